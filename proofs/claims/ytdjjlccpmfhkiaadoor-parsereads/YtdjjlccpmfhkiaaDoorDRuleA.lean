/-
  The document's answer for one rule: its wrong ways, walked.
-/
import Derived.Test.YtdjjlccpmfhkiaaDoorDConds
import Derived.Test.YtdjjlccpmfhkiaaDoorRule
namespace Go.Proofs.YtdjjlccpmfhkiaaDoor.Doc
open Go.RowKit

theorem Tryd.sizeRule : (Tryd.prog.info? 43).map (·.size) = some 4 := by kernel_rfl
def ruleV (k a : Int) (vn vc : Value) : Value := .agg #[.int .i64 k, .int .i64 a, vn, vc]
def ruleL (k a : Int) (vn vc : Value) : List Value := [.int .i64 k, .int .i64 a, vn, vc]
def nilS : Value := .slice none 0 0
theorem ruleL_size (k a : Int) (vn vc : Value) : (Tryd.prog.info? 43).map (·.size) = some (ruleL k a vn vc).toArray.size := Tryd.sizeRule

theorem ruleL_one {k a : Int} {vn vc : Value} (hn : vn.oneCell' = true) (hc : vc.oneCell' = true) : (ruleL k a vn vc).toArray.all (·.oneCell') = true := by
  have e0 : (Value.int .i64 k).oneCell' = true := rfl
  have e1 : (Value.int .i64 a).oneCell' = true := rfl
  simp [ruleL, hn, hc, e0, e1]
theorem nilS_one : nilS.oneCell' = true := rfl
theorem slice_one (a : Option Addr) (n c : Nat) : (Value.slice a n c).oneCell' = true := rfl

/-- the answer's cells in a block of their own, and the place. -/
structure Ru (w : World) (b g cap : Nat) (ts : List Tok) (m : Nat) (c p : Int) (l : List Value) (X : World) : Prop where
  pc : Pc X b g cap ts m c p
  blk : Blk X w.heap.size 43 l
  bt : Bt b w X
  lb : b < w.heap.size
  lg : g < w.heap.size

section
variable {w X Y : World} {b g cap m m' r : Nat} {ts : List Tok} {c p c' p' : Int} {l q : List Value}
theorem Ru.over (h : Ru w b g cap ts m c p l X) (hb : Below X.heap.size X Y) : Ru w b g cap ts m c p l Y := ⟨h.pc.over hb, h.blk.over hb, h.bt.over hb, h.lb, h.lg⟩
theorem Ru.on (h : Ru w b g cap ts m c p l X) (hb : Bt b X Y) (hp : Pc Y b g cap ts m' c' p') : Ru w b g cap ts m' c' p' l Y := ⟨hp, hb.blk h.blk (by have := h.lb; omega), h.bt.trans hb, h.lb, h.lg⟩
theorem Ru.row (h : Ru w b g cap ts m c p l X) (l' : List Value) : Ru w b g cap ts m c p l' (X.setRow w.heap.size l'.toArray) := ⟨h.pc.setRow (by have := h.lb; omega) (by have := h.lg; omega) _, h.blk.row _, h.bt.setRow (Nat.le_refl _) _, h.lb, h.lg⟩
end

theorem ru_new {w : World} {b g cap n : Nat} {ts : List Tok} (h : Pc w b g cap ts n 0 0) (hn : n < ts.length) : Ru w b g cap ts n 0 0 (ruleL 0 0 nilS nilS) (w.alloc (Obj.cells #[.int .i64 0, .int .i64 0, .slice none 0 0, .slice none 0 0] 43)) := by
  have hb : Below w.heap.size w (w.alloc (Obj.cells #[.int .i64 0, .int .i64 0, .slice none 0 0, .slice none 0 0] 43)) := (Below.refl _ _).alloc (Nat.le_refl _) _
  have hl := h.lt hn
  exact ⟨h.over hb, blk_new w _ _, .of hb, hl.2, hl.1⟩

set_option maxRecDepth 4000 in
set_option maxHeartbeats 4000000 in
/-- a rule too many. -/
theorem rule_full (w : World) (b g cap n : Nat) (ts : List Tok) (j : Nat) (h : Pc w b g cap ts n 0 0) (hn : n < ts.length) (hs : isA ts[n] = true) (hj : 64 < j) :
    Calls Tryd.prog 22 #[.pointer (some ⟨b, 0, none⟩), .int .i64 j] w fun e w' => e = .returned (ruleV 0 0 nilS nilS) ∧ Bt b w w' ∧ Pc w' b g cap ts n 4 ts[n].at' := by
  have A0 : Hid (Ru w b g cap ts n 0 0 (ruleL 0 0 nilS nilS) (w.alloc (Obj.cells #[.int .i64 0, .int .i64 0, .slice none 0 0, .slice none 0 0] 43))) := ru_new h hn
  obtain ⟨x0, x1, x2, x3⟩ := A0.out.pc.at hn
  have c0 : (w.alloc (Obj.cells #[.int .i64 0, .int .i64 0, .slice none 0 0, .slice none 0 0] 43)).cell? ⟨b, 0, none⟩ = some (.slice (some ⟨g, 0, none⟩) ts.length cap) := A0.out.pc.blk.cell 0
  have c1 : (w.alloc (Obj.cells #[.int .i64 0, .int .i64 0, .slice none 0 0, .slice none 0 0] 43)).cell? ⟨b, 1, none⟩ = some (.int .i64 n) := A0.out.pc.blk.cell 1
  have hi : (n : Int) < (ts.length : Int) := by omega
  have hl : (n : Int) ≤ 100000 := by have := h.len; omega
  have HK : Hid (∀ W : World, Calls Tryd.prog 36 #[.string (bar ts[n].t)] W fun e w' => e = .returned (.int .i64 (kindOf ts[n].t)) ∧ Below W.heap.size W w') := fun W => kind_at ts[n].t W
  have HA : Hid (∀ W, Pc W b g cap ts n 0 0 → ts[n].at W g (n * 4)) := fun W hW => hW.at hn
  have HF : Hid (∀ W, Pc W b g cap ts n 0 0 → Calls Tryd.prog 19 #[.pointer (some ⟨b, 0, none⟩), .int .i64 4] W fun e w' => e = .returned (.tuple #[]) ∧ Bt b W w' ∧ Pc w' b g cap ts n 4 ts[n].at') := fun W hW => fail_at W b g cap n ts 4 hW hn
  have HS : Hid ((ts[n].k : Int) = 1 ∧ ¬ (kindOf ts[n].t : Int) = 0) := by
    show _ ∧ _
    simp [isA] at hs
    omega
  have hj' : (64 : Int) < (j : Int) := by omega
  clear hs h hj
  generalize kindOf ts[n].t = K at *
  generalize hx : ts[n] = x at *
  obtain ⟨xk, xa, xt, xn⟩ := x
  dsimp only at *
  clear hx
  go_enter Tryd.func22, Tryd.ntmps22
  go_wp2
  generalize w.alloc (Obj.cells #[.int .i64 0, .int .i64 0, .slice none 0 0, .slice none 0 0] 43) = W0 at *
  generalize bar xt = bx at *
  go_region_with (go_at_call 36; refine (HK.out _).mono ?_; rintro e w1 ⟨rfl, b1⟩; have A1 : Hid (Ru w b g cap ts n 0 0 (ruleL 0 0 nilS nilS) w1) := (A0.out.over ((Below.refl _ _).drew)).over b1)
  all_goals
    obtain ⟨y0, y1, y2, y3⟩ := HA.out _ A1.out.pc
    dsimp only at y0 y1 y2 y3
    have d0 : w1.cell? ⟨b, 0, none⟩ = some (.slice (some ⟨g, 0, none⟩) ts.length cap) := A1.out.pc.blk.cell 0
    have d1 : w1.cell? ⟨b, 1, none⟩ = some (.int .i64 n) := A1.out.pc.blk.cell 1
    clear x0 x1 x2 x3 c0 c1 b1 A0 HK HA
    obtain ⟨hs1, hs2⟩ := HS.out
    have hs3 : (0 : Int) < (K : Int) := by omega
    clear HS
    go_wp2
    go_quiet (fail)
    have A2 : Hid (Ru w b g cap ts n 0 0 (ruleL 0 0 nilS nilS) (w1.drewN nq)) := A1.out.over (below_drewN _ _)
    clear A1 y0 y1 y2 y3 d0 d1
    generalize w1.drewN nq = Z at *
    go_wp2_with (first | (go_at_call 19; refine (HF.out _ A2.out.pc).mono ?_; rintro e w2 ⟨rfl, b2, P2⟩; have A3 : Hid (Ru w b g cap ts n 4 xa (ruleL 0 0 nilS nilS) w2) := A2.out.on b2 P2) | (refine at_op' (.store 43 (.tmp 4) (.tmp 42)) rfl ?_; refine wpList_store_row rfl 43 (.tmp 4) (.tmp 42) rfl w.heap.size (ruleL 0 0 nilS nilS).toArray rfl rfl 43 _ A3.out.blk (ruleL_size _ _ _ _) rfl (ruleL_one nilS_one nilS_one) ?_))
    refine bodyPost_ret (v := ruleV 0 0 nilS nilS) ?_ rfl ⟨rfl, (A3.out.row (ruleL 0 0 nilS nilS)).bt, (A3.out.row (ruleL 0 0 nilS nilS)).pc⟩
    exact results_cell_row Tryd.results22 _ _ w.heap.size 43 (ruleL 0 0 nilS nilS).toArray (0, 0) _ rfl (A3.out.row (ruleL 0 0 nilS nilS)).blk Tryd.underlying43 rfl (ruleL_size _ _ _ _)


end Go.Proofs.YtdjjlccpmfhkiaaDoor.Doc

namespace Go.Proofs.YtdjjlccpmfhkiaaDoor.Doc
open Go.RowKit

theorem rx_new {w X : World} {b g cap m : Nat} {ts : List Tok} {c p : Int} (h : Ru w b g cap ts m c p (ruleL 0 0 nilS nilS) X) (k a : Int) : Rx w b g cap ts m c p X.heap.size (X.heap.size + 1) (X.heap.size + 1) k a nilS nilS [] [] (X.alloc (Obj.cells #[.int .i64 k, .int .i64 a, .slice none 0 0, .slice none 0 0] 43)) := by
  have hb : Below X.heap.size X (X.alloc (Obj.cells #[.int .i64 k, .int .i64 a, .slice none 0 0, .slice none 0 0] 43)) := (Below.refl _ _).alloc (Nat.le_refl _) _
  have hl := h.blk.lt
  have hk := h.over hb
  exact ⟨hk.pc, hk.blk, blk_new X _ _, hk.bt, ⟨rfl, .inl ⟨rfl, rfl⟩⟩, ⟨rfl, .inl ⟨rfl, rfl⟩⟩, h.lb, h.lg, hl, by omega, Nat.le_refl _, fun j hj => (by cases hj), by rw [size_alloc']; exact Nat.le_refl _⟩

/-- what is told of a rule, the j-th one. -/
def RuD (w : World) (b g cap : Nat) (ts : List Tok) (n j : Nat) (e : Ending) (w' : World) : Prop :=
  Bt b w w' ∧ ((∃ (x y m : Nat) (k a : Int) (vn vc : Value), ¬ x = 0 ∧ e = .returned (.agg #[.int .i64 k, .int .i64 a, vn, vc]) ∧ vn.oneCell' = true ∧ vc.oneCell' = true ∧ Pc w' b g cap ts m x y ∧ ∀ d rs, rs.length + 1 = j → run (.s4 d rs) (ts.drop n) = .error (x, y)) ∨
    ∃ (r : Rl) (m : Nat) (vn vc : Value), m < ts.length ∧ j ≤ 64 ∧ e = .returned (.agg #[.int .i64 r.act.k, .int .i64 r.act.a, vn, vc]) ∧ Pc w' b g cap ts m 0 0 ∧ w'.ownsRow w.heap.size 9 1 vn r.names.length (cellsN r.names) ∧ w'.ownsRow w.heap.size 45 4 vc r.conds.length (cellsC r.conds) ∧
      ∀ d rs, rs.length + 1 = j → run (.s4 d rs) (ts.drop n) = run (.s4 d (rs ++ [r])) (ts.drop m))

section
variable {w X Y : World} {b g cap m m' r B1 B2 n j : Nat} {ts : List Tok} {c p c' p' k a : Int} {vn vc v' : Value} {ns : List (List UInt8)} {cs : List Cd}
theorem Rx.slN (h : Rx w b g cap ts m c p r B1 B2 k a vn vc ns cs X) : ∃ q d, vn = .slice q ns.length d := by
  rcases h.nm.2 with ⟨rfl, h0⟩ | ⟨g', d, cur, rfl, _⟩
  · exact ⟨none, 0, by rw [h0]⟩
  · exact ⟨_, d, rfl⟩
theorem Rx.slC (h : Rx w b g cap ts m c p r B1 B2 k a vn vc ns cs X) : ∃ q d, vc = .slice q cs.length d := by
  rcases h.cd.2 with ⟨rfl, h0⟩ | ⟨g', d, cur, rfl, _⟩
  · exact ⟨none, 0, by rw [h0]⟩
  · exact ⟨_, d, rfl⟩
theorem Rx.fin (h : Rx w b g cap ts m c p r B1 B2 k a vn vc ns cs X) (l : List Value) : Bt b w (X.setRow w.heap.size l.toArray) ∧ Pc (X.setRow w.heap.size l.toArray) b g cap ts m c p ∧ Blk (X.setRow w.heap.size l.toArray) w.heap.size 43 l ∧ (X.setRow w.heap.size l.toArray).ownsRow w.heap.size 9 1 vn ns.length (cellsN ns) ∧ (X.setRow w.heap.size l.toArray).ownsRow w.heap.size 45 4 vc cs.length (cellsC cs) := by
  have l1 := h.l1
  have l2 := h.l2
  have lr := h.lr
  have lb := h.lb
  have lg := h.lg
  refine ⟨h.bt.setRow (Nat.le_refl _) _, h.pc.setRow (by omega) (by omega) _, h.out.row _, owns_lower (owns_same h.nm fun j hj => setRow_other _ _ _ _ ?_) (by omega), owns_lower (owns_same h.cd fun j hj => setRow_other _ _ _ _ ?_) (by omega)⟩
  · have := owns_block h.nm j hj; omega
  · have := owns_block h.cd j hj; omega
/-- the end of a rule's way: it is handed back. -/
theorem Rx.wrong {x y : Nat} (h : Rx w b g cap ts m x y r B1 B2 k a vn vc ns cs X) (hx : ¬ x = 0) (hr : ∀ d rs, rs.length + 1 = j → run (.s4 d rs) (ts.drop n) = .error (x, y)) : RuD w b g cap ts n j (.returned (.agg (ruleL k a vn vc).toArray)) (X.setRow w.heap.size (ruleL k a vn vc).toArray) :=
  ⟨(h.fin _).1, .inl ⟨x, y, m, k, a, vn, vc, hx, rfl, owns_cell h.nm, owns_cell h.cd, (h.fin _).2.1, hr⟩⟩
theorem Rx.right {v : Ac} (h : Rx w b g cap ts m 0 0 r B1 B2 v.k v.a vn vc ns cs X) (hm : m < ts.length) (hj : j ≤ 64) (hr : ∀ d rs, rs.length + 1 = j → run (.s4 d rs) (ts.drop n) = run (.s4 d (rs ++ [⟨v, ns, cs⟩])) (ts.drop m)) : RuD w b g cap ts n j (.returned (.agg (ruleL v.k v.a vn vc).toArray)) (X.setRow w.heap.size (ruleL v.k v.a vn vc).toArray) :=
  ⟨(h.fin _).1, .inr ⟨⟨v, ns, cs⟩, m, vn, vc, hm, hj, rfl, (h.fin _).2.1, (h.fin _).2.2.2.1, (h.fin _).2.2.2.2, hr⟩⟩
end

/-- how many conditions a rule's block tells. -/
def lenC (w : World) (r : Nat) : Nat :=
  match w.cell? ⟨r, 3, none⟩ with
  | some v => lenOf v
  | none => 0

set_option linter.unusedSimpArgs false in
set_option maxRecDepth 8000 in
set_option maxHeartbeats 8000000 in
theorem rule_err (w : World) (b g cap n : Nat) (ts : List Tok) (j : Nat) (hE : Ending4 ts) (h : Pc w b g cap ts n 0 0) (hn : n < ts.length) (hj : j ≤ 64) (x y : Nat) (hR : actD (ts.drop n) = .error (x, y)) (hx0 : ¬ x = 0) (hRR : ∀ d rs, rs.length + 1 = j → run (.s4 d rs) (ts.drop n) = .error (x, y)) :
    Calls Tryd.prog 22 #[.pointer (some ⟨b, 0, none⟩), .int .i64 j] w fun e w' => RuD w b g cap ts n j e w' := by
  have A0 : Hid (Ru w b g cap ts n 0 0 (ruleL 0 0 nilS nilS) (w.alloc (Obj.cells #[.int .i64 0, .int .i64 0, .slice none 0 0, .slice none 0 0] 43))) := ru_new h hn
  have hi : (n : Int) < (ts.length : Int) := by omega
  have hl : (n : Int) ≤ 100000 := by have := h.len; omega
  have HK : Hid (∀ W : World, Calls Tryd.prog 36 #[.string (bar ts[n].t)] W fun e w' => e = .returned (.int .i64 (kindOf ts[n].t)) ∧ Below W.heap.size W w') := fun W => kind_at ts[n].t W
  have HAT : Hid (∀ W, Pc W b g cap ts n 0 0 → ts[n].at W g (n * 4)) := fun W hW => hW.at hn
  have hd : decide ((64 : Int) < (j : Int)) = false := by simp; omega
  have HACT : Hid (∀ W, Pc W b g cap ts n 0 0 → Calls Tryd.prog 20 #[.pointer (some ⟨b, 0, none⟩)] W fun e w' => ∃ (k a : Int) (m : Nat), e = .returned (.agg #[.int .i64 k, .int .i64 a]) ∧ Bt b W w' ∧ Pc w' b g cap ts m x y) := by
    intro W hW
    refine (act_any W b g cap n ts hE hW hn).mono ?_
    rintro e w' ⟨k, a, m, c, p, rfl, hb, hp, ⟨x', y', h1, rfl, rfl, _⟩ | ⟨v, h1, _⟩⟩
    · rw [hR] at h1
      cases h1
      exact ⟨k, a, m, rfl, hb, hp⟩
    · rw [hR] at h1
      cases h1
  have hx1 : ((x : Int) == 0) = false := by rw [beq_eq_false_iff_ne]; omega
  have hx2 : ¬ (x : Int) = 0 := by omega
  have HX0 : Hid (¬ x = 0) := hx0
  have HRR : Hid (∀ d rs, rs.length + 1 = j → run (.s4 d rs) (ts.drop n) = .error (x, y)) := hRR
  clear h hR hx0 hRR hj
  generalize hx : ts[n] = tk at *
  clear hx
  go_enter Tryd.func22, Tryd.ntmps22
  go_wp2_with fail
  generalize (w.alloc (Obj.cells #[.int .i64 0, .int .i64 0, .slice none 0 0, .slice none 0 0] 43)) = X0 at *
  refine wp_region_held_drew (S := fun W => Ru w b g cap ts n 0 0 (ruleL 0 0 nilS nilS) W) (by kernel_rfl) (A0.out.over (Below.refl _ _).drew) (fun hHeld => ?_)
  simp only [List.size_toArray, List.length_cons, List.length_nil, Nat.reduceAdd]
  generalize X0.drew = X1 at *
  refine wpAnyH_take (i := 0) (v := ?_) rfl (by kernel_rfl) (by kernel_rfl) (by kernel_rfl) (fun _ _ _ h => h) (Or.inl ⟨by rfl, ?_⟩) hHeld ?_
  rotate_left
  · (intro w hSw; (try dsimp only at hSw); go_simp; try with_reducible rfl)
  try simp only [Act.put, List.setIfInBounds_toArray, List.set_cons_zero, List.set_cons_succ, List.getElem_toArray, List.getElem_cons_zero, List.getElem_cons_succ]
  refine wpAnyH_take (i := 1) (v := ?_) rfl (by kernel_rfl) (by kernel_rfl) (by kernel_rfl) (fun _ _ _ h => h) (Or.inl ⟨by rfl, ?_⟩) hHeld ?_
  rotate_left
  · (intro w hSw; (try dsimp only at hSw); go_simp; try with_reducible rfl)
  try simp only [Act.put, List.setIfInBounds_toArray, List.set_cons_zero, List.set_cons_succ, List.getElem_toArray, List.getElem_cons_zero, List.getElem_cons_succ]
  refine wpAnyH_take (i := 2) (v := ?_) rfl (by kernel_rfl) (by kernel_rfl) (by kernel_rfl) (fun _ _ _ h => h) (Or.inl ⟨by rfl, ?_⟩) hHeld ?_
  rotate_left
  · (intro w hSw; (try dsimp only at hSw); go_simp; try with_reducible rfl)
  try simp only [Act.put, List.setIfInBounds_toArray, List.set_cons_zero, List.set_cons_succ, List.getElem_toArray, List.getElem_cons_zero, List.getElem_cons_succ]
  refine wpAnyH_take (i := 3) (v := ?_) rfl (by kernel_rfl) (by kernel_rfl) (by kernel_rfl) (fun _ _ _ h => h) (Or.inl ⟨by rfl, ?_⟩) hHeld ?_
  rotate_left
  · (intro w hSw; (try dsimp only at hSw); have c0 : w.cell? ⟨b, 0, none⟩ = some (.slice (some ⟨g, 0, none⟩) ts.length cap) := hSw.pc.blk.cell 0; have c1 : w.cell? ⟨b, 1, none⟩ = some (.int .i64 n) := hSw.pc.blk.cell 1; obtain ⟨x0, x1, x2, x3⟩ := HAT.out w hSw.pc; go_simp; try with_reducible rfl)
  try simp only [Act.put, List.setIfInBounds_toArray, List.set_cons_zero, List.set_cons_succ, List.getElem_toArray, List.getElem_cons_zero, List.getElem_cons_succ]
  refine wpAnyH_take (i := 4) (v := ?_) rfl (by kernel_rfl) (by kernel_rfl) (by kernel_rfl) (fun _ _ _ h => h) (Or.inl ⟨by rfl, ?_⟩) hHeld ?_
  rotate_left
  · (intro w hSw; (try dsimp only at hSw); go_simp; try with_reducible rfl)
  try simp only [Act.put, List.setIfInBounds_toArray, List.set_cons_zero, List.set_cons_succ, List.getElem_toArray, List.getElem_cons_zero, List.getElem_cons_succ]
  refine wpAnyH_take (i := 5) (v := ?_) rfl (by kernel_rfl) (by kernel_rfl) (by kernel_rfl) (fun _ _ _ h => h) (Or.inl ⟨by rfl, ?_⟩) hHeld ?_
  rotate_left
  · (intro w hSw; (try dsimp only at hSw); go_simp; try with_reducible rfl)
  try simp only [Act.put, List.setIfInBounds_toArray, List.set_cons_zero, List.set_cons_succ, List.getElem_toArray, List.getElem_cons_zero, List.getElem_cons_succ]
  refine wpAnyH_take (i := 6) (v := ?_) rfl (by kernel_rfl) (by kernel_rfl) (by kernel_rfl) (fun _ _ _ h => h) (Or.inl ⟨by rfl, ?_⟩) hHeld ?_
  rotate_left
  · (intro w hSw; (try dsimp only at hSw); go_simp; try with_reducible rfl)
  try simp only [Act.put, List.setIfInBounds_toArray, List.set_cons_zero, List.set_cons_succ, List.getElem_toArray, List.getElem_cons_zero, List.getElem_cons_succ]
  refine wpAnyH_take (i := 7) (v := ?_) rfl (by kernel_rfl) (by kernel_rfl) (by kernel_rfl) (fun _ _ _ h => h) (Or.inl ⟨by rfl, ?_⟩) hHeld ?_
  rotate_left
  · (intro w hSw; (try dsimp only at hSw); have c0 : w.cell? ⟨b, 0, none⟩ = some (.slice (some ⟨g, 0, none⟩) ts.length cap) := hSw.pc.blk.cell 0; have c1 : w.cell? ⟨b, 1, none⟩ = some (.int .i64 n) := hSw.pc.blk.cell 1; obtain ⟨x0, x1, x2, x3⟩ := HAT.out w hSw.pc; go_simp; try with_reducible rfl)
  try simp only [Act.put, List.setIfInBounds_toArray, List.set_cons_zero, List.set_cons_succ, List.getElem_toArray, List.getElem_cons_zero, List.getElem_cons_succ]
  refine wpAnyH_take (i := 8) (v := ?_) rfl (by kernel_rfl) (by kernel_rfl) (by kernel_rfl) (fun _ _ _ h => h) (Or.inl ⟨by rfl, ?_⟩) hHeld ?_
  rotate_left
  · (intro w hSw; (try dsimp only at hSw); have c0 : w.cell? ⟨b, 0, none⟩ = some (.slice (some ⟨g, 0, none⟩) ts.length cap) := hSw.pc.blk.cell 0; have c1 : w.cell? ⟨b, 1, none⟩ = some (.int .i64 n) := hSw.pc.blk.cell 1; obtain ⟨x0, x1, x2, x3⟩ := HAT.out w hSw.pc; go_simp; try with_reducible rfl)
  try simp only [Act.put, List.setIfInBounds_toArray, List.set_cons_zero, List.set_cons_succ, List.getElem_toArray, List.getElem_cons_zero, List.getElem_cons_succ]
  refine wpAnyH_take (i := 9) (v := ?_) rfl (by kernel_rfl) (by kernel_rfl) (by kernel_rfl) (fun _ _ _ h => h) (Or.inl ⟨by rfl, ?_⟩) hHeld ?_
  rotate_left
  · (intro w hSw; (try dsimp only at hSw); go_simp; try with_reducible rfl)
  try simp only [Act.put, List.setIfInBounds_toArray, List.set_cons_zero, List.set_cons_succ, List.getElem_toArray, List.getElem_cons_zero, List.getElem_cons_succ]
  refine wpAnyH_take (i := 10) (v := ?_) rfl (by kernel_rfl) (by kernel_rfl) (by kernel_rfl) (fun _ _ _ h => h) (Or.inl ⟨by rfl, ?_⟩) hHeld ?_
  rotate_left
  · (intro w hSw; (try dsimp only at hSw); have c0 : w.cell? ⟨b, 0, none⟩ = some (.slice (some ⟨g, 0, none⟩) ts.length cap) := hSw.pc.blk.cell 0; have c1 : w.cell? ⟨b, 1, none⟩ = some (.int .i64 n) := hSw.pc.blk.cell 1; obtain ⟨x0, x1, x2, x3⟩ := HAT.out w hSw.pc; go_simp; try with_reducible rfl)
  try simp only [Act.put, List.setIfInBounds_toArray, List.set_cons_zero, List.set_cons_succ, List.getElem_toArray, List.getElem_cons_zero, List.getElem_cons_succ]
  refine wpAnyH_ready (rs := [11]) (by kernel_rfl) (by simp) ?_
  refine AllReadyH.cons rfl (fun K hK => ?_) AllReadyH.nil
  go_simp
  refine (HK.out _).mono ?_
  rintro e w1 ⟨rfl, b1⟩
  have A1 : Hid (Ru w b g cap ts n 0 0 (ruleL 0 0 nilS nilS) w1) := hHeld.over b1
  go_wp2_with fail
  refine hK.out _ _ (A1.out) (fun hHeld => ?_)
  clear hK K
  try simp only [Act.put, List.setIfInBounds_toArray, List.set_cons_zero, List.set_cons_succ, List.getElem_toArray, List.getElem_cons_zero, List.getElem_cons_succ]
  refine wpAnyH_take (i := 12) (v := ?_) rfl (by kernel_rfl) (by kernel_rfl) (by kernel_rfl) (fun _ _ _ h => h) (Or.inl ⟨by rfl, ?_⟩) hHeld ?_
  rotate_left
  · (intro w hSw; (try dsimp only at hSw); go_simp; try with_reducible rfl)
  try simp only [Act.put, List.setIfInBounds_toArray, List.set_cons_zero, List.set_cons_succ, List.getElem_toArray, List.getElem_cons_zero, List.getElem_cons_succ]
  refine wpAnyH_done (by kernel_rfl) ?_ _
  clear hHeld b1 A0
  go_wp2_with fail
  refine wp_region_held_drew (S := fun W => Ru w b g cap ts n 0 0 (ruleL 0 0 nilS nilS) W) (by kernel_rfl) (A1.out.over (Below.refl _ _).drew) (fun hHeld => ?_)
  simp only [List.size_toArray, List.length_cons, List.length_nil, Nat.reduceAdd]
  have A2 : Hid (Ru w b g cap ts n 0 0 (ruleL 0 0 nilS nilS) w1.drew) := hHeld
  generalize w1.drew = X2 at *
  refine wpAnyH_take (i := 0) (v := ?_) rfl (by kernel_rfl) (by kernel_rfl) (by kernel_rfl) (fun _ _ _ h => h) (Or.inl ⟨by rfl, ?_⟩) hHeld ?_
  rotate_left
  · (intro w hSw; (try dsimp only at hSw); go_simp; try with_reducible rfl)
  try simp only [Act.put, List.setIfInBounds_toArray, List.set_cons_zero, List.set_cons_succ, List.getElem_toArray, List.getElem_cons_zero, List.getElem_cons_succ]
  refine wpAnyH_take (i := 1) (v := ?_) rfl (by kernel_rfl) (by kernel_rfl) (by kernel_rfl) (fun _ _ _ h => h) (Or.inl ⟨by rfl, ?_⟩) hHeld ?_
  rotate_left
  · (intro w hSw; (try dsimp only at hSw); go_simp; try with_reducible rfl)
  try simp only [Act.put, List.setIfInBounds_toArray, List.set_cons_zero, List.set_cons_succ, List.getElem_toArray, List.getElem_cons_zero, List.getElem_cons_succ]
  refine wpAnyH_take (i := 2) (v := ?_) rfl (by kernel_rfl) (by kernel_rfl) (by kernel_rfl) (fun _ _ _ h => h) (Or.inl ⟨by rfl, ?_⟩) hHeld ?_
  rotate_left
  · (intro w hSw; (try dsimp only at hSw); go_simp; try with_reducible rfl)
  try simp only [Act.put, List.setIfInBounds_toArray, List.set_cons_zero, List.set_cons_succ, List.getElem_toArray, List.getElem_cons_zero, List.getElem_cons_succ]
  refine wpAnyH_take (i := 3) (v := undef) rfl (by kernel_rfl) (by kernel_rfl) (by kernel_rfl) (fun _ _ _ h => h) (Or.inr ⟨by rfl, rfl⟩) hHeld ?_
  try simp only [Act.put, List.setIfInBounds_toArray, List.set_cons_zero, List.set_cons_succ, List.getElem_toArray, List.getElem_cons_zero, List.getElem_cons_succ]
  refine wpAnyH_take (i := 4) (v := undef) rfl (by kernel_rfl) (by kernel_rfl) (by kernel_rfl) (fun _ _ _ h => h) (Or.inr ⟨by rfl, rfl⟩) hHeld ?_
  try simp only [Act.put, List.setIfInBounds_toArray, List.set_cons_zero, List.set_cons_succ, List.getElem_toArray, List.getElem_cons_zero, List.getElem_cons_succ]
  refine wpAnyH_take (i := 5) (v := undef) rfl (by kernel_rfl) (by kernel_rfl) (by kernel_rfl) (fun _ _ _ h => h) (Or.inr ⟨by rfl, rfl⟩) hHeld ?_
  try simp only [Act.put, List.setIfInBounds_toArray, List.set_cons_zero, List.set_cons_succ, List.getElem_toArray, List.getElem_cons_zero, List.getElem_cons_succ]
  refine wpAnyH_take (i := 6) (v := undef) rfl (by kernel_rfl) (by kernel_rfl) (by kernel_rfl) (fun _ _ _ h => h) (Or.inr ⟨by rfl, rfl⟩) hHeld ?_
  try simp only [Act.put, List.setIfInBounds_toArray, List.set_cons_zero, List.set_cons_succ, List.getElem_toArray, List.getElem_cons_zero, List.getElem_cons_succ]
  refine wpAnyH_take (i := 7) (v := undef) rfl (by kernel_rfl) (by kernel_rfl) (by kernel_rfl) (fun _ _ _ h => h) (Or.inr ⟨by rfl, rfl⟩) hHeld ?_
  try simp only [Act.put, List.setIfInBounds_toArray, List.set_cons_zero, List.set_cons_succ, List.getElem_toArray, List.getElem_cons_zero, List.getElem_cons_succ]
  refine wpAnyH_take (i := 8) (v := undef) rfl (by kernel_rfl) (by kernel_rfl) (by kernel_rfl) (fun _ _ _ h => h) (Or.inr ⟨by rfl, rfl⟩) hHeld ?_
  try simp only [Act.put, List.setIfInBounds_toArray, List.set_cons_zero, List.set_cons_succ, List.getElem_toArray, List.getElem_cons_zero, List.getElem_cons_succ]
  refine wpAnyH_take (i := 9) (v := undef) rfl (by kernel_rfl) (by kernel_rfl) (by kernel_rfl) (fun _ _ _ h => h) (Or.inr ⟨by rfl, rfl⟩) hHeld ?_
  try simp only [Act.put, List.setIfInBounds_toArray, List.set_cons_zero, List.set_cons_succ, List.getElem_toArray, List.getElem_cons_zero, List.getElem_cons_succ]
  refine wpAnyH_take (i := 10) (v := undef) rfl (by kernel_rfl) (by kernel_rfl) (by kernel_rfl) (fun _ _ _ h => h) (Or.inr ⟨by rfl, rfl⟩) hHeld ?_
  try simp only [Act.put, List.setIfInBounds_toArray, List.set_cons_zero, List.set_cons_succ, List.getElem_toArray, List.getElem_cons_zero, List.getElem_cons_succ]
  refine wpAnyH_take (i := 11) (v := undef) rfl (by kernel_rfl) (by kernel_rfl) (by kernel_rfl) (fun _ _ _ h => h) (Or.inr ⟨by rfl, rfl⟩) hHeld ?_
  try simp only [Act.put, List.setIfInBounds_toArray, List.set_cons_zero, List.set_cons_succ, List.getElem_toArray, List.getElem_cons_zero, List.getElem_cons_succ]
  refine wpAnyH_take (i := 12) (v := undef) rfl (by kernel_rfl) (by kernel_rfl) (by kernel_rfl) (fun _ _ _ h => h) (Or.inr ⟨by rfl, rfl⟩) hHeld ?_
  try simp only [Act.put, List.setIfInBounds_toArray, List.set_cons_zero, List.set_cons_succ, List.getElem_toArray, List.getElem_cons_zero, List.getElem_cons_succ]
  refine wpAnyH_take (i := 13) (v := undef) rfl (by kernel_rfl) (by kernel_rfl) (by kernel_rfl) (fun _ _ _ h => h) (Or.inr ⟨by rfl, rfl⟩) hHeld ?_
  try simp only [Act.put, List.setIfInBounds_toArray, List.set_cons_zero, List.set_cons_succ, List.getElem_toArray, List.getElem_cons_zero, List.getElem_cons_succ]
  refine wpAnyH_take (i := 14) (v := undef) rfl (by kernel_rfl) (by kernel_rfl) (by kernel_rfl) (fun _ _ _ h => h) (Or.inr ⟨by rfl, rfl⟩) hHeld ?_
  try simp only [Act.put, List.setIfInBounds_toArray, List.set_cons_zero, List.set_cons_succ, List.getElem_toArray, List.getElem_cons_zero, List.getElem_cons_succ]
  refine wpAnyH_take (i := 15) (v := ?_) rfl (by kernel_rfl) (by kernel_rfl) (by kernel_rfl) (fun _ _ _ h => h) (Or.inl ⟨by rfl, ?_⟩) hHeld ?_
  rotate_left
  · (intro w hSw; (try dsimp only at hSw); go_simp; try with_reducible rfl)
  try simp only [Act.put, List.setIfInBounds_toArray, List.set_cons_zero, List.set_cons_succ, List.getElem_toArray, List.getElem_cons_zero, List.getElem_cons_succ]
  refine wpAnyH_take (i := 16) (v := ?_) rfl (by kernel_rfl) (by kernel_rfl) (by kernel_rfl) (fun _ _ _ h => h) (Or.inl ⟨by rfl, ?_⟩) hHeld ?_
  rotate_left
  · (intro w hSw; (try dsimp only at hSw); go_simp; try with_reducible rfl)
  try simp only [Act.put, List.setIfInBounds_toArray, List.set_cons_zero, List.set_cons_succ, List.getElem_toArray, List.getElem_cons_zero, List.getElem_cons_succ]
  refine wpAnyH_take (i := 17) (v := undef) rfl (by kernel_rfl) (by kernel_rfl) (by kernel_rfl) (fun _ _ _ h => h) (Or.inr ⟨by rfl, rfl⟩) hHeld ?_
  try simp only [Act.put, List.setIfInBounds_toArray, List.set_cons_zero, List.set_cons_succ, List.getElem_toArray, List.getElem_cons_zero, List.getElem_cons_succ]
  refine wpAnyH_take (i := 18) (v := undef) rfl (by kernel_rfl) (by kernel_rfl) (by kernel_rfl) (fun _ _ _ h => h) (Or.inr ⟨by rfl, rfl⟩) hHeld ?_
  try simp only [Act.put, List.setIfInBounds_toArray, List.set_cons_zero, List.set_cons_succ, List.getElem_toArray, List.getElem_cons_zero, List.getElem_cons_succ]
  refine wpAnyH_take (i := 19) (v := ?_) rfl (by kernel_rfl) (by kernel_rfl) (by kernel_rfl) (fun _ _ _ h => h) (Or.inl ⟨by rfl, ?_⟩) hHeld ?_
  rotate_left
  · (intro w hSw; (try dsimp only at hSw); go_simp; try with_reducible rfl)
  try simp only [Act.put, List.setIfInBounds_toArray, List.set_cons_zero, List.set_cons_succ, List.getElem_toArray, List.getElem_cons_zero, List.getElem_cons_succ]
  refine wpAnyH_done (by kernel_rfl) ?_ _
  clear hHeld A1
  go_wp2_with fail
  refine (HACT.out _ A2.out.pc).mono ?_
  rintro e w2 ⟨k, a, m, rfl, b2, P2⟩
  have A3 : Hid (Ru w b g cap ts m x y (ruleL 0 0 nilS nilS) w2) := A2.out.on b2 P2
  have R0 : Hid (Rx w b g cap ts m x y w2.heap.size (w2.heap.size + 1) (w2.heap.size + 1) k a nilS nilS [] [] (w2.alloc (Obj.cells #[.int .i64 k, .int .i64 a, .slice none 0 0, .slice none 0 0] 43))) := rx_new A3.out k a
  obtain ⟨Y, hY⟩ : ∃ Y, w2.alloc (Obj.cells #[.int .i64 k, .int .i64 a, .slice none 0 0, .slice none 0 0] 43) = Y := ⟨_, rfl⟩
  have HY : Hid (w2.alloc (Obj.cells #[.int .i64 k, .int .i64 a, .slice none 0 0, .slice none 0 0] 43) = Y) := hY
  rw [hY] at R0
  have q2 : Y.cell? ⟨b, 2, none⟩ = some (.int .i64 x) := R0.out.pc.blk.cell 2
  obtain ⟨r, hr⟩ : ∃ r, r = w2.heap.size := ⟨_, rfl⟩
  rw [← hr] at R0
  clear hY b2 P2 A3 A2 HACT HK HAT
  go_wp2_with fail
  rw [HY.out, ← hr]
  clear hr HY
  go_loopw [7] (fun _ wr => wr = Y) (fun _ _ => 0)
  case atStart => rfl
  case round =>
    subst hrel
    go_wp2_with (first | (refine at_op' (.load 43 (.tmp 6)) rfl ?_; refine wpList_load_row rfl 43 (.tmp 6) rfl r rfl 43 (ruleL k a nilS nilS).toArray (0, 0) _ R0.out.blk Tryd.underlying43 rfl (ruleL_size _ _ _ _) ?_) | (refine at_op' (.store 43 (.tmp 4) (.tmp 155)) rfl ?_; refine wpList_store_row rfl 43 (.tmp 4) (.tmp 155) rfl w.heap.size (ruleL k a nilS nilS).toArray rfl rfl 43 _ R0.out.out (ruleL_size _ _ _ _) rfl (ruleL_one nilS_one nilS_one) ?_))
    refine bodyPost_ret (v := .agg (ruleL k a nilS nilS).toArray) ?_ rfl (R0.out.wrong HX0.out HRR.out)
    exact results_cell_row Tryd.results22 _ _ w.heap.size 43 (ruleL k a nilS nilS).toArray (0, 0) _ rfl (R0.out.fin (ruleL k a nilS nilS)).2.2.1 Tryd.underlying43 rfl (ruleL_size _ _ _ _)

set_option linter.unusedSimpArgs false in
set_option maxRecDepth 8000 in
set_option maxHeartbeats 8000000 in
theorem rule_errB (w : World) (b g cap n : Nat) (ts : List Tok) (j : Nat) (hE : Ending4 ts) (h : Pc w b g cap ts n 0 0) (hn : n < ts.length) (hj : 64 < j) (hk : ¬ ts[n].k = 1) (x y : Nat) (hR : actD (ts.drop n) = .error (x, y)) (hx0 : ¬ x = 0) (hRR : ∀ d rs, rs.length + 1 = j → run (.s4 d rs) (ts.drop n) = .error (x, y)) :
    Calls Tryd.prog 22 #[.pointer (some ⟨b, 0, none⟩), .int .i64 j] w fun e w' => RuD w b g cap ts n j e w' := by
  have A0 : Hid (Ru w b g cap ts n 0 0 (ruleL 0 0 nilS nilS) (w.alloc (Obj.cells #[.int .i64 0, .int .i64 0, .slice none 0 0, .slice none 0 0] 43))) := ru_new h hn
  have hi : (n : Int) < (ts.length : Int) := by omega
  have hl : (n : Int) ≤ 100000 := by have := h.len; omega
  have HK : Hid (∀ W : World, Calls Tryd.prog 36 #[.string (bar ts[n].t)] W fun e w' => e = .returned (.int .i64 (kindOf ts[n].t)) ∧ Below W.heap.size W w') := fun W => kind_at ts[n].t W
  have HAT : Hid (∀ W, Pc W b g cap ts n 0 0 → ts[n].at W g (n * 4)) := fun W hW => hW.at hn
  have hd : decide ((64 : Int) < (j : Int)) = true := by simp; omega
  have hd2 : (64 : Int) < (j : Int) := by omega
  have hk1 : ((ts[n].k : Int) == 1) = false := by rw [beq_eq_false_iff_ne]; omega
  have HACT : Hid (∀ W, Pc W b g cap ts n 0 0 → Calls Tryd.prog 20 #[.pointer (some ⟨b, 0, none⟩)] W fun e w' => ∃ (k a : Int) (m : Nat), e = .returned (.agg #[.int .i64 k, .int .i64 a]) ∧ Bt b W w' ∧ Pc w' b g cap ts m x y) := by
    intro W hW
    refine (act_any W b g cap n ts hE hW hn).mono ?_
    rintro e w' ⟨k, a, m, c, p, rfl, hb, hp, ⟨x', y', h1, rfl, rfl, _⟩ | ⟨v, h1, _⟩⟩
    · rw [hR] at h1
      cases h1
      exact ⟨k, a, m, rfl, hb, hp⟩
    · rw [hR] at h1
      cases h1
  have hx1 : ((x : Int) == 0) = false := by rw [beq_eq_false_iff_ne]; omega
  have hx2 : ¬ (x : Int) = 0 := by omega
  have HX0 : Hid (¬ x = 0) := hx0
  have HRR : Hid (∀ d rs, rs.length + 1 = j → run (.s4 d rs) (ts.drop n) = .error (x, y)) := hRR
  clear h hR hx0 hRR hj hk
  generalize hx : ts[n] = tk at *
  clear hx
  go_enter Tryd.func22, Tryd.ntmps22
  go_wp2_with fail
  generalize (w.alloc (Obj.cells #[.int .i64 0, .int .i64 0, .slice none 0 0, .slice none 0 0] 43)) = X0 at *
  refine wp_region_held_drew (S := fun W => Ru w b g cap ts n 0 0 (ruleL 0 0 nilS nilS) W) (by kernel_rfl) (A0.out.over (Below.refl _ _).drew) (fun hHeld => ?_)
  simp only [List.size_toArray, List.length_cons, List.length_nil, Nat.reduceAdd]
  generalize X0.drew = X1 at *
  refine wpAnyH_take (i := 0) (v := ?_) rfl (by kernel_rfl) (by kernel_rfl) (by kernel_rfl) (fun _ _ _ h => h) (Or.inl ⟨by rfl, ?_⟩) hHeld ?_
  rotate_left
  · (intro w hSw; (try dsimp only at hSw); go_simp; try with_reducible rfl)
  try simp only [Act.put, List.setIfInBounds_toArray, List.set_cons_zero, List.set_cons_succ, List.getElem_toArray, List.getElem_cons_zero, List.getElem_cons_succ]
  refine wpAnyH_take (i := 1) (v := ?_) rfl (by kernel_rfl) (by kernel_rfl) (by kernel_rfl) (fun _ _ _ h => h) (Or.inl ⟨by rfl, ?_⟩) hHeld ?_
  rotate_left
  · (intro w hSw; (try dsimp only at hSw); go_simp; try with_reducible rfl)
  try simp only [Act.put, List.setIfInBounds_toArray, List.set_cons_zero, List.set_cons_succ, List.getElem_toArray, List.getElem_cons_zero, List.getElem_cons_succ]
  refine wpAnyH_take (i := 2) (v := ?_) rfl (by kernel_rfl) (by kernel_rfl) (by kernel_rfl) (fun _ _ _ h => h) (Or.inl ⟨by rfl, ?_⟩) hHeld ?_
  rotate_left
  · (intro w hSw; (try dsimp only at hSw); go_simp; try with_reducible rfl)
  try simp only [Act.put, List.setIfInBounds_toArray, List.set_cons_zero, List.set_cons_succ, List.getElem_toArray, List.getElem_cons_zero, List.getElem_cons_succ]
  refine wpAnyH_take (i := 3) (v := ?_) rfl (by kernel_rfl) (by kernel_rfl) (by kernel_rfl) (fun _ _ _ h => h) (Or.inl ⟨by rfl, ?_⟩) hHeld ?_
  rotate_left
  · (intro w hSw; (try dsimp only at hSw); have c0 : w.cell? ⟨b, 0, none⟩ = some (.slice (some ⟨g, 0, none⟩) ts.length cap) := hSw.pc.blk.cell 0; have c1 : w.cell? ⟨b, 1, none⟩ = some (.int .i64 n) := hSw.pc.blk.cell 1; obtain ⟨x0, x1, x2, x3⟩ := HAT.out w hSw.pc; go_simp; try with_reducible rfl)
  try simp only [Act.put, List.setIfInBounds_toArray, List.set_cons_zero, List.set_cons_succ, List.getElem_toArray, List.getElem_cons_zero, List.getElem_cons_succ]
  refine wpAnyH_take (i := 4) (v := ?_) rfl (by kernel_rfl) (by kernel_rfl) (by kernel_rfl) (fun _ _ _ h => h) (Or.inl ⟨by rfl, ?_⟩) hHeld ?_
  rotate_left
  · (intro w hSw; (try dsimp only at hSw); go_simp; try with_reducible rfl)
  try simp only [Act.put, List.setIfInBounds_toArray, List.set_cons_zero, List.set_cons_succ, List.getElem_toArray, List.getElem_cons_zero, List.getElem_cons_succ]
  refine wpAnyH_take (i := 5) (v := ?_) rfl (by kernel_rfl) (by kernel_rfl) (by kernel_rfl) (fun _ _ _ h => h) (Or.inl ⟨by rfl, ?_⟩) hHeld ?_
  rotate_left
  · (intro w hSw; (try dsimp only at hSw); go_simp; try with_reducible rfl)
  try simp only [Act.put, List.setIfInBounds_toArray, List.set_cons_zero, List.set_cons_succ, List.getElem_toArray, List.getElem_cons_zero, List.getElem_cons_succ]
  refine wpAnyH_take (i := 6) (v := ?_) rfl (by kernel_rfl) (by kernel_rfl) (by kernel_rfl) (fun _ _ _ h => h) (Or.inl ⟨by rfl, ?_⟩) hHeld ?_
  rotate_left
  · (intro w hSw; (try dsimp only at hSw); go_simp; try with_reducible rfl)
  try simp only [Act.put, List.setIfInBounds_toArray, List.set_cons_zero, List.set_cons_succ, List.getElem_toArray, List.getElem_cons_zero, List.getElem_cons_succ]
  refine wpAnyH_take (i := 7) (v := ?_) rfl (by kernel_rfl) (by kernel_rfl) (by kernel_rfl) (fun _ _ _ h => h) (Or.inl ⟨by rfl, ?_⟩) hHeld ?_
  rotate_left
  · (intro w hSw; (try dsimp only at hSw); have c0 : w.cell? ⟨b, 0, none⟩ = some (.slice (some ⟨g, 0, none⟩) ts.length cap) := hSw.pc.blk.cell 0; have c1 : w.cell? ⟨b, 1, none⟩ = some (.int .i64 n) := hSw.pc.blk.cell 1; obtain ⟨x0, x1, x2, x3⟩ := HAT.out w hSw.pc; go_simp; try with_reducible rfl)
  try simp only [Act.put, List.setIfInBounds_toArray, List.set_cons_zero, List.set_cons_succ, List.getElem_toArray, List.getElem_cons_zero, List.getElem_cons_succ]
  refine wpAnyH_take (i := 8) (v := ?_) rfl (by kernel_rfl) (by kernel_rfl) (by kernel_rfl) (fun _ _ _ h => h) (Or.inl ⟨by rfl, ?_⟩) hHeld ?_
  rotate_left
  · (intro w hSw; (try dsimp only at hSw); have c0 : w.cell? ⟨b, 0, none⟩ = some (.slice (some ⟨g, 0, none⟩) ts.length cap) := hSw.pc.blk.cell 0; have c1 : w.cell? ⟨b, 1, none⟩ = some (.int .i64 n) := hSw.pc.blk.cell 1; obtain ⟨x0, x1, x2, x3⟩ := HAT.out w hSw.pc; go_simp; try with_reducible rfl)
  try simp only [Act.put, List.setIfInBounds_toArray, List.set_cons_zero, List.set_cons_succ, List.getElem_toArray, List.getElem_cons_zero, List.getElem_cons_succ]
  refine wpAnyH_take (i := 9) (v := ?_) rfl (by kernel_rfl) (by kernel_rfl) (by kernel_rfl) (fun _ _ _ h => h) (Or.inl ⟨by rfl, ?_⟩) hHeld ?_
  rotate_left
  · (intro w hSw; (try dsimp only at hSw); go_simp; try with_reducible rfl)
  try simp only [Act.put, List.setIfInBounds_toArray, List.set_cons_zero, List.set_cons_succ, List.getElem_toArray, List.getElem_cons_zero, List.getElem_cons_succ]
  refine wpAnyH_take (i := 10) (v := ?_) rfl (by kernel_rfl) (by kernel_rfl) (by kernel_rfl) (fun _ _ _ h => h) (Or.inl ⟨by rfl, ?_⟩) hHeld ?_
  rotate_left
  · (intro w hSw; (try dsimp only at hSw); have c0 : w.cell? ⟨b, 0, none⟩ = some (.slice (some ⟨g, 0, none⟩) ts.length cap) := hSw.pc.blk.cell 0; have c1 : w.cell? ⟨b, 1, none⟩ = some (.int .i64 n) := hSw.pc.blk.cell 1; obtain ⟨x0, x1, x2, x3⟩ := HAT.out w hSw.pc; go_simp; try with_reducible rfl)
  try simp only [Act.put, List.setIfInBounds_toArray, List.set_cons_zero, List.set_cons_succ, List.getElem_toArray, List.getElem_cons_zero, List.getElem_cons_succ]
  refine wpAnyH_ready (rs := [11]) (by kernel_rfl) (by simp) ?_
  refine AllReadyH.cons rfl (fun K hK => ?_) AllReadyH.nil
  go_simp
  refine (HK.out _).mono ?_
  rintro e w1 ⟨rfl, b1⟩
  have A1 : Hid (Ru w b g cap ts n 0 0 (ruleL 0 0 nilS nilS) w1) := hHeld.over b1
  go_wp2_with fail
  refine hK.out _ _ (A1.out) (fun hHeld => ?_)
  clear hK K
  try simp only [Act.put, List.setIfInBounds_toArray, List.set_cons_zero, List.set_cons_succ, List.getElem_toArray, List.getElem_cons_zero, List.getElem_cons_succ]
  refine wpAnyH_take (i := 12) (v := ?_) rfl (by kernel_rfl) (by kernel_rfl) (by kernel_rfl) (fun _ _ _ h => h) (Or.inl ⟨by rfl, ?_⟩) hHeld ?_
  rotate_left
  · (intro w hSw; (try dsimp only at hSw); go_simp; try with_reducible rfl)
  try simp only [Act.put, List.setIfInBounds_toArray, List.set_cons_zero, List.set_cons_succ, List.getElem_toArray, List.getElem_cons_zero, List.getElem_cons_succ]
  refine wpAnyH_done (by kernel_rfl) ?_ _
  clear hHeld b1 A0
  go_wp2_with fail
  refine wp_region_held_drew (S := fun W => Ru w b g cap ts n 0 0 (ruleL 0 0 nilS nilS) W) (by kernel_rfl) (A1.out.over (Below.refl _ _).drew) (fun hHeld => ?_)
  simp only [List.size_toArray, List.length_cons, List.length_nil, Nat.reduceAdd]
  have A2 : Hid (Ru w b g cap ts n 0 0 (ruleL 0 0 nilS nilS) w1.drew) := hHeld
  generalize w1.drew = X2 at *
  refine wpAnyH_take (i := 0) (v := ?_) rfl (by kernel_rfl) (by kernel_rfl) (by kernel_rfl) (fun _ _ _ h => h) (Or.inl ⟨by rfl, ?_⟩) hHeld ?_
  rotate_left
  · (intro w hSw; (try dsimp only at hSw); go_simp; try with_reducible rfl)
  try simp only [Act.put, List.setIfInBounds_toArray, List.set_cons_zero, List.set_cons_succ, List.getElem_toArray, List.getElem_cons_zero, List.getElem_cons_succ]
  refine wpAnyH_take (i := 1) (v := ?_) rfl (by kernel_rfl) (by kernel_rfl) (by kernel_rfl) (fun _ _ _ h => h) (Or.inl ⟨by rfl, ?_⟩) hHeld ?_
  rotate_left
  · (intro w hSw; (try dsimp only at hSw); go_simp; try with_reducible rfl)
  try simp only [Act.put, List.setIfInBounds_toArray, List.set_cons_zero, List.set_cons_succ, List.getElem_toArray, List.getElem_cons_zero, List.getElem_cons_succ]
  refine wpAnyH_take (i := 2) (v := ?_) rfl (by kernel_rfl) (by kernel_rfl) (by kernel_rfl) (fun _ _ _ h => h) (Or.inl ⟨by rfl, ?_⟩) hHeld ?_
  rotate_left
  · (intro w hSw; (try dsimp only at hSw); go_simp; try with_reducible rfl)
  try simp only [Act.put, List.setIfInBounds_toArray, List.set_cons_zero, List.set_cons_succ, List.getElem_toArray, List.getElem_cons_zero, List.getElem_cons_succ]
  refine wpAnyH_take (i := 3) (v := ?_) rfl (by kernel_rfl) (by kernel_rfl) (by kernel_rfl) (fun _ _ _ h => h) (Or.inl ⟨by rfl, ?_⟩) hHeld ?_
  rotate_left
  · (intro w hSw; (try dsimp only at hSw); go_simp; try with_reducible rfl)
  try simp only [Act.put, List.setIfInBounds_toArray, List.set_cons_zero, List.set_cons_succ, List.getElem_toArray, List.getElem_cons_zero, List.getElem_cons_succ]
  refine wpAnyH_take (i := 4) (v := ?_) rfl (by kernel_rfl) (by kernel_rfl) (by kernel_rfl) (fun _ _ _ h => h) (Or.inl ⟨by rfl, ?_⟩) hHeld ?_
  rotate_left
  · (intro w hSw; (try dsimp only at hSw); go_simp; try with_reducible rfl)
  try simp only [Act.put, List.setIfInBounds_toArray, List.set_cons_zero, List.set_cons_succ, List.getElem_toArray, List.getElem_cons_zero, List.getElem_cons_succ]
  refine wpAnyH_take (i := 5) (v := ?_) rfl (by kernel_rfl) (by kernel_rfl) (by kernel_rfl) (fun _ _ _ h => h) (Or.inl ⟨by rfl, ?_⟩) hHeld ?_
  rotate_left
  · (intro w hSw; (try dsimp only at hSw); go_simp; try with_reducible rfl)
  try simp only [Act.put, List.setIfInBounds_toArray, List.set_cons_zero, List.set_cons_succ, List.getElem_toArray, List.getElem_cons_zero, List.getElem_cons_succ]
  refine wpAnyH_take (i := 6) (v := ?_) rfl (by kernel_rfl) (by kernel_rfl) (by kernel_rfl) (fun _ _ _ h => h) (Or.inl ⟨by rfl, ?_⟩) hHeld ?_
  rotate_left
  · (intro w hSw; (try dsimp only at hSw); have c0 : w.cell? ⟨b, 0, none⟩ = some (.slice (some ⟨g, 0, none⟩) ts.length cap) := hSw.pc.blk.cell 0; have c1 : w.cell? ⟨b, 1, none⟩ = some (.int .i64 n) := hSw.pc.blk.cell 1; obtain ⟨x0, x1, x2, x3⟩ := HAT.out w hSw.pc; go_simp; try with_reducible rfl)
  try simp only [Act.put, List.setIfInBounds_toArray, List.set_cons_zero, List.set_cons_succ, List.getElem_toArray, List.getElem_cons_zero, List.getElem_cons_succ]
  refine wpAnyH_take (i := 7) (v := ?_) rfl (by kernel_rfl) (by kernel_rfl) (by kernel_rfl) (fun _ _ _ h => h) (Or.inl ⟨by rfl, ?_⟩) hHeld ?_
  rotate_left
  · (intro w hSw; (try dsimp only at hSw); go_simp; try with_reducible rfl)
  try simp only [Act.put, List.setIfInBounds_toArray, List.set_cons_zero, List.set_cons_succ, List.getElem_toArray, List.getElem_cons_zero, List.getElem_cons_succ]
  refine wpAnyH_take (i := 8) (v := ?_) rfl (by kernel_rfl) (by kernel_rfl) (by kernel_rfl) (fun _ _ _ h => h) (Or.inl ⟨by rfl, ?_⟩) hHeld ?_
  rotate_left
  · (intro w hSw; (try dsimp only at hSw); go_simp; try with_reducible rfl)
  try simp only [Act.put, List.setIfInBounds_toArray, List.set_cons_zero, List.set_cons_succ, List.getElem_toArray, List.getElem_cons_zero, List.getElem_cons_succ]
  refine wpAnyH_take (i := 9) (v := ?_) rfl (by kernel_rfl) (by kernel_rfl) (by kernel_rfl) (fun _ _ _ h => h) (Or.inl ⟨by rfl, ?_⟩) hHeld ?_
  rotate_left
  · (intro w hSw; (try dsimp only at hSw); go_simp; try with_reducible rfl)
  try simp only [Act.put, List.setIfInBounds_toArray, List.set_cons_zero, List.set_cons_succ, List.getElem_toArray, List.getElem_cons_zero, List.getElem_cons_succ]
  refine wpAnyH_take (i := 10) (v := ?_) rfl (by kernel_rfl) (by kernel_rfl) (by kernel_rfl) (fun _ _ _ h => h) (Or.inl ⟨by rfl, ?_⟩) hHeld ?_
  rotate_left
  · (intro w hSw; (try dsimp only at hSw); have c0 : w.cell? ⟨b, 0, none⟩ = some (.slice (some ⟨g, 0, none⟩) ts.length cap) := hSw.pc.blk.cell 0; have c1 : w.cell? ⟨b, 1, none⟩ = some (.int .i64 n) := hSw.pc.blk.cell 1; obtain ⟨x0, x1, x2, x3⟩ := HAT.out w hSw.pc; go_simp; try with_reducible rfl)
  try simp only [Act.put, List.setIfInBounds_toArray, List.set_cons_zero, List.set_cons_succ, List.getElem_toArray, List.getElem_cons_zero, List.getElem_cons_succ]
  refine wpAnyH_take (i := 11) (v := ?_) rfl (by kernel_rfl) (by kernel_rfl) (by kernel_rfl) (fun _ _ _ h => h) (Or.inl ⟨by rfl, ?_⟩) hHeld ?_
  rotate_left
  · (intro w hSw; (try dsimp only at hSw); have c0 : w.cell? ⟨b, 0, none⟩ = some (.slice (some ⟨g, 0, none⟩) ts.length cap) := hSw.pc.blk.cell 0; have c1 : w.cell? ⟨b, 1, none⟩ = some (.int .i64 n) := hSw.pc.blk.cell 1; obtain ⟨x0, x1, x2, x3⟩ := HAT.out w hSw.pc; go_simp; try with_reducible rfl)
  try simp only [Act.put, List.setIfInBounds_toArray, List.set_cons_zero, List.set_cons_succ, List.getElem_toArray, List.getElem_cons_zero, List.getElem_cons_succ]
  refine wpAnyH_take (i := 12) (v := ?_) rfl (by kernel_rfl) (by kernel_rfl) (by kernel_rfl) (fun _ _ _ h => h) (Or.inl ⟨by rfl, ?_⟩) hHeld ?_
  rotate_left
  · (intro w hSw; (try dsimp only at hSw); go_simp; try with_reducible rfl)
  try simp only [Act.put, List.setIfInBounds_toArray, List.set_cons_zero, List.set_cons_succ, List.getElem_toArray, List.getElem_cons_zero, List.getElem_cons_succ]
  refine wpAnyH_take (i := 13) (v := ?_) rfl (by kernel_rfl) (by kernel_rfl) (by kernel_rfl) (fun _ _ _ h => h) (Or.inl ⟨by rfl, ?_⟩) hHeld ?_
  rotate_left
  · (intro w hSw; (try dsimp only at hSw); have c0 : w.cell? ⟨b, 0, none⟩ = some (.slice (some ⟨g, 0, none⟩) ts.length cap) := hSw.pc.blk.cell 0; have c1 : w.cell? ⟨b, 1, none⟩ = some (.int .i64 n) := hSw.pc.blk.cell 1; obtain ⟨x0, x1, x2, x3⟩ := HAT.out w hSw.pc; go_simp; try with_reducible rfl)
  try simp only [Act.put, List.setIfInBounds_toArray, List.set_cons_zero, List.set_cons_succ, List.getElem_toArray, List.getElem_cons_zero, List.getElem_cons_succ]
  refine wpAnyH_take (i := 14) (v := ?_) rfl (by kernel_rfl) (by kernel_rfl) (by kernel_rfl) (fun _ _ _ h => h) (Or.inl ⟨by rfl, ?_⟩) hHeld ?_
  rotate_left
  · (intro w hSw; (try dsimp only at hSw); go_simp; try with_reducible rfl)
  try simp only [Act.put, List.setIfInBounds_toArray, List.set_cons_zero, List.set_cons_succ, List.getElem_toArray, List.getElem_cons_zero, List.getElem_cons_succ]
  refine wpAnyH_take (i := 15) (v := ?_) rfl (by kernel_rfl) (by kernel_rfl) (by kernel_rfl) (fun _ _ _ h => h) (Or.inl ⟨by rfl, ?_⟩) hHeld ?_
  rotate_left
  · (intro w hSw; (try dsimp only at hSw); go_simp; try with_reducible rfl)
  try simp only [Act.put, List.setIfInBounds_toArray, List.set_cons_zero, List.set_cons_succ, List.getElem_toArray, List.getElem_cons_zero, List.getElem_cons_succ]
  refine wpAnyH_take (i := 16) (v := ?_) rfl (by kernel_rfl) (by kernel_rfl) (by kernel_rfl) (fun _ _ _ h => h) (Or.inl ⟨by rfl, ?_⟩) hHeld ?_
  rotate_left
  · (intro w hSw; (try dsimp only at hSw); go_simp; try with_reducible rfl)
  try simp only [Act.put, List.setIfInBounds_toArray, List.set_cons_zero, List.set_cons_succ, List.getElem_toArray, List.getElem_cons_zero, List.getElem_cons_succ]
  refine wpAnyH_take (i := 17) (v := undef) rfl (by kernel_rfl) (by kernel_rfl) (by kernel_rfl) (fun _ _ _ h => h) (Or.inr ⟨by rfl, rfl⟩) hHeld ?_
  try simp only [Act.put, List.setIfInBounds_toArray, List.set_cons_zero, List.set_cons_succ, List.getElem_toArray, List.getElem_cons_zero, List.getElem_cons_succ]
  refine wpAnyH_take (i := 18) (v := undef) rfl (by kernel_rfl) (by kernel_rfl) (by kernel_rfl) (fun _ _ _ h => h) (Or.inr ⟨by rfl, rfl⟩) hHeld ?_
  try simp only [Act.put, List.setIfInBounds_toArray, List.set_cons_zero, List.set_cons_succ, List.getElem_toArray, List.getElem_cons_zero, List.getElem_cons_succ]
  refine wpAnyH_take (i := 19) (v := ?_) rfl (by kernel_rfl) (by kernel_rfl) (by kernel_rfl) (fun _ _ _ h => h) (Or.inl ⟨by rfl, ?_⟩) hHeld ?_
  rotate_left
  · (intro w hSw; (try dsimp only at hSw); go_simp; try with_reducible rfl)
  try simp only [Act.put, List.setIfInBounds_toArray, List.set_cons_zero, List.set_cons_succ, List.getElem_toArray, List.getElem_cons_zero, List.getElem_cons_succ]
  refine wpAnyH_done (by kernel_rfl) ?_ _
  clear hHeld A1
  go_wp2_with fail
  refine (HACT.out _ A2.out.pc).mono ?_
  rintro e w2 ⟨k, a, m, rfl, b2, P2⟩
  have A3 : Hid (Ru w b g cap ts m x y (ruleL 0 0 nilS nilS) w2) := A2.out.on b2 P2
  have R0 : Hid (Rx w b g cap ts m x y w2.heap.size (w2.heap.size + 1) (w2.heap.size + 1) k a nilS nilS [] [] (w2.alloc (Obj.cells #[.int .i64 k, .int .i64 a, .slice none 0 0, .slice none 0 0] 43))) := rx_new A3.out k a
  obtain ⟨Y, hY⟩ : ∃ Y, w2.alloc (Obj.cells #[.int .i64 k, .int .i64 a, .slice none 0 0, .slice none 0 0] 43) = Y := ⟨_, rfl⟩
  have HY : Hid (w2.alloc (Obj.cells #[.int .i64 k, .int .i64 a, .slice none 0 0, .slice none 0 0] 43) = Y) := hY
  rw [hY] at R0
  have q2 : Y.cell? ⟨b, 2, none⟩ = some (.int .i64 x) := R0.out.pc.blk.cell 2
  obtain ⟨r, hr⟩ : ∃ r, r = w2.heap.size := ⟨_, rfl⟩
  rw [← hr] at R0
  clear hY b2 P2 A3 A2 HACT HK HAT
  go_wp2_with fail
  rw [HY.out, ← hr]
  clear hr HY
  go_loopw [7] (fun _ wr => wr = Y) (fun _ _ => 0)
  case atStart => rfl
  case round =>
    subst hrel
    go_wp2_with (first | (refine at_op' (.load 43 (.tmp 6)) rfl ?_; refine wpList_load_row rfl 43 (.tmp 6) rfl r rfl 43 (ruleL k a nilS nilS).toArray (0, 0) _ R0.out.blk Tryd.underlying43 rfl (ruleL_size _ _ _ _) ?_) | (refine at_op' (.store 43 (.tmp 4) (.tmp 155)) rfl ?_; refine wpList_store_row rfl 43 (.tmp 4) (.tmp 155) rfl w.heap.size (ruleL k a nilS nilS).toArray rfl rfl 43 _ R0.out.out (ruleL_size _ _ _ _) rfl (ruleL_one nilS_one nilS_one) ?_))
    refine bodyPost_ret (v := .agg (ruleL k a nilS nilS).toArray) ?_ rfl (R0.out.wrong HX0.out HRR.out)
    exact results_cell_row Tryd.results22 _ _ w.heap.size 43 (ruleL k a nilS nilS).toArray (0, 0) _ rfl (R0.out.fin (ruleL k a nilS nilS)).2.2.1 Tryd.underlying43 rfl (ruleL_size _ _ _ _)

set_option linter.unusedSimpArgs false in
set_option maxRecDepth 8000 in
set_option maxHeartbeats 8000000 in
theorem rule_errC (w : World) (b g cap n : Nat) (ts : List Tok) (j : Nat) (hE : Ending4 ts) (h : Pc w b g cap ts n 0 0) (hn : n < ts.length) (hj : 64 < j) (hk : ts[n].k = 1) (hk0 : kindOf ts[n].t = 0) (x y : Nat) (hR : actD (ts.drop n) = .error (x, y)) (hx0 : ¬ x = 0) (hRR : ∀ d rs, rs.length + 1 = j → run (.s4 d rs) (ts.drop n) = .error (x, y)) :
    Calls Tryd.prog 22 #[.pointer (some ⟨b, 0, none⟩), .int .i64 j] w fun e w' => RuD w b g cap ts n j e w' := by
  have A0 : Hid (Ru w b g cap ts n 0 0 (ruleL 0 0 nilS nilS) (w.alloc (Obj.cells #[.int .i64 0, .int .i64 0, .slice none 0 0, .slice none 0 0] 43))) := ru_new h hn
  have hi : (n : Int) < (ts.length : Int) := by omega
  have hl : (n : Int) ≤ 100000 := by have := h.len; omega
  have HK : Hid (∀ W : World, Calls Tryd.prog 36 #[.string (bar ts[n].t)] W fun e w' => e = .returned (.int .i64 (kindOf ts[n].t)) ∧ Below W.heap.size W w') := fun W => kind_at ts[n].t W
  have HAT : Hid (∀ W, Pc W b g cap ts n 0 0 → ts[n].at W g (n * 4)) := fun W hW => hW.at hn
  have hd : decide ((64 : Int) < (j : Int)) = true := by simp; omega
  have hd2 : (64 : Int) < (j : Int) := by omega
  have hk1 : ((ts[n].k : Int) == 1) = true := by rw [beq_iff_eq]; omega
  rw [hk0] at HK
  have HACT : Hid (∀ W, Pc W b g cap ts n 0 0 → Calls Tryd.prog 20 #[.pointer (some ⟨b, 0, none⟩)] W fun e w' => ∃ (k a : Int) (m : Nat), e = .returned (.agg #[.int .i64 k, .int .i64 a]) ∧ Bt b W w' ∧ Pc w' b g cap ts m x y) := by
    intro W hW
    refine (act_any W b g cap n ts hE hW hn).mono ?_
    rintro e w' ⟨k, a, m, c, p, rfl, hb, hp, ⟨x', y', h1, rfl, rfl, _⟩ | ⟨v, h1, _⟩⟩
    · rw [hR] at h1
      cases h1
      exact ⟨k, a, m, rfl, hb, hp⟩
    · rw [hR] at h1
      cases h1
  have hx1 : ((x : Int) == 0) = false := by rw [beq_eq_false_iff_ne]; omega
  have hx2 : ¬ (x : Int) = 0 := by omega
  have HX0 : Hid (¬ x = 0) := hx0
  have HRR : Hid (∀ d rs, rs.length + 1 = j → run (.s4 d rs) (ts.drop n) = .error (x, y)) := hRR
  clear h hR hx0 hRR hj hk hk0
  generalize hx : ts[n] = tk at *
  clear hx
  go_enter Tryd.func22, Tryd.ntmps22
  go_wp2_with fail
  generalize (w.alloc (Obj.cells #[.int .i64 0, .int .i64 0, .slice none 0 0, .slice none 0 0] 43)) = X0 at *
  refine wp_region_held_drew (S := fun W => Ru w b g cap ts n 0 0 (ruleL 0 0 nilS nilS) W) (by kernel_rfl) (A0.out.over (Below.refl _ _).drew) (fun hHeld => ?_)
  simp only [List.size_toArray, List.length_cons, List.length_nil, Nat.reduceAdd]
  generalize X0.drew = X1 at *
  refine wpAnyH_take (i := 0) (v := ?_) rfl (by kernel_rfl) (by kernel_rfl) (by kernel_rfl) (fun _ _ _ h => h) (Or.inl ⟨by rfl, ?_⟩) hHeld ?_
  rotate_left
  · (intro w hSw; (try dsimp only at hSw); go_simp; try with_reducible rfl)
  try simp only [Act.put, List.setIfInBounds_toArray, List.set_cons_zero, List.set_cons_succ, List.getElem_toArray, List.getElem_cons_zero, List.getElem_cons_succ]
  refine wpAnyH_take (i := 1) (v := ?_) rfl (by kernel_rfl) (by kernel_rfl) (by kernel_rfl) (fun _ _ _ h => h) (Or.inl ⟨by rfl, ?_⟩) hHeld ?_
  rotate_left
  · (intro w hSw; (try dsimp only at hSw); go_simp; try with_reducible rfl)
  try simp only [Act.put, List.setIfInBounds_toArray, List.set_cons_zero, List.set_cons_succ, List.getElem_toArray, List.getElem_cons_zero, List.getElem_cons_succ]
  refine wpAnyH_take (i := 2) (v := ?_) rfl (by kernel_rfl) (by kernel_rfl) (by kernel_rfl) (fun _ _ _ h => h) (Or.inl ⟨by rfl, ?_⟩) hHeld ?_
  rotate_left
  · (intro w hSw; (try dsimp only at hSw); go_simp; try with_reducible rfl)
  try simp only [Act.put, List.setIfInBounds_toArray, List.set_cons_zero, List.set_cons_succ, List.getElem_toArray, List.getElem_cons_zero, List.getElem_cons_succ]
  refine wpAnyH_take (i := 3) (v := ?_) rfl (by kernel_rfl) (by kernel_rfl) (by kernel_rfl) (fun _ _ _ h => h) (Or.inl ⟨by rfl, ?_⟩) hHeld ?_
  rotate_left
  · (intro w hSw; (try dsimp only at hSw); have c0 : w.cell? ⟨b, 0, none⟩ = some (.slice (some ⟨g, 0, none⟩) ts.length cap) := hSw.pc.blk.cell 0; have c1 : w.cell? ⟨b, 1, none⟩ = some (.int .i64 n) := hSw.pc.blk.cell 1; obtain ⟨x0, x1, x2, x3⟩ := HAT.out w hSw.pc; go_simp; try with_reducible rfl)
  try simp only [Act.put, List.setIfInBounds_toArray, List.set_cons_zero, List.set_cons_succ, List.getElem_toArray, List.getElem_cons_zero, List.getElem_cons_succ]
  refine wpAnyH_take (i := 4) (v := ?_) rfl (by kernel_rfl) (by kernel_rfl) (by kernel_rfl) (fun _ _ _ h => h) (Or.inl ⟨by rfl, ?_⟩) hHeld ?_
  rotate_left
  · (intro w hSw; (try dsimp only at hSw); go_simp; try with_reducible rfl)
  try simp only [Act.put, List.setIfInBounds_toArray, List.set_cons_zero, List.set_cons_succ, List.getElem_toArray, List.getElem_cons_zero, List.getElem_cons_succ]
  refine wpAnyH_take (i := 5) (v := ?_) rfl (by kernel_rfl) (by kernel_rfl) (by kernel_rfl) (fun _ _ _ h => h) (Or.inl ⟨by rfl, ?_⟩) hHeld ?_
  rotate_left
  · (intro w hSw; (try dsimp only at hSw); go_simp; try with_reducible rfl)
  try simp only [Act.put, List.setIfInBounds_toArray, List.set_cons_zero, List.set_cons_succ, List.getElem_toArray, List.getElem_cons_zero, List.getElem_cons_succ]
  refine wpAnyH_take (i := 6) (v := ?_) rfl (by kernel_rfl) (by kernel_rfl) (by kernel_rfl) (fun _ _ _ h => h) (Or.inl ⟨by rfl, ?_⟩) hHeld ?_
  rotate_left
  · (intro w hSw; (try dsimp only at hSw); go_simp; try with_reducible rfl)
  try simp only [Act.put, List.setIfInBounds_toArray, List.set_cons_zero, List.set_cons_succ, List.getElem_toArray, List.getElem_cons_zero, List.getElem_cons_succ]
  refine wpAnyH_take (i := 7) (v := ?_) rfl (by kernel_rfl) (by kernel_rfl) (by kernel_rfl) (fun _ _ _ h => h) (Or.inl ⟨by rfl, ?_⟩) hHeld ?_
  rotate_left
  · (intro w hSw; (try dsimp only at hSw); have c0 : w.cell? ⟨b, 0, none⟩ = some (.slice (some ⟨g, 0, none⟩) ts.length cap) := hSw.pc.blk.cell 0; have c1 : w.cell? ⟨b, 1, none⟩ = some (.int .i64 n) := hSw.pc.blk.cell 1; obtain ⟨x0, x1, x2, x3⟩ := HAT.out w hSw.pc; go_simp; try with_reducible rfl)
  try simp only [Act.put, List.setIfInBounds_toArray, List.set_cons_zero, List.set_cons_succ, List.getElem_toArray, List.getElem_cons_zero, List.getElem_cons_succ]
  refine wpAnyH_take (i := 8) (v := ?_) rfl (by kernel_rfl) (by kernel_rfl) (by kernel_rfl) (fun _ _ _ h => h) (Or.inl ⟨by rfl, ?_⟩) hHeld ?_
  rotate_left
  · (intro w hSw; (try dsimp only at hSw); have c0 : w.cell? ⟨b, 0, none⟩ = some (.slice (some ⟨g, 0, none⟩) ts.length cap) := hSw.pc.blk.cell 0; have c1 : w.cell? ⟨b, 1, none⟩ = some (.int .i64 n) := hSw.pc.blk.cell 1; obtain ⟨x0, x1, x2, x3⟩ := HAT.out w hSw.pc; go_simp; try with_reducible rfl)
  try simp only [Act.put, List.setIfInBounds_toArray, List.set_cons_zero, List.set_cons_succ, List.getElem_toArray, List.getElem_cons_zero, List.getElem_cons_succ]
  refine wpAnyH_take (i := 9) (v := ?_) rfl (by kernel_rfl) (by kernel_rfl) (by kernel_rfl) (fun _ _ _ h => h) (Or.inl ⟨by rfl, ?_⟩) hHeld ?_
  rotate_left
  · (intro w hSw; (try dsimp only at hSw); go_simp; try with_reducible rfl)
  try simp only [Act.put, List.setIfInBounds_toArray, List.set_cons_zero, List.set_cons_succ, List.getElem_toArray, List.getElem_cons_zero, List.getElem_cons_succ]
  refine wpAnyH_take (i := 10) (v := ?_) rfl (by kernel_rfl) (by kernel_rfl) (by kernel_rfl) (fun _ _ _ h => h) (Or.inl ⟨by rfl, ?_⟩) hHeld ?_
  rotate_left
  · (intro w hSw; (try dsimp only at hSw); have c0 : w.cell? ⟨b, 0, none⟩ = some (.slice (some ⟨g, 0, none⟩) ts.length cap) := hSw.pc.blk.cell 0; have c1 : w.cell? ⟨b, 1, none⟩ = some (.int .i64 n) := hSw.pc.blk.cell 1; obtain ⟨x0, x1, x2, x3⟩ := HAT.out w hSw.pc; go_simp; try with_reducible rfl)
  try simp only [Act.put, List.setIfInBounds_toArray, List.set_cons_zero, List.set_cons_succ, List.getElem_toArray, List.getElem_cons_zero, List.getElem_cons_succ]
  refine wpAnyH_ready (rs := [11]) (by kernel_rfl) (by simp) ?_
  refine AllReadyH.cons rfl (fun K hK => ?_) AllReadyH.nil
  go_simp
  refine (HK.out _).mono ?_
  rintro e w1 ⟨rfl, b1⟩
  have A1 : Hid (Ru w b g cap ts n 0 0 (ruleL 0 0 nilS nilS) w1) := hHeld.over b1
  go_wp2_with fail
  refine hK.out _ _ (A1.out) (fun hHeld => ?_)
  clear hK K
  try simp only [Act.put, List.setIfInBounds_toArray, List.set_cons_zero, List.set_cons_succ, List.getElem_toArray, List.getElem_cons_zero, List.getElem_cons_succ]
  refine wpAnyH_take (i := 12) (v := ?_) rfl (by kernel_rfl) (by kernel_rfl) (by kernel_rfl) (fun _ _ _ h => h) (Or.inl ⟨by rfl, ?_⟩) hHeld ?_
  rotate_left
  · (intro w hSw; (try dsimp only at hSw); go_simp; try with_reducible rfl)
  try simp only [Act.put, List.setIfInBounds_toArray, List.set_cons_zero, List.set_cons_succ, List.getElem_toArray, List.getElem_cons_zero, List.getElem_cons_succ]
  refine wpAnyH_done (by kernel_rfl) ?_ _
  clear hHeld b1 A0
  go_wp2_with fail
  refine wp_region_held_drew (S := fun W => Ru w b g cap ts n 0 0 (ruleL 0 0 nilS nilS) W) (by kernel_rfl) (A1.out.over (Below.refl _ _).drew) (fun hHeld => ?_)
  simp only [List.size_toArray, List.length_cons, List.length_nil, Nat.reduceAdd]
  have A2 : Hid (Ru w b g cap ts n 0 0 (ruleL 0 0 nilS nilS) w1.drew) := hHeld
  generalize w1.drew = X2 at *
  refine wpAnyH_take (i := 0) (v := ?_) rfl (by kernel_rfl) (by kernel_rfl) (by kernel_rfl) (fun _ _ _ h => h) (Or.inl ⟨by rfl, ?_⟩) hHeld ?_
  rotate_left
  · (intro w hSw; (try dsimp only at hSw); go_simp; try with_reducible rfl)
  try simp only [Act.put, List.setIfInBounds_toArray, List.set_cons_zero, List.set_cons_succ, List.getElem_toArray, List.getElem_cons_zero, List.getElem_cons_succ]
  refine wpAnyH_take (i := 1) (v := ?_) rfl (by kernel_rfl) (by kernel_rfl) (by kernel_rfl) (fun _ _ _ h => h) (Or.inl ⟨by rfl, ?_⟩) hHeld ?_
  rotate_left
  · (intro w hSw; (try dsimp only at hSw); go_simp; try with_reducible rfl)
  try simp only [Act.put, List.setIfInBounds_toArray, List.set_cons_zero, List.set_cons_succ, List.getElem_toArray, List.getElem_cons_zero, List.getElem_cons_succ]
  refine wpAnyH_take (i := 2) (v := ?_) rfl (by kernel_rfl) (by kernel_rfl) (by kernel_rfl) (fun _ _ _ h => h) (Or.inl ⟨by rfl, ?_⟩) hHeld ?_
  rotate_left
  · (intro w hSw; (try dsimp only at hSw); go_simp; try with_reducible rfl)
  try simp only [Act.put, List.setIfInBounds_toArray, List.set_cons_zero, List.set_cons_succ, List.getElem_toArray, List.getElem_cons_zero, List.getElem_cons_succ]
  refine wpAnyH_take (i := 3) (v := ?_) rfl (by kernel_rfl) (by kernel_rfl) (by kernel_rfl) (fun _ _ _ h => h) (Or.inl ⟨by rfl, ?_⟩) hHeld ?_
  rotate_left
  · (intro w hSw; (try dsimp only at hSw); go_simp; try with_reducible rfl)
  try simp only [Act.put, List.setIfInBounds_toArray, List.set_cons_zero, List.set_cons_succ, List.getElem_toArray, List.getElem_cons_zero, List.getElem_cons_succ]
  refine wpAnyH_take (i := 4) (v := ?_) rfl (by kernel_rfl) (by kernel_rfl) (by kernel_rfl) (fun _ _ _ h => h) (Or.inl ⟨by rfl, ?_⟩) hHeld ?_
  rotate_left
  · (intro w hSw; (try dsimp only at hSw); go_simp; try with_reducible rfl)
  try simp only [Act.put, List.setIfInBounds_toArray, List.set_cons_zero, List.set_cons_succ, List.getElem_toArray, List.getElem_cons_zero, List.getElem_cons_succ]
  refine wpAnyH_take (i := 5) (v := ?_) rfl (by kernel_rfl) (by kernel_rfl) (by kernel_rfl) (fun _ _ _ h => h) (Or.inl ⟨by rfl, ?_⟩) hHeld ?_
  rotate_left
  · (intro w hSw; (try dsimp only at hSw); go_simp; try with_reducible rfl)
  try simp only [Act.put, List.setIfInBounds_toArray, List.set_cons_zero, List.set_cons_succ, List.getElem_toArray, List.getElem_cons_zero, List.getElem_cons_succ]
  refine wpAnyH_take (i := 6) (v := ?_) rfl (by kernel_rfl) (by kernel_rfl) (by kernel_rfl) (fun _ _ _ h => h) (Or.inl ⟨by rfl, ?_⟩) hHeld ?_
  rotate_left
  · (intro w hSw; (try dsimp only at hSw); have c0 : w.cell? ⟨b, 0, none⟩ = some (.slice (some ⟨g, 0, none⟩) ts.length cap) := hSw.pc.blk.cell 0; have c1 : w.cell? ⟨b, 1, none⟩ = some (.int .i64 n) := hSw.pc.blk.cell 1; obtain ⟨x0, x1, x2, x3⟩ := HAT.out w hSw.pc; go_simp; try with_reducible rfl)
  try simp only [Act.put, List.setIfInBounds_toArray, List.set_cons_zero, List.set_cons_succ, List.getElem_toArray, List.getElem_cons_zero, List.getElem_cons_succ]
  refine wpAnyH_take (i := 7) (v := ?_) rfl (by kernel_rfl) (by kernel_rfl) (by kernel_rfl) (fun _ _ _ h => h) (Or.inl ⟨by rfl, ?_⟩) hHeld ?_
  rotate_left
  · (intro w hSw; (try dsimp only at hSw); go_simp; try with_reducible rfl)
  try simp only [Act.put, List.setIfInBounds_toArray, List.set_cons_zero, List.set_cons_succ, List.getElem_toArray, List.getElem_cons_zero, List.getElem_cons_succ]
  refine wpAnyH_take (i := 8) (v := ?_) rfl (by kernel_rfl) (by kernel_rfl) (by kernel_rfl) (fun _ _ _ h => h) (Or.inl ⟨by rfl, ?_⟩) hHeld ?_
  rotate_left
  · (intro w hSw; (try dsimp only at hSw); go_simp; try with_reducible rfl)
  try simp only [Act.put, List.setIfInBounds_toArray, List.set_cons_zero, List.set_cons_succ, List.getElem_toArray, List.getElem_cons_zero, List.getElem_cons_succ]
  refine wpAnyH_take (i := 9) (v := ?_) rfl (by kernel_rfl) (by kernel_rfl) (by kernel_rfl) (fun _ _ _ h => h) (Or.inl ⟨by rfl, ?_⟩) hHeld ?_
  rotate_left
  · (intro w hSw; (try dsimp only at hSw); go_simp; try with_reducible rfl)
  try simp only [Act.put, List.setIfInBounds_toArray, List.set_cons_zero, List.set_cons_succ, List.getElem_toArray, List.getElem_cons_zero, List.getElem_cons_succ]
  refine wpAnyH_take (i := 10) (v := ?_) rfl (by kernel_rfl) (by kernel_rfl) (by kernel_rfl) (fun _ _ _ h => h) (Or.inl ⟨by rfl, ?_⟩) hHeld ?_
  rotate_left
  · (intro w hSw; (try dsimp only at hSw); have c0 : w.cell? ⟨b, 0, none⟩ = some (.slice (some ⟨g, 0, none⟩) ts.length cap) := hSw.pc.blk.cell 0; have c1 : w.cell? ⟨b, 1, none⟩ = some (.int .i64 n) := hSw.pc.blk.cell 1; obtain ⟨x0, x1, x2, x3⟩ := HAT.out w hSw.pc; go_simp; try with_reducible rfl)
  try simp only [Act.put, List.setIfInBounds_toArray, List.set_cons_zero, List.set_cons_succ, List.getElem_toArray, List.getElem_cons_zero, List.getElem_cons_succ]
  refine wpAnyH_take (i := 11) (v := ?_) rfl (by kernel_rfl) (by kernel_rfl) (by kernel_rfl) (fun _ _ _ h => h) (Or.inl ⟨by rfl, ?_⟩) hHeld ?_
  rotate_left
  · (intro w hSw; (try dsimp only at hSw); have c0 : w.cell? ⟨b, 0, none⟩ = some (.slice (some ⟨g, 0, none⟩) ts.length cap) := hSw.pc.blk.cell 0; have c1 : w.cell? ⟨b, 1, none⟩ = some (.int .i64 n) := hSw.pc.blk.cell 1; obtain ⟨x0, x1, x2, x3⟩ := HAT.out w hSw.pc; go_simp; try with_reducible rfl)
  try simp only [Act.put, List.setIfInBounds_toArray, List.set_cons_zero, List.set_cons_succ, List.getElem_toArray, List.getElem_cons_zero, List.getElem_cons_succ]
  refine wpAnyH_take (i := 12) (v := ?_) rfl (by kernel_rfl) (by kernel_rfl) (by kernel_rfl) (fun _ _ _ h => h) (Or.inl ⟨by rfl, ?_⟩) hHeld ?_
  rotate_left
  · (intro w hSw; (try dsimp only at hSw); go_simp; try with_reducible rfl)
  try simp only [Act.put, List.setIfInBounds_toArray, List.set_cons_zero, List.set_cons_succ, List.getElem_toArray, List.getElem_cons_zero, List.getElem_cons_succ]
  refine wpAnyH_take (i := 13) (v := ?_) rfl (by kernel_rfl) (by kernel_rfl) (by kernel_rfl) (fun _ _ _ h => h) (Or.inl ⟨by rfl, ?_⟩) hHeld ?_
  rotate_left
  · (intro w hSw; (try dsimp only at hSw); have c0 : w.cell? ⟨b, 0, none⟩ = some (.slice (some ⟨g, 0, none⟩) ts.length cap) := hSw.pc.blk.cell 0; have c1 : w.cell? ⟨b, 1, none⟩ = some (.int .i64 n) := hSw.pc.blk.cell 1; obtain ⟨x0, x1, x2, x3⟩ := HAT.out w hSw.pc; go_simp; try with_reducible rfl)
  try simp only [Act.put, List.setIfInBounds_toArray, List.set_cons_zero, List.set_cons_succ, List.getElem_toArray, List.getElem_cons_zero, List.getElem_cons_succ]
  refine wpAnyH_take (i := 14) (v := ?_) rfl (by kernel_rfl) (by kernel_rfl) (by kernel_rfl) (fun _ _ _ h => h) (Or.inl ⟨by rfl, ?_⟩) hHeld ?_
  rotate_left
  · (intro w hSw; (try dsimp only at hSw); go_simp; try with_reducible rfl)
  try simp only [Act.put, List.setIfInBounds_toArray, List.set_cons_zero, List.set_cons_succ, List.getElem_toArray, List.getElem_cons_zero, List.getElem_cons_succ]
  refine wpAnyH_take (i := 15) (v := ?_) rfl (by kernel_rfl) (by kernel_rfl) (by kernel_rfl) (fun _ _ _ h => h) (Or.inl ⟨by rfl, ?_⟩) hHeld ?_
  rotate_left
  · (intro w hSw; (try dsimp only at hSw); go_simp; try with_reducible rfl)
  try simp only [Act.put, List.setIfInBounds_toArray, List.set_cons_zero, List.set_cons_succ, List.getElem_toArray, List.getElem_cons_zero, List.getElem_cons_succ]
  refine wpAnyH_take (i := 16) (v := ?_) rfl (by kernel_rfl) (by kernel_rfl) (by kernel_rfl) (fun _ _ _ h => h) (Or.inl ⟨by rfl, ?_⟩) hHeld ?_
  rotate_left
  · (intro w hSw; (try dsimp only at hSw); go_simp; try with_reducible rfl)
  try simp only [Act.put, List.setIfInBounds_toArray, List.set_cons_zero, List.set_cons_succ, List.getElem_toArray, List.getElem_cons_zero, List.getElem_cons_succ]
  refine wpAnyH_take (i := 17) (v := ?_) rfl (by kernel_rfl) (by kernel_rfl) (by kernel_rfl) (fun _ _ _ h => h) (Or.inl ⟨by rfl, ?_⟩) hHeld ?_
  rotate_left
  · (intro w hSw; (try dsimp only at hSw); go_simp; try with_reducible rfl)
  try simp only [Act.put, List.setIfInBounds_toArray, List.set_cons_zero, List.set_cons_succ, List.getElem_toArray, List.getElem_cons_zero, List.getElem_cons_succ]
  refine wpAnyH_take (i := 18) (v := ?_) rfl (by kernel_rfl) (by kernel_rfl) (by kernel_rfl) (fun _ _ _ h => h) (Or.inl ⟨by rfl, ?_⟩) hHeld ?_
  rotate_left
  · (intro w hSw; (try dsimp only at hSw); go_simp; try with_reducible rfl)
  try simp only [Act.put, List.setIfInBounds_toArray, List.set_cons_zero, List.set_cons_succ, List.getElem_toArray, List.getElem_cons_zero, List.getElem_cons_succ]
  refine wpAnyH_take (i := 19) (v := ?_) rfl (by kernel_rfl) (by kernel_rfl) (by kernel_rfl) (fun _ _ _ h => h) (Or.inl ⟨by rfl, ?_⟩) hHeld ?_
  rotate_left
  · (intro w hSw; (try dsimp only at hSw); go_simp; try with_reducible rfl)
  try simp only [Act.put, List.setIfInBounds_toArray, List.set_cons_zero, List.set_cons_succ, List.getElem_toArray, List.getElem_cons_zero, List.getElem_cons_succ]
  refine wpAnyH_done (by kernel_rfl) ?_ _
  clear hHeld A1
  go_wp2_with fail
  refine (HACT.out _ A2.out.pc).mono ?_
  rintro e w2 ⟨k, a, m, rfl, b2, P2⟩
  have A3 : Hid (Ru w b g cap ts m x y (ruleL 0 0 nilS nilS) w2) := A2.out.on b2 P2
  have R0 : Hid (Rx w b g cap ts m x y w2.heap.size (w2.heap.size + 1) (w2.heap.size + 1) k a nilS nilS [] [] (w2.alloc (Obj.cells #[.int .i64 k, .int .i64 a, .slice none 0 0, .slice none 0 0] 43))) := rx_new A3.out k a
  obtain ⟨Y, hY⟩ : ∃ Y, w2.alloc (Obj.cells #[.int .i64 k, .int .i64 a, .slice none 0 0, .slice none 0 0] 43) = Y := ⟨_, rfl⟩
  have HY : Hid (w2.alloc (Obj.cells #[.int .i64 k, .int .i64 a, .slice none 0 0, .slice none 0 0] 43) = Y) := hY
  rw [hY] at R0
  have q2 : Y.cell? ⟨b, 2, none⟩ = some (.int .i64 x) := R0.out.pc.blk.cell 2
  obtain ⟨r, hr⟩ : ∃ r, r = w2.heap.size := ⟨_, rfl⟩
  rw [← hr] at R0
  clear hY b2 P2 A3 A2 HACT HK HAT
  go_wp2_with fail
  rw [HY.out, ← hr]
  clear hr HY
  go_loopw [7] (fun _ wr => wr = Y) (fun _ _ => 0)
  case atStart => rfl
  case round =>
    subst hrel
    go_wp2_with (first | (refine at_op' (.load 43 (.tmp 6)) rfl ?_; refine wpList_load_row rfl 43 (.tmp 6) rfl r rfl 43 (ruleL k a nilS nilS).toArray (0, 0) _ R0.out.blk Tryd.underlying43 rfl (ruleL_size _ _ _ _) ?_) | (refine at_op' (.store 43 (.tmp 4) (.tmp 155)) rfl ?_; refine wpList_store_row rfl 43 (.tmp 4) (.tmp 155) rfl w.heap.size (ruleL k a nilS nilS).toArray rfl rfl 43 _ R0.out.out (ruleL_size _ _ _ _) rfl (ruleL_one nilS_one nilS_one) ?_))
    refine bodyPost_ret (v := .agg (ruleL k a nilS nilS).toArray) ?_ rfl (R0.out.wrong HX0.out HRR.out)
    exact results_cell_row Tryd.results22 _ _ w.heap.size 43 (ruleL k a nilS nilS).toArray (0, 0) _ rfl (R0.out.fin (ruleL k a nilS nilS)).2.2.1 Tryd.underlying43 rfl (ruleL_size _ _ _ _)

end Go.Proofs.YtdjjlccpmfhkiaaDoor.Doc

