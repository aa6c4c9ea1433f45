/-
  The document's answer for rules: a rule whose act may be.
-/
import Derived.Test.YtdjjlccpmfhkiaaDoorDRuleA
import Derived.Test.YtdjjlccpmfhkiaaDoorRules
import Derived.Deep.DeepCutAuto
namespace Go.Proofs.YtdjjlccpmfhkiaaDoor.Doc
open Go.RowKit


theorem step_append_cd {w : World} {ops : Array Oper} {o : Oper} {a : Act} {K : Act → World → Prop} {Q : Exit → Act → World → Prop} {E : Prop} (hgd : o.guard = none) (s x : Operand)
    (ho : o.op = .call { callee := .builtin .append, args := #[s, x], argTypes := #[41, 41] })
    (base : Nat) (v : Value) (n : Nat) (xs : List Value) (hs : a.eval s = v) (hown : w.ownsRow base 45 4 v n xs)
    (it : List Value) (hl : it.length = 4) (h1 : ∀ u ∈ it, u.oneCell' = true) (ad : Addr) (hx : a.eval x = .slice (some ad) 1 1) (hnews : ∀ j u, it[j]? = some u → w.cell? (ad.add j) = some u)
    (hn : n ≤ 1000000) (hbase : base ≤ w.heap.size)
    (h : ∀ v' w', w'.ownsRow base 45 4 v' (n + 1) (xs ++ it) → w.grownBy w' v.ownBlock → K (a.put o.dst v') w') :
    if Region.wanted o (yielded ops a.tmps) = true then Oper.wp Tryd.prog o a w K Q else E := by
  have hw : Region.wanted o (yielded ops a.tmps) = true := by simp [Region.wanted, hgd]
  rw [if_pos hw]
  obtain ⟨i0, hi, hz0, hz1, hz2⟩ := info_parts Tryd.info45
  obtain ⟨v', w', hr, g1, g2, _⟩ := run_append_own (P := Tryd.prog) w base 41 o.type 45 i0 (.agg #[.int .i64 0, .int .i64 0, .int .u64 0, .int .u64 0]) 4 32 Tryd.underlying41 hi hz0 hz1 hz2 rfl (by decide) v n xs hown ad 1 1 it (by rw [hl]) hnews h1 (by unfold maxLen; omega) (by omega) hbase
  unfold Oper.wp execOp
  simp only [ho, resolve, invoke, builtin, Sem.run_bind, Sem.run_pure, Result.andThen_ok, List.map_toArray, List.map_cons, List.map_nil, hs, hx, hr]
  exact h v' w' g1 g2

/-- a condition's cells, as they are told. -/
def cdL (a o m v : Int) : List Value := [.int .i64 a, .int .i64 o, .int .u64 m, .int .u64 v]
theorem cdL_one (a o m v : Int) : ∀ u ∈ cdL a o m v, u.oneCell' = true := by
  intro u hu
  simp [cdL] at hu
  rcases hu with rfl | rfl | rfl | rfl <;> rfl
theorem cdL_new (w : World) (a o m v : Int) : ∀ j u, (cdL a o m v)[j]? = some u → (w.alloc (Obj.cells #[.int .i64 a, .int .i64 o, .int .u64 m, .int .u64 v] 45)).cell? ((⟨w.heap.size, 0, none⟩ : Addr).add j) = some u := by
  intro j u hu
  match j, hu with
  | 0, hu => cases hu; simp [Addr.add]
  | 1, hu => cases hu; simp [Addr.add]
  | 2, hu => cases hu; simp [Addr.add]
  | 3, hu => cases hu; simp [Addr.add]

/-- a rule that is wrong: its cells, and the place. -/
structure Rw (w : World) (b g cap : Nat) (ts : List Tok) (m : Nat) (c p : Int) (r : Nat) (k a : Int) (vn vc : Value) (X : World) : Prop where
  pc : Pc X b g cap ts m c p
  out : Blk X w.heap.size 43 (ruleL 0 0 nilS nilS)
  blk : Blk X r 43 (ruleL k a vn vc)
  bt : Bt b w X
  on : vn.oneCell' = true
  oc : vc.oneCell' = true
  lb : b < w.heap.size
  lg : g < w.heap.size

theorem Rx.condR {w X Y : World} {b g cap m r B1 B2 k' : Nat} {ts : List Tok} {c p k a : Int} {vn vc v' : Value} {ns : List (List UInt8)} {cs : List Cd} {xs : List Value} (h : Rx w b g cap ts m c p r B1 B2 k a vn vc ns cs X) (ho : Y.ownsRow B2 45 4 v' k' xs) (hg : X.grownBy Y vc.ownBlock) :
    Rw w b g cap ts m c p r k a vn v' (Y.setCell ⟨r, 3, none⟩ v') := by
  have l1 := h.l1
  have l2 := h.l2
  have lr := h.lr
  have lb := h.lb
  have lg := h.lg
  have hk := owns_block h.cd
  have hp : Pc Y b g cap ts m c p := h.pc.grown hg (fun k e => by have := hk k e; omega) (fun k e => by have := hk k e; omega)
  have ho2 : Blk Y w.heap.size 43 [.int .i64 0, .int .i64 0, .slice none 0 0, .slice none 0 0] := h.out.grown hg (fun k e => by have := hk k e; omega)
  have hb2 : Blk Y r 43 [.int .i64 k, .int .i64 a, vn, vc] := h.blk.grown hg (fun k e => by have := hk k e; omega)
  have hbt : Bt b w Y := h.bt.grown hg (fun k e => by have := hk k e; omega)
  exact ⟨hp.other (by omega) (by omega) v', ho2.other _ _ (by show _ ≠ r; omega), hb2.set 3 v', hbt.setAny (by omega) v', owns_cell h.nm, owns_cell ho, lb, lg⟩
theorem Rw.wrong {w X : World} {b g cap m r n j x y : Nat} {ts : List Tok} {k a : Int} {vn vc : Value} (h : Rw w b g cap ts m x y r k a vn vc X) (hx : ¬ x = 0) (hr : ∀ d rs, rs.length + 1 = j → run (.s4 d rs) (ts.drop n) = .error (x, y)) : RuD w b g cap ts n j (.returned (.agg (ruleL k a vn vc).toArray)) (X.setRow w.heap.size (ruleL k a vn vc).toArray) ∧ Blk (X.setRow w.heap.size (ruleL k a vn vc).toArray) w.heap.size 43 (ruleL k a vn vc) := by
  have lb := h.lb
  have lg := h.lg
  exact ⟨⟨h.bt.setRow (Nat.le_refl _) _, .inl ⟨x, y, m, k, a, vn, vc, hx, rfl, h.on, h.oc, h.pc.setRow (by omega) (by omega) _, hr⟩⟩, h.out.row _⟩

/-- where a rule stands among its conditions. -/
def L2 (w : World) (b g cap : Nat) (ts : List Tok) (n j r B3 : Nat) (v : Ac) (vn : Value) (NS : List (List UInt8)) (wr : World) : Prop :=
  (∃ (x y m : Nat) (vc : Value), ¬ x = 0 ∧ Rw w b g cap ts m x y r v.k v.a vn vc wr ∧ ∀ d rs, rs.length + 1 = j → run (.s4 d rs) (ts.drop n) = .error (x, y)) ∨
    ∃ (m : Nat) (vc : Value) (cs : List Cd), Rx w b g cap ts m 0 0 r (r + 1) B3 v.k v.a vn vc NS cs wr ∧ m < ts.length ∧ cs.length ≤ 8 ∧ ∀ d rs, rs.length + 1 = j → run (.s4 d rs) (ts.drop n) = run (.s13 d rs v NS cs) (ts.drop m)

theorem cells_snoc' (cs : List Cd) (q : Cd) : cellsC cs ++ cdL q.arg q.op q.mask q.val = cellsC (cs ++ [q]) := (cellsC_snoc cs q).symm

set_option linter.unusedSimpArgs false in
set_option maxRecDepth 8000 in
set_option maxHeartbeats 8000000 in
theorem rule_main (w : World) (b g cap n : Nat) (ts : List Tok) (j : Nat) (hE : Ending4 ts) (h : Pc w b g cap ts n 0 0) (hn : n < ts.length) (h4 : ¬ ts[n].k = 4) (hj : j ≤ 64) (v : Ac) (l : List Tok) (hR : actD (ts.drop n) = .ok (v, l)) :
    Calls Tryd.prog 22 #[.pointer (some ⟨b, 0, none⟩), .int .i64 j] w fun e w' => RuD w b g cap ts n j e w' := by
  have A0 : Hid (Ru w b g cap ts n 0 0 (ruleL 0 0 nilS nilS) (w.alloc (Obj.cells #[.int .i64 0, .int .i64 0, .slice none 0 0, .slice none 0 0] 43))) := ru_new h hn
  have hi : (n : Int) < (ts.length : Int) := by omega
  have hl : (n : Int) ≤ 100000 := by have := h.len; omega
  have HK : Hid (∀ W : World, Calls Tryd.prog 36 #[.string (bar ts[n].t)] W fun e w' => e = .returned (.int .i64 (kindOf ts[n].t)) ∧ Below W.heap.size W w') := fun W => kind_at ts[n].t W
  have HAT : Hid (∀ W, Pc W b g cap ts n 0 0 → ts[n].at W g (n * 4)) := fun W hW => hW.at hn
  have hd : decide ((64 : Int) < (j : Int)) = false := by simp; omega
  have HACT : Hid (∀ W, Pc W b g cap ts n 0 0 → Calls Tryd.prog 20 #[.pointer (some ⟨b, 0, none⟩)] W fun e w' => e = .returned (.agg #[.int .i64 v.k, .int .i64 v.a]) ∧ ∃ m, Bt b W w' ∧ Pc w' b g cap ts m 0 0 ∧ m < ts.length ∧ l = ts.drop m) := by
    intro W hW
    refine (act_any W b g cap n ts hE hW hn).mono ?_
    rintro e w' ⟨k, a, m, c, p, rfl, hb, hp, ⟨x', y', h1, _⟩ | ⟨v', h1, hm, rfl, rfl, rfl, rfl⟩⟩
    · rw [hR] at h1
      cases h1
    · rw [hR] at h1
      cases h1
      exact ⟨rfl, m, hb, hp, hm, rfl⟩
  have HE : Hid (Ending4 ts) := hE
  have HJ : Hid (j ≤ 64) := hj
  have HRR : Hid (∀ m, l = ts.drop m → ∀ d rs, rs.length + 1 = j → run (.s4 d rs) (ts.drop n) = run (.s6 d rs v []) (ts.drop m)) := by
    intro m hm d rs hl
    rw [drop_at hn] at hR
    rw [drop_at hn, run_act4 (by omega) h4, hR, hm]
  clear h hR hj hE h4
  generalize hx : ts[n] = tk at *
  clear hx
  go_enter Tryd.func22, Tryd.ntmps22
  go_wp2_with fail
  generalize (w.alloc (Obj.cells #[.int .i64 0, .int .i64 0, .slice none 0 0, .slice none 0 0] 43)) = X0 at *
  refine wp_region_held_drew (S := fun W => Ru w b g cap ts n 0 0 (ruleL 0 0 nilS nilS) W) (by kernel_rfl) (A0.out.over (Below.refl _ _).drew) (fun hHeld => ?_)
  simp only [List.size_toArray, List.length_cons, List.length_nil, Nat.reduceAdd]
  generalize X0.drew = X1 at *
  refine wpAnyH_take (i := 0) (v := ?_) rfl (by kernel_rfl) (by kernel_rfl) (by kernel_rfl) (fun _ _ _ h => h) (Or.inl ⟨by rfl, ?_⟩) hHeld ?_
  rotate_left
  · (intro w hSw; (try dsimp only at hSw); go_simp; try with_reducible rfl)
  try simp only [Act.put, List.setIfInBounds_toArray, List.set_cons_zero, List.set_cons_succ, List.getElem_toArray, List.getElem_cons_zero, List.getElem_cons_succ]
  refine wpAnyH_take (i := 1) (v := ?_) rfl (by kernel_rfl) (by kernel_rfl) (by kernel_rfl) (fun _ _ _ h => h) (Or.inl ⟨by rfl, ?_⟩) hHeld ?_
  rotate_left
  · (intro w hSw; (try dsimp only at hSw); go_simp; try with_reducible rfl)
  try simp only [Act.put, List.setIfInBounds_toArray, List.set_cons_zero, List.set_cons_succ, List.getElem_toArray, List.getElem_cons_zero, List.getElem_cons_succ]
  refine wpAnyH_take (i := 2) (v := ?_) rfl (by kernel_rfl) (by kernel_rfl) (by kernel_rfl) (fun _ _ _ h => h) (Or.inl ⟨by rfl, ?_⟩) hHeld ?_
  rotate_left
  · (intro w hSw; (try dsimp only at hSw); go_simp; try with_reducible rfl)
  try simp only [Act.put, List.setIfInBounds_toArray, List.set_cons_zero, List.set_cons_succ, List.getElem_toArray, List.getElem_cons_zero, List.getElem_cons_succ]
  refine wpAnyH_take (i := 3) (v := ?_) rfl (by kernel_rfl) (by kernel_rfl) (by kernel_rfl) (fun _ _ _ h => h) (Or.inl ⟨by rfl, ?_⟩) hHeld ?_
  rotate_left
  · (intro w hSw; (try dsimp only at hSw); have c0 : w.cell? ⟨b, 0, none⟩ = some (.slice (some ⟨g, 0, none⟩) ts.length cap) := hSw.pc.blk.cell 0; have c1 : w.cell? ⟨b, 1, none⟩ = some (.int .i64 n) := hSw.pc.blk.cell 1; obtain ⟨x0, x1, x2, x3⟩ := HAT.out w hSw.pc; go_simp; try with_reducible rfl)
  try simp only [Act.put, List.setIfInBounds_toArray, List.set_cons_zero, List.set_cons_succ, List.getElem_toArray, List.getElem_cons_zero, List.getElem_cons_succ]
  refine wpAnyH_take (i := 4) (v := ?_) rfl (by kernel_rfl) (by kernel_rfl) (by kernel_rfl) (fun _ _ _ h => h) (Or.inl ⟨by rfl, ?_⟩) hHeld ?_
  rotate_left
  · (intro w hSw; (try dsimp only at hSw); go_simp; try with_reducible rfl)
  try simp only [Act.put, List.setIfInBounds_toArray, List.set_cons_zero, List.set_cons_succ, List.getElem_toArray, List.getElem_cons_zero, List.getElem_cons_succ]
  refine wpAnyH_take (i := 5) (v := ?_) rfl (by kernel_rfl) (by kernel_rfl) (by kernel_rfl) (fun _ _ _ h => h) (Or.inl ⟨by rfl, ?_⟩) hHeld ?_
  rotate_left
  · (intro w hSw; (try dsimp only at hSw); go_simp; try with_reducible rfl)
  try simp only [Act.put, List.setIfInBounds_toArray, List.set_cons_zero, List.set_cons_succ, List.getElem_toArray, List.getElem_cons_zero, List.getElem_cons_succ]
  refine wpAnyH_take (i := 6) (v := ?_) rfl (by kernel_rfl) (by kernel_rfl) (by kernel_rfl) (fun _ _ _ h => h) (Or.inl ⟨by rfl, ?_⟩) hHeld ?_
  rotate_left
  · (intro w hSw; (try dsimp only at hSw); go_simp; try with_reducible rfl)
  try simp only [Act.put, List.setIfInBounds_toArray, List.set_cons_zero, List.set_cons_succ, List.getElem_toArray, List.getElem_cons_zero, List.getElem_cons_succ]
  refine wpAnyH_take (i := 7) (v := ?_) rfl (by kernel_rfl) (by kernel_rfl) (by kernel_rfl) (fun _ _ _ h => h) (Or.inl ⟨by rfl, ?_⟩) hHeld ?_
  rotate_left
  · (intro w hSw; (try dsimp only at hSw); have c0 : w.cell? ⟨b, 0, none⟩ = some (.slice (some ⟨g, 0, none⟩) ts.length cap) := hSw.pc.blk.cell 0; have c1 : w.cell? ⟨b, 1, none⟩ = some (.int .i64 n) := hSw.pc.blk.cell 1; obtain ⟨x0, x1, x2, x3⟩ := HAT.out w hSw.pc; go_simp; try with_reducible rfl)
  try simp only [Act.put, List.setIfInBounds_toArray, List.set_cons_zero, List.set_cons_succ, List.getElem_toArray, List.getElem_cons_zero, List.getElem_cons_succ]
  refine wpAnyH_take (i := 8) (v := ?_) rfl (by kernel_rfl) (by kernel_rfl) (by kernel_rfl) (fun _ _ _ h => h) (Or.inl ⟨by rfl, ?_⟩) hHeld ?_
  rotate_left
  · (intro w hSw; (try dsimp only at hSw); have c0 : w.cell? ⟨b, 0, none⟩ = some (.slice (some ⟨g, 0, none⟩) ts.length cap) := hSw.pc.blk.cell 0; have c1 : w.cell? ⟨b, 1, none⟩ = some (.int .i64 n) := hSw.pc.blk.cell 1; obtain ⟨x0, x1, x2, x3⟩ := HAT.out w hSw.pc; go_simp; try with_reducible rfl)
  try simp only [Act.put, List.setIfInBounds_toArray, List.set_cons_zero, List.set_cons_succ, List.getElem_toArray, List.getElem_cons_zero, List.getElem_cons_succ]
  refine wpAnyH_take (i := 9) (v := ?_) rfl (by kernel_rfl) (by kernel_rfl) (by kernel_rfl) (fun _ _ _ h => h) (Or.inl ⟨by rfl, ?_⟩) hHeld ?_
  rotate_left
  · (intro w hSw; (try dsimp only at hSw); go_simp; try with_reducible rfl)
  try simp only [Act.put, List.setIfInBounds_toArray, List.set_cons_zero, List.set_cons_succ, List.getElem_toArray, List.getElem_cons_zero, List.getElem_cons_succ]
  refine wpAnyH_take (i := 10) (v := ?_) rfl (by kernel_rfl) (by kernel_rfl) (by kernel_rfl) (fun _ _ _ h => h) (Or.inl ⟨by rfl, ?_⟩) hHeld ?_
  rotate_left
  · (intro w hSw; (try dsimp only at hSw); have c0 : w.cell? ⟨b, 0, none⟩ = some (.slice (some ⟨g, 0, none⟩) ts.length cap) := hSw.pc.blk.cell 0; have c1 : w.cell? ⟨b, 1, none⟩ = some (.int .i64 n) := hSw.pc.blk.cell 1; obtain ⟨x0, x1, x2, x3⟩ := HAT.out w hSw.pc; go_simp; try with_reducible rfl)
  try simp only [Act.put, List.setIfInBounds_toArray, List.set_cons_zero, List.set_cons_succ, List.getElem_toArray, List.getElem_cons_zero, List.getElem_cons_succ]
  refine wpAnyH_ready (rs := [11]) (by kernel_rfl) (by simp) ?_
  refine AllReadyH.cons rfl (fun K hK => ?_) AllReadyH.nil
  go_simp
  refine (HK.out _).mono ?_
  rintro e w1 ⟨rfl, b1⟩
  have A1 : Hid (Ru w b g cap ts n 0 0 (ruleL 0 0 nilS nilS) w1) := hHeld.over b1
  go_wp2_with fail
  refine hK.out _ _ (A1.out) (fun hHeld => ?_)
  clear hK K
  try simp only [Act.put, List.setIfInBounds_toArray, List.set_cons_zero, List.set_cons_succ, List.getElem_toArray, List.getElem_cons_zero, List.getElem_cons_succ]
  refine wpAnyH_take (i := 12) (v := ?_) rfl (by kernel_rfl) (by kernel_rfl) (by kernel_rfl) (fun _ _ _ h => h) (Or.inl ⟨by rfl, ?_⟩) hHeld ?_
  rotate_left
  · (intro w hSw; (try dsimp only at hSw); go_simp; try with_reducible rfl)
  try simp only [Act.put, List.setIfInBounds_toArray, List.set_cons_zero, List.set_cons_succ, List.getElem_toArray, List.getElem_cons_zero, List.getElem_cons_succ]
  refine wpAnyH_done (by kernel_rfl) ?_ _
  clear hHeld b1 A0
  go_wp2_with fail
  refine wp_region_held_drew (S := fun W => Ru w b g cap ts n 0 0 (ruleL 0 0 nilS nilS) W) (by kernel_rfl) (A1.out.over (Below.refl _ _).drew) (fun hHeld => ?_)
  simp only [List.size_toArray, List.length_cons, List.length_nil, Nat.reduceAdd]
  have A2 : Hid (Ru w b g cap ts n 0 0 (ruleL 0 0 nilS nilS) w1.drew) := hHeld
  generalize w1.drew = X2 at *
  refine wpAnyH_take (i := 0) (v := ?_) rfl (by kernel_rfl) (by kernel_rfl) (by kernel_rfl) (fun _ _ _ h => h) (Or.inl ⟨by rfl, ?_⟩) hHeld ?_
  rotate_left
  · (intro w hSw; (try dsimp only at hSw); go_simp; try with_reducible rfl)
  try simp only [Act.put, List.setIfInBounds_toArray, List.set_cons_zero, List.set_cons_succ, List.getElem_toArray, List.getElem_cons_zero, List.getElem_cons_succ]
  refine wpAnyH_take (i := 1) (v := ?_) rfl (by kernel_rfl) (by kernel_rfl) (by kernel_rfl) (fun _ _ _ h => h) (Or.inl ⟨by rfl, ?_⟩) hHeld ?_
  rotate_left
  · (intro w hSw; (try dsimp only at hSw); go_simp; try with_reducible rfl)
  try simp only [Act.put, List.setIfInBounds_toArray, List.set_cons_zero, List.set_cons_succ, List.getElem_toArray, List.getElem_cons_zero, List.getElem_cons_succ]
  refine wpAnyH_take (i := 2) (v := ?_) rfl (by kernel_rfl) (by kernel_rfl) (by kernel_rfl) (fun _ _ _ h => h) (Or.inl ⟨by rfl, ?_⟩) hHeld ?_
  rotate_left
  · (intro w hSw; (try dsimp only at hSw); go_simp; try with_reducible rfl)
  try simp only [Act.put, List.setIfInBounds_toArray, List.set_cons_zero, List.set_cons_succ, List.getElem_toArray, List.getElem_cons_zero, List.getElem_cons_succ]
  refine wpAnyH_take (i := 3) (v := undef) rfl (by kernel_rfl) (by kernel_rfl) (by kernel_rfl) (fun _ _ _ h => h) (Or.inr ⟨by rfl, rfl⟩) hHeld ?_
  try simp only [Act.put, List.setIfInBounds_toArray, List.set_cons_zero, List.set_cons_succ, List.getElem_toArray, List.getElem_cons_zero, List.getElem_cons_succ]
  refine wpAnyH_take (i := 4) (v := undef) rfl (by kernel_rfl) (by kernel_rfl) (by kernel_rfl) (fun _ _ _ h => h) (Or.inr ⟨by rfl, rfl⟩) hHeld ?_
  try simp only [Act.put, List.setIfInBounds_toArray, List.set_cons_zero, List.set_cons_succ, List.getElem_toArray, List.getElem_cons_zero, List.getElem_cons_succ]
  refine wpAnyH_take (i := 5) (v := undef) rfl (by kernel_rfl) (by kernel_rfl) (by kernel_rfl) (fun _ _ _ h => h) (Or.inr ⟨by rfl, rfl⟩) hHeld ?_
  try simp only [Act.put, List.setIfInBounds_toArray, List.set_cons_zero, List.set_cons_succ, List.getElem_toArray, List.getElem_cons_zero, List.getElem_cons_succ]
  refine wpAnyH_take (i := 6) (v := undef) rfl (by kernel_rfl) (by kernel_rfl) (by kernel_rfl) (fun _ _ _ h => h) (Or.inr ⟨by rfl, rfl⟩) hHeld ?_
  try simp only [Act.put, List.setIfInBounds_toArray, List.set_cons_zero, List.set_cons_succ, List.getElem_toArray, List.getElem_cons_zero, List.getElem_cons_succ]
  refine wpAnyH_take (i := 7) (v := undef) rfl (by kernel_rfl) (by kernel_rfl) (by kernel_rfl) (fun _ _ _ h => h) (Or.inr ⟨by rfl, rfl⟩) hHeld ?_
  try simp only [Act.put, List.setIfInBounds_toArray, List.set_cons_zero, List.set_cons_succ, List.getElem_toArray, List.getElem_cons_zero, List.getElem_cons_succ]
  refine wpAnyH_take (i := 8) (v := undef) rfl (by kernel_rfl) (by kernel_rfl) (by kernel_rfl) (fun _ _ _ h => h) (Or.inr ⟨by rfl, rfl⟩) hHeld ?_
  try simp only [Act.put, List.setIfInBounds_toArray, List.set_cons_zero, List.set_cons_succ, List.getElem_toArray, List.getElem_cons_zero, List.getElem_cons_succ]
  refine wpAnyH_take (i := 9) (v := undef) rfl (by kernel_rfl) (by kernel_rfl) (by kernel_rfl) (fun _ _ _ h => h) (Or.inr ⟨by rfl, rfl⟩) hHeld ?_
  try simp only [Act.put, List.setIfInBounds_toArray, List.set_cons_zero, List.set_cons_succ, List.getElem_toArray, List.getElem_cons_zero, List.getElem_cons_succ]
  refine wpAnyH_take (i := 10) (v := undef) rfl (by kernel_rfl) (by kernel_rfl) (by kernel_rfl) (fun _ _ _ h => h) (Or.inr ⟨by rfl, rfl⟩) hHeld ?_
  try simp only [Act.put, List.setIfInBounds_toArray, List.set_cons_zero, List.set_cons_succ, List.getElem_toArray, List.getElem_cons_zero, List.getElem_cons_succ]
  refine wpAnyH_take (i := 11) (v := undef) rfl (by kernel_rfl) (by kernel_rfl) (by kernel_rfl) (fun _ _ _ h => h) (Or.inr ⟨by rfl, rfl⟩) hHeld ?_
  try simp only [Act.put, List.setIfInBounds_toArray, List.set_cons_zero, List.set_cons_succ, List.getElem_toArray, List.getElem_cons_zero, List.getElem_cons_succ]
  refine wpAnyH_take (i := 12) (v := undef) rfl (by kernel_rfl) (by kernel_rfl) (by kernel_rfl) (fun _ _ _ h => h) (Or.inr ⟨by rfl, rfl⟩) hHeld ?_
  try simp only [Act.put, List.setIfInBounds_toArray, List.set_cons_zero, List.set_cons_succ, List.getElem_toArray, List.getElem_cons_zero, List.getElem_cons_succ]
  refine wpAnyH_take (i := 13) (v := undef) rfl (by kernel_rfl) (by kernel_rfl) (by kernel_rfl) (fun _ _ _ h => h) (Or.inr ⟨by rfl, rfl⟩) hHeld ?_
  try simp only [Act.put, List.setIfInBounds_toArray, List.set_cons_zero, List.set_cons_succ, List.getElem_toArray, List.getElem_cons_zero, List.getElem_cons_succ]
  refine wpAnyH_take (i := 14) (v := undef) rfl (by kernel_rfl) (by kernel_rfl) (by kernel_rfl) (fun _ _ _ h => h) (Or.inr ⟨by rfl, rfl⟩) hHeld ?_
  try simp only [Act.put, List.setIfInBounds_toArray, List.set_cons_zero, List.set_cons_succ, List.getElem_toArray, List.getElem_cons_zero, List.getElem_cons_succ]
  refine wpAnyH_take (i := 15) (v := ?_) rfl (by kernel_rfl) (by kernel_rfl) (by kernel_rfl) (fun _ _ _ h => h) (Or.inl ⟨by rfl, ?_⟩) hHeld ?_
  rotate_left
  · (intro w hSw; (try dsimp only at hSw); go_simp; try with_reducible rfl)
  try simp only [Act.put, List.setIfInBounds_toArray, List.set_cons_zero, List.set_cons_succ, List.getElem_toArray, List.getElem_cons_zero, List.getElem_cons_succ]
  refine wpAnyH_take (i := 16) (v := ?_) rfl (by kernel_rfl) (by kernel_rfl) (by kernel_rfl) (fun _ _ _ h => h) (Or.inl ⟨by rfl, ?_⟩) hHeld ?_
  rotate_left
  · (intro w hSw; (try dsimp only at hSw); go_simp; try with_reducible rfl)
  try simp only [Act.put, List.setIfInBounds_toArray, List.set_cons_zero, List.set_cons_succ, List.getElem_toArray, List.getElem_cons_zero, List.getElem_cons_succ]
  refine wpAnyH_take (i := 17) (v := undef) rfl (by kernel_rfl) (by kernel_rfl) (by kernel_rfl) (fun _ _ _ h => h) (Or.inr ⟨by rfl, rfl⟩) hHeld ?_
  try simp only [Act.put, List.setIfInBounds_toArray, List.set_cons_zero, List.set_cons_succ, List.getElem_toArray, List.getElem_cons_zero, List.getElem_cons_succ]
  refine wpAnyH_take (i := 18) (v := undef) rfl (by kernel_rfl) (by kernel_rfl) (by kernel_rfl) (fun _ _ _ h => h) (Or.inr ⟨by rfl, rfl⟩) hHeld ?_
  try simp only [Act.put, List.setIfInBounds_toArray, List.set_cons_zero, List.set_cons_succ, List.getElem_toArray, List.getElem_cons_zero, List.getElem_cons_succ]
  refine wpAnyH_take (i := 19) (v := ?_) rfl (by kernel_rfl) (by kernel_rfl) (by kernel_rfl) (fun _ _ _ h => h) (Or.inl ⟨by rfl, ?_⟩) hHeld ?_
  rotate_left
  · (intro w hSw; (try dsimp only at hSw); go_simp; try with_reducible rfl)
  try simp only [Act.put, List.setIfInBounds_toArray, List.set_cons_zero, List.set_cons_succ, List.getElem_toArray, List.getElem_cons_zero, List.getElem_cons_succ]
  refine wpAnyH_done (by kernel_rfl) ?_ _
  clear hHeld A1
  go_wp2_with fail
  refine (HACT.out _ A2.out.pc).mono ?_
  rintro e w2 ⟨rfl, m2, b2, P2, hm2, hl2⟩
  have A3 : Hid (Ru w b g cap ts m2 0 0 (ruleL 0 0 nilS nilS) w2) := A2.out.on b2 P2
  have R0 : Hid (Rx w b g cap ts m2 0 0 w2.heap.size (w2.heap.size + 1) (w2.heap.size + 1) v.k v.a nilS nilS [] [] (w2.alloc (Obj.cells #[.int .i64 v.k, .int .i64 v.a, .slice none 0 0, .slice none 0 0] 43))) := rx_new A3.out v.k v.a
  have HR2 : Hid (∀ d rs, rs.length + 1 = j → run (.s4 d rs) (ts.drop n) = run (.s6 d rs v []) (ts.drop m2)) := HRR.out m2 hl2
  obtain ⟨Y, hY⟩ : ∃ Y, w2.alloc (Obj.cells #[.int .i64 v.k, .int .i64 v.a, .slice none 0 0, .slice none 0 0] 43) = Y := ⟨_, rfl⟩
  have HY : Hid (w2.alloc (Obj.cells #[.int .i64 v.k, .int .i64 v.a, .slice none 0 0, .slice none 0 0] 43) = Y) := hY
  rw [hY] at R0
  obtain ⟨r, hr⟩ : ∃ r, r = w2.heap.size := ⟨_, rfl⟩
  rw [← hr] at R0
  clear hY b2 P2 A3 A2 HACT HK HAT hl2 HRR hi hl hd
  go_wp2_with fail
  rw [HY.out, ← hr]
  clear hr HY
  go_loopw [7] (fun _ wr => ∃ m, ∃ (ns : List (List UInt8)) (vn : Value) (B2 : Nat), Rx w b g cap ts m 0 0 r (r + 1) B2 v.k v.a vn nilS ns [] wr ∧ m < ts.length ∧ ns.length ≤ 16 ∧ ∀ d rs, rs.length + 1 = j → run (.s4 d rs) (ts.drop n) = run (.s6 d rs v ns) (ts.drop m)) (fun _ wr => 17 - lenAt wr r)
  case atStart => exact ⟨m2, [], nilS, r + 1, R0.out, hm2, by decide, HR2.out⟩
  case round =>
    obtain ⟨m, ns, vn, B2, hM, hm, hns, hp⟩ := hrel
    obtain ⟨qn, dn, rfl⟩ := hM.slN
    have C0 : Hid (Rx w b g cap ts m 0 0 r (r + 1) B2 v.k v.a (.slice qn ns.length dn) nilS ns [] wr) := hM
    have c2 : wr.cell? ⟨b, 2, none⟩ = some (.int .i64 0) := C0.out.pc.blk.cell 2
    have HLA : Hid (lenAt wr r = ns.length) := by
      show _ = _
      unfold lenAt
      rw [hM.blk.cell 2]
      rfl
    have HP : Hid (∀ d rs, rs.length + 1 = j → run (.s4 d rs) (ts.drop n) = run (.s6 d rs v ns) (ts.drop m)) := hp
    have HAT : Hid (∀ W, Pc W b g cap ts m 0 0 → ts[m].at W g (m * 4)) := fun W hW => hW.at hm
    have hi : (m : Int) < (ts.length : Int) := by omega
    have hl : (m : Int) ≤ 100000 := by have := hM.pc.len; omega
    clear hM hp R0 HR2
    go_wp2_with fail
    refine wp_region_held_drew (S := fun W => Rx w b g cap ts m 0 0 r (r + 1) B2 v.k v.a (.slice qn ns.length dn) nilS ns [] W) (by kernel_rfl) (C0.out.over (Below.refl _ _).drew) (fun hHeld => ?_)
    simp only [List.size_toArray, List.length_cons, List.length_nil, Nat.reduceAdd]
    generalize wr.drew = X1 at *
    have HX1 : Hid (Rx w b g cap ts m 0 0 r (r + 1) B2 v.k v.a (.slice qn ns.length dn) nilS ns [] X1) := hHeld
    refine wpAnyH_take (i := 0) (v := ?_) rfl (by kernel_rfl) (by kernel_rfl) (by kernel_rfl) (fun _ _ _ h => h) (Or.inl ⟨by rfl, ?_⟩) hHeld ?_
    rotate_left
    · (intro w hSw; (try dsimp only at hSw); go_simp; try with_reducible rfl)
    try simp only [Act.put, List.setIfInBounds_toArray, List.set_cons_zero, List.set_cons_succ, List.getElem_toArray, List.getElem_cons_zero, List.getElem_cons_succ]
    refine wpAnyH_take (i := 1) (v := ?_) rfl (by kernel_rfl) (by kernel_rfl) (by kernel_rfl) (fun _ _ _ h => h) (Or.inl ⟨by rfl, ?_⟩) hHeld ?_
    rotate_left
    · (intro w hSw; (try dsimp only at hSw); go_simp; try with_reducible rfl)
    try simp only [Act.put, List.setIfInBounds_toArray, List.set_cons_zero, List.set_cons_succ, List.getElem_toArray, List.getElem_cons_zero, List.getElem_cons_succ]
    refine wpAnyH_take (i := 2) (v := ?_) rfl (by kernel_rfl) (by kernel_rfl) (by kernel_rfl) (fun _ _ _ h => h) (Or.inl ⟨by rfl, ?_⟩) hHeld ?_
    rotate_left
    · (intro w hSw; (try dsimp only at hSw); go_simp; try with_reducible rfl)
    try simp only [Act.put, List.setIfInBounds_toArray, List.set_cons_zero, List.set_cons_succ, List.getElem_toArray, List.getElem_cons_zero, List.getElem_cons_succ]
    refine wpAnyH_take (i := 3) (v := ?_) rfl (by kernel_rfl) (by kernel_rfl) (by kernel_rfl) (fun _ _ _ h => h) (Or.inl ⟨by rfl, ?_⟩) hHeld ?_
    rotate_left
    · (intro w hSw; (try dsimp only at hSw); have c0 : w.cell? ⟨b, 0, none⟩ = some (.slice (some ⟨g, 0, none⟩) ts.length cap) := hSw.pc.blk.cell 0; have c1 : w.cell? ⟨b, 1, none⟩ = some (.int .i64 m) := hSw.pc.blk.cell 1; obtain ⟨x0, x1, x2, x3⟩ := HAT.out w hSw.pc; go_simp; try with_reducible rfl)
    try simp only [Act.put, List.setIfInBounds_toArray, List.set_cons_zero, List.set_cons_succ, List.getElem_toArray, List.getElem_cons_zero, List.getElem_cons_succ]
    refine wpAnyH_take (i := 4) (v := ?_) rfl (by kernel_rfl) (by kernel_rfl) (by kernel_rfl) (fun _ _ _ h => h) (Or.inl ⟨by rfl, ?_⟩) hHeld ?_
    rotate_left
    · (intro w hSw; (try dsimp only at hSw); go_simp; try with_reducible rfl)
    try simp only [Act.put, List.setIfInBounds_toArray, List.set_cons_zero, List.set_cons_succ, List.getElem_toArray, List.getElem_cons_zero, List.getElem_cons_succ]
    refine wpAnyH_take (i := 5) (v := ?_) rfl (by kernel_rfl) (by kernel_rfl) (by kernel_rfl) (fun _ _ _ h => h) (Or.inl ⟨by rfl, ?_⟩) hHeld ?_
    rotate_left
    · (intro w hSw; (try dsimp only at hSw); go_simp; try with_reducible rfl)
    try simp only [Act.put, List.setIfInBounds_toArray, List.set_cons_zero, List.set_cons_succ, List.getElem_toArray, List.getElem_cons_zero, List.getElem_cons_succ]
    refine wpAnyH_take (i := 6) (v := ?_) rfl (by kernel_rfl) (by kernel_rfl) (by kernel_rfl) (fun _ _ _ h => h) (Or.inl ⟨by rfl, ?_⟩) hHeld ?_
    rotate_left
    · (intro w hSw; (try dsimp only at hSw); go_simp; try with_reducible rfl)
    try simp only [Act.put, List.setIfInBounds_toArray, List.set_cons_zero, List.set_cons_succ, List.getElem_toArray, List.getElem_cons_zero, List.getElem_cons_succ]
    refine wpAnyH_take (i := 7) (v := ?_) rfl (by kernel_rfl) (by kernel_rfl) (by kernel_rfl) (fun _ _ _ h => h) (Or.inl ⟨by rfl, ?_⟩) hHeld ?_
    rotate_left
    · (intro w hSw; (try dsimp only at hSw); have c0 : w.cell? ⟨b, 0, none⟩ = some (.slice (some ⟨g, 0, none⟩) ts.length cap) := hSw.pc.blk.cell 0; have c1 : w.cell? ⟨b, 1, none⟩ = some (.int .i64 m) := hSw.pc.blk.cell 1; obtain ⟨x0, x1, x2, x3⟩ := HAT.out w hSw.pc; go_simp; try with_reducible rfl)
    try simp only [Act.put, List.setIfInBounds_toArray, List.set_cons_zero, List.set_cons_succ, List.getElem_toArray, List.getElem_cons_zero, List.getElem_cons_succ]
    refine wpAnyH_take (i := 8) (v := ?_) rfl (by kernel_rfl) (by kernel_rfl) (by kernel_rfl) (fun _ _ _ h => h) (Or.inl ⟨by rfl, ?_⟩) hHeld ?_
    rotate_left
    · (intro w hSw; (try dsimp only at hSw); have c0 : w.cell? ⟨b, 0, none⟩ = some (.slice (some ⟨g, 0, none⟩) ts.length cap) := hSw.pc.blk.cell 0; have c1 : w.cell? ⟨b, 1, none⟩ = some (.int .i64 m) := hSw.pc.blk.cell 1; obtain ⟨x0, x1, x2, x3⟩ := HAT.out w hSw.pc; go_simp; try with_reducible rfl)
    try simp only [Act.put, List.setIfInBounds_toArray, List.set_cons_zero, List.set_cons_succ, List.getElem_toArray, List.getElem_cons_zero, List.getElem_cons_succ]
    refine wpAnyH_take (i := 9) (v := ?_) rfl (by kernel_rfl) (by kernel_rfl) (by kernel_rfl) (fun _ _ _ h => h) (Or.inl ⟨by rfl, ?_⟩) hHeld ?_
    rotate_left
    · (intro w hSw; (try dsimp only at hSw); have c0 : w.cell? ⟨b, 0, none⟩ = some (.slice (some ⟨g, 0, none⟩) ts.length cap) := hSw.pc.blk.cell 0; have c1 : w.cell? ⟨b, 1, none⟩ = some (.int .i64 m) := hSw.pc.blk.cell 1; obtain ⟨x0, x1, x2, x3⟩ := HAT.out w hSw.pc; go_simp; try with_reducible rfl)
    try simp only [Act.put, List.setIfInBounds_toArray, List.set_cons_zero, List.set_cons_succ, List.getElem_toArray, List.getElem_cons_zero, List.getElem_cons_succ]
    refine wpAnyH_ready (rs := [10]) (by kernel_rfl) (by simp) ?_
    refine AllReadyH.cons rfl (fun K hK => ?_) AllReadyH.nil
    go_simp
    refine hK.out _ _ (hHeld.over ((Below.refl _ _).alloc (Nat.le_refl _) _)) (fun hHeld => ?_)
    clear hK K
    try simp only [Act.put, List.setIfInBounds_toArray, List.set_cons_zero, List.set_cons_succ, List.getElem_toArray, List.getElem_cons_zero, List.getElem_cons_succ]
    have C7 : Hid (Rx w b g cap ts m 0 0 r (r + 1) B2 v.k v.a (.slice qn ns.length dn) nilS ns [] (X1.alloc (Obj.cells #[.int .i64 ts[m].k, .int .i64 ts[m].at', .string (bar ts[m].t), .int .u64 ts[m].n] 39))) := HX1.out.over ((Below.refl _ _).alloc (Nat.le_refl _) _)
    refine wpAnyH_ready (rs := [11]) (by kernel_rfl) (by simp) ?_
    refine AllReadyH.cons rfl (fun K hK => ?_) AllReadyH.nil
    go_simp
    refine hK.out _ _ (C7.out) (fun hHeld => ?_)
    clear hK K
    try simp only [Act.put, List.setIfInBounds_toArray, List.set_cons_zero, List.set_cons_succ, List.getElem_toArray, List.getElem_cons_zero, List.getElem_cons_succ]
    refine wpAnyH_done (by kernel_rfl) ?_ _
    obtain ⟨q0, hq0⟩ : ∃ q, q = X1.heap.size := ⟨_, rfl⟩
    have D7 : Hid (Blk (X1.alloc (Obj.cells #[.int .i64 ts[m].k, .int .i64 ts[m].at', .string (bar ts[m].t), .int .u64 ts[m].n] 39)) X1.heap.size 39 [.int .i64 ts[m].k, .int .i64 ts[m].at', .string (bar ts[m].t), .int .u64 ts[m].n]) := blk_new X1 _ 39
    have HQ : Hid (¬ q0 = b ∧ ¬ q0 = r) := by
      have h1 := HX1.out.pc.blk.lt
      have h2 := HX1.out.blk.lt
      rw [hq0]
      exact ⟨by omega, by omega⟩
    clear hHeld HX1 C0 c2
    generalize X1.alloc (Obj.cells #[.int .i64 ts[m].k, .int .i64 ts[m].at', .string (bar ts[m].t), .int .u64 ts[m].n] 39) = X7 at *
    rw [← hq0] at D7
    rw [← hq0]
    clear hq0
    generalize q0 = q at *
    have t0 : X7.cell? ⟨q, 0, none⟩ = some (.int .i64 ts[m].k) := D7.out.cell 0
    have t2 : X7.cell? ⟨q, 2, none⟩ = some (.string (bar ts[m].t)) := D7.out.cell 2
    by_cases hk : ts[m].k = 1
    · have hk1 : ((ts[m].k : Int) == 1) = true := by rw [beq_iff_eq]; omega
      have hk2 : ((ts[m].k : Int) != 1) = false := by rw [bne, hk1]; rfl
      have hm1 := HE.out m hm (by rw [hk]; decide)
      have d2 : X7.cell? ⟨r, 2, none⟩ = some (.slice qn ns.length dn) := C7.out.blk.cell 2
      by_cases h16 : ns.length = 16
      · have he : ((ns.length : Int) == 16) = true := by rw [beq_iff_eq]; omega
        have HF : Hid (∀ W, Pc W b g cap ts m 0 0 → Calls Tryd.prog 19 #[.pointer (some ⟨b, 0, none⟩), .int .i64 4] W fun e w' => e = .returned (.tuple #[]) ∧ Bt b W w' ∧ Pc w' b g cap ts m 4 ts[m].at') := fun W hW => fail_at W b g cap m ts 4 hW hm
        have HW : Hid (∀ d rs, rs.length + 1 = j → run (.s4 d rs) (ts.drop n) = .error (4, ts[m].at')) := fun d rs hl => (HP.out d rs hl).trans (s6_full hm hk (by omega) d rs v)
        clear hk HAT h16
        generalize ts[m] = x at *
        go_wp2_with fail
        refine (HF.out _ C7.out.pc).mono ?_
        rintro e w8 ⟨rfl, b8, P8⟩
        have C8 : Hid (Rx w b g cap ts m (4 : Nat) x.at' r (r + 1) B2 v.k v.a (.slice qn ns.length dn) nilS ns [] w8) := C7.out.on b8 P8
        clear b8 P8
        go_wp2_with (first | (refine at_op' (.load 43 (.tmp 6)) rfl ?_; refine wpList_load_row rfl 43 (.tmp 6) rfl r rfl 43 (ruleL v.k v.a (.slice qn ns.length dn) nilS).toArray (0, 0) _ C8.out.blk Tryd.underlying43 rfl (ruleL_size _ _ _ _) ?_) | (refine at_op' (.store 43 (.tmp 4) (.tmp 73)) rfl ?_; refine wpList_store_row rfl 43 (.tmp 4) (.tmp 73) rfl w.heap.size (ruleL v.k v.a (.slice qn ns.length dn) nilS).toArray rfl rfl 43 _ C8.out.out (ruleL_size _ _ _ _) rfl (ruleL_one (owns_cell C8.out.nm) (owns_cell C8.out.cd)) ?_))
        refine bodyPost_ret (v := .agg (ruleL v.k v.a (.slice qn ns.length dn) nilS).toArray) ?_ rfl (C8.out.wrong (by decide) HW.out)
        exact results_cell_row Tryd.results22 _ _ w.heap.size 43 (ruleL v.k v.a (.slice qn ns.length dn) nilS).toArray (0, 0) _ rfl (C8.out.fin (ruleL v.k v.a (.slice qn ns.length dn) nilS)).2.2.1 Tryd.underlying43 rfl (ruleL_size _ _ _ _)
      · have he : ((ns.length : Int) == 16) = false := by rw [beq_eq_false_iff_ne]; omega
        have he2 : ¬ (ns.length : Int) = 16 := by omega
        have HW : Hid (∀ d rs, rs.length + 1 = j → run (.s4 d rs) (ts.drop n) = run (.s7 d rs v (ns ++ [ts[m].t])) (ts.drop (m + 1))) := fun d rs hl => (HP.out d rs hl).trans (s6_word hm hk (by omega) d rs v)
        have HL : Hid ((ns ++ [ts[m].t]).length = ns.length + 1 ∧ ns.length + 1 ≤ 16) := ⟨by simp, by omega⟩
        have e1 : X7.cell? ⟨b, 1, none⟩ = some (.int .i64 m) := C7.out.pc.blk.cell 1
        have f1 := C7.out.pc.blk.f 1
        obtain ⟨Z1, hZ1⟩ : ∃ Z, X7.setCell ⟨b, 1, none⟩ (.int .i64 ((m : Int) + 1)) = Z := ⟨_, rfl⟩
        have HZ1 : Hid (X7.setCell ⟨b, 1, none⟩ (.int .i64 ((m : Int) + 1)) = Z1) := hZ1
        have C8 : Hid (Rx w b g cap ts (m + 1) 0 0 r (r + 1) B2 v.k v.a (.slice qn ns.length dn) nilS ns [] Z1) := by
          have q := C7.out.next
          rw [hZ1] at q
          exact q
        have D8 : Blk Z1 q 39 [.int .i64 ts[m].k, .int .i64 ts[m].at', .string (bar ts[m].t), .int .u64 ts[m].n] := by
          rw [← hZ1]
          exact D7.out.other _ _ HQ.out.1
        have g2 : Z1.cell? ⟨q, 2, none⟩ = some (.string (bar ts[m].t)) := D8.cell 2
        have d8 : Z1.cell? ⟨r, 2, none⟩ = some (.slice qn ns.length dn) := C8.out.blk.cell 2
        clear hk HAT h16 hZ1 D8 D7 HP
        generalize hxx : ts[m] = x at *
        clear hxx
        go_wp2_with (first | (refine switch_world' HZ1.out ?_) | (at_builtin; refine append_str rfl (.tmp 82) (.tmp 85) rfl (r + 1) _ ns.length ns rfl (C8.out.over ((Below.refl _ _).alloc (Nat.le_refl _) _)).nm x.t ⟨Z1.heap.size, 0, none⟩ rfl (name_new Z1 (bar x.t)) (by have := HL.out.2; omega) (Nat.le_trans (Nat.le_trans C8.out.l2 C8.out.sz) (by rw [size_alloc']; omega)) ?_; intro v2 w4 ho hg; have C9 : Hid (Rx w b g cap ts (m + 1) 0 0 r (r + 1) B2 v.k v.a (.slice qn ns.length dn) nilS ns [] (Z1.alloc (Obj.cells #[.string (bar x.t)] 9))) := C8.out.over ((Below.refl _ _).alloc (Nat.le_refl _) _); have C10 : Hid (Rx w b g cap ts (m + 1) 0 0 r (r + 1) w4.heap.size v.k v.a v2 nilS (ns ++ [x.t]) [] (w4.setCell ⟨r, 2, none⟩ v2)) := C9.out.name rfl ho hg; have E9 : Blk w4 r 43 _ := C9.out.blk.grown hg (fun k e => (by have := owns_block C9.out.nm k e; omega)); have d9 : w4.cell? ⟨r, 2, none⟩ = some (.slice qn ns.length dn) := E9.cell 2; have f9 := E9.f 2; obtain ⟨q2, d2', hv2⟩ := C10.out.slN; rw [HL.out.1] at hv2; subst hv2; clear ho hg E9 C9))
        generalize w4.setCell ⟨r, 2, none⟩ (.slice q2 (ns.length + 1) d2') = X10 at *
        generalize w4.heap.size = B3 at *
        clear C8 C7 d9 f9 g2 d8 e1 f1 t0 t2 HZ1 d2
        have HLB : Hid (lenAt X10 r = ns.length + 1) := by
          show _ = _
          unfold lenAt
          rw [C10.out.blk.cell 2]
          rfl
        generalize hMM : m + 1 = M at *
        clear hMM
        have hMi : (M : Int) ≤ 100000 := by have := C10.out.pc.len; omega
        rcases hcm : isS ts[M] [44] with _ | _
        · have hcs : (ts[M].k == 3 && ts[M].t == [44]) = false := hcm
          refine (is_at _ b g cap M ts 0 0 C10.out.pc hm1 3 [44]).mono ?_
          rw [hcs]
          rintro e w11 ⟨rfl, b11⟩
          have C11 : Hid (Rx w b g cap ts M 0 0 r (r + 1) B3 v.k v.a (.slice q2 (ns.length + 1) d2') nilS (ns ++ [x.t]) [] w11) := C10.out.over b11
          have c2 : w11.cell? ⟨b, 2, none⟩ = some (.int .i64 0) := C11.out.pc.blk.cell 2
          have HCM : Hid (isS ts[M] [44] = false) := hcm
          clear b11 C10 hcs hcm HLA HLB
          have hLN : ∃ LN NS, LN = ns.length + 1 ∧ NS = ns ++ [x.t] := ⟨_, _, rfl, rfl⟩
          obtain ⟨LN, NS, hLN, hNS⟩ := hLN
          rw [← hLN, ← hNS] at C11
          rw [← hNS] at HW
          clear hLN hNS HL
          go_wp2_with fail
          have hwn : isW ts[M] wWhen = (ts[M].k == 1 && ts[M].t == wWhen) := rfl
          rcases hww : isW ts[M] wWhen with _ | _
          · rw [hww] at hwn
            refine (is_at _ b g cap M ts 0 0 C11.out.pc hm1 1 wWhen).mono ?_
            rw [← hwn]
            rintro e w12 ⟨rfl, b12⟩
            have C12 : Hid (Rx w b g cap ts M 0 0 r (r + 1) B3 v.k v.a (.slice q2 LN d2') nilS NS [] w12) := C11.out.over b12
            have c3 : w12.cell? ⟨b, 2, none⟩ = some (.int .i64 0) := C12.out.pc.blk.cell 2
            clear b12 C11 c2 hwn
            rcases hsm : isS ts[M] [59] with _ | _
            · have HW2 : Hid (∀ d rs, rs.length + 1 = j → run (.s4 d rs) (ts.drop n) = .error (7, ts[M].at')) := fun d rs hl => (HW.out d rs hl).trans (s7_no hm1 HCM.out hww hsm d rs v NS)
              go_wp2_with fail
              refine (sign_no _ b g cap M ts C12.out.pc hm1 [59] hsm).mono ?_
              rintro e w13 ⟨rfl, b13, P13⟩
              have C13 : Hid (Rx w b g cap ts M (7 : Nat) ts[M].at' r (r + 1) B3 v.k v.a (.slice q2 LN d2') nilS NS [] w13) := C12.out.on b13 P13
              clear b13 P13
              go_wp2_with (first | (refine at_op' (.load 43 (.tmp 6)) rfl ?_; refine wpList_load_row rfl 43 (.tmp 6) rfl r rfl 43 (ruleL v.k v.a (.slice q2 LN d2') nilS).toArray (0, 0) _ C13.out.blk Tryd.underlying43 rfl (ruleL_size _ _ _ _) ?_) | (refine at_op' (.store 43 (.tmp 4) (.tmp 155)) rfl ?_; refine wpList_store_row rfl 43 (.tmp 4) (.tmp 155) rfl w.heap.size (ruleL v.k v.a (.slice q2 LN d2') nilS).toArray rfl rfl 43 _ C13.out.out (ruleL_size _ _ _ _) rfl (ruleL_one (owns_cell C13.out.nm) (owns_cell C13.out.cd)) ?_))
              refine bodyPost_ret (v := .agg (ruleL v.k v.a (.slice q2 LN d2') nilS).toArray) ?_ rfl (C13.out.wrong (by decide) HW2.out)
              exact results_cell_row Tryd.results22 _ _ w.heap.size 43 (ruleL v.k v.a (.slice q2 LN d2') nilS).toArray (0, 0) _ rfl (C13.out.fin (ruleL v.k v.a (.slice q2 LN d2') nilS)).2.2.1 Tryd.underlying43 rfl (ruleL_size _ _ _ _)
            · have hM2 := HE.out M hm1 (isS_4 hsm)
              have HW2 : Hid (∀ d rs, rs.length + 1 = j → run (.s4 d rs) (ts.drop n) = run (.s4 d (rs ++ [⟨v, NS, []⟩])) (ts.drop (M + 1))) := fun d rs hl => (HW.out d rs hl).trans (s7_semi hm1 HCM.out hww hsm d rs v NS)
              go_wp2_with fail
              refine (sign_ok _ b g cap M ts C12.out.pc hm1 [59] hsm).mono ?_
              rintro e w13 ⟨rfl, b13, P13⟩
              have C13 : Hid (Rx w b g cap ts (M + 1) 0 0 r (r + 1) B3 v.k v.a (.slice q2 LN d2') nilS NS [] w13) := C12.out.on b13 P13
              clear b13 P13
              go_wp2_with (first | (refine at_op' (.load 43 (.tmp 6)) rfl ?_; refine wpList_load_row rfl 43 (.tmp 6) rfl r rfl 43 (ruleL v.k v.a (.slice q2 LN d2') nilS).toArray (0, 0) _ C13.out.blk Tryd.underlying43 rfl (ruleL_size _ _ _ _) ?_) | (refine at_op' (.store 43 (.tmp 4) (.tmp 155)) rfl ?_; refine wpList_store_row rfl 43 (.tmp 4) (.tmp 155) rfl w.heap.size (ruleL v.k v.a (.slice q2 LN d2') nilS).toArray rfl rfl 43 _ C13.out.out (ruleL_size _ _ _ _) rfl (ruleL_one (owns_cell C13.out.nm) (owns_cell C13.out.cd)) ?_))
              refine bodyPost_ret (v := .agg (ruleL v.k v.a (.slice q2 LN d2') nilS).toArray) ?_ rfl (C13.out.right hM2 HJ.out HW2.out)
              exact results_cell_row Tryd.results22 _ _ w.heap.size 43 (ruleL v.k v.a (.slice q2 LN d2') nilS).toArray (0, 0) _ rfl (C13.out.fin (ruleL v.k v.a (.slice q2 LN d2') nilS)).2.2.1 Tryd.underlying43 rfl (ruleL_size _ _ _ _)
          · rw [hww] at hwn
            have hM2 := HE.out M hm1 (isW_4 hww)
            refine (is_at _ b g cap M ts 0 0 C11.out.pc hm1 1 wWhen).mono ?_
            rw [← hwn]
            rintro e w12 ⟨rfl, b12⟩
            have C12 : Hid (Rx w b g cap ts M 0 0 r (r + 1) B3 v.k v.a (.slice q2 LN d2') nilS NS [] w12) := C11.out.over b12
            have e1 : w12.cell? ⟨b, 1, none⟩ = some (.int .i64 M) := C12.out.pc.blk.cell 1
            have f1 := C12.out.pc.blk.f 1
            obtain ⟨Z2, hZ2⟩ : ∃ Z, w12.setCell ⟨b, 1, none⟩ (.int .i64 ((M : Int) + 1)) = Z := ⟨_, rfl⟩
            have HZ2 : Hid (w12.setCell ⟨b, 1, none⟩ (.int .i64 ((M : Int) + 1)) = Z2) := hZ2
            have C13 : Hid (Rx w b g cap ts (M + 1) 0 0 r (r + 1) B3 v.k v.a (.slice q2 LN d2') nilS NS [] Z2) := by
              have q := C12.out.next
              rw [hZ2] at q
              exact q
            have HW2 : Hid (∀ d rs, rs.length + 1 = j → run (.s4 d rs) (ts.drop n) = run (.s8 d rs v NS []) (ts.drop (M + 1))) := fun d rs hl => (HW.out d rs hl).trans (s7_when hm1 HCM.out hww d rs v NS)
            clear hZ2 b12 C11 C12 c2 hwn hww HW HCM
            go_wp2_with fail
            rw [HZ2.out]
            clear HZ2 e1 f1
            generalize hMM : M + 1 = M2 at *
            clear hMM
            have HC : Hid (∀ W, Pc W b g cap ts M2 0 0 → Calls Tryd.prog 38 #[.pointer (some ⟨b, 0, none⟩), .int .i64 1] W fun e w' => ∃ a o m v m' c p, e = .returned (.agg #[.int .i64 a, .int .i64 o, .int .u64 m, .int .u64 v]) ∧ Bt b W w' ∧ Pc w' b g cap ts m' c p ∧ CondT 0 ts M2 a o m v m' c p) := fun W hW => cond_any W b g cap M2 ts 0 HE.out hW hM2
            have C14 : Hid (Rx w b g cap ts M2 0 0 r (r + 1) B3 v.k v.a (.slice q2 LN d2') nilS NS [] Z2.drew) := C13.out.over (Below.refl _ _).drew
            go_cut [] (fun wc => L2 w b g cap ts n j r B3 v (.slice q2 LN d2') NS wc)
            case first =>
              refine wp_region_held_drew (S := fun _ => True) (by kernel_rfl) (trivial) (fun hHeld => ?_)
              simp only [List.size_toArray, List.length_cons, List.length_nil, Nat.reduceAdd]
              generalize Z2.drew = X20 at *
              have s4 : X20.cell? ⟨r, 3, none⟩ = some nilS := C14.out.blk.cell 3
              refine wpAnyH_take (i := 0) (v := ?_) rfl (by kernel_rfl) (by kernel_rfl) (by kernel_rfl) (fun _ _ _ h => h) (Or.inl ⟨by rfl, ?_⟩) hHeld ?_
              rotate_left
              · (intro w hSw; (try dsimp only at hSw); go_simp; try with_reducible rfl)
              try simp only [Act.put, List.setIfInBounds_toArray, List.set_cons_zero, List.set_cons_succ, List.getElem_toArray, List.getElem_cons_zero, List.getElem_cons_succ]
              refine wpAnyH_take (i := 2) (v := ?_) rfl (by kernel_rfl) (by kernel_rfl) (by kernel_rfl) (fun _ _ _ h => h) (Or.inl ⟨by rfl, ?_⟩) hHeld ?_
              rotate_left
              · (intro w hSw; (try dsimp only at hSw); go_simp; try with_reducible rfl)
              try simp only [Act.put, List.setIfInBounds_toArray, List.set_cons_zero, List.set_cons_succ, List.getElem_toArray, List.getElem_cons_zero, List.getElem_cons_succ]
              refine wpAnyH_ready (rs := [1, 3]) (by kernel_rfl) (by simp) ?_
              refine (AllReadyH.cons rfl (fun K hK => ?_) (AllReadyH.cons rfl (fun K hK => ?_) AllReadyH.nil))
              ·
                go_simp
                refine hK.out _ _ (trivial) (fun hHeld => ?_)
                clear hK K
                try simp only [Act.put, List.setIfInBounds_toArray, List.set_cons_zero, List.set_cons_succ, List.getElem_toArray, List.getElem_cons_zero, List.getElem_cons_succ]
                refine wpAnyH_ready (rs := [3]) (by kernel_rfl) (by simp) ?_
                refine (AllReadyH.cons rfl (fun K hK => ?_) AllReadyH.nil)
                go_simp
                refine (HC.out _ C14.out.pc).mono ?_
                rintro e w5 ⟨ca, co, cm, cv, m5, cc, cp, rfl, b5, P5, ⟨x5, y5, hcd, rfl, rfl, hx0⟩ | ⟨q5, hcd, hm5, rfl, rfl, rfl, rfl, rfl, rfl⟩⟩
                ·
                  have C5 : Hid (Rx w b g cap ts m5 x5 y5 r (r + 1) B3 v.k v.a (.slice q2 LN d2') nilS NS ([] : List Cd) w5) := C14.out.on b5 P5
                  have HN5 : Hid (∀ d rs, rs.length + 1 = j → run (.s4 d rs) (ts.drop n) = .error (x5, y5)) := fun d rs hl => by rw [HW2.out d rs hl, run_cond, show condD ([] : List Cd).length (ts.drop M2) = _ from hcd]
                  have HM5 : Hid (¬ x5 = 0) := hx0
                  have s5 : w5.cell? ⟨r, 3, none⟩ = some nilS := C5.out.blk.cell 3
                  clear b5 P5 hcd hx0
                  go_wp2_with fail
                  refine hK.out _ _ (trivial) (fun hHeld => ?_)
                  clear hK K
                  try simp only [Act.put, List.setIfInBounds_toArray, List.set_cons_zero, List.set_cons_succ, List.getElem_toArray, List.getElem_cons_zero, List.getElem_cons_succ]
                  refine wpAnyH_ready (rs := [4]) (by kernel_rfl) (by simp) ?_
                  refine (AllReadyH.cons rfl (fun K hK => ?_) AllReadyH.nil)
                  go_simp
                  have hal : Below w5.heap.size w5 (w5.alloc (Obj.cells #[.int .i64 ca, .int .i64 co, .int .u64 cm, .int .u64 cv] 45)) := (Below.refl _ _).alloc (Nat.le_refl _) _
                  have C6 : Hid (Rx w b g cap ts m5 x5 y5 r (r + 1) B3 v.k v.a (.slice q2 LN d2') nilS NS ([] : List Cd) (w5.alloc (Obj.cells #[.int .i64 ca, .int .i64 co, .int .u64 cm, .int .u64 cv] 45))) := C5.out.over hal
                  have s6 : (w5.alloc (Obj.cells #[.int .i64 ca, .int .i64 co, .int .u64 cm, .int .u64 cv] 45)).cell? ⟨r, 3, none⟩ = some nilS := C6.out.blk.cell 3
                  clear hal
                  refine hK.out _ _ (trivial) (fun hHeld => ?_)
                  clear hK K
                  try simp only [Act.put, List.setIfInBounds_toArray, List.set_cons_zero, List.set_cons_succ, List.getElem_toArray, List.getElem_cons_zero, List.getElem_cons_succ]
                  refine wpAnyH_ready (rs := [5]) (by kernel_rfl) (by simp) ?_
                  refine AllReadyH.cons rfl (fun K hK => ?_) AllReadyH.nil
                  refine step_append_cd (by rfl) (.tmp 115) (.tmp 118) (by rfl) B3 _ ([] : List Cd).length (cellsC ([] : List Cd)) (by rfl) C6.out.cd (cdL ca co cm cv) rfl (cdL_one _ _ _ _) ⟨w5.heap.size, 0, none⟩ (by rfl) (cdL_new w5 _ _ _ _) (by decide) C6.out.sz ?_
                  intro v8 w8 ho8 hg8
                  have C8 : Hid (Rw w b g cap ts m5 x5 y5 r v.k v.a (.slice q2 LN d2') v8 (w8.setCell ⟨r, 3, none⟩ v8)) := C6.out.condR ho8 hg8
                  have D8 := C6.out.blk.grown hg8 (fun k e => (by have := owns_block C6.out.cd k e; have := C6.out.l1; have := C6.out.l2; omega))
                  have s8 : w8.cell? ⟨r, 3, none⟩ = some nilS := D8.cell 3
                  have f8 := D8.f 3
                  obtain ⟨p8, c8, hv8⟩ : ∃ p c, v8 = .slice p (([] : List Cd).length + 1) c := by
                    rcases ho8.2 with ⟨_, h0⟩ | ⟨g', c, cur, hv, _⟩
                    · omega
                    · exact ⟨_, c, hv⟩
                  subst hv8
                  clear ho8 hg8 D8
                  refine hK.out _ _ (trivial) (fun hHeld => ?_)
                  clear hK K
                  try simp only [Act.put, List.setIfInBounds_toArray, List.set_cons_zero, List.set_cons_succ, List.getElem_toArray, List.getElem_cons_zero, List.getElem_cons_succ]
                  refine wpAnyH_take (i := 6) (v := ?_) rfl (by kernel_rfl) (by kernel_rfl) (by kernel_rfl) (fun _ _ _ h => h) (Or.inl ⟨by rfl, ?_⟩) hHeld ?_
                  rotate_left
                  · (intro w hSw; (try dsimp only at hSw); go_simp; try with_reducible rfl)
                  try simp only [Act.put, List.setIfInBounds_toArray, List.set_cons_zero, List.set_cons_succ, List.getElem_toArray, List.getElem_cons_zero, List.getElem_cons_succ]
                  refine wpAnyH_ready (rs := [7]) (by kernel_rfl) (by simp) ?_
                  refine AllReadyH.cons rfl (fun K hK => ?_) AllReadyH.nil
                  go_simp
                  refine hK.out _ _ (trivial) (fun hHeld => ?_)
                  clear hK K
                  try simp only [Act.put, List.setIfInBounds_toArray, List.set_cons_zero, List.set_cons_succ, List.getElem_toArray, List.getElem_cons_zero, List.getElem_cons_succ]
                  refine wpAnyH_done (by kernel_rfl) ?_ _
                  clear hHeld s8 f8
                  go_wp2_with fail
                  go_meet
                  exact .inl ⟨x5, y5, m5, _, HM5.out, C8.out, HN5.out⟩
                ·
                  have C5 : Hid (Rx w b g cap ts m5 0 0 r (r + 1) B3 v.k v.a (.slice q2 LN d2') nilS NS ([] : List Cd) w5) := C14.out.on b5 P5
                  have HN5 : Hid (∀ d rs, rs.length + 1 = j → run (.s4 d rs) (ts.drop n) = run (.s13 d rs v NS (([] : List Cd) ++ [q5])) (ts.drop m5)) := fun d rs hl => by rw [HW2.out d rs hl, run_cond, show condD ([] : List Cd).length (ts.drop M2) = _ from hcd]
                  have HM5 : Hid (m5 < ts.length ∧ ([] : List Cd).length < 8) := ⟨hm5, condD_lt hcd⟩
                  have s5 : w5.cell? ⟨r, 3, none⟩ = some nilS := C5.out.blk.cell 3
                  clear b5 P5 hcd hm5
                  go_wp2_with fail
                  refine hK.out _ _ (trivial) (fun hHeld => ?_)
                  clear hK K
                  try simp only [Act.put, List.setIfInBounds_toArray, List.set_cons_zero, List.set_cons_succ, List.getElem_toArray, List.getElem_cons_zero, List.getElem_cons_succ]
                  refine wpAnyH_ready (rs := [4]) (by kernel_rfl) (by simp) ?_
                  refine (AllReadyH.cons rfl (fun K hK => ?_) AllReadyH.nil)
                  go_simp
                  have hal : Below w5.heap.size w5 (w5.alloc (Obj.cells #[.int .i64 q5.arg, .int .i64 q5.op, .int .u64 q5.mask, .int .u64 q5.val] 45)) := (Below.refl _ _).alloc (Nat.le_refl _) _
                  have C6 : Hid (Rx w b g cap ts m5 0 0 r (r + 1) B3 v.k v.a (.slice q2 LN d2') nilS NS ([] : List Cd) (w5.alloc (Obj.cells #[.int .i64 q5.arg, .int .i64 q5.op, .int .u64 q5.mask, .int .u64 q5.val] 45))) := C5.out.over hal
                  have s6 : (w5.alloc (Obj.cells #[.int .i64 q5.arg, .int .i64 q5.op, .int .u64 q5.mask, .int .u64 q5.val] 45)).cell? ⟨r, 3, none⟩ = some nilS := C6.out.blk.cell 3
                  clear hal
                  refine hK.out _ _ (trivial) (fun hHeld => ?_)
                  clear hK K
                  try simp only [Act.put, List.setIfInBounds_toArray, List.set_cons_zero, List.set_cons_succ, List.getElem_toArray, List.getElem_cons_zero, List.getElem_cons_succ]
                  refine wpAnyH_ready (rs := [5]) (by kernel_rfl) (by simp) ?_
                  refine AllReadyH.cons rfl (fun K hK => ?_) AllReadyH.nil
                  refine step_append_cd (by rfl) (.tmp 115) (.tmp 118) (by rfl) B3 _ ([] : List Cd).length (cellsC ([] : List Cd)) (by rfl) C6.out.cd (cdL q5.arg q5.op q5.mask q5.val) rfl (cdL_one _ _ _ _) ⟨w5.heap.size, 0, none⟩ (by rfl) (cdL_new w5 _ _ _ _) (by decide) C6.out.sz ?_
                  intro v8 w8 ho8 hg8
                  have C8 : Hid (Rx w b g cap ts m5 0 0 r (r + 1) B3 v.k v.a (.slice q2 LN d2') v8 NS (([] : List Cd) ++ [q5]) (w8.setCell ⟨r, 3, none⟩ v8)) := C6.out.cond (by rw [← cells_snoc']; exact ho8) hg8
                  have D8 := C6.out.blk.grown hg8 (fun k e => (by have := owns_block C6.out.cd k e; have := C6.out.l1; have := C6.out.l2; omega))
                  have s8 : w8.cell? ⟨r, 3, none⟩ = some nilS := D8.cell 3
                  have f8 := D8.f 3
                  obtain ⟨p8, c8, hv8⟩ : ∃ p c, v8 = .slice p (([] : List Cd).length + 1) c := by
                    rcases ho8.2 with ⟨_, h0⟩ | ⟨g', c, cur, hv, _⟩
                    · omega
                    · exact ⟨_, c, hv⟩
                  subst hv8
                  clear ho8 hg8 D8
                  refine hK.out _ _ (trivial) (fun hHeld => ?_)
                  clear hK K
                  try simp only [Act.put, List.setIfInBounds_toArray, List.set_cons_zero, List.set_cons_succ, List.getElem_toArray, List.getElem_cons_zero, List.getElem_cons_succ]
                  refine wpAnyH_take (i := 6) (v := ?_) rfl (by kernel_rfl) (by kernel_rfl) (by kernel_rfl) (fun _ _ _ h => h) (Or.inl ⟨by rfl, ?_⟩) hHeld ?_
                  rotate_left
                  · (intro w hSw; (try dsimp only at hSw); go_simp; try with_reducible rfl)
                  try simp only [Act.put, List.setIfInBounds_toArray, List.set_cons_zero, List.set_cons_succ, List.getElem_toArray, List.getElem_cons_zero, List.getElem_cons_succ]
                  refine wpAnyH_ready (rs := [7]) (by kernel_rfl) (by simp) ?_
                  refine AllReadyH.cons rfl (fun K hK => ?_) AllReadyH.nil
                  go_simp
                  refine hK.out _ _ (trivial) (fun hHeld => ?_)
                  clear hK K
                  try simp only [Act.put, List.setIfInBounds_toArray, List.set_cons_zero, List.set_cons_succ, List.getElem_toArray, List.getElem_cons_zero, List.getElem_cons_succ]
                  refine wpAnyH_done (by kernel_rfl) ?_ _
                  clear hHeld s8 f8
                  go_wp2_with fail
                  go_meet
                  exact .inr ⟨m5, _, _, C8.out, HM5.out.1, by simp, HN5.out⟩
              ·
                go_simp
                refine (HC.out _ C14.out.pc).mono ?_
                rintro e w5 ⟨ca, co, cm, cv, m5, cc, cp, rfl, b5, P5, ⟨x5, y5, hcd, rfl, rfl, hx0⟩ | ⟨q5, hcd, hm5, rfl, rfl, rfl, rfl, rfl, rfl⟩⟩
                ·
                  have C5 : Hid (Rx w b g cap ts m5 x5 y5 r (r + 1) B3 v.k v.a (.slice q2 LN d2') nilS NS ([] : List Cd) w5) := C14.out.on b5 P5
                  have HN5 : Hid (∀ d rs, rs.length + 1 = j → run (.s4 d rs) (ts.drop n) = .error (x5, y5)) := fun d rs hl => by rw [HW2.out d rs hl, run_cond, show condD ([] : List Cd).length (ts.drop M2) = _ from hcd]
                  have HM5 : Hid (¬ x5 = 0) := hx0
                  have s5 : w5.cell? ⟨r, 3, none⟩ = some nilS := C5.out.blk.cell 3
                  clear b5 P5 hcd hx0
                  go_wp2_with fail
                  refine hK.out _ _ (trivial) (fun hHeld => ?_)
                  clear hK K
                  try simp only [Act.put, List.setIfInBounds_toArray, List.set_cons_zero, List.set_cons_succ, List.getElem_toArray, List.getElem_cons_zero, List.getElem_cons_succ]
                  refine wpAnyH_ready (rs := [1, 4]) (by kernel_rfl) (by simp) ?_
                  refine (AllReadyH.cons rfl (fun K hK => ?_) (AllReadyH.cons rfl (fun K hK => ?_) AllReadyH.nil))
                  ·
                    go_simp
                    refine hK.out _ _ (trivial) (fun hHeld => ?_)
                    clear hK K
                    try simp only [Act.put, List.setIfInBounds_toArray, List.set_cons_zero, List.set_cons_succ, List.getElem_toArray, List.getElem_cons_zero, List.getElem_cons_succ]
                    refine wpAnyH_ready (rs := [4]) (by kernel_rfl) (by simp) ?_
                    refine (AllReadyH.cons rfl (fun K hK => ?_) AllReadyH.nil)
                    go_simp
                    have hal : Below w5.heap.size w5 (w5.alloc (Obj.cells #[.int .i64 ca, .int .i64 co, .int .u64 cm, .int .u64 cv] 45)) := (Below.refl _ _).alloc (Nat.le_refl _) _
                    have C6 : Hid (Rx w b g cap ts m5 x5 y5 r (r + 1) B3 v.k v.a (.slice q2 LN d2') nilS NS ([] : List Cd) (w5.alloc (Obj.cells #[.int .i64 ca, .int .i64 co, .int .u64 cm, .int .u64 cv] 45))) := C5.out.over hal
                    have s6 : (w5.alloc (Obj.cells #[.int .i64 ca, .int .i64 co, .int .u64 cm, .int .u64 cv] 45)).cell? ⟨r, 3, none⟩ = some nilS := C6.out.blk.cell 3
                    clear hal
                    refine hK.out _ _ (trivial) (fun hHeld => ?_)
                    clear hK K
                    try simp only [Act.put, List.setIfInBounds_toArray, List.set_cons_zero, List.set_cons_succ, List.getElem_toArray, List.getElem_cons_zero, List.getElem_cons_succ]
                    refine wpAnyH_ready (rs := [5]) (by kernel_rfl) (by simp) ?_
                    refine AllReadyH.cons rfl (fun K hK => ?_) AllReadyH.nil
                    refine step_append_cd (by rfl) (.tmp 115) (.tmp 118) (by rfl) B3 _ ([] : List Cd).length (cellsC ([] : List Cd)) (by rfl) C6.out.cd (cdL ca co cm cv) rfl (cdL_one _ _ _ _) ⟨w5.heap.size, 0, none⟩ (by rfl) (cdL_new w5 _ _ _ _) (by decide) C6.out.sz ?_
                    intro v8 w8 ho8 hg8
                    have C8 : Hid (Rw w b g cap ts m5 x5 y5 r v.k v.a (.slice q2 LN d2') v8 (w8.setCell ⟨r, 3, none⟩ v8)) := C6.out.condR ho8 hg8
                    have D8 := C6.out.blk.grown hg8 (fun k e => (by have := owns_block C6.out.cd k e; have := C6.out.l1; have := C6.out.l2; omega))
                    have s8 : w8.cell? ⟨r, 3, none⟩ = some nilS := D8.cell 3
                    have f8 := D8.f 3
                    obtain ⟨p8, c8, hv8⟩ : ∃ p c, v8 = .slice p (([] : List Cd).length + 1) c := by
                      rcases ho8.2 with ⟨_, h0⟩ | ⟨g', c, cur, hv, _⟩
                      · omega
                      · exact ⟨_, c, hv⟩
                    subst hv8
                    clear ho8 hg8 D8
                    refine hK.out _ _ (trivial) (fun hHeld => ?_)
                    clear hK K
                    try simp only [Act.put, List.setIfInBounds_toArray, List.set_cons_zero, List.set_cons_succ, List.getElem_toArray, List.getElem_cons_zero, List.getElem_cons_succ]
                    refine wpAnyH_take (i := 6) (v := ?_) rfl (by kernel_rfl) (by kernel_rfl) (by kernel_rfl) (fun _ _ _ h => h) (Or.inl ⟨by rfl, ?_⟩) hHeld ?_
                    rotate_left
                    · (intro w hSw; (try dsimp only at hSw); go_simp; try with_reducible rfl)
                    try simp only [Act.put, List.setIfInBounds_toArray, List.set_cons_zero, List.set_cons_succ, List.getElem_toArray, List.getElem_cons_zero, List.getElem_cons_succ]
                    refine wpAnyH_ready (rs := [7]) (by kernel_rfl) (by simp) ?_
                    refine AllReadyH.cons rfl (fun K hK => ?_) AllReadyH.nil
                    go_simp
                    refine hK.out _ _ (trivial) (fun hHeld => ?_)
                    clear hK K
                    try simp only [Act.put, List.setIfInBounds_toArray, List.set_cons_zero, List.set_cons_succ, List.getElem_toArray, List.getElem_cons_zero, List.getElem_cons_succ]
                    refine wpAnyH_done (by kernel_rfl) ?_ _
                    clear hHeld s8 f8
                    go_wp2_with fail
                    go_meet
                    exact .inl ⟨x5, y5, m5, _, HM5.out, C8.out, HN5.out⟩
                  ·
                    go_simp
                    have hal : Below w5.heap.size w5 (w5.alloc (Obj.cells #[.int .i64 ca, .int .i64 co, .int .u64 cm, .int .u64 cv] 45)) := (Below.refl _ _).alloc (Nat.le_refl _) _
                    have C6 : Hid (Rx w b g cap ts m5 x5 y5 r (r + 1) B3 v.k v.a (.slice q2 LN d2') nilS NS ([] : List Cd) (w5.alloc (Obj.cells #[.int .i64 ca, .int .i64 co, .int .u64 cm, .int .u64 cv] 45))) := C5.out.over hal
                    have s6 : (w5.alloc (Obj.cells #[.int .i64 ca, .int .i64 co, .int .u64 cm, .int .u64 cv] 45)).cell? ⟨r, 3, none⟩ = some nilS := C6.out.blk.cell 3
                    clear hal
                    refine hK.out _ _ (trivial) (fun hHeld => ?_)
                    clear hK K
                    try simp only [Act.put, List.setIfInBounds_toArray, List.set_cons_zero, List.set_cons_succ, List.getElem_toArray, List.getElem_cons_zero, List.getElem_cons_succ]
                    refine wpAnyH_ready (rs := [1]) (by kernel_rfl) (by simp) ?_
                    refine (AllReadyH.cons rfl (fun K hK => ?_) AllReadyH.nil)
                    go_simp
                    refine hK.out _ _ (trivial) (fun hHeld => ?_)
                    clear hK K
                    try simp only [Act.put, List.setIfInBounds_toArray, List.set_cons_zero, List.set_cons_succ, List.getElem_toArray, List.getElem_cons_zero, List.getElem_cons_succ]
                    refine wpAnyH_ready (rs := [5]) (by kernel_rfl) (by simp) ?_
                    refine AllReadyH.cons rfl (fun K hK => ?_) AllReadyH.nil
                    refine step_append_cd (by rfl) (.tmp 115) (.tmp 118) (by rfl) B3 _ ([] : List Cd).length (cellsC ([] : List Cd)) (by rfl) C6.out.cd (cdL ca co cm cv) rfl (cdL_one _ _ _ _) ⟨w5.heap.size, 0, none⟩ (by rfl) (cdL_new w5 _ _ _ _) (by decide) C6.out.sz ?_
                    intro v8 w8 ho8 hg8
                    have C8 : Hid (Rw w b g cap ts m5 x5 y5 r v.k v.a (.slice q2 LN d2') v8 (w8.setCell ⟨r, 3, none⟩ v8)) := C6.out.condR ho8 hg8
                    have D8 := C6.out.blk.grown hg8 (fun k e => (by have := owns_block C6.out.cd k e; have := C6.out.l1; have := C6.out.l2; omega))
                    have s8 : w8.cell? ⟨r, 3, none⟩ = some nilS := D8.cell 3
                    have f8 := D8.f 3
                    obtain ⟨p8, c8, hv8⟩ : ∃ p c, v8 = .slice p (([] : List Cd).length + 1) c := by
                      rcases ho8.2 with ⟨_, h0⟩ | ⟨g', c, cur, hv, _⟩
                      · omega
                      · exact ⟨_, c, hv⟩
                    subst hv8
                    clear ho8 hg8 D8
                    refine hK.out _ _ (trivial) (fun hHeld => ?_)
                    clear hK K
                    try simp only [Act.put, List.setIfInBounds_toArray, List.set_cons_zero, List.set_cons_succ, List.getElem_toArray, List.getElem_cons_zero, List.getElem_cons_succ]
                    refine wpAnyH_take (i := 6) (v := ?_) rfl (by kernel_rfl) (by kernel_rfl) (by kernel_rfl) (fun _ _ _ h => h) (Or.inl ⟨by rfl, ?_⟩) hHeld ?_
                    rotate_left
                    · (intro w hSw; (try dsimp only at hSw); go_simp; try with_reducible rfl)
                    try simp only [Act.put, List.setIfInBounds_toArray, List.set_cons_zero, List.set_cons_succ, List.getElem_toArray, List.getElem_cons_zero, List.getElem_cons_succ]
                    refine wpAnyH_ready (rs := [7]) (by kernel_rfl) (by simp) ?_
                    refine AllReadyH.cons rfl (fun K hK => ?_) AllReadyH.nil
                    go_simp
                    refine hK.out _ _ (trivial) (fun hHeld => ?_)
                    clear hK K
                    try simp only [Act.put, List.setIfInBounds_toArray, List.set_cons_zero, List.set_cons_succ, List.getElem_toArray, List.getElem_cons_zero, List.getElem_cons_succ]
                    refine wpAnyH_done (by kernel_rfl) ?_ _
                    clear hHeld s8 f8
                    go_wp2_with fail
                    go_meet
                    exact .inl ⟨x5, y5, m5, _, HM5.out, C8.out, HN5.out⟩
                ·
                  have C5 : Hid (Rx w b g cap ts m5 0 0 r (r + 1) B3 v.k v.a (.slice q2 LN d2') nilS NS ([] : List Cd) w5) := C14.out.on b5 P5
                  have HN5 : Hid (∀ d rs, rs.length + 1 = j → run (.s4 d rs) (ts.drop n) = run (.s13 d rs v NS (([] : List Cd) ++ [q5])) (ts.drop m5)) := fun d rs hl => by rw [HW2.out d rs hl, run_cond, show condD ([] : List Cd).length (ts.drop M2) = _ from hcd]
                  have HM5 : Hid (m5 < ts.length ∧ ([] : List Cd).length < 8) := ⟨hm5, condD_lt hcd⟩
                  have s5 : w5.cell? ⟨r, 3, none⟩ = some nilS := C5.out.blk.cell 3
                  clear b5 P5 hcd hm5
                  go_wp2_with fail
                  refine hK.out _ _ (trivial) (fun hHeld => ?_)
                  clear hK K
                  try simp only [Act.put, List.setIfInBounds_toArray, List.set_cons_zero, List.set_cons_succ, List.getElem_toArray, List.getElem_cons_zero, List.getElem_cons_succ]
                  refine wpAnyH_ready (rs := [1, 4]) (by kernel_rfl) (by simp) ?_
                  refine (AllReadyH.cons rfl (fun K hK => ?_) (AllReadyH.cons rfl (fun K hK => ?_) AllReadyH.nil))
                  ·
                    go_simp
                    refine hK.out _ _ (trivial) (fun hHeld => ?_)
                    clear hK K
                    try simp only [Act.put, List.setIfInBounds_toArray, List.set_cons_zero, List.set_cons_succ, List.getElem_toArray, List.getElem_cons_zero, List.getElem_cons_succ]
                    refine wpAnyH_ready (rs := [4]) (by kernel_rfl) (by simp) ?_
                    refine (AllReadyH.cons rfl (fun K hK => ?_) AllReadyH.nil)
                    go_simp
                    have hal : Below w5.heap.size w5 (w5.alloc (Obj.cells #[.int .i64 q5.arg, .int .i64 q5.op, .int .u64 q5.mask, .int .u64 q5.val] 45)) := (Below.refl _ _).alloc (Nat.le_refl _) _
                    have C6 : Hid (Rx w b g cap ts m5 0 0 r (r + 1) B3 v.k v.a (.slice q2 LN d2') nilS NS ([] : List Cd) (w5.alloc (Obj.cells #[.int .i64 q5.arg, .int .i64 q5.op, .int .u64 q5.mask, .int .u64 q5.val] 45))) := C5.out.over hal
                    have s6 : (w5.alloc (Obj.cells #[.int .i64 q5.arg, .int .i64 q5.op, .int .u64 q5.mask, .int .u64 q5.val] 45)).cell? ⟨r, 3, none⟩ = some nilS := C6.out.blk.cell 3
                    clear hal
                    refine hK.out _ _ (trivial) (fun hHeld => ?_)
                    clear hK K
                    try simp only [Act.put, List.setIfInBounds_toArray, List.set_cons_zero, List.set_cons_succ, List.getElem_toArray, List.getElem_cons_zero, List.getElem_cons_succ]
                    refine wpAnyH_ready (rs := [5]) (by kernel_rfl) (by simp) ?_
                    refine AllReadyH.cons rfl (fun K hK => ?_) AllReadyH.nil
                    refine step_append_cd (by rfl) (.tmp 115) (.tmp 118) (by rfl) B3 _ ([] : List Cd).length (cellsC ([] : List Cd)) (by rfl) C6.out.cd (cdL q5.arg q5.op q5.mask q5.val) rfl (cdL_one _ _ _ _) ⟨w5.heap.size, 0, none⟩ (by rfl) (cdL_new w5 _ _ _ _) (by decide) C6.out.sz ?_
                    intro v8 w8 ho8 hg8
                    have C8 : Hid (Rx w b g cap ts m5 0 0 r (r + 1) B3 v.k v.a (.slice q2 LN d2') v8 NS (([] : List Cd) ++ [q5]) (w8.setCell ⟨r, 3, none⟩ v8)) := C6.out.cond (by rw [← cells_snoc']; exact ho8) hg8
                    have D8 := C6.out.blk.grown hg8 (fun k e => (by have := owns_block C6.out.cd k e; have := C6.out.l1; have := C6.out.l2; omega))
                    have s8 : w8.cell? ⟨r, 3, none⟩ = some nilS := D8.cell 3
                    have f8 := D8.f 3
                    obtain ⟨p8, c8, hv8⟩ : ∃ p c, v8 = .slice p (([] : List Cd).length + 1) c := by
                      rcases ho8.2 with ⟨_, h0⟩ | ⟨g', c, cur, hv, _⟩
                      · omega
                      · exact ⟨_, c, hv⟩
                    subst hv8
                    clear ho8 hg8 D8
                    refine hK.out _ _ (trivial) (fun hHeld => ?_)
                    clear hK K
                    try simp only [Act.put, List.setIfInBounds_toArray, List.set_cons_zero, List.set_cons_succ, List.getElem_toArray, List.getElem_cons_zero, List.getElem_cons_succ]
                    refine wpAnyH_take (i := 6) (v := ?_) rfl (by kernel_rfl) (by kernel_rfl) (by kernel_rfl) (fun _ _ _ h => h) (Or.inl ⟨by rfl, ?_⟩) hHeld ?_
                    rotate_left
                    · (intro w hSw; (try dsimp only at hSw); go_simp; try with_reducible rfl)
                    try simp only [Act.put, List.setIfInBounds_toArray, List.set_cons_zero, List.set_cons_succ, List.getElem_toArray, List.getElem_cons_zero, List.getElem_cons_succ]
                    refine wpAnyH_ready (rs := [7]) (by kernel_rfl) (by simp) ?_
                    refine AllReadyH.cons rfl (fun K hK => ?_) AllReadyH.nil
                    go_simp
                    refine hK.out _ _ (trivial) (fun hHeld => ?_)
                    clear hK K
                    try simp only [Act.put, List.setIfInBounds_toArray, List.set_cons_zero, List.set_cons_succ, List.getElem_toArray, List.getElem_cons_zero, List.getElem_cons_succ]
                    refine wpAnyH_done (by kernel_rfl) ?_ _
                    clear hHeld s8 f8
                    go_wp2_with fail
                    go_meet
                    exact .inr ⟨m5, _, _, C8.out, HM5.out.1, by simp, HN5.out⟩
                  ·
                    go_simp
                    have hal : Below w5.heap.size w5 (w5.alloc (Obj.cells #[.int .i64 q5.arg, .int .i64 q5.op, .int .u64 q5.mask, .int .u64 q5.val] 45)) := (Below.refl _ _).alloc (Nat.le_refl _) _
                    have C6 : Hid (Rx w b g cap ts m5 0 0 r (r + 1) B3 v.k v.a (.slice q2 LN d2') nilS NS ([] : List Cd) (w5.alloc (Obj.cells #[.int .i64 q5.arg, .int .i64 q5.op, .int .u64 q5.mask, .int .u64 q5.val] 45))) := C5.out.over hal
                    have s6 : (w5.alloc (Obj.cells #[.int .i64 q5.arg, .int .i64 q5.op, .int .u64 q5.mask, .int .u64 q5.val] 45)).cell? ⟨r, 3, none⟩ = some nilS := C6.out.blk.cell 3
                    clear hal
                    refine hK.out _ _ (trivial) (fun hHeld => ?_)
                    clear hK K
                    try simp only [Act.put, List.setIfInBounds_toArray, List.set_cons_zero, List.set_cons_succ, List.getElem_toArray, List.getElem_cons_zero, List.getElem_cons_succ]
                    refine wpAnyH_ready (rs := [1]) (by kernel_rfl) (by simp) ?_
                    refine (AllReadyH.cons rfl (fun K hK => ?_) AllReadyH.nil)
                    go_simp
                    refine hK.out _ _ (trivial) (fun hHeld => ?_)
                    clear hK K
                    try simp only [Act.put, List.setIfInBounds_toArray, List.set_cons_zero, List.set_cons_succ, List.getElem_toArray, List.getElem_cons_zero, List.getElem_cons_succ]
                    refine wpAnyH_ready (rs := [5]) (by kernel_rfl) (by simp) ?_
                    refine AllReadyH.cons rfl (fun K hK => ?_) AllReadyH.nil
                    refine step_append_cd (by rfl) (.tmp 115) (.tmp 118) (by rfl) B3 _ ([] : List Cd).length (cellsC ([] : List Cd)) (by rfl) C6.out.cd (cdL q5.arg q5.op q5.mask q5.val) rfl (cdL_one _ _ _ _) ⟨w5.heap.size, 0, none⟩ (by rfl) (cdL_new w5 _ _ _ _) (by decide) C6.out.sz ?_
                    intro v8 w8 ho8 hg8
                    have C8 : Hid (Rx w b g cap ts m5 0 0 r (r + 1) B3 v.k v.a (.slice q2 LN d2') v8 NS (([] : List Cd) ++ [q5]) (w8.setCell ⟨r, 3, none⟩ v8)) := C6.out.cond (by rw [← cells_snoc']; exact ho8) hg8
                    have D8 := C6.out.blk.grown hg8 (fun k e => (by have := owns_block C6.out.cd k e; have := C6.out.l1; have := C6.out.l2; omega))
                    have s8 : w8.cell? ⟨r, 3, none⟩ = some nilS := D8.cell 3
                    have f8 := D8.f 3
                    obtain ⟨p8, c8, hv8⟩ : ∃ p c, v8 = .slice p (([] : List Cd).length + 1) c := by
                      rcases ho8.2 with ⟨_, h0⟩ | ⟨g', c, cur, hv, _⟩
                      · omega
                      · exact ⟨_, c, hv⟩
                    subst hv8
                    clear ho8 hg8 D8
                    refine hK.out _ _ (trivial) (fun hHeld => ?_)
                    clear hK K
                    try simp only [Act.put, List.setIfInBounds_toArray, List.set_cons_zero, List.set_cons_succ, List.getElem_toArray, List.getElem_cons_zero, List.getElem_cons_succ]
                    refine wpAnyH_take (i := 6) (v := ?_) rfl (by kernel_rfl) (by kernel_rfl) (by kernel_rfl) (fun _ _ _ h => h) (Or.inl ⟨by rfl, ?_⟩) hHeld ?_
                    rotate_left
                    · (intro w hSw; (try dsimp only at hSw); go_simp; try with_reducible rfl)
                    try simp only [Act.put, List.setIfInBounds_toArray, List.set_cons_zero, List.set_cons_succ, List.getElem_toArray, List.getElem_cons_zero, List.getElem_cons_succ]
                    refine wpAnyH_ready (rs := [7]) (by kernel_rfl) (by simp) ?_
                    refine AllReadyH.cons rfl (fun K hK => ?_) AllReadyH.nil
                    go_simp
                    refine hK.out _ _ (trivial) (fun hHeld => ?_)
                    clear hK K
                    try simp only [Act.put, List.setIfInBounds_toArray, List.set_cons_zero, List.set_cons_succ, List.getElem_toArray, List.getElem_cons_zero, List.getElem_cons_succ]
                    refine wpAnyH_done (by kernel_rfl) ?_ _
                    clear hHeld s8 f8
                    go_wp2_with fail
                    go_meet
                    exact .inr ⟨m5, _, _, C8.out, HM5.out.1, by simp, HN5.out⟩
            case rest =>
              have HCUT : Hid (L2 w b g cap ts n j r B3 v (.slice q2 LN d2') NS wc) := hcut
              clear hcut C14 C13 HC HW2 hM2
              go_wp2_with fail
              go_loopw [121] (fun _ wr => L2 w b g cap ts n j r B3 v (.slice q2 LN d2') NS wr) (fun _ wr => 10 - lenC wr r)
              case atStart => exact HCUT.out
              case round =>
                clear HCUT
                obtain ⟨x, y, m, vc, hx, hR, hrun⟩ | ⟨m, vc, cs, hM, hm, hcs, hrun⟩ := hrel
                · have A0 : Hid (Rw w b g cap ts m x y r v.k v.a (.slice q2 LN d2') vc wr) := hR
                  have HX : Hid (¬ x = 0) := hx
                  have HWR : Hid (∀ d rs, rs.length + 1 = j → run (.s4 d rs) (ts.drop n) = .error (x, y)) := hrun
                  have c2 : wr.cell? ⟨b, 2, none⟩ = some (.int .i64 x) := A0.out.pc.blk.cell 2
                  have hx1 : ((x : Int) == 0) = false := by rw [beq_eq_false_iff_ne]; omega
                  have hx2 : ¬ (x : Int) = 0 := by omega
                  clear hR hx hrun
                  go_wp2_with (first | (refine at_op' (.load 43 (.tmp 6)) rfl ?_; refine wpList_load_row rfl 43 (.tmp 6) rfl r rfl 43 (ruleL v.k v.a (.slice q2 LN d2') vc).toArray (0, 0) _ A0.out.blk Tryd.underlying43 rfl (ruleL_size _ _ _ _) ?_) | (refine at_op' (.store 43 (.tmp 4) (.tmp 155)) rfl ?_; refine wpList_store_row rfl 43 (.tmp 4) (.tmp 155) rfl w.heap.size (ruleL v.k v.a (.slice q2 LN d2') vc).toArray rfl rfl 43 _ A0.out.out (ruleL_size _ _ _ _) rfl (ruleL_one A0.out.on A0.out.oc) ?_))
                  refine bodyPost_ret (v := .agg (ruleL v.k v.a (.slice q2 LN d2') vc).toArray) ?_ rfl (A0.out.wrong HX.out HWR.out).1
                  exact results_cell_row Tryd.results22 _ _ w.heap.size 43 (ruleL v.k v.a (.slice q2 LN d2') vc).toArray (0, 0) _ rfl (A0.out.wrong HX.out HWR.out).2 Tryd.underlying43 rfl (ruleL_size _ _ _ _)
                · obtain ⟨qc, dc, rfl⟩ := hM.slC
                  have C15 : Hid (Rx w b g cap ts m 0 0 r (r + 1) B3 v.k v.a (.slice q2 LN d2') (.slice qc cs.length dc) NS cs wr) := hM
                  have HW2 : Hid (∀ d rs, rs.length + 1 = j → run (.s4 d rs) (ts.drop n) = run (.s13 d rs v NS cs) (ts.drop m)) := hrun
                  have c2 : wr.cell? ⟨b, 2, none⟩ = some (.int .i64 0) := C15.out.pc.blk.cell 2
                  have HLC : Hid (lenC wr r = cs.length) := by
                    show _ = _
                    unfold lenC
                    rw [hM.blk.cell 3]
                    rfl
                  have hmi : (m : Int) ≤ 100000 := by have := hM.pc.len; omega
                  clear hM hrun
                  rcases hww : isW ts[m] wAnd with _ | _
                  · have HWN : Hid ((ts[m].k == 1 && ts[m].t == wAnd) = false) := hww
                    go_wp2_with fail
                    refine (is_at _ b g cap m ts 0 0 C15.out.pc hm 1 wAnd).mono ?_
                    rw [HWN.out]
                    rintro e w16 ⟨rfl, b16⟩
                    have C16 : Hid (Rx w b g cap ts m 0 0 r (r + 1) B3 v.k v.a (.slice q2 LN d2') (.slice qc cs.length dc) NS cs w16) := C15.out.over b16
                    have c3 : w16.cell? ⟨b, 2, none⟩ = some (.int .i64 0) := C16.out.pc.blk.cell 2
                    clear b16 C15 c2 HWN
                    rcases hsm : isS ts[m] [59] with _ | _
                    · have HW3 : Hid (∀ d rs, rs.length + 1 = j → run (.s4 d rs) (ts.drop n) = .error (7, ts[m].at')) := fun d rs hl => (HW2.out d rs hl).trans (s13_no hm hww hsm d rs v NS cs)
                      go_wp2_with fail
                      refine (sign_no _ b g cap m ts C16.out.pc hm [59] hsm).mono ?_
                      rintro e w17 ⟨rfl, b17, P17⟩
                      have C17 : Hid (Rx w b g cap ts m (7 : Nat) ts[m].at' r (r + 1) B3 v.k v.a (.slice q2 LN d2') (.slice qc cs.length dc) NS cs w17) := C16.out.on b17 P17
                      clear b17 P17
                      go_wp2_with (first | (refine at_op' (.load 43 (.tmp 6)) rfl ?_; refine wpList_load_row rfl 43 (.tmp 6) rfl r rfl 43 (ruleL v.k v.a (.slice q2 LN d2') (.slice qc cs.length dc)).toArray (0, 0) _ C17.out.blk Tryd.underlying43 rfl (ruleL_size _ _ _ _) ?_) | (refine at_op' (.store 43 (.tmp 4) (.tmp 155)) rfl ?_; refine wpList_store_row rfl 43 (.tmp 4) (.tmp 155) rfl w.heap.size (ruleL v.k v.a (.slice q2 LN d2') (.slice qc cs.length dc)).toArray rfl rfl 43 _ C17.out.out (ruleL_size _ _ _ _) rfl (ruleL_one (owns_cell C17.out.nm) (owns_cell C17.out.cd)) ?_))
                      refine bodyPost_ret (v := .agg (ruleL v.k v.a (.slice q2 LN d2') (.slice qc cs.length dc)).toArray) ?_ rfl (C17.out.wrong (by decide) HW3.out)
                      exact results_cell_row Tryd.results22 _ _ w.heap.size 43 (ruleL v.k v.a (.slice q2 LN d2') (.slice qc cs.length dc)).toArray (0, 0) _ rfl (C17.out.fin (ruleL v.k v.a (.slice q2 LN d2') (.slice qc cs.length dc))).2.2.1 Tryd.underlying43 rfl (ruleL_size _ _ _ _)
                    · have hm2' := HE.out m hm (isS_4 hsm)
                      have HW3 : Hid (∀ d rs, rs.length + 1 = j → run (.s4 d rs) (ts.drop n) = run (.s4 d (rs ++ [⟨v, NS, cs⟩])) (ts.drop (m + 1))) := fun d rs hl => (HW2.out d rs hl).trans (s13_semi hm hww hsm d rs v NS cs)
                      go_wp2_with fail
                      refine (sign_ok _ b g cap m ts C16.out.pc hm [59] hsm).mono ?_
                      rintro e w17 ⟨rfl, b17, P17⟩
                      have C17 : Hid (Rx w b g cap ts (m + 1) 0 0 r (r + 1) B3 v.k v.a (.slice q2 LN d2') (.slice qc cs.length dc) NS cs w17) := C16.out.on b17 P17
                      clear b17 P17
                      go_wp2_with (first | (refine at_op' (.load 43 (.tmp 6)) rfl ?_; refine wpList_load_row rfl 43 (.tmp 6) rfl r rfl 43 (ruleL v.k v.a (.slice q2 LN d2') (.slice qc cs.length dc)).toArray (0, 0) _ C17.out.blk Tryd.underlying43 rfl (ruleL_size _ _ _ _) ?_) | (refine at_op' (.store 43 (.tmp 4) (.tmp 155)) rfl ?_; refine wpList_store_row rfl 43 (.tmp 4) (.tmp 155) rfl w.heap.size (ruleL v.k v.a (.slice q2 LN d2') (.slice qc cs.length dc)).toArray rfl rfl 43 _ C17.out.out (ruleL_size _ _ _ _) rfl (ruleL_one (owns_cell C17.out.nm) (owns_cell C17.out.cd)) ?_))
                      refine bodyPost_ret (v := .agg (ruleL v.k v.a (.slice q2 LN d2') (.slice qc cs.length dc)).toArray) ?_ rfl (C17.out.right hm2' HJ.out HW3.out)
                      exact results_cell_row Tryd.results22 _ _ w.heap.size 43 (ruleL v.k v.a (.slice q2 LN d2') (.slice qc cs.length dc)).toArray (0, 0) _ rfl (C17.out.fin (ruleL v.k v.a (.slice q2 LN d2') (.slice qc cs.length dc))).2.2.1 Tryd.underlying43 rfl (ruleL_size _ _ _ _)
                  · have HWN : Hid ((ts[m].k == 1 && ts[m].t == wAnd) = true) := hww
                    have hm2' := HE.out m hm (isW_4 hww)
                    go_wp2_with fail
                    refine (is_at _ b g cap m ts 0 0 C15.out.pc hm 1 wAnd).mono ?_
                    rw [HWN.out]
                    rintro e w16 ⟨rfl, b16⟩
                    have C16 : Hid (Rx w b g cap ts m 0 0 r (r + 1) B3 v.k v.a (.slice q2 LN d2') (.slice qc cs.length dc) NS cs w16) := C15.out.over b16
                    have e1 : w16.cell? ⟨b, 1, none⟩ = some (.int .i64 m) := C16.out.pc.blk.cell 1
                    have f1 := C16.out.pc.blk.f 1
                    obtain ⟨Z3, hZ3⟩ : ∃ Z, w16.setCell ⟨b, 1, none⟩ (.int .i64 ((m : Int) + 1)) = Z := ⟨_, rfl⟩
                    have HZ3 : Hid (w16.setCell ⟨b, 1, none⟩ (.int .i64 ((m : Int) + 1)) = Z3) := hZ3
                    have C17 : Hid (Rx w b g cap ts (m + 1) 0 0 r (r + 1) B3 v.k v.a (.slice q2 LN d2') (.slice qc cs.length dc) NS cs Z3) := by
                      have q := C16.out.next
                      rw [hZ3] at q
                      exact q
                    have HW3 : Hid (∀ d rs, rs.length + 1 = j → run (.s4 d rs) (ts.drop n) = run (.s8 d rs v NS cs) (ts.drop (m + 1))) := fun d rs hl => (HW2.out d rs hl).trans (s13_and hm hww d rs v NS cs)
                    clear hZ3 b16 C15 C16 c2 HWN hww HW2
                    go_wp2_with fail
                    rw [HZ3.out]
                    clear HZ3 e1 f1
                    generalize hMM : m + 1 = M3 at *
                    clear hMM
                    have HC : Hid (∀ W (z : Int), z = (cs.length : Int) + 1 → Pc W b g cap ts M3 0 0 → Calls Tryd.prog 38 #[.pointer (some ⟨b, 0, none⟩), .int .i64 z] W fun e w' => ∃ a o m v m' c p, e = .returned (.agg #[.int .i64 a, .int .i64 o, .int .u64 m, .int .u64 v]) ∧ Bt b W w' ∧ Pc w' b g cap ts m' c p ∧ CondT cs.length ts M3 a o m v m' c p) := fun W z hz hW => by subst hz; exact cond_any W b g cap M3 ts cs.length HE.out hW hm2'
                    have C18 : Hid (Rx w b g cap ts M3 0 0 r (r + 1) B3 v.k v.a (.slice q2 LN d2') (.slice qc cs.length dc) NS cs Z3.drew) := C17.out.over (Below.refl _ _).drew
                    have hcsI : (cs.length : Int) ≤ 8 := by omega
                    refine wp_region_held_drew (S := fun _ => True) (by kernel_rfl) (trivial) (fun hHeld => ?_)
                    simp only [List.size_toArray, List.length_cons, List.length_nil, Nat.reduceAdd]
                    generalize Z3.drew = X23 at *
                    have s4 : X23.cell? ⟨r, 3, none⟩ = some (.slice qc cs.length dc) := C18.out.blk.cell 3
                    refine wpAnyH_take (i := 0) (v := ?_) rfl (by kernel_rfl) (by kernel_rfl) (by kernel_rfl) (fun _ _ _ h => h) (Or.inl ⟨by rfl, ?_⟩) hHeld ?_
                    rotate_left
                    · (intro w hSw; (try dsimp only at hSw); go_simp; try with_reducible rfl)
                    try simp only [Act.put, List.setIfInBounds_toArray, List.set_cons_zero, List.set_cons_succ, List.getElem_toArray, List.getElem_cons_zero, List.getElem_cons_succ]
                    refine wpAnyH_take (i := 2) (v := ?_) rfl (by kernel_rfl) (by kernel_rfl) (by kernel_rfl) (fun _ _ _ h => h) (Or.inl ⟨by rfl, ?_⟩) hHeld ?_
                    rotate_left
                    · (intro w hSw; (try dsimp only at hSw); go_simp; try with_reducible rfl)
                    try simp only [Act.put, List.setIfInBounds_toArray, List.set_cons_zero, List.set_cons_succ, List.getElem_toArray, List.getElem_cons_zero, List.getElem_cons_succ]
                    refine wpAnyH_take (i := 3) (v := ?_) rfl (by kernel_rfl) (by kernel_rfl) (by kernel_rfl) (fun _ _ _ h => h) (Or.inl ⟨by rfl, ?_⟩) hHeld ?_
                    rotate_left
                    · (intro w hSw; (try dsimp only at hSw); go_simp; try with_reducible rfl)
                    try simp only [Act.put, List.setIfInBounds_toArray, List.set_cons_zero, List.set_cons_succ, List.getElem_toArray, List.getElem_cons_zero, List.getElem_cons_succ]
                    refine wpAnyH_ready (rs := [1, 4]) (by kernel_rfl) (by simp) ?_
                    refine (AllReadyH.cons rfl (fun K hK => ?_) (AllReadyH.cons rfl (fun K hK => ?_) AllReadyH.nil))
                    ·
                      go_simp
                      refine hK.out _ _ (trivial) (fun hHeld => ?_)
                      clear hK K
                      try simp only [Act.put, List.setIfInBounds_toArray, List.set_cons_zero, List.set_cons_succ, List.getElem_toArray, List.getElem_cons_zero, List.getElem_cons_succ]
                      refine wpAnyH_ready (rs := [4]) (by kernel_rfl) (by simp) ?_
                      refine (AllReadyH.cons rfl (fun K hK => ?_) AllReadyH.nil)
                      go_simp
                      refine hK.out _ _ (trivial) (fun hHeld => ?_)
                      clear hK K
                      try simp only [Act.put, List.setIfInBounds_toArray, List.set_cons_zero, List.set_cons_succ, List.getElem_toArray, List.getElem_cons_zero, List.getElem_cons_succ]
                      refine wpAnyH_take (i := 5) (v := ?_) rfl (by kernel_rfl) (by kernel_rfl) (by kernel_rfl) (fun _ _ _ h => h) (Or.inl ⟨by rfl, ?_⟩) hHeld ?_
                      rotate_left
                      · (intro w hSw; (try dsimp only at hSw); go_simp; try with_reducible rfl)
                      try simp only [Act.put, List.setIfInBounds_toArray, List.set_cons_zero, List.set_cons_succ, List.getElem_toArray, List.getElem_cons_zero, List.getElem_cons_succ]
                      refine wpAnyH_take (i := 6) (v := ?_) rfl (by kernel_rfl) (by kernel_rfl) (by kernel_rfl) (fun _ _ _ h => h) (Or.inl ⟨by rfl, ?_⟩) hHeld ?_
                      rotate_left
                      · (intro w hSw; (try dsimp only at hSw); go_simp; try with_reducible rfl)
                      try simp only [Act.put, List.setIfInBounds_toArray, List.set_cons_zero, List.set_cons_succ, List.getElem_toArray, List.getElem_cons_zero, List.getElem_cons_succ]
                      refine wpAnyH_ready (rs := [7]) (by kernel_rfl) (by simp) ?_
                      refine (AllReadyH.cons rfl (fun K hK => ?_) AllReadyH.nil)
                      go_simp
                      refine (HC.out _ _ ?_ C18.out.pc).mono ?_
                      · first | rfl | (rw [IntKind.wrap_i64]; omega) | (unfold wrap64; omega)
                      rintro e w5 ⟨ca, co, cm, cv, m5, cc, cp, rfl, b5, P5, ⟨x5, y5, hcd, rfl, rfl, hx0⟩ | ⟨q5, hcd, hm5, rfl, rfl, rfl, rfl, rfl, rfl⟩⟩
                      ·
                        have C5 : Hid (Rx w b g cap ts m5 x5 y5 r (r + 1) B3 v.k v.a (.slice q2 LN d2') (.slice qc cs.length dc) NS cs w5) := C18.out.on b5 P5
                        have HN5 : Hid (∀ d rs, rs.length + 1 = j → run (.s4 d rs) (ts.drop n) = .error (x5, y5)) := fun d rs hl => by rw [HW3.out d rs hl, run_cond, show condD cs.length (ts.drop M3) = _ from hcd]
                        have HM5 : Hid (¬ x5 = 0) := hx0
                        have s5 : w5.cell? ⟨r, 3, none⟩ = some (.slice qc cs.length dc) := C5.out.blk.cell 3
                        clear b5 P5 hcd hx0
                        go_wp2_with fail
                        refine hK.out _ _ (trivial) (fun hHeld => ?_)
                        clear hK K
                        try simp only [Act.put, List.setIfInBounds_toArray, List.set_cons_zero, List.set_cons_succ, List.getElem_toArray, List.getElem_cons_zero, List.getElem_cons_succ]
                        refine wpAnyH_ready (rs := [8]) (by kernel_rfl) (by simp) ?_
                        refine (AllReadyH.cons rfl (fun K hK => ?_) AllReadyH.nil)
                        go_simp
                        have hal : Below w5.heap.size w5 (w5.alloc (Obj.cells #[.int .i64 ca, .int .i64 co, .int .u64 cm, .int .u64 cv] 45)) := (Below.refl _ _).alloc (Nat.le_refl _) _
                        have C6 : Hid (Rx w b g cap ts m5 x5 y5 r (r + 1) B3 v.k v.a (.slice q2 LN d2') (.slice qc cs.length dc) NS cs (w5.alloc (Obj.cells #[.int .i64 ca, .int .i64 co, .int .u64 cm, .int .u64 cv] 45))) := C5.out.over hal
                        have s6 : (w5.alloc (Obj.cells #[.int .i64 ca, .int .i64 co, .int .u64 cm, .int .u64 cv] 45)).cell? ⟨r, 3, none⟩ = some (.slice qc cs.length dc) := C6.out.blk.cell 3
                        clear hal
                        refine hK.out _ _ (trivial) (fun hHeld => ?_)
                        clear hK K
                        try simp only [Act.put, List.setIfInBounds_toArray, List.set_cons_zero, List.set_cons_succ, List.getElem_toArray, List.getElem_cons_zero, List.getElem_cons_succ]
                        refine wpAnyH_ready (rs := [9]) (by kernel_rfl) (by simp) ?_
                        refine AllReadyH.cons rfl (fun K hK => ?_) AllReadyH.nil
                        refine step_append_cd (by rfl) (.tmp 138) (.tmp 145) (by rfl) B3 _ cs.length (cellsC cs) (by rfl) C6.out.cd (cdL ca co cm cv) rfl (cdL_one _ _ _ _) ⟨w5.heap.size, 0, none⟩ (by rfl) (cdL_new w5 _ _ _ _) (by omega) C6.out.sz ?_
                        intro v8 w8 ho8 hg8
                        have C8 : Hid (Rw w b g cap ts m5 x5 y5 r v.k v.a (.slice q2 LN d2') v8 (w8.setCell ⟨r, 3, none⟩ v8)) := C6.out.condR ho8 hg8
                        have D8 := C6.out.blk.grown hg8 (fun k e => (by have := owns_block C6.out.cd k e; have := C6.out.l1; have := C6.out.l2; omega))
                        have s8 : w8.cell? ⟨r, 3, none⟩ = some (.slice qc cs.length dc) := D8.cell 3
                        have f8 := D8.f 3
                        obtain ⟨p8, c8, hv8⟩ : ∃ p c, v8 = .slice p (cs.length + 1) c := by
                          rcases ho8.2 with ⟨_, h0⟩ | ⟨g', c, cur, hv, _⟩
                          · omega
                          · exact ⟨_, c, hv⟩
                        subst hv8
                        clear ho8 hg8 D8
                        refine hK.out _ _ (trivial) (fun hHeld => ?_)
                        clear hK K
                        try simp only [Act.put, List.setIfInBounds_toArray, List.set_cons_zero, List.set_cons_succ, List.getElem_toArray, List.getElem_cons_zero, List.getElem_cons_succ]
                        refine wpAnyH_take (i := 10) (v := ?_) rfl (by kernel_rfl) (by kernel_rfl) (by kernel_rfl) (fun _ _ _ h => h) (Or.inl ⟨by rfl, ?_⟩) hHeld ?_
                        rotate_left
                        · (intro w hSw; (try dsimp only at hSw); go_simp; try with_reducible rfl)
                        try simp only [Act.put, List.setIfInBounds_toArray, List.set_cons_zero, List.set_cons_succ, List.getElem_toArray, List.getElem_cons_zero, List.getElem_cons_succ]
                        refine wpAnyH_ready (rs := [11]) (by kernel_rfl) (by simp) ?_
                        refine AllReadyH.cons rfl (fun K hK => ?_) AllReadyH.nil
                        go_simp
                        refine hK.out _ _ (trivial) (fun hHeld => ?_)
                        clear hK K
                        try simp only [Act.put, List.setIfInBounds_toArray, List.set_cons_zero, List.set_cons_succ, List.getElem_toArray, List.getElem_cons_zero, List.getElem_cons_succ]
                        refine wpAnyH_done (by kernel_rfl) ?_ _
                        clear hHeld s8 f8
                        have HLD : Hid (10 - lenC (w8.setCell ⟨r, 3, none⟩ (.slice p8 (cs.length + 1) c8)) r < 10 - lenC wr r) := by
                          have e9 : lenC (w8.setCell ⟨r, 3, none⟩ (.slice p8 (cs.length + 1) c8)) r = cs.length + 1 := by
                            unfold lenC
                            rw [C8.out.blk.cell 3]
                            rfl
                          show _ < _
                          rw [e9, HLC.out]
                          omega
                        go_wp2_with fail
                        go_roundw
                        case rel => exact .inl ⟨x5, y5, m5, _, HM5.out, C8.out, HN5.out⟩
                        case measure => exact HLD.out
                      ·
                        have C5 : Hid (Rx w b g cap ts m5 0 0 r (r + 1) B3 v.k v.a (.slice q2 LN d2') (.slice qc cs.length dc) NS cs w5) := C18.out.on b5 P5
                        have HN5 : Hid (∀ d rs, rs.length + 1 = j → run (.s4 d rs) (ts.drop n) = run (.s13 d rs v NS (cs ++ [q5])) (ts.drop m5)) := fun d rs hl => by rw [HW3.out d rs hl, run_cond, show condD cs.length (ts.drop M3) = _ from hcd]
                        have HM5 : Hid (m5 < ts.length ∧ cs.length < 8) := ⟨hm5, condD_lt hcd⟩
                        have s5 : w5.cell? ⟨r, 3, none⟩ = some (.slice qc cs.length dc) := C5.out.blk.cell 3
                        clear b5 P5 hcd hm5
                        go_wp2_with fail
                        refine hK.out _ _ (trivial) (fun hHeld => ?_)
                        clear hK K
                        try simp only [Act.put, List.setIfInBounds_toArray, List.set_cons_zero, List.set_cons_succ, List.getElem_toArray, List.getElem_cons_zero, List.getElem_cons_succ]
                        refine wpAnyH_ready (rs := [8]) (by kernel_rfl) (by simp) ?_
                        refine (AllReadyH.cons rfl (fun K hK => ?_) AllReadyH.nil)
                        go_simp
                        have hal : Below w5.heap.size w5 (w5.alloc (Obj.cells #[.int .i64 q5.arg, .int .i64 q5.op, .int .u64 q5.mask, .int .u64 q5.val] 45)) := (Below.refl _ _).alloc (Nat.le_refl _) _
                        have C6 : Hid (Rx w b g cap ts m5 0 0 r (r + 1) B3 v.k v.a (.slice q2 LN d2') (.slice qc cs.length dc) NS cs (w5.alloc (Obj.cells #[.int .i64 q5.arg, .int .i64 q5.op, .int .u64 q5.mask, .int .u64 q5.val] 45))) := C5.out.over hal
                        have s6 : (w5.alloc (Obj.cells #[.int .i64 q5.arg, .int .i64 q5.op, .int .u64 q5.mask, .int .u64 q5.val] 45)).cell? ⟨r, 3, none⟩ = some (.slice qc cs.length dc) := C6.out.blk.cell 3
                        clear hal
                        refine hK.out _ _ (trivial) (fun hHeld => ?_)
                        clear hK K
                        try simp only [Act.put, List.setIfInBounds_toArray, List.set_cons_zero, List.set_cons_succ, List.getElem_toArray, List.getElem_cons_zero, List.getElem_cons_succ]
                        refine wpAnyH_ready (rs := [9]) (by kernel_rfl) (by simp) ?_
                        refine AllReadyH.cons rfl (fun K hK => ?_) AllReadyH.nil
                        refine step_append_cd (by rfl) (.tmp 138) (.tmp 145) (by rfl) B3 _ cs.length (cellsC cs) (by rfl) C6.out.cd (cdL q5.arg q5.op q5.mask q5.val) rfl (cdL_one _ _ _ _) ⟨w5.heap.size, 0, none⟩ (by rfl) (cdL_new w5 _ _ _ _) (by omega) C6.out.sz ?_
                        intro v8 w8 ho8 hg8
                        have C8 : Hid (Rx w b g cap ts m5 0 0 r (r + 1) B3 v.k v.a (.slice q2 LN d2') v8 NS (cs ++ [q5]) (w8.setCell ⟨r, 3, none⟩ v8)) := C6.out.cond (by rw [← cells_snoc']; exact ho8) hg8
                        have D8 := C6.out.blk.grown hg8 (fun k e => (by have := owns_block C6.out.cd k e; have := C6.out.l1; have := C6.out.l2; omega))
                        have s8 : w8.cell? ⟨r, 3, none⟩ = some (.slice qc cs.length dc) := D8.cell 3
                        have f8 := D8.f 3
                        obtain ⟨p8, c8, hv8⟩ : ∃ p c, v8 = .slice p (cs.length + 1) c := by
                          rcases ho8.2 with ⟨_, h0⟩ | ⟨g', c, cur, hv, _⟩
                          · omega
                          · exact ⟨_, c, hv⟩
                        subst hv8
                        clear ho8 hg8 D8
                        refine hK.out _ _ (trivial) (fun hHeld => ?_)
                        clear hK K
                        try simp only [Act.put, List.setIfInBounds_toArray, List.set_cons_zero, List.set_cons_succ, List.getElem_toArray, List.getElem_cons_zero, List.getElem_cons_succ]
                        refine wpAnyH_take (i := 10) (v := ?_) rfl (by kernel_rfl) (by kernel_rfl) (by kernel_rfl) (fun _ _ _ h => h) (Or.inl ⟨by rfl, ?_⟩) hHeld ?_
                        rotate_left
                        · (intro w hSw; (try dsimp only at hSw); go_simp; try with_reducible rfl)
                        try simp only [Act.put, List.setIfInBounds_toArray, List.set_cons_zero, List.set_cons_succ, List.getElem_toArray, List.getElem_cons_zero, List.getElem_cons_succ]
                        refine wpAnyH_ready (rs := [11]) (by kernel_rfl) (by simp) ?_
                        refine AllReadyH.cons rfl (fun K hK => ?_) AllReadyH.nil
                        go_simp
                        refine hK.out _ _ (trivial) (fun hHeld => ?_)
                        clear hK K
                        try simp only [Act.put, List.setIfInBounds_toArray, List.set_cons_zero, List.set_cons_succ, List.getElem_toArray, List.getElem_cons_zero, List.getElem_cons_succ]
                        refine wpAnyH_done (by kernel_rfl) ?_ _
                        clear hHeld s8 f8
                        have HLD : Hid (10 - lenC (w8.setCell ⟨r, 3, none⟩ (.slice p8 (cs.length + 1) c8)) r < 10 - lenC wr r) := by
                          have e9 : lenC (w8.setCell ⟨r, 3, none⟩ (.slice p8 (cs.length + 1) c8)) r = cs.length + 1 := by
                            unfold lenC
                            rw [C8.out.blk.cell 3]
                            rfl
                          show _ < _
                          rw [e9, HLC.out]
                          omega
                        go_wp2_with fail
                        go_roundw
                        case rel => exact .inr ⟨m5, _, _, C8.out, HM5.out.1, by have := HM5.out.2; simp; omega, HN5.out⟩
                        case measure => exact HLD.out
                    ·
                      go_simp
                      refine hK.out _ _ (trivial) (fun hHeld => ?_)
                      clear hK K
                      try simp only [Act.put, List.setIfInBounds_toArray, List.set_cons_zero, List.set_cons_succ, List.getElem_toArray, List.getElem_cons_zero, List.getElem_cons_succ]
                      refine wpAnyH_take (i := 5) (v := ?_) rfl (by kernel_rfl) (by kernel_rfl) (by kernel_rfl) (fun _ _ _ h => h) (Or.inl ⟨by rfl, ?_⟩) hHeld ?_
                      rotate_left
                      · (intro w hSw; (try dsimp only at hSw); go_simp; try with_reducible rfl)
                      try simp only [Act.put, List.setIfInBounds_toArray, List.set_cons_zero, List.set_cons_succ, List.getElem_toArray, List.getElem_cons_zero, List.getElem_cons_succ]
                      refine wpAnyH_take (i := 6) (v := ?_) rfl (by kernel_rfl) (by kernel_rfl) (by kernel_rfl) (fun _ _ _ h => h) (Or.inl ⟨by rfl, ?_⟩) hHeld ?_
                      rotate_left
                      · (intro w hSw; (try dsimp only at hSw); go_simp; try with_reducible rfl)
                      try simp only [Act.put, List.setIfInBounds_toArray, List.set_cons_zero, List.set_cons_succ, List.getElem_toArray, List.getElem_cons_zero, List.getElem_cons_succ]
                      refine wpAnyH_ready (rs := [1, 7]) (by kernel_rfl) (by simp) ?_
                      refine (AllReadyH.cons rfl (fun K hK => ?_) (AllReadyH.cons rfl (fun K hK => ?_) AllReadyH.nil))
                      ·
                        go_simp
                        refine hK.out _ _ (trivial) (fun hHeld => ?_)
                        clear hK K
                        try simp only [Act.put, List.setIfInBounds_toArray, List.set_cons_zero, List.set_cons_succ, List.getElem_toArray, List.getElem_cons_zero, List.getElem_cons_succ]
                        refine wpAnyH_ready (rs := [7]) (by kernel_rfl) (by simp) ?_
                        refine (AllReadyH.cons rfl (fun K hK => ?_) AllReadyH.nil)
                        go_simp
                        refine (HC.out _ _ ?_ C18.out.pc).mono ?_
                        · first | rfl | (rw [IntKind.wrap_i64]; omega) | (unfold wrap64; omega)
                        rintro e w5 ⟨ca, co, cm, cv, m5, cc, cp, rfl, b5, P5, ⟨x5, y5, hcd, rfl, rfl, hx0⟩ | ⟨q5, hcd, hm5, rfl, rfl, rfl, rfl, rfl, rfl⟩⟩
                        ·
                          have C5 : Hid (Rx w b g cap ts m5 x5 y5 r (r + 1) B3 v.k v.a (.slice q2 LN d2') (.slice qc cs.length dc) NS cs w5) := C18.out.on b5 P5
                          have HN5 : Hid (∀ d rs, rs.length + 1 = j → run (.s4 d rs) (ts.drop n) = .error (x5, y5)) := fun d rs hl => by rw [HW3.out d rs hl, run_cond, show condD cs.length (ts.drop M3) = _ from hcd]
                          have HM5 : Hid (¬ x5 = 0) := hx0
                          have s5 : w5.cell? ⟨r, 3, none⟩ = some (.slice qc cs.length dc) := C5.out.blk.cell 3
                          clear b5 P5 hcd hx0
                          go_wp2_with fail
                          refine hK.out _ _ (trivial) (fun hHeld => ?_)
                          clear hK K
                          try simp only [Act.put, List.setIfInBounds_toArray, List.set_cons_zero, List.set_cons_succ, List.getElem_toArray, List.getElem_cons_zero, List.getElem_cons_succ]
                          refine wpAnyH_ready (rs := [8]) (by kernel_rfl) (by simp) ?_
                          refine (AllReadyH.cons rfl (fun K hK => ?_) AllReadyH.nil)
                          go_simp
                          have hal : Below w5.heap.size w5 (w5.alloc (Obj.cells #[.int .i64 ca, .int .i64 co, .int .u64 cm, .int .u64 cv] 45)) := (Below.refl _ _).alloc (Nat.le_refl _) _
                          have C6 : Hid (Rx w b g cap ts m5 x5 y5 r (r + 1) B3 v.k v.a (.slice q2 LN d2') (.slice qc cs.length dc) NS cs (w5.alloc (Obj.cells #[.int .i64 ca, .int .i64 co, .int .u64 cm, .int .u64 cv] 45))) := C5.out.over hal
                          have s6 : (w5.alloc (Obj.cells #[.int .i64 ca, .int .i64 co, .int .u64 cm, .int .u64 cv] 45)).cell? ⟨r, 3, none⟩ = some (.slice qc cs.length dc) := C6.out.blk.cell 3
                          clear hal
                          refine hK.out _ _ (trivial) (fun hHeld => ?_)
                          clear hK K
                          try simp only [Act.put, List.setIfInBounds_toArray, List.set_cons_zero, List.set_cons_succ, List.getElem_toArray, List.getElem_cons_zero, List.getElem_cons_succ]
                          refine wpAnyH_ready (rs := [9]) (by kernel_rfl) (by simp) ?_
                          refine AllReadyH.cons rfl (fun K hK => ?_) AllReadyH.nil
                          refine step_append_cd (by rfl) (.tmp 138) (.tmp 145) (by rfl) B3 _ cs.length (cellsC cs) (by rfl) C6.out.cd (cdL ca co cm cv) rfl (cdL_one _ _ _ _) ⟨w5.heap.size, 0, none⟩ (by rfl) (cdL_new w5 _ _ _ _) (by omega) C6.out.sz ?_
                          intro v8 w8 ho8 hg8
                          have C8 : Hid (Rw w b g cap ts m5 x5 y5 r v.k v.a (.slice q2 LN d2') v8 (w8.setCell ⟨r, 3, none⟩ v8)) := C6.out.condR ho8 hg8
                          have D8 := C6.out.blk.grown hg8 (fun k e => (by have := owns_block C6.out.cd k e; have := C6.out.l1; have := C6.out.l2; omega))
                          have s8 : w8.cell? ⟨r, 3, none⟩ = some (.slice qc cs.length dc) := D8.cell 3
                          have f8 := D8.f 3
                          obtain ⟨p8, c8, hv8⟩ : ∃ p c, v8 = .slice p (cs.length + 1) c := by
                            rcases ho8.2 with ⟨_, h0⟩ | ⟨g', c, cur, hv, _⟩
                            · omega
                            · exact ⟨_, c, hv⟩
                          subst hv8
                          clear ho8 hg8 D8
                          refine hK.out _ _ (trivial) (fun hHeld => ?_)
                          clear hK K
                          try simp only [Act.put, List.setIfInBounds_toArray, List.set_cons_zero, List.set_cons_succ, List.getElem_toArray, List.getElem_cons_zero, List.getElem_cons_succ]
                          refine wpAnyH_take (i := 10) (v := ?_) rfl (by kernel_rfl) (by kernel_rfl) (by kernel_rfl) (fun _ _ _ h => h) (Or.inl ⟨by rfl, ?_⟩) hHeld ?_
                          rotate_left
                          · (intro w hSw; (try dsimp only at hSw); go_simp; try with_reducible rfl)
                          try simp only [Act.put, List.setIfInBounds_toArray, List.set_cons_zero, List.set_cons_succ, List.getElem_toArray, List.getElem_cons_zero, List.getElem_cons_succ]
                          refine wpAnyH_ready (rs := [11]) (by kernel_rfl) (by simp) ?_
                          refine AllReadyH.cons rfl (fun K hK => ?_) AllReadyH.nil
                          go_simp
                          refine hK.out _ _ (trivial) (fun hHeld => ?_)
                          clear hK K
                          try simp only [Act.put, List.setIfInBounds_toArray, List.set_cons_zero, List.set_cons_succ, List.getElem_toArray, List.getElem_cons_zero, List.getElem_cons_succ]
                          refine wpAnyH_done (by kernel_rfl) ?_ _
                          clear hHeld s8 f8
                          have HLD : Hid (10 - lenC (w8.setCell ⟨r, 3, none⟩ (.slice p8 (cs.length + 1) c8)) r < 10 - lenC wr r) := by
                            have e9 : lenC (w8.setCell ⟨r, 3, none⟩ (.slice p8 (cs.length + 1) c8)) r = cs.length + 1 := by
                              unfold lenC
                              rw [C8.out.blk.cell 3]
                              rfl
                            show _ < _
                            rw [e9, HLC.out]
                            omega
                          go_wp2_with fail
                          go_roundw
                          case rel => exact .inl ⟨x5, y5, m5, _, HM5.out, C8.out, HN5.out⟩
                          case measure => exact HLD.out
                        ·
                          have C5 : Hid (Rx w b g cap ts m5 0 0 r (r + 1) B3 v.k v.a (.slice q2 LN d2') (.slice qc cs.length dc) NS cs w5) := C18.out.on b5 P5
                          have HN5 : Hid (∀ d rs, rs.length + 1 = j → run (.s4 d rs) (ts.drop n) = run (.s13 d rs v NS (cs ++ [q5])) (ts.drop m5)) := fun d rs hl => by rw [HW3.out d rs hl, run_cond, show condD cs.length (ts.drop M3) = _ from hcd]
                          have HM5 : Hid (m5 < ts.length ∧ cs.length < 8) := ⟨hm5, condD_lt hcd⟩
                          have s5 : w5.cell? ⟨r, 3, none⟩ = some (.slice qc cs.length dc) := C5.out.blk.cell 3
                          clear b5 P5 hcd hm5
                          go_wp2_with fail
                          refine hK.out _ _ (trivial) (fun hHeld => ?_)
                          clear hK K
                          try simp only [Act.put, List.setIfInBounds_toArray, List.set_cons_zero, List.set_cons_succ, List.getElem_toArray, List.getElem_cons_zero, List.getElem_cons_succ]
                          refine wpAnyH_ready (rs := [8]) (by kernel_rfl) (by simp) ?_
                          refine (AllReadyH.cons rfl (fun K hK => ?_) AllReadyH.nil)
                          go_simp
                          have hal : Below w5.heap.size w5 (w5.alloc (Obj.cells #[.int .i64 q5.arg, .int .i64 q5.op, .int .u64 q5.mask, .int .u64 q5.val] 45)) := (Below.refl _ _).alloc (Nat.le_refl _) _
                          have C6 : Hid (Rx w b g cap ts m5 0 0 r (r + 1) B3 v.k v.a (.slice q2 LN d2') (.slice qc cs.length dc) NS cs (w5.alloc (Obj.cells #[.int .i64 q5.arg, .int .i64 q5.op, .int .u64 q5.mask, .int .u64 q5.val] 45))) := C5.out.over hal
                          have s6 : (w5.alloc (Obj.cells #[.int .i64 q5.arg, .int .i64 q5.op, .int .u64 q5.mask, .int .u64 q5.val] 45)).cell? ⟨r, 3, none⟩ = some (.slice qc cs.length dc) := C6.out.blk.cell 3
                          clear hal
                          refine hK.out _ _ (trivial) (fun hHeld => ?_)
                          clear hK K
                          try simp only [Act.put, List.setIfInBounds_toArray, List.set_cons_zero, List.set_cons_succ, List.getElem_toArray, List.getElem_cons_zero, List.getElem_cons_succ]
                          refine wpAnyH_ready (rs := [9]) (by kernel_rfl) (by simp) ?_
                          refine AllReadyH.cons rfl (fun K hK => ?_) AllReadyH.nil
                          refine step_append_cd (by rfl) (.tmp 138) (.tmp 145) (by rfl) B3 _ cs.length (cellsC cs) (by rfl) C6.out.cd (cdL q5.arg q5.op q5.mask q5.val) rfl (cdL_one _ _ _ _) ⟨w5.heap.size, 0, none⟩ (by rfl) (cdL_new w5 _ _ _ _) (by omega) C6.out.sz ?_
                          intro v8 w8 ho8 hg8
                          have C8 : Hid (Rx w b g cap ts m5 0 0 r (r + 1) B3 v.k v.a (.slice q2 LN d2') v8 NS (cs ++ [q5]) (w8.setCell ⟨r, 3, none⟩ v8)) := C6.out.cond (by rw [← cells_snoc']; exact ho8) hg8
                          have D8 := C6.out.blk.grown hg8 (fun k e => (by have := owns_block C6.out.cd k e; have := C6.out.l1; have := C6.out.l2; omega))
                          have s8 : w8.cell? ⟨r, 3, none⟩ = some (.slice qc cs.length dc) := D8.cell 3
                          have f8 := D8.f 3
                          obtain ⟨p8, c8, hv8⟩ : ∃ p c, v8 = .slice p (cs.length + 1) c := by
                            rcases ho8.2 with ⟨_, h0⟩ | ⟨g', c, cur, hv, _⟩
                            · omega
                            · exact ⟨_, c, hv⟩
                          subst hv8
                          clear ho8 hg8 D8
                          refine hK.out _ _ (trivial) (fun hHeld => ?_)
                          clear hK K
                          try simp only [Act.put, List.setIfInBounds_toArray, List.set_cons_zero, List.set_cons_succ, List.getElem_toArray, List.getElem_cons_zero, List.getElem_cons_succ]
                          refine wpAnyH_take (i := 10) (v := ?_) rfl (by kernel_rfl) (by kernel_rfl) (by kernel_rfl) (fun _ _ _ h => h) (Or.inl ⟨by rfl, ?_⟩) hHeld ?_
                          rotate_left
                          · (intro w hSw; (try dsimp only at hSw); go_simp; try with_reducible rfl)
                          try simp only [Act.put, List.setIfInBounds_toArray, List.set_cons_zero, List.set_cons_succ, List.getElem_toArray, List.getElem_cons_zero, List.getElem_cons_succ]
                          refine wpAnyH_ready (rs := [11]) (by kernel_rfl) (by simp) ?_
                          refine AllReadyH.cons rfl (fun K hK => ?_) AllReadyH.nil
                          go_simp
                          refine hK.out _ _ (trivial) (fun hHeld => ?_)
                          clear hK K
                          try simp only [Act.put, List.setIfInBounds_toArray, List.set_cons_zero, List.set_cons_succ, List.getElem_toArray, List.getElem_cons_zero, List.getElem_cons_succ]
                          refine wpAnyH_done (by kernel_rfl) ?_ _
                          clear hHeld s8 f8
                          have HLD : Hid (10 - lenC (w8.setCell ⟨r, 3, none⟩ (.slice p8 (cs.length + 1) c8)) r < 10 - lenC wr r) := by
                            have e9 : lenC (w8.setCell ⟨r, 3, none⟩ (.slice p8 (cs.length + 1) c8)) r = cs.length + 1 := by
                              unfold lenC
                              rw [C8.out.blk.cell 3]
                              rfl
                            show _ < _
                            rw [e9, HLC.out]
                            omega
                          go_wp2_with fail
                          go_roundw
                          case rel => exact .inr ⟨m5, _, _, C8.out, HM5.out.1, by have := HM5.out.2; simp; omega, HN5.out⟩
                          case measure => exact HLD.out
                      ·
                        go_simp
                        refine (HC.out _ _ ?_ C18.out.pc).mono ?_
                        · first | rfl | (rw [IntKind.wrap_i64]; omega) | (unfold wrap64; omega)
                        rintro e w5 ⟨ca, co, cm, cv, m5, cc, cp, rfl, b5, P5, ⟨x5, y5, hcd, rfl, rfl, hx0⟩ | ⟨q5, hcd, hm5, rfl, rfl, rfl, rfl, rfl, rfl⟩⟩
                        ·
                          have C5 : Hid (Rx w b g cap ts m5 x5 y5 r (r + 1) B3 v.k v.a (.slice q2 LN d2') (.slice qc cs.length dc) NS cs w5) := C18.out.on b5 P5
                          have HN5 : Hid (∀ d rs, rs.length + 1 = j → run (.s4 d rs) (ts.drop n) = .error (x5, y5)) := fun d rs hl => by rw [HW3.out d rs hl, run_cond, show condD cs.length (ts.drop M3) = _ from hcd]
                          have HM5 : Hid (¬ x5 = 0) := hx0
                          have s5 : w5.cell? ⟨r, 3, none⟩ = some (.slice qc cs.length dc) := C5.out.blk.cell 3
                          clear b5 P5 hcd hx0
                          go_wp2_with fail
                          refine hK.out _ _ (trivial) (fun hHeld => ?_)
                          clear hK K
                          try simp only [Act.put, List.setIfInBounds_toArray, List.set_cons_zero, List.set_cons_succ, List.getElem_toArray, List.getElem_cons_zero, List.getElem_cons_succ]
                          refine wpAnyH_ready (rs := [1, 8]) (by kernel_rfl) (by simp) ?_
                          refine (AllReadyH.cons rfl (fun K hK => ?_) (AllReadyH.cons rfl (fun K hK => ?_) AllReadyH.nil))
                          ·
                            go_simp
                            refine hK.out _ _ (trivial) (fun hHeld => ?_)
                            clear hK K
                            try simp only [Act.put, List.setIfInBounds_toArray, List.set_cons_zero, List.set_cons_succ, List.getElem_toArray, List.getElem_cons_zero, List.getElem_cons_succ]
                            refine wpAnyH_ready (rs := [8]) (by kernel_rfl) (by simp) ?_
                            refine (AllReadyH.cons rfl (fun K hK => ?_) AllReadyH.nil)
                            go_simp
                            have hal : Below w5.heap.size w5 (w5.alloc (Obj.cells #[.int .i64 ca, .int .i64 co, .int .u64 cm, .int .u64 cv] 45)) := (Below.refl _ _).alloc (Nat.le_refl _) _
                            have C6 : Hid (Rx w b g cap ts m5 x5 y5 r (r + 1) B3 v.k v.a (.slice q2 LN d2') (.slice qc cs.length dc) NS cs (w5.alloc (Obj.cells #[.int .i64 ca, .int .i64 co, .int .u64 cm, .int .u64 cv] 45))) := C5.out.over hal
                            have s6 : (w5.alloc (Obj.cells #[.int .i64 ca, .int .i64 co, .int .u64 cm, .int .u64 cv] 45)).cell? ⟨r, 3, none⟩ = some (.slice qc cs.length dc) := C6.out.blk.cell 3
                            clear hal
                            refine hK.out _ _ (trivial) (fun hHeld => ?_)
                            clear hK K
                            try simp only [Act.put, List.setIfInBounds_toArray, List.set_cons_zero, List.set_cons_succ, List.getElem_toArray, List.getElem_cons_zero, List.getElem_cons_succ]
                            refine wpAnyH_ready (rs := [9]) (by kernel_rfl) (by simp) ?_
                            refine AllReadyH.cons rfl (fun K hK => ?_) AllReadyH.nil
                            refine step_append_cd (by rfl) (.tmp 138) (.tmp 145) (by rfl) B3 _ cs.length (cellsC cs) (by rfl) C6.out.cd (cdL ca co cm cv) rfl (cdL_one _ _ _ _) ⟨w5.heap.size, 0, none⟩ (by rfl) (cdL_new w5 _ _ _ _) (by omega) C6.out.sz ?_
                            intro v8 w8 ho8 hg8
                            have C8 : Hid (Rw w b g cap ts m5 x5 y5 r v.k v.a (.slice q2 LN d2') v8 (w8.setCell ⟨r, 3, none⟩ v8)) := C6.out.condR ho8 hg8
                            have D8 := C6.out.blk.grown hg8 (fun k e => (by have := owns_block C6.out.cd k e; have := C6.out.l1; have := C6.out.l2; omega))
                            have s8 : w8.cell? ⟨r, 3, none⟩ = some (.slice qc cs.length dc) := D8.cell 3
                            have f8 := D8.f 3
                            obtain ⟨p8, c8, hv8⟩ : ∃ p c, v8 = .slice p (cs.length + 1) c := by
                              rcases ho8.2 with ⟨_, h0⟩ | ⟨g', c, cur, hv, _⟩
                              · omega
                              · exact ⟨_, c, hv⟩
                            subst hv8
                            clear ho8 hg8 D8
                            refine hK.out _ _ (trivial) (fun hHeld => ?_)
                            clear hK K
                            try simp only [Act.put, List.setIfInBounds_toArray, List.set_cons_zero, List.set_cons_succ, List.getElem_toArray, List.getElem_cons_zero, List.getElem_cons_succ]
                            refine wpAnyH_take (i := 10) (v := ?_) rfl (by kernel_rfl) (by kernel_rfl) (by kernel_rfl) (fun _ _ _ h => h) (Or.inl ⟨by rfl, ?_⟩) hHeld ?_
                            rotate_left
                            · (intro w hSw; (try dsimp only at hSw); go_simp; try with_reducible rfl)
                            try simp only [Act.put, List.setIfInBounds_toArray, List.set_cons_zero, List.set_cons_succ, List.getElem_toArray, List.getElem_cons_zero, List.getElem_cons_succ]
                            refine wpAnyH_ready (rs := [11]) (by kernel_rfl) (by simp) ?_
                            refine AllReadyH.cons rfl (fun K hK => ?_) AllReadyH.nil
                            go_simp
                            refine hK.out _ _ (trivial) (fun hHeld => ?_)
                            clear hK K
                            try simp only [Act.put, List.setIfInBounds_toArray, List.set_cons_zero, List.set_cons_succ, List.getElem_toArray, List.getElem_cons_zero, List.getElem_cons_succ]
                            refine wpAnyH_done (by kernel_rfl) ?_ _
                            clear hHeld s8 f8
                            have HLD : Hid (10 - lenC (w8.setCell ⟨r, 3, none⟩ (.slice p8 (cs.length + 1) c8)) r < 10 - lenC wr r) := by
                              have e9 : lenC (w8.setCell ⟨r, 3, none⟩ (.slice p8 (cs.length + 1) c8)) r = cs.length + 1 := by
                                unfold lenC
                                rw [C8.out.blk.cell 3]
                                rfl
                              show _ < _
                              rw [e9, HLC.out]
                              omega
                            go_wp2_with fail
                            go_roundw
                            case rel => exact .inl ⟨x5, y5, m5, _, HM5.out, C8.out, HN5.out⟩
                            case measure => exact HLD.out
                          ·
                            go_simp
                            have hal : Below w5.heap.size w5 (w5.alloc (Obj.cells #[.int .i64 ca, .int .i64 co, .int .u64 cm, .int .u64 cv] 45)) := (Below.refl _ _).alloc (Nat.le_refl _) _
                            have C6 : Hid (Rx w b g cap ts m5 x5 y5 r (r + 1) B3 v.k v.a (.slice q2 LN d2') (.slice qc cs.length dc) NS cs (w5.alloc (Obj.cells #[.int .i64 ca, .int .i64 co, .int .u64 cm, .int .u64 cv] 45))) := C5.out.over hal
                            have s6 : (w5.alloc (Obj.cells #[.int .i64 ca, .int .i64 co, .int .u64 cm, .int .u64 cv] 45)).cell? ⟨r, 3, none⟩ = some (.slice qc cs.length dc) := C6.out.blk.cell 3
                            clear hal
                            refine hK.out _ _ (trivial) (fun hHeld => ?_)
                            clear hK K
                            try simp only [Act.put, List.setIfInBounds_toArray, List.set_cons_zero, List.set_cons_succ, List.getElem_toArray, List.getElem_cons_zero, List.getElem_cons_succ]
                            refine wpAnyH_ready (rs := [1]) (by kernel_rfl) (by simp) ?_
                            refine (AllReadyH.cons rfl (fun K hK => ?_) AllReadyH.nil)
                            go_simp
                            refine hK.out _ _ (trivial) (fun hHeld => ?_)
                            clear hK K
                            try simp only [Act.put, List.setIfInBounds_toArray, List.set_cons_zero, List.set_cons_succ, List.getElem_toArray, List.getElem_cons_zero, List.getElem_cons_succ]
                            refine wpAnyH_ready (rs := [9]) (by kernel_rfl) (by simp) ?_
                            refine AllReadyH.cons rfl (fun K hK => ?_) AllReadyH.nil
                            refine step_append_cd (by rfl) (.tmp 138) (.tmp 145) (by rfl) B3 _ cs.length (cellsC cs) (by rfl) C6.out.cd (cdL ca co cm cv) rfl (cdL_one _ _ _ _) ⟨w5.heap.size, 0, none⟩ (by rfl) (cdL_new w5 _ _ _ _) (by omega) C6.out.sz ?_
                            intro v8 w8 ho8 hg8
                            have C8 : Hid (Rw w b g cap ts m5 x5 y5 r v.k v.a (.slice q2 LN d2') v8 (w8.setCell ⟨r, 3, none⟩ v8)) := C6.out.condR ho8 hg8
                            have D8 := C6.out.blk.grown hg8 (fun k e => (by have := owns_block C6.out.cd k e; have := C6.out.l1; have := C6.out.l2; omega))
                            have s8 : w8.cell? ⟨r, 3, none⟩ = some (.slice qc cs.length dc) := D8.cell 3
                            have f8 := D8.f 3
                            obtain ⟨p8, c8, hv8⟩ : ∃ p c, v8 = .slice p (cs.length + 1) c := by
                              rcases ho8.2 with ⟨_, h0⟩ | ⟨g', c, cur, hv, _⟩
                              · omega
                              · exact ⟨_, c, hv⟩
                            subst hv8
                            clear ho8 hg8 D8
                            refine hK.out _ _ (trivial) (fun hHeld => ?_)
                            clear hK K
                            try simp only [Act.put, List.setIfInBounds_toArray, List.set_cons_zero, List.set_cons_succ, List.getElem_toArray, List.getElem_cons_zero, List.getElem_cons_succ]
                            refine wpAnyH_take (i := 10) (v := ?_) rfl (by kernel_rfl) (by kernel_rfl) (by kernel_rfl) (fun _ _ _ h => h) (Or.inl ⟨by rfl, ?_⟩) hHeld ?_
                            rotate_left
                            · (intro w hSw; (try dsimp only at hSw); go_simp; try with_reducible rfl)
                            try simp only [Act.put, List.setIfInBounds_toArray, List.set_cons_zero, List.set_cons_succ, List.getElem_toArray, List.getElem_cons_zero, List.getElem_cons_succ]
                            refine wpAnyH_ready (rs := [11]) (by kernel_rfl) (by simp) ?_
                            refine AllReadyH.cons rfl (fun K hK => ?_) AllReadyH.nil
                            go_simp
                            refine hK.out _ _ (trivial) (fun hHeld => ?_)
                            clear hK K
                            try simp only [Act.put, List.setIfInBounds_toArray, List.set_cons_zero, List.set_cons_succ, List.getElem_toArray, List.getElem_cons_zero, List.getElem_cons_succ]
                            refine wpAnyH_done (by kernel_rfl) ?_ _
                            clear hHeld s8 f8
                            have HLD : Hid (10 - lenC (w8.setCell ⟨r, 3, none⟩ (.slice p8 (cs.length + 1) c8)) r < 10 - lenC wr r) := by
                              have e9 : lenC (w8.setCell ⟨r, 3, none⟩ (.slice p8 (cs.length + 1) c8)) r = cs.length + 1 := by
                                unfold lenC
                                rw [C8.out.blk.cell 3]
                                rfl
                              show _ < _
                              rw [e9, HLC.out]
                              omega
                            go_wp2_with fail
                            go_roundw
                            case rel => exact .inl ⟨x5, y5, m5, _, HM5.out, C8.out, HN5.out⟩
                            case measure => exact HLD.out
                        ·
                          have C5 : Hid (Rx w b g cap ts m5 0 0 r (r + 1) B3 v.k v.a (.slice q2 LN d2') (.slice qc cs.length dc) NS cs w5) := C18.out.on b5 P5
                          have HN5 : Hid (∀ d rs, rs.length + 1 = j → run (.s4 d rs) (ts.drop n) = run (.s13 d rs v NS (cs ++ [q5])) (ts.drop m5)) := fun d rs hl => by rw [HW3.out d rs hl, run_cond, show condD cs.length (ts.drop M3) = _ from hcd]
                          have HM5 : Hid (m5 < ts.length ∧ cs.length < 8) := ⟨hm5, condD_lt hcd⟩
                          have s5 : w5.cell? ⟨r, 3, none⟩ = some (.slice qc cs.length dc) := C5.out.blk.cell 3
                          clear b5 P5 hcd hm5
                          go_wp2_with fail
                          refine hK.out _ _ (trivial) (fun hHeld => ?_)
                          clear hK K
                          try simp only [Act.put, List.setIfInBounds_toArray, List.set_cons_zero, List.set_cons_succ, List.getElem_toArray, List.getElem_cons_zero, List.getElem_cons_succ]
                          refine wpAnyH_ready (rs := [1, 8]) (by kernel_rfl) (by simp) ?_
                          refine (AllReadyH.cons rfl (fun K hK => ?_) (AllReadyH.cons rfl (fun K hK => ?_) AllReadyH.nil))
                          ·
                            go_simp
                            refine hK.out _ _ (trivial) (fun hHeld => ?_)
                            clear hK K
                            try simp only [Act.put, List.setIfInBounds_toArray, List.set_cons_zero, List.set_cons_succ, List.getElem_toArray, List.getElem_cons_zero, List.getElem_cons_succ]
                            refine wpAnyH_ready (rs := [8]) (by kernel_rfl) (by simp) ?_
                            refine (AllReadyH.cons rfl (fun K hK => ?_) AllReadyH.nil)
                            go_simp
                            have hal : Below w5.heap.size w5 (w5.alloc (Obj.cells #[.int .i64 q5.arg, .int .i64 q5.op, .int .u64 q5.mask, .int .u64 q5.val] 45)) := (Below.refl _ _).alloc (Nat.le_refl _) _
                            have C6 : Hid (Rx w b g cap ts m5 0 0 r (r + 1) B3 v.k v.a (.slice q2 LN d2') (.slice qc cs.length dc) NS cs (w5.alloc (Obj.cells #[.int .i64 q5.arg, .int .i64 q5.op, .int .u64 q5.mask, .int .u64 q5.val] 45))) := C5.out.over hal
                            have s6 : (w5.alloc (Obj.cells #[.int .i64 q5.arg, .int .i64 q5.op, .int .u64 q5.mask, .int .u64 q5.val] 45)).cell? ⟨r, 3, none⟩ = some (.slice qc cs.length dc) := C6.out.blk.cell 3
                            clear hal
                            refine hK.out _ _ (trivial) (fun hHeld => ?_)
                            clear hK K
                            try simp only [Act.put, List.setIfInBounds_toArray, List.set_cons_zero, List.set_cons_succ, List.getElem_toArray, List.getElem_cons_zero, List.getElem_cons_succ]
                            refine wpAnyH_ready (rs := [9]) (by kernel_rfl) (by simp) ?_
                            refine AllReadyH.cons rfl (fun K hK => ?_) AllReadyH.nil
                            refine step_append_cd (by rfl) (.tmp 138) (.tmp 145) (by rfl) B3 _ cs.length (cellsC cs) (by rfl) C6.out.cd (cdL q5.arg q5.op q5.mask q5.val) rfl (cdL_one _ _ _ _) ⟨w5.heap.size, 0, none⟩ (by rfl) (cdL_new w5 _ _ _ _) (by omega) C6.out.sz ?_
                            intro v8 w8 ho8 hg8
                            have C8 : Hid (Rx w b g cap ts m5 0 0 r (r + 1) B3 v.k v.a (.slice q2 LN d2') v8 NS (cs ++ [q5]) (w8.setCell ⟨r, 3, none⟩ v8)) := C6.out.cond (by rw [← cells_snoc']; exact ho8) hg8
                            have D8 := C6.out.blk.grown hg8 (fun k e => (by have := owns_block C6.out.cd k e; have := C6.out.l1; have := C6.out.l2; omega))
                            have s8 : w8.cell? ⟨r, 3, none⟩ = some (.slice qc cs.length dc) := D8.cell 3
                            have f8 := D8.f 3
                            obtain ⟨p8, c8, hv8⟩ : ∃ p c, v8 = .slice p (cs.length + 1) c := by
                              rcases ho8.2 with ⟨_, h0⟩ | ⟨g', c, cur, hv, _⟩
                              · omega
                              · exact ⟨_, c, hv⟩
                            subst hv8
                            clear ho8 hg8 D8
                            refine hK.out _ _ (trivial) (fun hHeld => ?_)
                            clear hK K
                            try simp only [Act.put, List.setIfInBounds_toArray, List.set_cons_zero, List.set_cons_succ, List.getElem_toArray, List.getElem_cons_zero, List.getElem_cons_succ]
                            refine wpAnyH_take (i := 10) (v := ?_) rfl (by kernel_rfl) (by kernel_rfl) (by kernel_rfl) (fun _ _ _ h => h) (Or.inl ⟨by rfl, ?_⟩) hHeld ?_
                            rotate_left
                            · (intro w hSw; (try dsimp only at hSw); go_simp; try with_reducible rfl)
                            try simp only [Act.put, List.setIfInBounds_toArray, List.set_cons_zero, List.set_cons_succ, List.getElem_toArray, List.getElem_cons_zero, List.getElem_cons_succ]
                            refine wpAnyH_ready (rs := [11]) (by kernel_rfl) (by simp) ?_
                            refine AllReadyH.cons rfl (fun K hK => ?_) AllReadyH.nil
                            go_simp
                            refine hK.out _ _ (trivial) (fun hHeld => ?_)
                            clear hK K
                            try simp only [Act.put, List.setIfInBounds_toArray, List.set_cons_zero, List.set_cons_succ, List.getElem_toArray, List.getElem_cons_zero, List.getElem_cons_succ]
                            refine wpAnyH_done (by kernel_rfl) ?_ _
                            clear hHeld s8 f8
                            have HLD : Hid (10 - lenC (w8.setCell ⟨r, 3, none⟩ (.slice p8 (cs.length + 1) c8)) r < 10 - lenC wr r) := by
                              have e9 : lenC (w8.setCell ⟨r, 3, none⟩ (.slice p8 (cs.length + 1) c8)) r = cs.length + 1 := by
                                unfold lenC
                                rw [C8.out.blk.cell 3]
                                rfl
                              show _ < _
                              rw [e9, HLC.out]
                              omega
                            go_wp2_with fail
                            go_roundw
                            case rel => exact .inr ⟨m5, _, _, C8.out, HM5.out.1, by have := HM5.out.2; simp; omega, HN5.out⟩
                            case measure => exact HLD.out
                          ·
                            go_simp
                            have hal : Below w5.heap.size w5 (w5.alloc (Obj.cells #[.int .i64 q5.arg, .int .i64 q5.op, .int .u64 q5.mask, .int .u64 q5.val] 45)) := (Below.refl _ _).alloc (Nat.le_refl _) _
                            have C6 : Hid (Rx w b g cap ts m5 0 0 r (r + 1) B3 v.k v.a (.slice q2 LN d2') (.slice qc cs.length dc) NS cs (w5.alloc (Obj.cells #[.int .i64 q5.arg, .int .i64 q5.op, .int .u64 q5.mask, .int .u64 q5.val] 45))) := C5.out.over hal
                            have s6 : (w5.alloc (Obj.cells #[.int .i64 q5.arg, .int .i64 q5.op, .int .u64 q5.mask, .int .u64 q5.val] 45)).cell? ⟨r, 3, none⟩ = some (.slice qc cs.length dc) := C6.out.blk.cell 3
                            clear hal
                            refine hK.out _ _ (trivial) (fun hHeld => ?_)
                            clear hK K
                            try simp only [Act.put, List.setIfInBounds_toArray, List.set_cons_zero, List.set_cons_succ, List.getElem_toArray, List.getElem_cons_zero, List.getElem_cons_succ]
                            refine wpAnyH_ready (rs := [1]) (by kernel_rfl) (by simp) ?_
                            refine (AllReadyH.cons rfl (fun K hK => ?_) AllReadyH.nil)
                            go_simp
                            refine hK.out _ _ (trivial) (fun hHeld => ?_)
                            clear hK K
                            try simp only [Act.put, List.setIfInBounds_toArray, List.set_cons_zero, List.set_cons_succ, List.getElem_toArray, List.getElem_cons_zero, List.getElem_cons_succ]
                            refine wpAnyH_ready (rs := [9]) (by kernel_rfl) (by simp) ?_
                            refine AllReadyH.cons rfl (fun K hK => ?_) AllReadyH.nil
                            refine step_append_cd (by rfl) (.tmp 138) (.tmp 145) (by rfl) B3 _ cs.length (cellsC cs) (by rfl) C6.out.cd (cdL q5.arg q5.op q5.mask q5.val) rfl (cdL_one _ _ _ _) ⟨w5.heap.size, 0, none⟩ (by rfl) (cdL_new w5 _ _ _ _) (by omega) C6.out.sz ?_
                            intro v8 w8 ho8 hg8
                            have C8 : Hid (Rx w b g cap ts m5 0 0 r (r + 1) B3 v.k v.a (.slice q2 LN d2') v8 NS (cs ++ [q5]) (w8.setCell ⟨r, 3, none⟩ v8)) := C6.out.cond (by rw [← cells_snoc']; exact ho8) hg8
                            have D8 := C6.out.blk.grown hg8 (fun k e => (by have := owns_block C6.out.cd k e; have := C6.out.l1; have := C6.out.l2; omega))
                            have s8 : w8.cell? ⟨r, 3, none⟩ = some (.slice qc cs.length dc) := D8.cell 3
                            have f8 := D8.f 3
                            obtain ⟨p8, c8, hv8⟩ : ∃ p c, v8 = .slice p (cs.length + 1) c := by
                              rcases ho8.2 with ⟨_, h0⟩ | ⟨g', c, cur, hv, _⟩
                              · omega
                              · exact ⟨_, c, hv⟩
                            subst hv8
                            clear ho8 hg8 D8
                            refine hK.out _ _ (trivial) (fun hHeld => ?_)
                            clear hK K
                            try simp only [Act.put, List.setIfInBounds_toArray, List.set_cons_zero, List.set_cons_succ, List.getElem_toArray, List.getElem_cons_zero, List.getElem_cons_succ]
                            refine wpAnyH_take (i := 10) (v := ?_) rfl (by kernel_rfl) (by kernel_rfl) (by kernel_rfl) (fun _ _ _ h => h) (Or.inl ⟨by rfl, ?_⟩) hHeld ?_
                            rotate_left
                            · (intro w hSw; (try dsimp only at hSw); go_simp; try with_reducible rfl)
                            try simp only [Act.put, List.setIfInBounds_toArray, List.set_cons_zero, List.set_cons_succ, List.getElem_toArray, List.getElem_cons_zero, List.getElem_cons_succ]
                            refine wpAnyH_ready (rs := [11]) (by kernel_rfl) (by simp) ?_
                            refine AllReadyH.cons rfl (fun K hK => ?_) AllReadyH.nil
                            go_simp
                            refine hK.out _ _ (trivial) (fun hHeld => ?_)
                            clear hK K
                            try simp only [Act.put, List.setIfInBounds_toArray, List.set_cons_zero, List.set_cons_succ, List.getElem_toArray, List.getElem_cons_zero, List.getElem_cons_succ]
                            refine wpAnyH_done (by kernel_rfl) ?_ _
                            clear hHeld s8 f8
                            have HLD : Hid (10 - lenC (w8.setCell ⟨r, 3, none⟩ (.slice p8 (cs.length + 1) c8)) r < 10 - lenC wr r) := by
                              have e9 : lenC (w8.setCell ⟨r, 3, none⟩ (.slice p8 (cs.length + 1) c8)) r = cs.length + 1 := by
                                unfold lenC
                                rw [C8.out.blk.cell 3]
                                rfl
                              show _ < _
                              rw [e9, HLC.out]
                              omega
                            go_wp2_with fail
                            go_roundw
                            case rel => exact .inr ⟨m5, _, _, C8.out, HM5.out.1, by have := HM5.out.2; simp; omega, HN5.out⟩
                            case measure => exact HLD.out
        · have hcs : (ts[M].k == 3 && ts[M].t == [44]) = true := hcm
          have hM2 := HE.out M hm1 (isS_4 hcm)
          refine (is_at _ b g cap M ts 0 0 C10.out.pc hm1 3 [44]).mono ?_
          rw [hcs]
          rintro e w11 ⟨rfl, b11⟩
          have C11 : Hid (Rx w b g cap ts M 0 0 r (r + 1) B3 v.k v.a (.slice q2 (ns.length + 1) d2') nilS (ns ++ [x.t]) [] w11) := C10.out.over b11
          have e1 : w11.cell? ⟨b, 1, none⟩ = some (.int .i64 M) := C11.out.pc.blk.cell 1
          have f1 := C11.out.pc.blk.f 1
          obtain ⟨Z2, hZ2⟩ : ∃ Z, w11.setCell ⟨b, 1, none⟩ (.int .i64 ((M : Int) + 1)) = Z := ⟨_, rfl⟩
          have HZ2 : Hid (w11.setCell ⟨b, 1, none⟩ (.int .i64 ((M : Int) + 1)) = Z2) := hZ2
          have C12 : Hid (Rx w b g cap ts (M + 1) 0 0 r (r + 1) B3 v.k v.a (.slice q2 (ns.length + 1) d2') nilS (ns ++ [x.t]) [] Z2) := by
            have q := C11.out.next
            rw [hZ2] at q
            exact q
          have HLC : Hid (17 - lenAt Z2 r < 17 - lenAt wr r) := by
            have e9 : lenAt Z2 r = ns.length + 1 := by
              unfold lenAt
              rw [C12.out.blk.cell 2]
              rfl
            show _ < _
            rw [e9, HLA.out]
            have := HL.out.2
            omega
          have HNX : Hid (∀ d rs, rs.length + 1 = j → run (.s4 d rs) (ts.drop n) = run (.s6 d rs v (ns ++ [x.t])) (ts.drop (M + 1))) := fun d rs hl => (HW.out d rs hl).trans (s7_comma hm1 hcm d rs v)
          clear hZ2 b11 C10 C11 hcs hcm HLA HLB
          go_wp2_with fail
          rw [HZ2.out]
          go_roundw
          case rel => exact ⟨M + 1, ns ++ [x.t], _, _, C12.out, hM2, by have := HL.out; omega, HNX.out⟩
          case measure => exact HLC.out
    · have hk1 : ((ts[m].k : Int) == 1) = false := by rw [beq_eq_false_iff_ne]; omega
      have hk2 : ((ts[m].k : Int) != 1) = true := by rw [bne, hk1]; rfl
      have hk3 : ¬ (ts[m].k : Int) = 1 := by omega
      have HF : Hid (∀ W, Pc W b g cap ts m 0 0 → Calls Tryd.prog 19 #[.pointer (some ⟨b, 0, none⟩), .int .i64 7] W fun e w' => e = .returned (.tuple #[]) ∧ Bt b W w' ∧ Pc w' b g cap ts m 7 ts[m].at') := fun W hW => fail_at W b g cap m ts 7 hW hm
      have HW : Hid (∀ d rs, rs.length + 1 = j → run (.s4 d rs) (ts.drop n) = .error (7, ts[m].at')) := fun d rs hl => (HP.out d rs hl).trans (s6_no hm hk d rs v)
      clear hk HAT
      generalize ts[m] = x at *
      go_wp2_with fail
      refine (HF.out _ C7.out.pc).mono ?_
      rintro e w8 ⟨rfl, b8, P8⟩
      have C8 : Hid (Rx w b g cap ts m (7 : Nat) x.at' r (r + 1) B2 v.k v.a (.slice qn ns.length dn) nilS ns [] w8) := C7.out.on b8 P8
      clear b8 P8
      go_wp2_with (first | (refine at_op' (.load 43 (.tmp 6)) rfl ?_; refine wpList_load_row rfl 43 (.tmp 6) rfl r rfl 43 (ruleL v.k v.a (.slice qn ns.length dn) nilS).toArray (0, 0) _ C8.out.blk Tryd.underlying43 rfl (ruleL_size _ _ _ _) ?_) | (refine at_op' (.store 43 (.tmp 4) (.tmp 66)) rfl ?_; refine wpList_store_row rfl 43 (.tmp 4) (.tmp 66) rfl w.heap.size (ruleL v.k v.a (.slice qn ns.length dn) nilS).toArray rfl rfl 43 _ C8.out.out (ruleL_size _ _ _ _) rfl (ruleL_one (owns_cell C8.out.nm) (owns_cell C8.out.cd)) ?_))
      refine bodyPost_ret (v := .agg (ruleL v.k v.a (.slice qn ns.length dn) nilS).toArray) ?_ rfl (C8.out.wrong (by decide) HW.out)
      exact results_cell_row Tryd.results22 _ _ w.heap.size 43 (ruleL v.k v.a (.slice qn ns.length dn) nilS).toArray (0, 0) _ rfl (C8.out.fin (ruleL v.k v.a (.slice qn ns.length dn) nilS)).2.2.1 Tryd.underlying43 rfl (ruleL_size _ _ _ _)

end Go.Proofs.YtdjjlccpmfhkiaaDoor.Doc
