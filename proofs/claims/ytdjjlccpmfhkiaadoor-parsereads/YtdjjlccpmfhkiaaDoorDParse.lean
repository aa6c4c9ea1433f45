/-
  The document's answer for all of a text, walked, and the law ParseReads: true for every text.
-/
import Derived.Test.YtdjjlccpmfhkiaaDoorDRuleM
import Derived.Test.YtdjjlccpmfhkiaaDoorJoinMem
import Derived.Test.YtdjjlccpmfhkiaaDoorRefAll
import Derived.Test.YtdjjlccpmfhkiaaDoorAwake
namespace Go.Proofs.YtdjjlccpmfhkiaaDoor.Doc
open Go.RowKit

theorem actD_code {l : List Tok} {x y : Nat} (h : actD l = .error (x, y)) : ¬ x = 0 := by
  cases l with
  | nil => cases h; decide
  | cons t r =>
    simp only [actD] at h
    split at h
    · split at h
      · split at h
        · cases h; decide
        · split at h
          · split at h
            · cases h; decide
            · cases h
          · cases h; decide
      · cases h
    · cases h; decide

/-- a rule, whatever stands there. -/
theorem rule_all (w : World) (b g cap n : Nat) (ts : List Tok) (j : Nat) (hT : Tks ts) (h : Pc w b g cap ts n 0 0) (hn : n < ts.length) (h4 : ¬ ts[n].k = 4) :
    Calls Tryd.prog 22 #[.pointer (some ⟨b, 0, none⟩), .int .i64 j] w fun e w' => RuD w b g cap ts n j e w' := by
  have hE : Ending4 ts := hT.nx
  have hA := (hT.tk n hn).isA
  by_cases hj : j ≤ 64
  · rcases hR : actD (ts.drop n) with ⟨x, y⟩ | ⟨v, l⟩
    · refine rule_err w b g cap n ts j hE h hn hj x y hR (actD_code hR) fun d rs hl => ?_
      rw [drop_at hn] at hR
      rw [drop_at hn, run_act4 (by omega) h4, hR]
    · exact rule_main w b g cap n ts j hE h hn h4 hj v l hR
  · rcases Bool.eq_false_or_eq_true (isA ts[n]) with h1 | h1
    · refine (rule_full w b g cap n ts j h hn h1 (by omega)).mono ?_
      rintro e w' ⟨rfl, hb, hp⟩
      refine ⟨hb, .inl ⟨4, ts[n].at', n, 0, 0, nilS, nilS, by decide, rfl, rfl, rfl, hp, fun d rs hl => ?_⟩⟩
      rw [drop_at hn, run_full (by omega) h4, if_pos h1]
    · have hR : actD (ts.drop n) = .error (7, ts[n].at') := by
        rw [drop_at hn]
        simp only [actD]
        rw [if_neg (not_of h1)]
      have hRR : ∀ d rs, rs.length + 1 = j → run (.s4 d rs) (ts.drop n) = .error (7, ts[n].at') := fun d rs hl => by
        rw [drop_at hn, run_full (by omega) h4, if_neg (not_of h1)]
      by_cases hk : ts[n].k = 1
      · have hk0 : kindOf ts[n].t = 0 := by
          rw [h1] at hA
          simpa using hA
        exact rule_errC w b g cap n ts j hE h hn (by omega) hk hk0 7 _ hR (by decide) hRR
      · exact rule_errB w b g cap n ts j hE h hn (by omega) hk 7 _ hR (by decide) hRR

/-- the rules under way: the place, the answer's cells, the rules' own, and their rows. -/
structure Dv (w : World) (b g cap : Nat) (ts : List Tok) (m : Nat) (c p : Int) (r : Nat) (k a : Int) (v : Value) (X : World) : Prop where
  pc : Pc X b g cap ts m c p
  out : Blk X w.heap.size 27 (rulL 0 0 (.slice none 0 0))
  blk : Blk X r 27 (rulL k a v)
  be : Below w.heap.size w X
  lg : w.heap.size < g
  lb : g < b
  lr : b < r
structure Dr (r : Nat) (v : Value) (rv : List Rv) (X : World) : Prop where
  own : X.ownsRow (r + 1) 43 4 v rv.length (cellsR rv)
  row : ∀ x ∈ rv, Rows2 X (r + 1) x

section
variable {w X Y : World} {b g cap m m' r : Nat} {ts : List Tok} {c p c' p' k a : Int} {v v' : Value} {rv : List Rv} {x : Rv} {xs : List Value} {n' : Nat}
theorem Dv.over (h : Dv w b g cap ts m c p r k a v X) (hb : Below X.heap.size X Y) : Dv w b g cap ts m c p r k a v Y :=
  ⟨h.pc.over hb, h.out.over hb, h.blk.over hb, h.be.trans (hb.mono (Nat.le_of_lt h.out.lt)), h.lg, h.lb, h.lr⟩
theorem Dv.on (h : Dv w b g cap ts m c p r k a v X) (hb : Bt b X Y) (hp : Pc Y b g cap ts m' c' p') : Dv w b g cap ts m' c' p' r k a v Y := by
  have l1 := h.lg
  have l2 := h.lb
  have l3 := h.lr
  have l4 := h.out.lt
  exact ⟨hp, hb.blk h.out (by omega), hb.blk h.blk (by omega), ⟨hb.os.trans h.be.os, hb.tape.trans h.be.tape, hb.output.trans h.be.output, Nat.le_trans h.be.size hb.size, fun k hk => (hb.block k (by omega) (by omega)).trans (h.be.block k hk)⟩, l1, l2, l3⟩
theorem Dv.next (h : Dv w b g cap ts m c p r k a v X) : Dv w b g cap ts (m + 1) c p r k a v (X.setCell ⟨b, 1, none⟩ (.int .i64 ((m : Int) + 1))) := h.on ((Bt.refl b X).setCell 1 _) (h.pc.set (m + 1))
theorem Dr.over (h : Dr r v rv X) (hb : Below X.heap.size X Y) : Dr r v rv Y := ⟨owns_below h.own hb (Nat.le_refl _), fun x hx => (h.row x hx).over hb⟩
theorem Dr.on (h : Dr r v rv X) (hb : Bt b X Y) (hl : b < r) : Dr r v rv Y := ⟨owns_bt h.own hb (by omega), fun x hx => (h.row x hx).on hb (by omega)⟩
theorem Dr.set (h : Dr r v rv X) {i j : Nat} (hj : j ≤ r) (u : Value) : Dr r v rv (X.setCell ⟨j, i, none⟩ u) :=
  ⟨owns_set h.own (by omega), fun x hx => ⟨owns_set (h.row x hx).1 (by omega), owns_set (h.row x hx).2 (by omega)⟩⟩
/-- the rules' own cells, written. -/
theorem Dv.set (h : Dv w b g cap ts m c p r k a v X) (i : Nat) (u : Value) {l : List Value} (hl : (rulL k a v).set i u = l) : Pc (X.setCell ⟨r, i, none⟩ u) b g cap ts m c p ∧ Blk (X.setCell ⟨r, i, none⟩ u) w.heap.size 27 (rulL 0 0 (.slice none 0 0)) ∧ Blk (X.setCell ⟨r, i, none⟩ u) r 27 l ∧ Below w.heap.size w (X.setCell ⟨r, i, none⟩ u) := by
  have l1 := h.lg
  have l2 := h.lb
  have l3 := h.lr
  subst hl
  exact ⟨h.pc.other (by omega) (by omega) u, h.out.other _ _ (by show _ ≠ r; omega), h.blk.set i u, below_setCell' h.be (by omega) u⟩
theorem Dv.setK (h : Dv w b g cap ts m c p r k a v X) (k' a' : Int) : Dv w b g cap ts m c p r k' a' v ((X.setCell ⟨r, 0, none⟩ (.int .i64 k')).setCell ⟨r, 1, none⟩ (.int .i64 a')) := by
  obtain ⟨h1, h2, h3, h4⟩ := h.set 0 (.int .i64 k') (l := rulL k' a v) rfl
  have q : Dv w b g cap ts m c p r k' a v (X.setCell ⟨r, 0, none⟩ (.int .i64 k')) := ⟨h1, h2, h3, h4, h.lg, h.lb, h.lr⟩
  obtain ⟨g1, g2, g3, g4⟩ := q.set 1 (.int .i64 a') (l := rulL k' a' v) rfl
  exact ⟨g1, g2, g3, g4, h.lg, h.lb, h.lr⟩
theorem Dv.setV (h : Dv w b g cap ts m c p r k a v X) (u : Value) : Dv w b g cap ts m c p r k a u (X.setCell ⟨r, 2, none⟩ u) := by
  obtain ⟨h1, h2, h3, h4⟩ := h.set 2 u (l := rulL k a u) rfl
  exact ⟨h1, h2, h3, h4, h.lg, h.lb, h.lr⟩
/-- behind an append to the rules. -/
theorem Dv.grown (h : Dv w b g cap ts m c p r k a v X) (ho : X.ownsRow (r + 1) 43 4 v' n' xs) (hg : X.grownBy Y v'.ownBlock) : Dv w b g cap ts m c p r k a v Y := by
  have l1 := h.lg
  have l2 := h.lb
  have l3 := h.lr
  have hk := owns_block ho
  exact ⟨h.pc.grown hg (fun k e => by have := hk k e; omega) (fun k e => by have := hk k e; omega), h.out.grown hg (fun k e => by have := hk k e; omega), h.blk.grown hg (fun k e => by have := hk k e; omega), below_grown h.be (Nat.le_of_lt h.out.lt) hg (fun k e => by have := hk k e; omega), l1, l2, l3⟩
theorem Dr.app (h : Dr r v rv X) (hx : Rows2 X (r + 1) x) (ho : Y.ownsRow (r + 1) 43 4 v' (rv.length + 1) (cellsR (rv ++ [x]))) (hg : X.grownBy Y v.ownBlock) : Dr r v' (rv ++ [x]) (Y.setCell ⟨r, 2, none⟩ v') := by
  have hrow : ∀ y, Rows2 X (r + 1) y → Rows2 (Y.setCell ⟨r, 2, none⟩ v') (r + 1) y := by
    intro y hy
    refine ⟨owns_same hy.1 fun j hj => ?_, owns_same hy.2 fun j hj => ?_⟩
    · rw [heap_setCell_other Y ⟨r, 2, none⟩ j v' (by have := owns_block hy.1 j hj; show j ≠ r; omega)]
      exact hg.block j (owns_lt hy.1 j hj) (fun e => owns_apart hy.1 h.own (by decide) j hj e.symm)
    · rw [heap_setCell_other Y ⟨r, 2, none⟩ j v' (by have := owns_block hy.2 j hj; show j ≠ r; omega)]
      exact hg.block j (owns_lt hy.2 j hj) (fun e => owns_apart hy.2 h.own (by decide) j hj e.symm)
  refine ⟨?_, fun y hy => ?_⟩
  · rw [List.length_append]
    exact owns_set ho (Nat.lt_succ_self r)
  · rcases List.mem_append.1 hy with hy | hy
    · exact hrow y (h.row y hy)
    · simp at hy
      subst hy
      exact hrow y hx
end

set_option maxRecDepth 8000 in
theorem step_append_rl {w : World} {ops : Array Oper} {o : Oper} {a : Act} {K : Act → World → Prop} {Q : Exit → Act → World → Prop} {E : Prop} (hgd : o.guard = none) (s x : Operand)
    (ho : o.op = .call { callee := .builtin .append, args := #[s, x], argTypes := #[25, 25] })
    (base : Nat) (v : Value) (n : Nat) (xs : List Value) (hs : a.eval s = v) (hown : w.ownsRow base 43 4 v n xs)
    (it : List Value) (hl : it.length = 4) (h1 : ∀ u ∈ it, u.oneCell' = true) (ad : Addr) (hx : a.eval x = .slice (some ad) 1 1) (hnews : ∀ j u, it[j]? = some u → w.cell? (ad.add j) = some u)
    (hn : n ≤ 1000000) (hbase : base ≤ w.heap.size)
    (h : ∀ v' w', w'.ownsRow base 43 4 v' (n + 1) (xs ++ it) → w.grownBy w' v.ownBlock → K (a.put o.dst v') w') :
    if Region.wanted o (yielded ops a.tmps) = true then Oper.wp Tryd.prog o a w K Q else E := by
  have hw : Region.wanted o (yielded ops a.tmps) = true := by simp [Region.wanted, hgd]
  rw [if_pos hw]
  obtain ⟨i0, hi, hz0, hz1, hz2⟩ := info_parts Tryd.info43
  obtain ⟨v', w', hr, g1, g2, _⟩ := run_append_own (P := Tryd.prog) w base 25 o.type 43 i0 (.agg #[.int .i64 0, .int .i64 0, .slice none 0 0, .slice none 0 0]) 4 64 Tryd.underlying25 hi hz0 hz1 hz2 rfl (by decide) v n xs hown ad 1 1 it (by rw [hl]) hnews h1 (by unfold maxLen; omega) (by omega) hbase
  unfold Oper.wp execOp
  simp only [ho, resolve, invoke, builtin, Sem.run_bind, Sem.run_pure, Result.andThen_ok, List.map_toArray, List.map_cons, List.map_nil, hs, hx, hr]
  exact h v' w' g1 g2

theorem rl_one {k a : Int} {vn vc : Value} (h1 : vn.oneCell' = true) (h2 : vc.oneCell' = true) : ∀ u ∈ ruleL k a vn vc, u.oneCell' = true := by
  intro u hu
  simp [ruleL] at hu
  rcases hu with rfl | rfl | rfl | rfl
  · rfl
  · rfl
  · exact h1
  · exact h2
theorem rl_new (w : World) (k a : Int) (vn vc : Value) : ∀ j u, (ruleL k a vn vc)[j]? = some u → (w.alloc (Obj.cells #[.int .i64 k, .int .i64 a, vn, vc] 43)).cell? ((⟨w.heap.size, 0, none⟩ : Addr).add j) = some u := by
  intro j u hu
  match j, hu with
  | 0, hu => cases hu; simp [Addr.add]
  | 1, hu => cases hu; simp [Addr.add]
  | 2, hu => cases hu; simp [Addr.add]
  | 3, hu => cases hu; simp [Addr.add]

end Go.Proofs.YtdjjlccpmfhkiaaDoor.Doc

namespace Go.Proofs.YtdjjlccpmfhkiaaDoor.Doc
open Go.RowKit

/-- the document's results, read. -/
theorem results11 {X : World} {N0 : Nat} {k a : Int} {v : Value} (tmps : Array Value) (h : Blk X N0 27 (rulL k a v)) (h0 : tmps.getD 2 undef = .pointer (some ⟨N0, 0, none⟩)) {c p : Value} (h1 : tmps.getD 3 undef = c) (h2 : tmps.getD 4 undef = p) :
    (results Tryd.f11 tmps).run Tryd.prog X = .ok (.tuple #[.agg (rulL k a v).toArray, c, p]) X := by
  have h0' : tmps[2]?.getD undef = .pointer (some ⟨N0, 0, none⟩) := by simpa using h0
  have h1' : tmps[3]?.getD undef = c := by simpa using h1
  have h2' : tmps[4]?.getD undef = p := by simpa using h2
  have d0 : X.cell? ⟨N0, 0, none⟩ = some (.int .i64 k) := h.cell 0
  have d1 : X.cell? ⟨N0, 1, none⟩ = some (.int .i64 a) := h.cell 1
  have d2 : X.cell? ⟨N0, 2, none⟩ = some v := h.cell 2
  simp [results, Tryd.results11, h0', h1', h2', asAddr, d0, d1, d2, go_sem, rulL]

/-- behind the default's act. -/
def LA (w : World) (b g cap : Nat) (ts : List Tok) (r : Nat) (wr : World) : Prop :=
  (∃ (x y m : Nat) (k a : Int), ¬ x = 0 ∧ Dv w b g cap ts m x y r k a (.slice none 0 0) wr ∧ Dr r (.slice none 0 0) [] wr ∧ run .s0 ts = .error (x, y)) ∨
    ∃ (m : Nat) (d : Ac), Dv w b g cap ts m 0 0 r d.k d.a (.slice none 0 0) wr ∧ Dr r (.slice none 0 0) [] wr ∧ m < ts.length ∧ run .s0 ts = run (.s3 d) (ts.drop m)
/-- among the rules. -/
def LB (w : World) (b g cap : Nat) (ts : List Tok) (r : Nat) (wr : World) : Prop :=
  (∃ (x y m : Nat) (k a : Int) (v : Value), ¬ x = 0 ∧ Dv w b g cap ts m x y r k a v wr ∧ v.oneCell' = true ∧ run .s0 ts = .error (x, y)) ∨
    ∃ (m : Nat) (d : Ac) (v : Value) (rv : List Rv), Dv w b g cap ts m 0 0 r d.k d.a v wr ∧ Dr r v rv wr ∧ m < ts.length ∧ rv.length ≤ 64 ∧ run .s0 ts = run (.s4 d (rv.map Rv.r)) (ts.drop m)

set_option linter.unusedSimpArgs false in
set_option maxRecDepth 8000 in
set_option maxHeartbeats 8000000 in
theorem dparse_any (s : ByteArray) (w : World) :
    Calls Tryd.prog 11 #[.string s] w fun e w' => Below w.heap.size w w' ∧ Par2 (prs (lst s)) e w' := by
  have K0 : Hid (Blk (w.alloc (Obj.cells #[.int .i64 0, .int .i64 0, .slice none 0 0] 27)) w.heap.size 27 (rulL 0 0 (.slice none 0 0)) ∧ Below w.heap.size w (w.alloc (Obj.cells #[.int .i64 0, .int .i64 0, .slice none 0 0] 27)) ∧ (w.alloc (Obj.cells #[.int .i64 0, .int .i64 0, .slice none 0 0] 27)).heap.size = w.heap.size + 1) := ⟨blk_new w _ 27, (Below.refl _ _).alloc (Nat.le_refl _) _, size_alloc' _ _⟩
  have HA : Hid (∀ W, Calls Tryd.prog 17 #[.string s] W fun e w' => Below W.heap.size W w' ∧ Told W.heap.size (all (lst s)) e w') := fun W => refAll_any s W
  unfold prs
  rcases hR : all (lst s) with ⟨c, p⟩ | ts
  · have hc0 := (all_code hR).1
    rw [hR] at HA
    have hc : ((c : Int) == 0) = false := by rw [beq_eq_false_iff_ne]; omega
    have hcn : ((c : Int) != 0) = true := by rw [bne, hc]; rfl
    clear hR hc0
    go_enter Tryd.func11, Tryd.ntmps11
    go_wp2_with fail
    generalize (w.alloc (Obj.cells #[.int .i64 0, .int .i64 0, .slice none 0 0] 27)) = X0 at *
    refine (HA.out _).mono ?_
    rintro e w1 ⟨b1, rfl⟩
    have K1 : Hid (Blk w1 w.heap.size 27 (rulL 0 0 (.slice none 0 0)) ∧ Below w.heap.size w w1) := ⟨K0.out.1.over b1, K0.out.2.1.trans (b1.mono (by rw [K0.out.2.2]; omega))⟩
    clear b1
    go_wp2_with (refine at_op' (.store 27 (.tmp 2) (.tmp 18)) rfl ?_; refine wpList_store_row rfl 27 (.tmp 2) (.tmp 18) rfl w.heap.size (rulL 0 0 (.slice none 0 0)).toArray rfl rfl 27 _ K1.out.1 (rulL_size _ _ _) rfl (rulL_one rfl) ?_)
    refine bodyPost_ret (v := .tuple #[.agg (rulL 0 0 (.slice none 0 0)).toArray, .int .i64 c, .int .i64 p]) ?_ rfl ⟨below_setRow' K1.out.2 (Nat.le_refl _) _, rfl⟩
    exact results11 _ (K1.out.1.row _) rfl rfl rfl
  · have HT : Hid (Tks ts) := tks_of hR
    rw [hR] at HA
    clear hR
    dsimp only
    obtain ⟨R, hRR⟩ : ∃ R, run .s0 ts = R := ⟨_, rfl⟩
    rw [hRR]
    have HRR : Hid (run .s0 ts = R) := hRR
    clear hRR
    go_enter Tryd.func11, Tryd.ntmps11
    go_wp2_with fail
    generalize (w.alloc (Obj.cells #[.int .i64 0, .int .i64 0, .slice none 0 0] 27)) = X0 at *
    refine (HA.out _).mono ?_
    rintro e w1 ⟨b1, v, rfl, ho⟩
    obtain ⟨g, cap, rfl, hg1, hg2, hg3, hg4, hT1⟩ := toks_rd ho HT.out.pos
    have D0 : Hid (Dv w w1.heap.size g cap ts 0 0 0 (w1.heap.size + 1) 0 0 (.slice none 0 0) ((w1.alloc (Obj.cells #[.slice (some ⟨g, 0, none⟩) ts.length cap, .int .i64 0, .int .i64 0, .int .i64 0] 54)).alloc (Obj.cells #[.int .i64 0, .int .i64 0, .slice none 0 0] 27)) ∧ Dr (w1.heap.size + 1) (.slice none 0 0) [] ((w1.alloc (Obj.cells #[.slice (some ⟨g, 0, none⟩) ts.length cap, .int .i64 0, .int .i64 0, .int .i64 0] 54)).alloc (Obj.cells #[.int .i64 0, .int .i64 0, .slice none 0 0] 27))) := by
      have e1 : (w1.alloc (Obj.cells #[.slice (some ⟨g, 0, none⟩) ts.length cap, .int .i64 0, .int .i64 0, .int .i64 0] 54)).heap.size = w1.heap.size + 1 := size_alloc' _ _
      have hb1 : Below w1.heap.size w1 (w1.alloc (Obj.cells #[.slice (some ⟨g, 0, none⟩) ts.length cap, .int .i64 0, .int .i64 0, .int .i64 0] 54)) := (Below.refl _ _).alloc (Nat.le_refl _) _
      have hb2 : Below w1.heap.size w1 ((w1.alloc (Obj.cells #[.slice (some ⟨g, 0, none⟩) ts.length cap, .int .i64 0, .int .i64 0, .int .i64 0] 54)).alloc (Obj.cells #[.int .i64 0, .int .i64 0, .slice none 0 0] 27)) := hb1.alloc (by rw [e1]; omega) _
      have q := blk_new (w1.alloc (Obj.cells #[.slice (some ⟨g, 0, none⟩) ts.length cap, .int .i64 0, .int .i64 0, .int .i64 0] 54)) #[.int .i64 0, .int .i64 0, .slice none 0 0] 27
      rw [e1] at q
      have hs := K0.out.2.2
      refine ⟨⟨⟨(blk_new w1 _ 54).alloc _, hT1.below hb2, by omega, HT.out.len⟩, (K0.out.1.over b1).over hb2, q, (K0.out.2.1.trans (b1.mono (by omega))).trans (hb2.mono (by have := b1.size; omega)), by omega, by omega, by omega⟩, ⟨rfl, .inl ⟨rfl, rfl⟩⟩, fun x hx => by cases hx⟩
    clear ho hg1 hg2 hg3 hg4 hT1 b1
    go_wp2_with fail
    generalize hX : ((w1.alloc (Obj.cells #[.slice (some ⟨g, 0, none⟩) ts.length cap, .int .i64 0, .int .i64 0, .int .i64 0] 54)).alloc (Obj.cells #[.int .i64 0, .int .i64 0, .slice none 0 0] 27)) = X at *
    clear hX
    generalize hr : w1.heap.size + 1 = r at *
    clear hr
    generalize w1.heap.size = b at *
    have hpos := HT.out.pos
    have hdr : ts.drop 0 = ts := List.drop_zero
    refine (is_at _ b g cap 0 ts 0 0 D0.out.1.pc hpos 1 wDefault).mono ?_
    rintro e w2 ⟨rfl, b2⟩
    have D1 : Hid (Dv w b g cap ts 0 0 0 r 0 0 (.slice none 0 0) w2 ∧ Dr r (.slice none 0 0) [] w2) := ⟨D0.out.1.over b2, D0.out.2.over b2⟩
    clear b2 D0
    have hBd : (ts[0].k == 1 && ts[0].t == wDefault) = isW ts[0] wDefault := rfl
    rw [hBd]
    clear hBd
    have HS1 : Hid (isW ts[0] wDefault = true → run .s0 ts = run .s1 (ts.drop 1) ∧ 1 < ts.length) := by
      intro h
      have := s0_ok hpos h
      rw [hdr] at this
      exact ⟨this, HT.out.nx 0 hpos (isW_4 h)⟩
    have HS0 : Hid (isW ts[0] wDefault = false → run .s0 ts = .error (7, ts[0].at')) := by
      intro h
      have := s0_no hpos h
      rw [hdr] at this
      exact this
    clear hdr
    generalize isW ts[0] wDefault = Bd at *
    go_upto_if 27 with fail
    go_cut [] (fun wc => LA w b g cap ts r wc)
    case first =>
      cases Bd with
      | false =>
        have HE := HS0.out rfl
        go_wp2_with fail
        refine (fail_at _ b g cap 0 ts 7 D1.out.1.pc hpos).mono ?_
        rintro e w3 ⟨rfl, b3, P3⟩
        have D2 : Hid (Dv w b g cap ts 0 (7 : Nat) ts[0].at' r 0 0 (.slice none 0 0) w3 ∧ Dr r (.slice none 0 0) [] w3) := ⟨D1.out.1.on b3 P3, D1.out.2.on b3 D1.out.1.lr⟩
        go_wp2_with fail
        go_meet
        exact .inl ⟨7, ts[0].at', 0, 0, 0, by decide, D2.out.1, D2.out.2, HE⟩
      | true =>
        obtain ⟨HE, h1l⟩ := HS1.out rfl
        have HE1 : Hid (run .s0 ts = run .s1 (ts.drop 1)) := HE
        clear HE
        have e1 : w2.cell? ⟨b, 1, none⟩ = some (.int .i64 (0 : Nat)) := D1.out.1.pc.blk.cell 1
        have f1 := D1.out.1.pc.blk.f 1
        have D2 : Hid (Dv w b g cap ts 1 0 0 r 0 0 (.slice none 0 0) (w2.setCell ⟨b, 1, none⟩ (.int .i64 1)) ∧ Dr r (.slice none 0 0) [] (w2.setCell ⟨b, 1, none⟩ (.int .i64 1))) := ⟨D1.out.1.next, D1.out.2.set (Nat.le_of_lt D1.out.1.lr) _⟩
        go_wp2_with fail
        generalize w2.setCell ⟨b, 1, none⟩ (.int .i64 1) = X2 at *
        refine (act_any _ b g cap 1 ts HT.out.nx D2.out.1.pc h1l).mono ?_
        rintro e w3 ⟨k, a, m, c, p, rfl, b3, P3, hAT⟩
        have D3 : Hid (Dv w b g cap ts m c p r 0 0 (.slice none 0 0) w3 ∧ Dr r (.slice none 0 0) [] w3) := ⟨D2.out.1.on b3 P3, D2.out.2.on b3 D2.out.1.lr⟩
        have q0 : w3.cell? ⟨r, 0, none⟩ = some (.int .i64 0) := D3.out.1.blk.cell 0
        have q1 : w3.cell? ⟨r, 1, none⟩ = some (.int .i64 0) := D3.out.1.blk.cell 1
        have g0 := D3.out.1.blk.f 0
        have g1 := D3.out.1.blk.f 1
        have D4 : Hid (Dv w b g cap ts m c p r k a (.slice none 0 0) ((w3.setCell ⟨r, 0, none⟩ (.int .i64 k)).setCell ⟨r, 1, none⟩ (.int .i64 a)) ∧ Dr r (.slice none 0 0) [] ((w3.setCell ⟨r, 0, none⟩ (.int .i64 k)).setCell ⟨r, 1, none⟩ (.int .i64 a))) := ⟨D3.out.1.setK k a, (D3.out.2.set (Nat.le_refl _) _).set (Nat.le_refl _) _⟩
        have HF : Hid (LA w b g cap ts r ((w3.setCell ⟨r, 0, none⟩ (.int .i64 k)).setCell ⟨r, 1, none⟩ (.int .i64 a))) := by
          rcases hAT with ⟨x, y, hR, rfl, rfl, hx⟩ | ⟨v, hR, hm, rfl, rfl, rfl, rfl⟩
          · exact .inl ⟨x, y, m, k, a, hx, D4.out.1, D4.out.2, by rw [HE1.out, run_act1, hR]⟩
          · exact .inr ⟨m, v, D4.out.1, D4.out.2, hm, by rw [HE1.out, run_act1, hR]⟩
        clear b3 P3 hAT D2 D1
        unfold actV
        go_wp2_with fail
        go_meet
        exact HF.out
    case rest =>
      obtain ⟨c, hc2, hcase⟩ : ∃ c : Int, wc.cell? ⟨b, 2, none⟩ = some (.int .i64 c) ∧ ((c == 0) = false ∧ LB w b g cap ts r wc ∨ (c == 0) = true ∧ ∃ (m : Nat) (d : Ac), Dv w b g cap ts m 0 0 r d.k d.a (.slice none 0 0) wc ∧ Dr r (.slice none 0 0) [] wc ∧ m < ts.length ∧ run .s0 ts = run (.s3 d) (ts.drop m)) := by
        rcases hcut with ⟨x, y, m, k, a, hx, hD, hR, hrun⟩ | ⟨m, d, hD, hR, hm, hrun⟩
        · exact ⟨x, hD.pc.blk.cell 2, .inl ⟨by rw [beq_eq_false_iff_ne]; omega, .inl ⟨x, y, m, k, a, _, hx, hD, rfl, hrun⟩⟩⟩
        · exact ⟨0, hD.pc.blk.cell 2, .inr ⟨rfl, m, d, hD, hR, hm, hrun⟩⟩
      have HCS : Hid ((c == 0) = false ∧ LB w b g cap ts r wc ∨ (c == 0) = true ∧ ∃ (m : Nat) (d : Ac), Dv w b g cap ts m 0 0 r d.k d.a (.slice none 0 0) wc ∧ Dr r (.slice none 0 0) [] wc ∧ m < ts.length ∧ run .s0 ts = run (.s3 d) (ts.drop m)) := hcase
      clear hcut hcase HS0 HS1 D1
      go_upto_if 44 with fail
      generalize wc = wc1 at *
      go_cut [] (fun wc => LB w b g cap ts r wc)
      case first =>
        rcases HCS.out with ⟨hc, hB⟩ | ⟨hc, m, d, hD, hR, hm, hrun⟩
        · have HB : Hid (LB w b g cap ts r wc1) := hB
          rw [hc]
          clear hB
          go_wp2_with fail
          go_meet
          exact HB.out
        · have D2 : Hid (Dv w b g cap ts m 0 0 r d.k d.a (.slice none 0 0) wc1 ∧ Dr r (.slice none 0 0) [] wc1) := ⟨hD, hR⟩
          rw [hc]
          clear hD hR HCS
          rcases hsm : isS ts[m] [59] with _ | _
          · have HE : Hid (run .s0 ts = .error (7, ts[m].at')) := hrun.trans (s3_no hm d hsm)
            go_wp2_with fail
            refine (sign_no _ b g cap m ts D2.out.1.pc hm [59] hsm).mono ?_
            rintro e w3 ⟨rfl, b3, P3⟩
            have D3 : Hid (Dv w b g cap ts m (7 : Nat) ts[m].at' r d.k d.a (.slice none 0 0) w3) := D2.out.1.on b3 P3
            go_wp2_with fail
            go_meet
            exact .inl ⟨7, ts[m].at', m, d.k, d.a, _, by decide, D3.out, rfl, HE.out⟩
          · have HE : Hid (run .s0 ts = run (.s4 d []) (ts.drop (m + 1))) := hrun.trans (s3_ok hm d hsm)
            have hm1 := HT.out.nx m hm (isS_4 hsm)
            go_wp2_with fail
            refine (sign_ok _ b g cap m ts D2.out.1.pc hm [59] hsm).mono ?_
            rintro e w3 ⟨rfl, b3, P3⟩
            have D3 : Hid (Dv w b g cap ts (m + 1) 0 0 r d.k d.a (.slice none 0 0) w3 ∧ Dr r (.slice none 0 0) [] w3) := ⟨D2.out.1.on b3 P3, D2.out.2.on b3 D2.out.1.lr⟩
            go_wp2_with fail
            go_meet
            exact .inr ⟨m + 1, d, _, [], D3.out.1, D3.out.2, hm1, by decide, HE.out⟩
      case rest =>
        have HCUT : Hid (LB w b g cap ts r wc) := hcut
        clear hcut HCS hc2
        go_wp2_with fail
        go_loopw [47] (fun _ wr => LB w b g cap ts r wr) (fun _ wr => 70 - lenAt wr r)
        case atStart => exact HCUT.out
        case round =>
          clear HCUT
          obtain ⟨x, y, m, k, a, v, hx, hD, hv, hrun⟩ | ⟨m, d, v, rv, hD, hR, hm, hle, hrun⟩ := hrel
          · have D1 : Hid (Dv w b g cap ts m x y r k a v wr) := hD
            have HE : Hid (R = .error (x, y)) := HRR.out.symm.trans hrun
            have hx1 : ((x : Int) == 0) = false := by rw [beq_eq_false_iff_ne]; omega
            have hx2 : ((x : Int) != 0) = true := by rw [bne, hx1]; rfl
            clear hD hx hrun
            go_wp2_with fail
            refine wp_region_held_drew (S := fun W => Dv w b g cap ts m x y r k a v W) (by kernel_rfl) (D1.out.over (Below.refl _ _).drew) (fun hHeld => ?_)
            simp only [List.size_toArray, List.length_cons, List.length_nil, Nat.reduceAdd]
            have D2 : Hid (Dv w b g cap ts m x y r k a v wr.drew) := hHeld
            generalize wr.drew = X12 at *
            refine wpAnyH_take (i := 0) (v := ?_) rfl (by kernel_rfl) (by kernel_rfl) (by kernel_rfl) (fun _ _ _ h => h) (Or.inl ⟨by rfl, ?_⟩) hHeld ?_
            rotate_left
            · (intro w hSw; (try dsimp only at hSw); go_simp; try with_reducible rfl)
            try simp only [Act.put, List.setIfInBounds_toArray, List.set_cons_zero, List.set_cons_succ, List.getElem_toArray, List.getElem_cons_zero, List.getElem_cons_succ]
            refine wpAnyH_take (i := 1) (v := ?_) rfl (by kernel_rfl) (by kernel_rfl) (by kernel_rfl) (fun _ _ _ h => h) (Or.inl ⟨by rfl, ?_⟩) hHeld ?_
            rotate_left
            · (intro w hSw; (try dsimp only at hSw); go_simp; try with_reducible rfl)
            try simp only [Act.put, List.setIfInBounds_toArray, List.set_cons_zero, List.set_cons_succ, List.getElem_toArray, List.getElem_cons_zero, List.getElem_cons_succ]
            refine wpAnyH_take (i := 2) (v := ?_) rfl (by kernel_rfl) (by kernel_rfl) (by kernel_rfl) (fun _ _ _ h => h) (Or.inl ⟨by rfl, ?_⟩) hHeld ?_
            rotate_left
            · (intro w hSw; (try dsimp only at hSw); go_simp; try with_reducible rfl)
            try simp only [Act.put, List.setIfInBounds_toArray, List.set_cons_zero, List.set_cons_succ, List.getElem_toArray, List.getElem_cons_zero, List.getElem_cons_succ]
            refine wpAnyH_take (i := 3) (v := ?_) rfl (by kernel_rfl) (by kernel_rfl) (by kernel_rfl) (fun _ _ _ h => h) (Or.inl ⟨by rfl, ?_⟩) hHeld ?_
            rotate_left
            · (intro w hSw; (try dsimp only at hSw); have c0 : w.cell? ⟨b, 0, none⟩ = some (.slice (some ⟨g, 0, none⟩) ts.length cap) := hSw.pc.blk.cell 0; have c1 : w.cell? ⟨b, 1, none⟩ = some (.int .i64 m) := hSw.pc.blk.cell 1; have c2 : w.cell? ⟨b, 2, none⟩ = some _ := hSw.pc.blk.cell 2; have c3 : w.cell? ⟨b, 3, none⟩ = some _ := hSw.pc.blk.cell 3; go_simp; try with_reducible rfl)
            try simp only [Act.put, List.setIfInBounds_toArray, List.set_cons_zero, List.set_cons_succ, List.getElem_toArray, List.getElem_cons_zero, List.getElem_cons_succ]
            refine wpAnyH_take (i := 4) (v := ?_) rfl (by kernel_rfl) (by kernel_rfl) (by kernel_rfl) (fun _ _ _ h => h) (Or.inl ⟨by rfl, ?_⟩) hHeld ?_
            rotate_left
            · (intro w hSw; (try dsimp only at hSw); go_simp; try with_reducible rfl)
            try simp only [Act.put, List.setIfInBounds_toArray, List.set_cons_zero, List.set_cons_succ, List.getElem_toArray, List.getElem_cons_zero, List.getElem_cons_succ]
            refine wpAnyH_take (i := 5) (v := ?_) rfl (by kernel_rfl) (by kernel_rfl) (by kernel_rfl) (fun _ _ _ h => h) (Or.inl ⟨by rfl, ?_⟩) hHeld ?_
            rotate_left
            · (intro w hSw; (try dsimp only at hSw); go_simp; try with_reducible rfl)
            try simp only [Act.put, List.setIfInBounds_toArray, List.set_cons_zero, List.set_cons_succ, List.getElem_toArray, List.getElem_cons_zero, List.getElem_cons_succ]
            refine wpAnyH_take (i := 6) (v := undef) rfl (by kernel_rfl) (by kernel_rfl) (by kernel_rfl) (fun _ _ _ h => h) (Or.inr ⟨by rfl, rfl⟩) hHeld ?_
            try simp only [Act.put, List.setIfInBounds_toArray, List.set_cons_zero, List.set_cons_succ, List.getElem_toArray, List.getElem_cons_zero, List.getElem_cons_succ]
            refine wpAnyH_take (i := 7) (v := undef) rfl (by kernel_rfl) (by kernel_rfl) (by kernel_rfl) (fun _ _ _ h => h) (Or.inr ⟨by rfl, rfl⟩) hHeld ?_
            try simp only [Act.put, List.setIfInBounds_toArray, List.set_cons_zero, List.set_cons_succ, List.getElem_toArray, List.getElem_cons_zero, List.getElem_cons_succ]
            refine wpAnyH_take (i := 8) (v := undef) rfl (by kernel_rfl) (by kernel_rfl) (by kernel_rfl) (fun _ _ _ h => h) (Or.inr ⟨by rfl, rfl⟩) hHeld ?_
            try simp only [Act.put, List.setIfInBounds_toArray, List.set_cons_zero, List.set_cons_succ, List.getElem_toArray, List.getElem_cons_zero, List.getElem_cons_succ]
            refine wpAnyH_take (i := 9) (v := undef) rfl (by kernel_rfl) (by kernel_rfl) (by kernel_rfl) (fun _ _ _ h => h) (Or.inr ⟨by rfl, rfl⟩) hHeld ?_
            try simp only [Act.put, List.setIfInBounds_toArray, List.set_cons_zero, List.set_cons_succ, List.getElem_toArray, List.getElem_cons_zero, List.getElem_cons_succ]
            refine wpAnyH_take (i := 10) (v := undef) rfl (by kernel_rfl) (by kernel_rfl) (by kernel_rfl) (fun _ _ _ h => h) (Or.inr ⟨by rfl, rfl⟩) hHeld ?_
            try simp only [Act.put, List.setIfInBounds_toArray, List.set_cons_zero, List.set_cons_succ, List.getElem_toArray, List.getElem_cons_zero, List.getElem_cons_succ]
            refine wpAnyH_take (i := 11) (v := undef) rfl (by kernel_rfl) (by kernel_rfl) (by kernel_rfl) (fun _ _ _ h => h) (Or.inr ⟨by rfl, rfl⟩) hHeld ?_
            try simp only [Act.put, List.setIfInBounds_toArray, List.set_cons_zero, List.set_cons_succ, List.getElem_toArray, List.getElem_cons_zero, List.getElem_cons_succ]
            refine wpAnyH_take (i := 12) (v := undef) rfl (by kernel_rfl) (by kernel_rfl) (by kernel_rfl) (fun _ _ _ h => h) (Or.inr ⟨by rfl, rfl⟩) hHeld ?_
            try simp only [Act.put, List.setIfInBounds_toArray, List.set_cons_zero, List.set_cons_succ, List.getElem_toArray, List.getElem_cons_zero, List.getElem_cons_succ]
            refine wpAnyH_take (i := 13) (v := undef) rfl (by kernel_rfl) (by kernel_rfl) (by kernel_rfl) (fun _ _ _ h => h) (Or.inr ⟨by rfl, rfl⟩) hHeld ?_
            try simp only [Act.put, List.setIfInBounds_toArray, List.set_cons_zero, List.set_cons_succ, List.getElem_toArray, List.getElem_cons_zero, List.getElem_cons_succ]
            refine wpAnyH_take (i := 14) (v := undef) rfl (by kernel_rfl) (by kernel_rfl) (by kernel_rfl) (fun _ _ _ h => h) (Or.inr ⟨by rfl, rfl⟩) hHeld ?_
            try simp only [Act.put, List.setIfInBounds_toArray, List.set_cons_zero, List.set_cons_succ, List.getElem_toArray, List.getElem_cons_zero, List.getElem_cons_succ]
            refine wpAnyH_take (i := 15) (v := undef) rfl (by kernel_rfl) (by kernel_rfl) (by kernel_rfl) (fun _ _ _ h => h) (Or.inr ⟨by rfl, rfl⟩) hHeld ?_
            try simp only [Act.put, List.setIfInBounds_toArray, List.set_cons_zero, List.set_cons_succ, List.getElem_toArray, List.getElem_cons_zero, List.getElem_cons_succ]
            refine wpAnyH_take (i := 16) (v := undef) rfl (by kernel_rfl) (by kernel_rfl) (by kernel_rfl) (fun _ _ _ h => h) (Or.inr ⟨by rfl, rfl⟩) hHeld ?_
            try simp only [Act.put, List.setIfInBounds_toArray, List.set_cons_zero, List.set_cons_succ, List.getElem_toArray, List.getElem_cons_zero, List.getElem_cons_succ]
            refine wpAnyH_take (i := 17) (v := undef) rfl (by kernel_rfl) (by kernel_rfl) (by kernel_rfl) (fun _ _ _ h => h) (Or.inr ⟨by rfl, rfl⟩) hHeld ?_
            try simp only [Act.put, List.setIfInBounds_toArray, List.set_cons_zero, List.set_cons_succ, List.getElem_toArray, List.getElem_cons_zero, List.getElem_cons_succ]
            refine wpAnyH_take (i := 18) (v := ?_) rfl (by kernel_rfl) (by kernel_rfl) (by kernel_rfl) (fun _ _ _ h => h) (Or.inl ⟨by rfl, ?_⟩) hHeld ?_
            rotate_left
            · (intro w hSw; (try dsimp only at hSw); go_simp; try with_reducible rfl)
            try simp only [Act.put, List.setIfInBounds_toArray, List.set_cons_zero, List.set_cons_succ, List.getElem_toArray, List.getElem_cons_zero, List.getElem_cons_succ]
            refine wpAnyH_done (by kernel_rfl) ?_ _
            clear hHeld D1
            have c2 : X12.cell? ⟨b, 2, none⟩ = some (.int .i64 x) := D2.out.pc.blk.cell 2
            go_wp2_with fail
            refine wp_region_held_drew (S := fun W => Dv w b g cap ts m x y r k a v W) (by kernel_rfl) (D2.out.over (Below.refl _ _).drew) (fun hHeld => ?_)
            simp only [List.size_toArray, List.length_cons, List.length_nil, Nat.reduceAdd]
            have D3 : Hid (Dv w b g cap ts m x y r k a v X12.drew) := hHeld
            generalize X12.drew = X15 at *
            refine wpAnyH_take (i := 0) (v := ?_) rfl (by kernel_rfl) (by kernel_rfl) (by kernel_rfl) (fun _ _ _ h => h) (Or.inl ⟨by rfl, ?_⟩) hHeld ?_
            rotate_left
            · (intro w hSw; (try dsimp only at hSw); go_simp; try with_reducible rfl)
            try simp only [Act.put, List.setIfInBounds_toArray, List.set_cons_zero, List.set_cons_succ, List.getElem_toArray, List.getElem_cons_zero, List.getElem_cons_succ]
            refine wpAnyH_take (i := 1) (v := ?_) rfl (by kernel_rfl) (by kernel_rfl) (by kernel_rfl) (fun _ _ _ h => h) (Or.inl ⟨by rfl, ?_⟩) hHeld ?_
            rotate_left
            · (intro w hSw; (try dsimp only at hSw); go_simp; try with_reducible rfl)
            try simp only [Act.put, List.setIfInBounds_toArray, List.set_cons_zero, List.set_cons_succ, List.getElem_toArray, List.getElem_cons_zero, List.getElem_cons_succ]
            refine wpAnyH_take (i := 2) (v := ?_) rfl (by kernel_rfl) (by kernel_rfl) (by kernel_rfl) (fun _ _ _ h => h) (Or.inl ⟨by rfl, ?_⟩) hHeld ?_
            rotate_left
            · (intro w hSw; (try dsimp only at hSw); go_simp; try with_reducible rfl)
            try simp only [Act.put, List.setIfInBounds_toArray, List.set_cons_zero, List.set_cons_succ, List.getElem_toArray, List.getElem_cons_zero, List.getElem_cons_succ]
            refine wpAnyH_take (i := 3) (v := ?_) rfl (by kernel_rfl) (by kernel_rfl) (by kernel_rfl) (fun _ _ _ h => h) (Or.inl ⟨by rfl, ?_⟩) hHeld ?_
            rotate_left
            · (intro w hSw; (try dsimp only at hSw); go_simp; try with_reducible rfl)
            try simp only [Act.put, List.setIfInBounds_toArray, List.set_cons_zero, List.set_cons_succ, List.getElem_toArray, List.getElem_cons_zero, List.getElem_cons_succ]
            refine wpAnyH_take (i := 4) (v := ?_) rfl (by kernel_rfl) (by kernel_rfl) (by kernel_rfl) (fun _ _ _ h => h) (Or.inl ⟨by rfl, ?_⟩) hHeld ?_
            rotate_left
            · (intro w hSw; (try dsimp only at hSw); have c0 : w.cell? ⟨b, 0, none⟩ = some (.slice (some ⟨g, 0, none⟩) ts.length cap) := hSw.pc.blk.cell 0; have c1 : w.cell? ⟨b, 1, none⟩ = some (.int .i64 m) := hSw.pc.blk.cell 1; have c2 : w.cell? ⟨b, 2, none⟩ = some _ := hSw.pc.blk.cell 2; have c3 : w.cell? ⟨b, 3, none⟩ = some _ := hSw.pc.blk.cell 3; go_simp; try with_reducible rfl)
            try simp only [Act.put, List.setIfInBounds_toArray, List.set_cons_zero, List.set_cons_succ, List.getElem_toArray, List.getElem_cons_zero, List.getElem_cons_succ]
            refine wpAnyH_take (i := 5) (v := ?_) rfl (by kernel_rfl) (by kernel_rfl) (by kernel_rfl) (fun _ _ _ h => h) (Or.inl ⟨by rfl, ?_⟩) hHeld ?_
            rotate_left
            · (intro w hSw; (try dsimp only at hSw); go_simp; try with_reducible rfl)
            try simp only [Act.put, List.setIfInBounds_toArray, List.set_cons_zero, List.set_cons_succ, List.getElem_toArray, List.getElem_cons_zero, List.getElem_cons_succ]
            refine wpAnyH_take (i := 6) (v := ?_) rfl (by kernel_rfl) (by kernel_rfl) (by kernel_rfl) (fun _ _ _ h => h) (Or.inl ⟨by rfl, ?_⟩) hHeld ?_
            rotate_left
            · (intro w hSw; (try dsimp only at hSw); go_simp; try with_reducible rfl)
            try simp only [Act.put, List.setIfInBounds_toArray, List.set_cons_zero, List.set_cons_succ, List.getElem_toArray, List.getElem_cons_zero, List.getElem_cons_succ]
            refine wpAnyH_take (i := 7) (v := ?_) rfl (by kernel_rfl) (by kernel_rfl) (by kernel_rfl) (fun _ _ _ h => h) (Or.inl ⟨by rfl, ?_⟩) hHeld ?_
            rotate_left
            · (intro w hSw; (try dsimp only at hSw); go_simp; try with_reducible rfl)
            try simp only [Act.put, List.setIfInBounds_toArray, List.set_cons_zero, List.set_cons_succ, List.getElem_toArray, List.getElem_cons_zero, List.getElem_cons_succ]
            refine wpAnyH_take (i := 8) (v := ?_) rfl (by kernel_rfl) (by kernel_rfl) (by kernel_rfl) (fun _ _ _ h => h) (Or.inl ⟨by rfl, ?_⟩) hHeld ?_
            rotate_left
            · (intro w hSw; (try dsimp only at hSw); have c0 : w.cell? ⟨b, 0, none⟩ = some (.slice (some ⟨g, 0, none⟩) ts.length cap) := hSw.pc.blk.cell 0; have c1 : w.cell? ⟨b, 1, none⟩ = some (.int .i64 m) := hSw.pc.blk.cell 1; have c2 : w.cell? ⟨b, 2, none⟩ = some _ := hSw.pc.blk.cell 2; have c3 : w.cell? ⟨b, 3, none⟩ = some _ := hSw.pc.blk.cell 3; go_simp; try with_reducible rfl)
            try simp only [Act.put, List.setIfInBounds_toArray, List.set_cons_zero, List.set_cons_succ, List.getElem_toArray, List.getElem_cons_zero, List.getElem_cons_succ]
            have t0 : X15.cell? ⟨w.heap.size, 0, none⟩ = some (.int .i64 0) := D3.out.out.cell 0
            have t1 : X15.cell? ⟨w.heap.size, 1, none⟩ = some (.int .i64 0) := D3.out.out.cell 1
            have t2 : X15.cell? ⟨w.heap.size, 2, none⟩ = some (.slice none 0 0) := D3.out.out.cell 2
            have g0 := D3.out.out.f 0
            have g1 := D3.out.out.f 1
            have g2 := D3.out.out.f 2
            obtain ⟨Y, hY⟩ : ∃ Y, ((X15.setCell ⟨w.heap.size, 0, none⟩ (.int .i64 0)).setCell ⟨w.heap.size, 1, none⟩ (.int .i64 0)).setCell ⟨w.heap.size, 2, none⟩ (.slice none 0 0) = Y := ⟨_, rfl⟩
            have HY : Hid (((X15.setCell ⟨w.heap.size, 0, none⟩ (.int .i64 0)).setCell ⟨w.heap.size, 1, none⟩ (.int .i64 0)).setCell ⟨w.heap.size, 2, none⟩ (.slice none 0 0) = Y) := hY
            have D4 : Hid (Dv w b g cap ts m x y r k a v Y) := by
              have l1 := D3.out.lg
              have l2 := D3.out.lb
              have l3 := D3.out.lr
              show Dv w b g cap ts m x y r k a v Y
              rw [← hY]
              exact ⟨((D3.out.pc.other (by omega) (by omega) _).other (by omega) (by omega) _).other (by omega) (by omega) _, ((D3.out.out.set 0 _).set 1 _).set 2 _, ((D3.out.blk.other _ _ (by show r ≠ w.heap.size; omega)).other _ _ (by show r ≠ w.heap.size; omega)).other _ _ (by show r ≠ w.heap.size; omega), below_setCell' (below_setCell' (below_setCell' D3.out.be (Nat.le_refl _) _) (Nat.le_refl _) _) (Nat.le_refl _) _, l1, l2, l3⟩
            clear hY
            refine wpAnyH_ready (rs := [9]) (by kernel_rfl) (by simp) ?_
            refine AllReadyH.cons rfl (fun K hK => ?_) AllReadyH.nil
            go_simp
            rw [HY.out]
            refine hK.out _ _ (D4.out) (fun hHeld => ?_)
            clear hK K
            try simp only [Act.put, List.setIfInBounds_toArray, List.set_cons_zero, List.set_cons_succ, List.getElem_toArray, List.getElem_cons_zero, List.getElem_cons_succ]
            refine wpAnyH_take (i := 10) (v := ?_) rfl (by kernel_rfl) (by kernel_rfl) (by kernel_rfl) (fun _ _ _ h => h) (Or.inl ⟨by rfl, ?_⟩) hHeld ?_
            rotate_left
            · (intro w hSw; (try dsimp only at hSw); go_simp; try with_reducible rfl)
            try simp only [Act.put, List.setIfInBounds_toArray, List.set_cons_zero, List.set_cons_succ, List.getElem_toArray, List.getElem_cons_zero, List.getElem_cons_succ]
            refine wpAnyH_take (i := 11) (v := ?_) rfl (by kernel_rfl) (by kernel_rfl) (by kernel_rfl) (fun _ _ _ h => h) (Or.inl ⟨by rfl, ?_⟩) hHeld ?_
            rotate_left
            · (intro w hSw; (try dsimp only at hSw); go_simp; try with_reducible rfl)
            try simp only [Act.put, List.setIfInBounds_toArray, List.set_cons_zero, List.set_cons_succ, List.getElem_toArray, List.getElem_cons_zero, List.getElem_cons_succ]
            refine wpAnyH_done (by kernel_rfl) ?_ _
            clear hHeld t0 t1 t2 g0 g1 g2 HY D3
            go_wp2_with fail
            refine bodyPost_ret (v := .tuple #[.agg (rulL 0 0 (.slice none 0 0)).toArray, .int .i64 x, .int .i64 y]) ?_ rfl ⟨D4.out.be, by rw [HE.out]; rfl⟩
            exact results11 _ D4.out.out rfl rfl rfl
          · obtain ⟨pv, cv, rfl⟩ : ∃ p c, v = .slice p rv.length c := by
              rcases hR.own.2 with ⟨rfl, h0⟩ | ⟨g', c, cur, rfl, _⟩
              · exact ⟨none, 0, by rw [h0]⟩
              · exact ⟨_, c, rfl⟩
            have D1 : Hid (Dv w b g cap ts m 0 0 r d.k d.a (.slice pv rv.length cv) wr) := hD
            have R1 : Hid (Dr r (.slice pv rv.length cv) rv wr) := hR
            have HP : Hid (run .s0 ts = run (.s4 d (rv.map Rv.r)) (ts.drop m)) := hrun
            have HAT : Hid (∀ W, Pc W b g cap ts m 0 0 → ts[m].at W g (m * 4)) := fun W hW => hW.at hm
            have HLA : Hid (lenAt wr r = rv.length) := by
              show _ = _
              unfold lenAt
              rw [hD.blk.cell 2]
              rfl
            have hi : (m : Int) < (ts.length : Int) := by omega
            have hl : (m : Int) ≤ 100000 := by have := hD.pc.len; omega
            clear hD hR hrun
            by_cases h4 : ts[m].k = 4
            · have hk1 : ((ts[m].k : Int) == 4) = true := by rw [beq_iff_eq]; omega
              have hk2 : ((ts[m].k : Int) != 4) = false := by rw [bne, hk1]; rfl
              have HE : Hid (R = .ok (d, rv.map Rv.r)) := (HRR.out.symm.trans HP.out).trans (s4_end hm d _ h4)
              clear h4
              generalize ts[m] = tk at *
              go_wp2_with fail
              refine wp_region_held_drew (S := fun W => Dv w b g cap ts m 0 0 r d.k d.a (.slice pv rv.length cv) W) (by kernel_rfl) (D1.out.over (Below.refl _ _).drew) (fun hHeld => ?_)
              simp only [List.size_toArray, List.length_cons, List.length_nil, Nat.reduceAdd]
              have D2 : Hid (Dv w b g cap ts m 0 0 r d.k d.a (.slice pv rv.length cv) wr.drew) := hHeld
              have R2 : Hid (Dr r (.slice pv rv.length cv) rv wr.drew) := R1.out.over (Below.refl _ _).drew
              generalize wr.drew = X12 at *
              refine wpAnyH_take (i := 0) (v := ?_) rfl (by kernel_rfl) (by kernel_rfl) (by kernel_rfl) (fun _ _ _ h => h) (Or.inl ⟨by rfl, ?_⟩) hHeld ?_
              rotate_left
              · (intro w hSw; (try dsimp only at hSw); go_simp; try with_reducible rfl)
              try simp only [Act.put, List.setIfInBounds_toArray, List.set_cons_zero, List.set_cons_succ, List.getElem_toArray, List.getElem_cons_zero, List.getElem_cons_succ]
              refine wpAnyH_take (i := 1) (v := ?_) rfl (by kernel_rfl) (by kernel_rfl) (by kernel_rfl) (fun _ _ _ h => h) (Or.inl ⟨by rfl, ?_⟩) hHeld ?_
              rotate_left
              · (intro w hSw; (try dsimp only at hSw); go_simp; try with_reducible rfl)
              try simp only [Act.put, List.setIfInBounds_toArray, List.set_cons_zero, List.set_cons_succ, List.getElem_toArray, List.getElem_cons_zero, List.getElem_cons_succ]
              refine wpAnyH_take (i := 2) (v := ?_) rfl (by kernel_rfl) (by kernel_rfl) (by kernel_rfl) (fun _ _ _ h => h) (Or.inl ⟨by rfl, ?_⟩) hHeld ?_
              rotate_left
              · (intro w hSw; (try dsimp only at hSw); go_simp; try with_reducible rfl)
              try simp only [Act.put, List.setIfInBounds_toArray, List.set_cons_zero, List.set_cons_succ, List.getElem_toArray, List.getElem_cons_zero, List.getElem_cons_succ]
              refine wpAnyH_take (i := 3) (v := ?_) rfl (by kernel_rfl) (by kernel_rfl) (by kernel_rfl) (fun _ _ _ h => h) (Or.inl ⟨by rfl, ?_⟩) hHeld ?_
              rotate_left
              · (intro w hSw; (try dsimp only at hSw); have c0 : w.cell? ⟨b, 0, none⟩ = some (.slice (some ⟨g, 0, none⟩) ts.length cap) := hSw.pc.blk.cell 0; have c1 : w.cell? ⟨b, 1, none⟩ = some (.int .i64 m) := hSw.pc.blk.cell 1; have c2 : w.cell? ⟨b, 2, none⟩ = some _ := hSw.pc.blk.cell 2; have c3 : w.cell? ⟨b, 3, none⟩ = some _ := hSw.pc.blk.cell 3; obtain ⟨x0, x1, x2, x3⟩ := HAT.out w hSw.pc; go_simp; try with_reducible rfl)
              try simp only [Act.put, List.setIfInBounds_toArray, List.set_cons_zero, List.set_cons_succ, List.getElem_toArray, List.getElem_cons_zero, List.getElem_cons_succ]
              refine wpAnyH_take (i := 4) (v := ?_) rfl (by kernel_rfl) (by kernel_rfl) (by kernel_rfl) (fun _ _ _ h => h) (Or.inl ⟨by rfl, ?_⟩) hHeld ?_
              rotate_left
              · (intro w hSw; (try dsimp only at hSw); go_simp; try with_reducible rfl)
              try simp only [Act.put, List.setIfInBounds_toArray, List.set_cons_zero, List.set_cons_succ, List.getElem_toArray, List.getElem_cons_zero, List.getElem_cons_succ]
              refine wpAnyH_take (i := 5) (v := ?_) rfl (by kernel_rfl) (by kernel_rfl) (by kernel_rfl) (fun _ _ _ h => h) (Or.inl ⟨by rfl, ?_⟩) hHeld ?_
              rotate_left
              · (intro w hSw; (try dsimp only at hSw); go_simp; try with_reducible rfl)
              try simp only [Act.put, List.setIfInBounds_toArray, List.set_cons_zero, List.set_cons_succ, List.getElem_toArray, List.getElem_cons_zero, List.getElem_cons_succ]
              refine wpAnyH_take (i := 6) (v := ?_) rfl (by kernel_rfl) (by kernel_rfl) (by kernel_rfl) (fun _ _ _ h => h) (Or.inl ⟨by rfl, ?_⟩) hHeld ?_
              rotate_left
              · (intro w hSw; (try dsimp only at hSw); go_simp; try with_reducible rfl)
              try simp only [Act.put, List.setIfInBounds_toArray, List.set_cons_zero, List.set_cons_succ, List.getElem_toArray, List.getElem_cons_zero, List.getElem_cons_succ]
              refine wpAnyH_take (i := 7) (v := ?_) rfl (by kernel_rfl) (by kernel_rfl) (by kernel_rfl) (fun _ _ _ h => h) (Or.inl ⟨by rfl, ?_⟩) hHeld ?_
              rotate_left
              · (intro w hSw; (try dsimp only at hSw); go_simp; try with_reducible rfl)
              try simp only [Act.put, List.setIfInBounds_toArray, List.set_cons_zero, List.set_cons_succ, List.getElem_toArray, List.getElem_cons_zero, List.getElem_cons_succ]
              refine wpAnyH_take (i := 8) (v := ?_) rfl (by kernel_rfl) (by kernel_rfl) (by kernel_rfl) (fun _ _ _ h => h) (Or.inl ⟨by rfl, ?_⟩) hHeld ?_
              rotate_left
              · (intro w hSw; (try dsimp only at hSw); go_simp; try with_reducible rfl)
              try simp only [Act.put, List.setIfInBounds_toArray, List.set_cons_zero, List.set_cons_succ, List.getElem_toArray, List.getElem_cons_zero, List.getElem_cons_succ]
              refine wpAnyH_take (i := 9) (v := ?_) rfl (by kernel_rfl) (by kernel_rfl) (by kernel_rfl) (fun _ _ _ h => h) (Or.inl ⟨by rfl, ?_⟩) hHeld ?_
              rotate_left
              · (intro w hSw; (try dsimp only at hSw); have c0 : w.cell? ⟨b, 0, none⟩ = some (.slice (some ⟨g, 0, none⟩) ts.length cap) := hSw.pc.blk.cell 0; have c1 : w.cell? ⟨b, 1, none⟩ = some (.int .i64 m) := hSw.pc.blk.cell 1; have c2 : w.cell? ⟨b, 2, none⟩ = some _ := hSw.pc.blk.cell 2; have c3 : w.cell? ⟨b, 3, none⟩ = some _ := hSw.pc.blk.cell 3; obtain ⟨x0, x1, x2, x3⟩ := HAT.out w hSw.pc; go_simp; try with_reducible rfl)
              try simp only [Act.put, List.setIfInBounds_toArray, List.set_cons_zero, List.set_cons_succ, List.getElem_toArray, List.getElem_cons_zero, List.getElem_cons_succ]
              refine wpAnyH_take (i := 10) (v := ?_) rfl (by kernel_rfl) (by kernel_rfl) (by kernel_rfl) (fun _ _ _ h => h) (Or.inl ⟨by rfl, ?_⟩) hHeld ?_
              rotate_left
              · (intro w hSw; (try dsimp only at hSw); go_simp; try with_reducible rfl)
              try simp only [Act.put, List.setIfInBounds_toArray, List.set_cons_zero, List.set_cons_succ, List.getElem_toArray, List.getElem_cons_zero, List.getElem_cons_succ]
              refine wpAnyH_take (i := 11) (v := ?_) rfl (by kernel_rfl) (by kernel_rfl) (by kernel_rfl) (fun _ _ _ h => h) (Or.inl ⟨by rfl, ?_⟩) hHeld ?_
              rotate_left
              · (intro w hSw; (try dsimp only at hSw); go_simp; try with_reducible rfl)
              try simp only [Act.put, List.setIfInBounds_toArray, List.set_cons_zero, List.set_cons_succ, List.getElem_toArray, List.getElem_cons_zero, List.getElem_cons_succ]
              refine wpAnyH_take (i := 12) (v := ?_) rfl (by kernel_rfl) (by kernel_rfl) (by kernel_rfl) (fun _ _ _ h => h) (Or.inl ⟨by rfl, ?_⟩) hHeld ?_
              rotate_left
              · (intro w hSw; (try dsimp only at hSw); go_simp; try with_reducible rfl)
              try simp only [Act.put, List.setIfInBounds_toArray, List.set_cons_zero, List.set_cons_succ, List.getElem_toArray, List.getElem_cons_zero, List.getElem_cons_succ]
              refine wpAnyH_take (i := 13) (v := ?_) rfl (by kernel_rfl) (by kernel_rfl) (by kernel_rfl) (fun _ _ _ h => h) (Or.inl ⟨by rfl, ?_⟩) hHeld ?_
              rotate_left
              · (intro w hSw; (try dsimp only at hSw); have c0 : w.cell? ⟨b, 0, none⟩ = some (.slice (some ⟨g, 0, none⟩) ts.length cap) := hSw.pc.blk.cell 0; have c1 : w.cell? ⟨b, 1, none⟩ = some (.int .i64 m) := hSw.pc.blk.cell 1; have c2 : w.cell? ⟨b, 2, none⟩ = some _ := hSw.pc.blk.cell 2; have c3 : w.cell? ⟨b, 3, none⟩ = some _ := hSw.pc.blk.cell 3; obtain ⟨x0, x1, x2, x3⟩ := HAT.out w hSw.pc; go_simp; try with_reducible rfl)
              try simp only [Act.put, List.setIfInBounds_toArray, List.set_cons_zero, List.set_cons_succ, List.getElem_toArray, List.getElem_cons_zero, List.getElem_cons_succ]
              refine wpAnyH_take (i := 14) (v := ?_) rfl (by kernel_rfl) (by kernel_rfl) (by kernel_rfl) (fun _ _ _ h => h) (Or.inl ⟨by rfl, ?_⟩) hHeld ?_
              rotate_left
              · (intro w hSw; (try dsimp only at hSw); have c0 : w.cell? ⟨b, 0, none⟩ = some (.slice (some ⟨g, 0, none⟩) ts.length cap) := hSw.pc.blk.cell 0; have c1 : w.cell? ⟨b, 1, none⟩ = some (.int .i64 m) := hSw.pc.blk.cell 1; have c2 : w.cell? ⟨b, 2, none⟩ = some _ := hSw.pc.blk.cell 2; have c3 : w.cell? ⟨b, 3, none⟩ = some _ := hSw.pc.blk.cell 3; obtain ⟨x0, x1, x2, x3⟩ := HAT.out w hSw.pc; go_simp; try with_reducible rfl)
              try simp only [Act.put, List.setIfInBounds_toArray, List.set_cons_zero, List.set_cons_succ, List.getElem_toArray, List.getElem_cons_zero, List.getElem_cons_succ]
              refine wpAnyH_take (i := 15) (v := ?_) rfl (by kernel_rfl) (by kernel_rfl) (by kernel_rfl) (fun _ _ _ h => h) (Or.inl ⟨by rfl, ?_⟩) hHeld ?_
              rotate_left
              · (intro w hSw; (try dsimp only at hSw); go_simp; try with_reducible rfl)
              try simp only [Act.put, List.setIfInBounds_toArray, List.set_cons_zero, List.set_cons_succ, List.getElem_toArray, List.getElem_cons_zero, List.getElem_cons_succ]
              refine wpAnyH_take (i := 16) (v := ?_) rfl (by kernel_rfl) (by kernel_rfl) (by kernel_rfl) (fun _ _ _ h => h) (Or.inl ⟨by rfl, ?_⟩) hHeld ?_
              rotate_left
              · (intro w hSw; (try dsimp only at hSw); have c0 : w.cell? ⟨b, 0, none⟩ = some (.slice (some ⟨g, 0, none⟩) ts.length cap) := hSw.pc.blk.cell 0; have c1 : w.cell? ⟨b, 1, none⟩ = some (.int .i64 m) := hSw.pc.blk.cell 1; have c2 : w.cell? ⟨b, 2, none⟩ = some _ := hSw.pc.blk.cell 2; have c3 : w.cell? ⟨b, 3, none⟩ = some _ := hSw.pc.blk.cell 3; obtain ⟨x0, x1, x2, x3⟩ := HAT.out w hSw.pc; go_simp; try with_reducible rfl)
              try simp only [Act.put, List.setIfInBounds_toArray, List.set_cons_zero, List.set_cons_succ, List.getElem_toArray, List.getElem_cons_zero, List.getElem_cons_succ]
              refine wpAnyH_take (i := 17) (v := ?_) rfl (by kernel_rfl) (by kernel_rfl) (by kernel_rfl) (fun _ _ _ h => h) (Or.inl ⟨by rfl, ?_⟩) hHeld ?_
              rotate_left
              · (intro w hSw; (try dsimp only at hSw); go_simp; try with_reducible rfl)
              try simp only [Act.put, List.setIfInBounds_toArray, List.set_cons_zero, List.set_cons_succ, List.getElem_toArray, List.getElem_cons_zero, List.getElem_cons_succ]
              refine wpAnyH_take (i := 18) (v := ?_) rfl (by kernel_rfl) (by kernel_rfl) (by kernel_rfl) (fun _ _ _ h => h) (Or.inl ⟨by rfl, ?_⟩) hHeld ?_
              rotate_left
              · (intro w hSw; (try dsimp only at hSw); go_simp; try with_reducible rfl)
              try simp only [Act.put, List.setIfInBounds_toArray, List.set_cons_zero, List.set_cons_succ, List.getElem_toArray, List.getElem_cons_zero, List.getElem_cons_succ]
              refine wpAnyH_done (by kernel_rfl) ?_ _
              clear hHeld D1 R1 HAT
              have c2 : X12.cell? ⟨b, 2, none⟩ = some (.int .i64 0) := D2.out.pc.blk.cell 2
              go_wp2_with (first | (refine at_op' (.load 27 (.tmp 9)) rfl ?_; refine wpList_load_row rfl 27 (.tmp 9) rfl r rfl 27 (rulL d.k d.a (.slice pv rv.length cv)).toArray (0, 0) _ D2.out.blk Tryd.underlying27 rfl (rulL_size _ _ _) ?_) | (refine at_op' (.store 27 (.tmp 2) (.tmp 91)) rfl ?_; refine wpList_store_row rfl 27 (.tmp 2) (.tmp 91) rfl w.heap.size (rulL d.k d.a (.slice pv rv.length cv)).toArray rfl rfl 27 _ D2.out.out (rulL_size _ _ _) rfl (rulL_one rfl) ?_))
              have l1 := D2.out.lg
              have l2 := D2.out.lb
              have l3 := D2.out.lr
              refine bodyPost_ret (v := .tuple #[.agg (rulL d.k d.a (.slice pv rv.length cv)).toArray, .int .i64 0, .int .i64 (-1)]) ?_ rfl ⟨below_setRow' D2.out.be (Nat.le_refl _) _, ?_⟩
              · exact results11 _ (D2.out.out.row _) rfl rfl rfl
              · rw [HE.out]
                refine ⟨_, rv, rfl, rfl, owns_rls (base := r + 1) (owns_same R2.out.own fun j hj => setRow_other _ _ _ _ ?_) fun x hx => ⟨owns_same (R2.out.row x hx).1 fun j hj => setRow_other _ _ _ _ ?_, owns_same (R2.out.row x hx).2 fun j hj => setRow_other _ _ _ _ ?_⟩⟩
                · have := owns_block R2.out.own j hj; omega
                · have := owns_block (R2.out.row x hx).1 j hj; omega
                · have := owns_block (R2.out.row x hx).2 j hj; omega
            · have hk1 : ((ts[m].k : Int) == 4) = false := by rw [beq_eq_false_iff_ne]; omega
              have hk2 : ((ts[m].k : Int) != 4) = true := by rw [bne, hk1]; rfl
              have hk3 : ¬ (ts[m].k : Int) = 4 := by omega
              have HRU : Hid (∀ W (z : Int), z = (rv.length : Int) + 1 → Pc W b g cap ts m 0 0 → Calls Tryd.prog 22 #[.pointer (some ⟨b, 0, none⟩), .int .i64 z] W fun e w' => RuD W b g cap ts m (rv.length + 1) e w') := fun W z hz hW => by subst hz; exact rule_all W b g cap m ts (rv.length + 1) HT.out hW hm h4
              clear h4
              generalize ts[m] = tk at *
              go_wp2_with fail
              refine wp_region_held_drew (S := fun W => Dv w b g cap ts m 0 0 r d.k d.a (.slice pv rv.length cv) W) (by kernel_rfl) (D1.out.over (Below.refl _ _).drew) (fun hHeld => ?_)
              simp only [List.size_toArray, List.length_cons, List.length_nil, Nat.reduceAdd]
              have D2 : Hid (Dv w b g cap ts m 0 0 r d.k d.a (.slice pv rv.length cv) wr.drew) := hHeld
              have R2 : Hid (Dr r (.slice pv rv.length cv) rv wr.drew) := R1.out.over (Below.refl _ _).drew
              generalize wr.drew = X12 at *
              refine wpAnyH_take (i := 0) (v := ?_) rfl (by kernel_rfl) (by kernel_rfl) (by kernel_rfl) (fun _ _ _ h => h) (Or.inl ⟨by rfl, ?_⟩) hHeld ?_
              rotate_left
              · (intro w hSw; (try dsimp only at hSw); go_simp; try with_reducible rfl)
              try simp only [Act.put, List.setIfInBounds_toArray, List.set_cons_zero, List.set_cons_succ, List.getElem_toArray, List.getElem_cons_zero, List.getElem_cons_succ]
              refine wpAnyH_take (i := 1) (v := ?_) rfl (by kernel_rfl) (by kernel_rfl) (by kernel_rfl) (fun _ _ _ h => h) (Or.inl ⟨by rfl, ?_⟩) hHeld ?_
              rotate_left
              · (intro w hSw; (try dsimp only at hSw); go_simp; try with_reducible rfl)
              try simp only [Act.put, List.setIfInBounds_toArray, List.set_cons_zero, List.set_cons_succ, List.getElem_toArray, List.getElem_cons_zero, List.getElem_cons_succ]
              refine wpAnyH_take (i := 2) (v := ?_) rfl (by kernel_rfl) (by kernel_rfl) (by kernel_rfl) (fun _ _ _ h => h) (Or.inl ⟨by rfl, ?_⟩) hHeld ?_
              rotate_left
              · (intro w hSw; (try dsimp only at hSw); go_simp; try with_reducible rfl)
              try simp only [Act.put, List.setIfInBounds_toArray, List.set_cons_zero, List.set_cons_succ, List.getElem_toArray, List.getElem_cons_zero, List.getElem_cons_succ]
              refine wpAnyH_take (i := 3) (v := ?_) rfl (by kernel_rfl) (by kernel_rfl) (by kernel_rfl) (fun _ _ _ h => h) (Or.inl ⟨by rfl, ?_⟩) hHeld ?_
              rotate_left
              · (intro w hSw; (try dsimp only at hSw); have c0 : w.cell? ⟨b, 0, none⟩ = some (.slice (some ⟨g, 0, none⟩) ts.length cap) := hSw.pc.blk.cell 0; have c1 : w.cell? ⟨b, 1, none⟩ = some (.int .i64 m) := hSw.pc.blk.cell 1; have c2 : w.cell? ⟨b, 2, none⟩ = some _ := hSw.pc.blk.cell 2; have c3 : w.cell? ⟨b, 3, none⟩ = some _ := hSw.pc.blk.cell 3; obtain ⟨x0, x1, x2, x3⟩ := HAT.out w hSw.pc; go_simp; try with_reducible rfl)
              try simp only [Act.put, List.setIfInBounds_toArray, List.set_cons_zero, List.set_cons_succ, List.getElem_toArray, List.getElem_cons_zero, List.getElem_cons_succ]
              refine wpAnyH_take (i := 4) (v := ?_) rfl (by kernel_rfl) (by kernel_rfl) (by kernel_rfl) (fun _ _ _ h => h) (Or.inl ⟨by rfl, ?_⟩) hHeld ?_
              rotate_left
              · (intro w hSw; (try dsimp only at hSw); go_simp; try with_reducible rfl)
              try simp only [Act.put, List.setIfInBounds_toArray, List.set_cons_zero, List.set_cons_succ, List.getElem_toArray, List.getElem_cons_zero, List.getElem_cons_succ]
              refine wpAnyH_take (i := 5) (v := ?_) rfl (by kernel_rfl) (by kernel_rfl) (by kernel_rfl) (fun _ _ _ h => h) (Or.inl ⟨by rfl, ?_⟩) hHeld ?_
              rotate_left
              · (intro w hSw; (try dsimp only at hSw); go_simp; try with_reducible rfl)
              try simp only [Act.put, List.setIfInBounds_toArray, List.set_cons_zero, List.set_cons_succ, List.getElem_toArray, List.getElem_cons_zero, List.getElem_cons_succ]
              refine wpAnyH_take (i := 6) (v := ?_) rfl (by kernel_rfl) (by kernel_rfl) (by kernel_rfl) (fun _ _ _ h => h) (Or.inl ⟨by rfl, ?_⟩) hHeld ?_
              rotate_left
              · (intro w hSw; (try dsimp only at hSw); go_simp; try with_reducible rfl)
              try simp only [Act.put, List.setIfInBounds_toArray, List.set_cons_zero, List.set_cons_succ, List.getElem_toArray, List.getElem_cons_zero, List.getElem_cons_succ]
              refine wpAnyH_take (i := 7) (v := ?_) rfl (by kernel_rfl) (by kernel_rfl) (by kernel_rfl) (fun _ _ _ h => h) (Or.inl ⟨by rfl, ?_⟩) hHeld ?_
              rotate_left
              · (intro w hSw; (try dsimp only at hSw); go_simp; try with_reducible rfl)
              try simp only [Act.put, List.setIfInBounds_toArray, List.set_cons_zero, List.set_cons_succ, List.getElem_toArray, List.getElem_cons_zero, List.getElem_cons_succ]
              refine wpAnyH_take (i := 8) (v := ?_) rfl (by kernel_rfl) (by kernel_rfl) (by kernel_rfl) (fun _ _ _ h => h) (Or.inl ⟨by rfl, ?_⟩) hHeld ?_
              rotate_left
              · (intro w hSw; (try dsimp only at hSw); go_simp; try with_reducible rfl)
              try simp only [Act.put, List.setIfInBounds_toArray, List.set_cons_zero, List.set_cons_succ, List.getElem_toArray, List.getElem_cons_zero, List.getElem_cons_succ]
              refine wpAnyH_take (i := 9) (v := ?_) rfl (by kernel_rfl) (by kernel_rfl) (by kernel_rfl) (fun _ _ _ h => h) (Or.inl ⟨by rfl, ?_⟩) hHeld ?_
              rotate_left
              · (intro w hSw; (try dsimp only at hSw); have c0 : w.cell? ⟨b, 0, none⟩ = some (.slice (some ⟨g, 0, none⟩) ts.length cap) := hSw.pc.blk.cell 0; have c1 : w.cell? ⟨b, 1, none⟩ = some (.int .i64 m) := hSw.pc.blk.cell 1; have c2 : w.cell? ⟨b, 2, none⟩ = some _ := hSw.pc.blk.cell 2; have c3 : w.cell? ⟨b, 3, none⟩ = some _ := hSw.pc.blk.cell 3; obtain ⟨x0, x1, x2, x3⟩ := HAT.out w hSw.pc; go_simp; try with_reducible rfl)
              try simp only [Act.put, List.setIfInBounds_toArray, List.set_cons_zero, List.set_cons_succ, List.getElem_toArray, List.getElem_cons_zero, List.getElem_cons_succ]
              refine wpAnyH_take (i := 10) (v := ?_) rfl (by kernel_rfl) (by kernel_rfl) (by kernel_rfl) (fun _ _ _ h => h) (Or.inl ⟨by rfl, ?_⟩) hHeld ?_
              rotate_left
              · (intro w hSw; (try dsimp only at hSw); go_simp; try with_reducible rfl)
              try simp only [Act.put, List.setIfInBounds_toArray, List.set_cons_zero, List.set_cons_succ, List.getElem_toArray, List.getElem_cons_zero, List.getElem_cons_succ]
              refine wpAnyH_take (i := 11) (v := ?_) rfl (by kernel_rfl) (by kernel_rfl) (by kernel_rfl) (fun _ _ _ h => h) (Or.inl ⟨by rfl, ?_⟩) hHeld ?_
              rotate_left
              · (intro w hSw; (try dsimp only at hSw); go_simp; try with_reducible rfl)
              try simp only [Act.put, List.setIfInBounds_toArray, List.set_cons_zero, List.set_cons_succ, List.getElem_toArray, List.getElem_cons_zero, List.getElem_cons_succ]
              refine wpAnyH_take (i := 12) (v := ?_) rfl (by kernel_rfl) (by kernel_rfl) (by kernel_rfl) (fun _ _ _ h => h) (Or.inl ⟨by rfl, ?_⟩) hHeld ?_
              rotate_left
              · (intro w hSw; (try dsimp only at hSw); go_simp; try with_reducible rfl)
              try simp only [Act.put, List.setIfInBounds_toArray, List.set_cons_zero, List.set_cons_succ, List.getElem_toArray, List.getElem_cons_zero, List.getElem_cons_succ]
              refine wpAnyH_take (i := 13) (v := ?_) rfl (by kernel_rfl) (by kernel_rfl) (by kernel_rfl) (fun _ _ _ h => h) (Or.inl ⟨by rfl, ?_⟩) hHeld ?_
              rotate_left
              · (intro w hSw; (try dsimp only at hSw); have c0 : w.cell? ⟨b, 0, none⟩ = some (.slice (some ⟨g, 0, none⟩) ts.length cap) := hSw.pc.blk.cell 0; have c1 : w.cell? ⟨b, 1, none⟩ = some (.int .i64 m) := hSw.pc.blk.cell 1; have c2 : w.cell? ⟨b, 2, none⟩ = some _ := hSw.pc.blk.cell 2; have c3 : w.cell? ⟨b, 3, none⟩ = some _ := hSw.pc.blk.cell 3; obtain ⟨x0, x1, x2, x3⟩ := HAT.out w hSw.pc; go_simp; try with_reducible rfl)
              try simp only [Act.put, List.setIfInBounds_toArray, List.set_cons_zero, List.set_cons_succ, List.getElem_toArray, List.getElem_cons_zero, List.getElem_cons_succ]
              refine wpAnyH_take (i := 14) (v := ?_) rfl (by kernel_rfl) (by kernel_rfl) (by kernel_rfl) (fun _ _ _ h => h) (Or.inl ⟨by rfl, ?_⟩) hHeld ?_
              rotate_left
              · (intro w hSw; (try dsimp only at hSw); have c0 : w.cell? ⟨b, 0, none⟩ = some (.slice (some ⟨g, 0, none⟩) ts.length cap) := hSw.pc.blk.cell 0; have c1 : w.cell? ⟨b, 1, none⟩ = some (.int .i64 m) := hSw.pc.blk.cell 1; have c2 : w.cell? ⟨b, 2, none⟩ = some _ := hSw.pc.blk.cell 2; have c3 : w.cell? ⟨b, 3, none⟩ = some _ := hSw.pc.blk.cell 3; obtain ⟨x0, x1, x2, x3⟩ := HAT.out w hSw.pc; go_simp; try with_reducible rfl)
              try simp only [Act.put, List.setIfInBounds_toArray, List.set_cons_zero, List.set_cons_succ, List.getElem_toArray, List.getElem_cons_zero, List.getElem_cons_succ]
              refine wpAnyH_take (i := 15) (v := ?_) rfl (by kernel_rfl) (by kernel_rfl) (by kernel_rfl) (fun _ _ _ h => h) (Or.inl ⟨by rfl, ?_⟩) hHeld ?_
              rotate_left
              · (intro w hSw; (try dsimp only at hSw); go_simp; try with_reducible rfl)
              try simp only [Act.put, List.setIfInBounds_toArray, List.set_cons_zero, List.set_cons_succ, List.getElem_toArray, List.getElem_cons_zero, List.getElem_cons_succ]
              refine wpAnyH_take (i := 16) (v := ?_) rfl (by kernel_rfl) (by kernel_rfl) (by kernel_rfl) (fun _ _ _ h => h) (Or.inl ⟨by rfl, ?_⟩) hHeld ?_
              rotate_left
              · (intro w hSw; (try dsimp only at hSw); have c0 : w.cell? ⟨b, 0, none⟩ = some (.slice (some ⟨g, 0, none⟩) ts.length cap) := hSw.pc.blk.cell 0; have c1 : w.cell? ⟨b, 1, none⟩ = some (.int .i64 m) := hSw.pc.blk.cell 1; have c2 : w.cell? ⟨b, 2, none⟩ = some _ := hSw.pc.blk.cell 2; have c3 : w.cell? ⟨b, 3, none⟩ = some _ := hSw.pc.blk.cell 3; obtain ⟨x0, x1, x2, x3⟩ := HAT.out w hSw.pc; go_simp; try with_reducible rfl)
              try simp only [Act.put, List.setIfInBounds_toArray, List.set_cons_zero, List.set_cons_succ, List.getElem_toArray, List.getElem_cons_zero, List.getElem_cons_succ]
              refine wpAnyH_take (i := 17) (v := ?_) rfl (by kernel_rfl) (by kernel_rfl) (by kernel_rfl) (fun _ _ _ h => h) (Or.inl ⟨by rfl, ?_⟩) hHeld ?_
              rotate_left
              · (intro w hSw; (try dsimp only at hSw); go_simp; try with_reducible rfl)
              try simp only [Act.put, List.setIfInBounds_toArray, List.set_cons_zero, List.set_cons_succ, List.getElem_toArray, List.getElem_cons_zero, List.getElem_cons_succ]
              refine wpAnyH_take (i := 18) (v := ?_) rfl (by kernel_rfl) (by kernel_rfl) (by kernel_rfl) (fun _ _ _ h => h) (Or.inl ⟨by rfl, ?_⟩) hHeld ?_
              rotate_left
              · (intro w hSw; (try dsimp only at hSw); go_simp; try with_reducible rfl)
              try simp only [Act.put, List.setIfInBounds_toArray, List.set_cons_zero, List.set_cons_succ, List.getElem_toArray, List.getElem_cons_zero, List.getElem_cons_succ]
              refine wpAnyH_done (by kernel_rfl) ?_ _
              clear hHeld D1 R1 HAT
              go_wp2_with fail
              refine wp_region_held_drew (S := fun _ => True) (by kernel_rfl) (trivial) (fun hHeld => ?_)
              simp only [List.size_toArray, List.length_cons, List.length_nil, Nat.reduceAdd]
              have D5 : Hid (Dv w b g cap ts m 0 0 r d.k d.a (.slice pv rv.length cv) X12.drew) := D2.out.over (Below.refl _ _).drew
              have R5 : Hid (Dr r (.slice pv rv.length cv) rv X12.drew) := R2.out.over (Below.refl _ _).drew
              generalize X12.drew = X13 at *
              have s5 : X13.cell? ⟨r, 2, none⟩ = some (.slice pv rv.length cv) := D5.out.blk.cell 2
              refine wpAnyH_take (i := 0) (v := ?_) rfl (by kernel_rfl) (by kernel_rfl) (by kernel_rfl) (fun _ _ _ h => h) (Or.inl ⟨by rfl, ?_⟩) hHeld ?_
              rotate_left
              · (intro w hSw; (try dsimp only at hSw); go_simp; try with_reducible rfl)
              try simp only [Act.put, List.setIfInBounds_toArray, List.set_cons_zero, List.set_cons_succ, List.getElem_toArray, List.getElem_cons_zero, List.getElem_cons_succ]
              refine wpAnyH_take (i := 2) (v := ?_) rfl (by kernel_rfl) (by kernel_rfl) (by kernel_rfl) (fun _ _ _ h => h) (Or.inl ⟨by rfl, ?_⟩) hHeld ?_
              rotate_left
              · (intro w hSw; (try dsimp only at hSw); go_simp; try with_reducible rfl)
              try simp only [Act.put, List.setIfInBounds_toArray, List.set_cons_zero, List.set_cons_succ, List.getElem_toArray, List.getElem_cons_zero, List.getElem_cons_succ]
              refine wpAnyH_take (i := 3) (v := ?_) rfl (by kernel_rfl) (by kernel_rfl) (by kernel_rfl) (fun _ _ _ h => h) (Or.inl ⟨by rfl, ?_⟩) hHeld ?_
              rotate_left
              · (intro w hSw; (try dsimp only at hSw); go_simp; try with_reducible rfl)
              try simp only [Act.put, List.setIfInBounds_toArray, List.set_cons_zero, List.set_cons_succ, List.getElem_toArray, List.getElem_cons_zero, List.getElem_cons_succ]
              refine wpAnyH_ready (rs := [1, 4]) (by kernel_rfl) (by simp) ?_
              refine (AllReadyH.cons rfl (fun K hK => ?_) (AllReadyH.cons rfl (fun K hK => ?_) AllReadyH.nil))
              ·
                go_simp
                refine hK.out _ _ (trivial) (fun hHeld => ?_)
                clear hK K
                try simp only [Act.put, List.setIfInBounds_toArray, List.set_cons_zero, List.set_cons_succ, List.getElem_toArray, List.getElem_cons_zero, List.getElem_cons_succ]
                refine wpAnyH_ready (rs := [4]) (by kernel_rfl) (by simp) ?_
                refine (AllReadyH.cons rfl (fun K hK => ?_) AllReadyH.nil)
                go_simp
                refine hK.out _ _ (trivial) (fun hHeld => ?_)
                clear hK K
                try simp only [Act.put, List.setIfInBounds_toArray, List.set_cons_zero, List.set_cons_succ, List.getElem_toArray, List.getElem_cons_zero, List.getElem_cons_succ]
                refine wpAnyH_take (i := 5) (v := ?_) rfl (by kernel_rfl) (by kernel_rfl) (by kernel_rfl) (fun _ _ _ h => h) (Or.inl ⟨by rfl, ?_⟩) hHeld ?_
                rotate_left
                · (intro w hSw; (try dsimp only at hSw); go_simp; try with_reducible rfl)
                try simp only [Act.put, List.setIfInBounds_toArray, List.set_cons_zero, List.set_cons_succ, List.getElem_toArray, List.getElem_cons_zero, List.getElem_cons_succ]
                refine wpAnyH_take (i := 6) (v := ?_) rfl (by kernel_rfl) (by kernel_rfl) (by kernel_rfl) (fun _ _ _ h => h) (Or.inl ⟨by rfl, ?_⟩) hHeld ?_
                rotate_left
                · (intro w hSw; (try dsimp only at hSw); go_simp; try with_reducible rfl)
                try simp only [Act.put, List.setIfInBounds_toArray, List.set_cons_zero, List.set_cons_succ, List.getElem_toArray, List.getElem_cons_zero, List.getElem_cons_succ]
                refine wpAnyH_ready (rs := [7]) (by kernel_rfl) (by simp) ?_
                refine (AllReadyH.cons rfl (fun K hK => ?_) AllReadyH.nil)
                go_simp
                refine (HRU.out _ _ ?_ D5.out.pc).mono ?_
                · first | rfl | (rw [IntKind.wrap_i64]; omega) | (unfold wrap64; omega)
                rintro e w6 ⟨b6, ⟨x6, y6, m6, k6, a6, vn, vc, hx6, rfl, on6, oc6, P6, h6⟩ | ⟨q6, m6, vn, vc, hm6, hj6, rfl, P6, o6, q7, h6⟩⟩
                ·
                  have D6 : Hid (Dv w b g cap ts m6 x6 y6 r d.k d.a (.slice pv rv.length cv) w6) := D5.out.on b6 P6
                  have R6 : Hid (Dr r (.slice pv rv.length cv) rv w6) := R5.out.on b6 D5.out.lr
                  have HN6 : Hid (run .s0 ts = .error (x6, y6)) := by
                    show _ = _
                    rw [HP.out, h6 d _ (by simp)]
                  have HO6 : Hid (vn.oneCell' = true ∧ vc.oneCell' = true ∧ ¬ x6 = 0) := ⟨on6, oc6, hx6⟩
                  clear b6 P6 h6 hx6 on6 oc6
                  have s6 : w6.cell? ⟨r, 2, none⟩ = some (.slice pv rv.length cv) := D6.out.blk.cell 2
                  go_wp2_with fail
                  refine hK.out _ _ (trivial) (fun hHeld => ?_)
                  clear hK K
                  try simp only [Act.put, List.setIfInBounds_toArray, List.set_cons_zero, List.set_cons_succ, List.getElem_toArray, List.getElem_cons_zero, List.getElem_cons_succ]
                  refine wpAnyH_ready (rs := [8]) (by kernel_rfl) (by simp) ?_
                  refine (AllReadyH.cons rfl (fun K hK => ?_) AllReadyH.nil)
                  go_simp
                  have hal : Below w6.heap.size w6 (w6.alloc (Obj.cells #[.int .i64 k6, .int .i64 a6, vn, vc] 43)) := (Below.refl _ _).alloc (Nat.le_refl _) _
                  have D7 : Hid (Dv w b g cap ts m6 x6 y6 r d.k d.a (.slice pv rv.length cv) (w6.alloc (Obj.cells #[.int .i64 k6, .int .i64 a6, vn, vc] 43))) := D6.out.over hal
                  have R7 : Hid (Dr r (.slice pv rv.length cv) rv (w6.alloc (Obj.cells #[.int .i64 k6, .int .i64 a6, vn, vc] 43))) := R6.out.over hal
                  have s7 : (w6.alloc (Obj.cells #[.int .i64 k6, .int .i64 a6, vn, vc] 43)).cell? ⟨r, 2, none⟩ = some (.slice pv rv.length cv) := D7.out.blk.cell 2
                  clear hal
                  refine hK.out _ _ (trivial) (fun hHeld => ?_)
                  clear hK K
                  try simp only [Act.put, List.setIfInBounds_toArray, List.set_cons_zero, List.set_cons_succ, List.getElem_toArray, List.getElem_cons_zero, List.getElem_cons_succ]
                  refine wpAnyH_ready (rs := [9]) (by kernel_rfl) (by simp) ?_
                  refine AllReadyH.cons rfl (fun K hK => ?_) AllReadyH.nil
                  refine step_append_rl (by rfl) (.tmp 67) (.tmp 74) (by rfl) (r + 1) _ rv.length (cellsR rv) (by rfl) R7.out.own (ruleL k6 a6 vn vc) rfl (rl_one HO6.out.1 HO6.out.2.1) ⟨w6.heap.size, 0, none⟩ (by rfl) (rl_new w6 _ _ _ _) (by omega) D7.out.blk.lt ?_
                  intro v8 w8 ho8 hg8
                  have D8 : Hid (Dv w b g cap ts m6 x6 y6 r d.k d.a (.slice pv rv.length cv) w8) := D7.out.grown R7.out.own hg8
                  have s8 : w8.cell? ⟨r, 2, none⟩ = some (.slice pv rv.length cv) := D8.out.blk.cell 2
                  have f8 := D8.out.blk.f 2
                  obtain ⟨p8, c8, hv8⟩ : ∃ p c, v8 = .slice p (rv.length + 1) c := by
                    rcases ho8.2 with ⟨_, h0⟩ | ⟨g', c, cur, hv, _⟩
                    · omega
                    · exact ⟨_, c, hv⟩
                  subst hv8
                  clear ho8 hg8
                  refine hK.out _ _ (trivial) (fun hHeld => ?_)
                  clear hK K
                  try simp only [Act.put, List.setIfInBounds_toArray, List.set_cons_zero, List.set_cons_succ, List.getElem_toArray, List.getElem_cons_zero, List.getElem_cons_succ]
                  refine wpAnyH_take (i := 10) (v := ?_) rfl (by kernel_rfl) (by kernel_rfl) (by kernel_rfl) (fun _ _ _ h => h) (Or.inl ⟨by rfl, ?_⟩) hHeld ?_
                  rotate_left
                  · (intro w hSw; (try dsimp only at hSw); go_simp; try with_reducible rfl)
                  try simp only [Act.put, List.setIfInBounds_toArray, List.set_cons_zero, List.set_cons_succ, List.getElem_toArray, List.getElem_cons_zero, List.getElem_cons_succ]
                  refine wpAnyH_ready (rs := [11]) (by kernel_rfl) (by simp) ?_
                  refine AllReadyH.cons rfl (fun K hK => ?_) AllReadyH.nil
                  go_simp
                  refine hK.out _ _ (trivial) (fun hHeld => ?_)
                  clear hK K
                  try simp only [Act.put, List.setIfInBounds_toArray, List.set_cons_zero, List.set_cons_succ, List.getElem_toArray, List.getElem_cons_zero, List.getElem_cons_succ]
                  refine wpAnyH_done (by kernel_rfl) ?_ _
                  have D9 := D8.out.setV (.slice p8 (rv.length + 1) c8)
                  have HLD : Hid (70 - lenAt (w8.setCell ⟨r, 2, none⟩ (.slice p8 (rv.length + 1) c8)) r < 70 - lenAt wr r) := by
                    have e9 : lenAt (w8.setCell ⟨r, 2, none⟩ (.slice p8 (rv.length + 1) c8)) r = rv.length + 1 := by
                      unfold lenAt
                      rw [D9.blk.cell 2]
                      rfl
                    show _ < _
                    rw [e9, HLA.out]
                    omega
                  have HD9 : Hid _ := D9
                  clear hHeld s8 f8 D9
                  go_wp2_with fail
                  go_roundw
                  case rel => exact .inl ⟨x6, y6, m6, d.k, d.a, _, HO6.out.2.2, HD9.out, rfl, HN6.out⟩
                  case measure => exact HLD.out
                ·
                  have D6 : Hid (Dv w b g cap ts m6 0 0 r d.k d.a (.slice pv rv.length cv) w6) := D5.out.on b6 P6
                  have R6 : Hid (Dr r (.slice pv rv.length cv) rv w6) := R5.out.on b6 D5.out.lr
                  have HX6 : Hid (Rows2 w6 (r + 1) ⟨q6, vn, vc⟩) := ⟨owns_lower o6 D5.out.blk.lt, owns_lower q7 D5.out.blk.lt⟩
                  have HN6 : Hid (run .s0 ts = run (.s4 d ((rv ++ [(⟨q6, vn, vc⟩ : Rv)]).map Rv.r)) (ts.drop m6)) := by
                    show _ = _
                    rw [HP.out, h6 d _ (by simp)]
                    simp
                  have HO6 : Hid (vn.oneCell' = true ∧ vc.oneCell' = true ∧ m6 < ts.length) := ⟨owns_cell o6, owns_cell q7, hm6⟩
                  clear b6 P6 o6 q7 h6 hm6
                  have s6 : w6.cell? ⟨r, 2, none⟩ = some (.slice pv rv.length cv) := D6.out.blk.cell 2
                  go_wp2_with fail
                  refine hK.out _ _ (trivial) (fun hHeld => ?_)
                  clear hK K
                  try simp only [Act.put, List.setIfInBounds_toArray, List.set_cons_zero, List.set_cons_succ, List.getElem_toArray, List.getElem_cons_zero, List.getElem_cons_succ]
                  refine wpAnyH_ready (rs := [8]) (by kernel_rfl) (by simp) ?_
                  refine (AllReadyH.cons rfl (fun K hK => ?_) AllReadyH.nil)
                  go_simp
                  have hal : Below w6.heap.size w6 (w6.alloc (Obj.cells #[.int .i64 q6.act.k, .int .i64 q6.act.a, vn, vc] 43)) := (Below.refl _ _).alloc (Nat.le_refl _) _
                  have D7 : Hid (Dv w b g cap ts m6 0 0 r d.k d.a (.slice pv rv.length cv) (w6.alloc (Obj.cells #[.int .i64 q6.act.k, .int .i64 q6.act.a, vn, vc] 43))) := D6.out.over hal
                  have R7 : Hid (Dr r (.slice pv rv.length cv) rv (w6.alloc (Obj.cells #[.int .i64 q6.act.k, .int .i64 q6.act.a, vn, vc] 43))) := R6.out.over hal
                  have s7 : (w6.alloc (Obj.cells #[.int .i64 q6.act.k, .int .i64 q6.act.a, vn, vc] 43)).cell? ⟨r, 2, none⟩ = some (.slice pv rv.length cv) := D7.out.blk.cell 2
                  clear hal
                  refine hK.out _ _ (trivial) (fun hHeld => ?_)
                  clear hK K
                  try simp only [Act.put, List.setIfInBounds_toArray, List.set_cons_zero, List.set_cons_succ, List.getElem_toArray, List.getElem_cons_zero, List.getElem_cons_succ]
                  refine wpAnyH_ready (rs := [9]) (by kernel_rfl) (by simp) ?_
                  refine AllReadyH.cons rfl (fun K hK => ?_) AllReadyH.nil
                  refine step_append_rl (by rfl) (.tmp 67) (.tmp 74) (by rfl) (r + 1) _ rv.length (cellsR rv) (by rfl) R7.out.own (ruleL q6.act.k q6.act.a vn vc) rfl (rl_one HO6.out.1 HO6.out.2.1) ⟨w6.heap.size, 0, none⟩ (by rfl) (rl_new w6 _ _ _ _) (by omega) D7.out.blk.lt ?_
                  intro v8 w8 ho8 hg8
                  have D8 : Hid (Dv w b g cap ts m6 0 0 r d.k d.a (.slice pv rv.length cv) w8) := D7.out.grown R7.out.own hg8
                  have R8 : Hid (Dr r v8 (rv ++ [(⟨q6, vn, vc⟩ : Rv)]) (w8.setCell ⟨r, 2, none⟩ v8)) := R7.out.app (HX6.out.over ((Below.refl _ _).alloc (Nat.le_refl _) _)) (by rw [cellsR_snoc]; exact ho8) hg8
                  have s8 : w8.cell? ⟨r, 2, none⟩ = some (.slice pv rv.length cv) := D8.out.blk.cell 2
                  have f8 := D8.out.blk.f 2
                  obtain ⟨p8, c8, hv8⟩ : ∃ p c, v8 = .slice p (rv.length + 1) c := by
                    rcases ho8.2 with ⟨_, h0⟩ | ⟨g', c, cur, hv, _⟩
                    · omega
                    · exact ⟨_, c, hv⟩
                  subst hv8
                  clear ho8 hg8
                  refine hK.out _ _ (trivial) (fun hHeld => ?_)
                  clear hK K
                  try simp only [Act.put, List.setIfInBounds_toArray, List.set_cons_zero, List.set_cons_succ, List.getElem_toArray, List.getElem_cons_zero, List.getElem_cons_succ]
                  refine wpAnyH_take (i := 10) (v := ?_) rfl (by kernel_rfl) (by kernel_rfl) (by kernel_rfl) (fun _ _ _ h => h) (Or.inl ⟨by rfl, ?_⟩) hHeld ?_
                  rotate_left
                  · (intro w hSw; (try dsimp only at hSw); go_simp; try with_reducible rfl)
                  try simp only [Act.put, List.setIfInBounds_toArray, List.set_cons_zero, List.set_cons_succ, List.getElem_toArray, List.getElem_cons_zero, List.getElem_cons_succ]
                  refine wpAnyH_ready (rs := [11]) (by kernel_rfl) (by simp) ?_
                  refine AllReadyH.cons rfl (fun K hK => ?_) AllReadyH.nil
                  go_simp
                  refine hK.out _ _ (trivial) (fun hHeld => ?_)
                  clear hK K
                  try simp only [Act.put, List.setIfInBounds_toArray, List.set_cons_zero, List.set_cons_succ, List.getElem_toArray, List.getElem_cons_zero, List.getElem_cons_succ]
                  refine wpAnyH_done (by kernel_rfl) ?_ _
                  have D9 := D8.out.setV (.slice p8 (rv.length + 1) c8)
                  have HLD : Hid (70 - lenAt (w8.setCell ⟨r, 2, none⟩ (.slice p8 (rv.length + 1) c8)) r < 70 - lenAt wr r) := by
                    have e9 : lenAt (w8.setCell ⟨r, 2, none⟩ (.slice p8 (rv.length + 1) c8)) r = rv.length + 1 := by
                      unfold lenAt
                      rw [D9.blk.cell 2]
                      rfl
                    show _ < _
                    rw [e9, HLA.out]
                    omega
                  have HD9 : Hid _ := D9
                  clear hHeld s8 f8 D9
                  go_wp2_with fail
                  go_roundw
                  case rel => exact .inr ⟨m6, d, _, rv ++ [(⟨q6, vn, vc⟩ : Rv)], HD9.out, R8.out, HO6.out.2.2, by simp; omega, HN6.out⟩
                  case measure => exact HLD.out
              ·
                go_simp
                refine hK.out _ _ (trivial) (fun hHeld => ?_)
                clear hK K
                try simp only [Act.put, List.setIfInBounds_toArray, List.set_cons_zero, List.set_cons_succ, List.getElem_toArray, List.getElem_cons_zero, List.getElem_cons_succ]
                refine wpAnyH_take (i := 5) (v := ?_) rfl (by kernel_rfl) (by kernel_rfl) (by kernel_rfl) (fun _ _ _ h => h) (Or.inl ⟨by rfl, ?_⟩) hHeld ?_
                rotate_left
                · (intro w hSw; (try dsimp only at hSw); go_simp; try with_reducible rfl)
                try simp only [Act.put, List.setIfInBounds_toArray, List.set_cons_zero, List.set_cons_succ, List.getElem_toArray, List.getElem_cons_zero, List.getElem_cons_succ]
                refine wpAnyH_take (i := 6) (v := ?_) rfl (by kernel_rfl) (by kernel_rfl) (by kernel_rfl) (fun _ _ _ h => h) (Or.inl ⟨by rfl, ?_⟩) hHeld ?_
                rotate_left
                · (intro w hSw; (try dsimp only at hSw); go_simp; try with_reducible rfl)
                try simp only [Act.put, List.setIfInBounds_toArray, List.set_cons_zero, List.set_cons_succ, List.getElem_toArray, List.getElem_cons_zero, List.getElem_cons_succ]
                refine wpAnyH_ready (rs := [1, 7]) (by kernel_rfl) (by simp) ?_
                refine (AllReadyH.cons rfl (fun K hK => ?_) (AllReadyH.cons rfl (fun K hK => ?_) AllReadyH.nil))
                ·
                  go_simp
                  refine hK.out _ _ (trivial) (fun hHeld => ?_)
                  clear hK K
                  try simp only [Act.put, List.setIfInBounds_toArray, List.set_cons_zero, List.set_cons_succ, List.getElem_toArray, List.getElem_cons_zero, List.getElem_cons_succ]
                  refine wpAnyH_ready (rs := [7]) (by kernel_rfl) (by simp) ?_
                  refine (AllReadyH.cons rfl (fun K hK => ?_) AllReadyH.nil)
                  go_simp
                  refine (HRU.out _ _ ?_ D5.out.pc).mono ?_
                  · first | rfl | (rw [IntKind.wrap_i64]; omega) | (unfold wrap64; omega)
                  rintro e w6 ⟨b6, ⟨x6, y6, m6, k6, a6, vn, vc, hx6, rfl, on6, oc6, P6, h6⟩ | ⟨q6, m6, vn, vc, hm6, hj6, rfl, P6, o6, q7, h6⟩⟩
                  ·
                    have D6 : Hid (Dv w b g cap ts m6 x6 y6 r d.k d.a (.slice pv rv.length cv) w6) := D5.out.on b6 P6
                    have R6 : Hid (Dr r (.slice pv rv.length cv) rv w6) := R5.out.on b6 D5.out.lr
                    have HN6 : Hid (run .s0 ts = .error (x6, y6)) := by
                      show _ = _
                      rw [HP.out, h6 d _ (by simp)]
                    have HO6 : Hid (vn.oneCell' = true ∧ vc.oneCell' = true ∧ ¬ x6 = 0) := ⟨on6, oc6, hx6⟩
                    clear b6 P6 h6 hx6 on6 oc6
                    have s6 : w6.cell? ⟨r, 2, none⟩ = some (.slice pv rv.length cv) := D6.out.blk.cell 2
                    go_wp2_with fail
                    refine hK.out _ _ (trivial) (fun hHeld => ?_)
                    clear hK K
                    try simp only [Act.put, List.setIfInBounds_toArray, List.set_cons_zero, List.set_cons_succ, List.getElem_toArray, List.getElem_cons_zero, List.getElem_cons_succ]
                    refine wpAnyH_ready (rs := [8]) (by kernel_rfl) (by simp) ?_
                    refine (AllReadyH.cons rfl (fun K hK => ?_) AllReadyH.nil)
                    go_simp
                    have hal : Below w6.heap.size w6 (w6.alloc (Obj.cells #[.int .i64 k6, .int .i64 a6, vn, vc] 43)) := (Below.refl _ _).alloc (Nat.le_refl _) _
                    have D7 : Hid (Dv w b g cap ts m6 x6 y6 r d.k d.a (.slice pv rv.length cv) (w6.alloc (Obj.cells #[.int .i64 k6, .int .i64 a6, vn, vc] 43))) := D6.out.over hal
                    have R7 : Hid (Dr r (.slice pv rv.length cv) rv (w6.alloc (Obj.cells #[.int .i64 k6, .int .i64 a6, vn, vc] 43))) := R6.out.over hal
                    have s7 : (w6.alloc (Obj.cells #[.int .i64 k6, .int .i64 a6, vn, vc] 43)).cell? ⟨r, 2, none⟩ = some (.slice pv rv.length cv) := D7.out.blk.cell 2
                    clear hal
                    refine hK.out _ _ (trivial) (fun hHeld => ?_)
                    clear hK K
                    try simp only [Act.put, List.setIfInBounds_toArray, List.set_cons_zero, List.set_cons_succ, List.getElem_toArray, List.getElem_cons_zero, List.getElem_cons_succ]
                    refine wpAnyH_ready (rs := [9]) (by kernel_rfl) (by simp) ?_
                    refine AllReadyH.cons rfl (fun K hK => ?_) AllReadyH.nil
                    refine step_append_rl (by rfl) (.tmp 67) (.tmp 74) (by rfl) (r + 1) _ rv.length (cellsR rv) (by rfl) R7.out.own (ruleL k6 a6 vn vc) rfl (rl_one HO6.out.1 HO6.out.2.1) ⟨w6.heap.size, 0, none⟩ (by rfl) (rl_new w6 _ _ _ _) (by omega) D7.out.blk.lt ?_
                    intro v8 w8 ho8 hg8
                    have D8 : Hid (Dv w b g cap ts m6 x6 y6 r d.k d.a (.slice pv rv.length cv) w8) := D7.out.grown R7.out.own hg8
                    have s8 : w8.cell? ⟨r, 2, none⟩ = some (.slice pv rv.length cv) := D8.out.blk.cell 2
                    have f8 := D8.out.blk.f 2
                    obtain ⟨p8, c8, hv8⟩ : ∃ p c, v8 = .slice p (rv.length + 1) c := by
                      rcases ho8.2 with ⟨_, h0⟩ | ⟨g', c, cur, hv, _⟩
                      · omega
                      · exact ⟨_, c, hv⟩
                    subst hv8
                    clear ho8 hg8
                    refine hK.out _ _ (trivial) (fun hHeld => ?_)
                    clear hK K
                    try simp only [Act.put, List.setIfInBounds_toArray, List.set_cons_zero, List.set_cons_succ, List.getElem_toArray, List.getElem_cons_zero, List.getElem_cons_succ]
                    refine wpAnyH_take (i := 10) (v := ?_) rfl (by kernel_rfl) (by kernel_rfl) (by kernel_rfl) (fun _ _ _ h => h) (Or.inl ⟨by rfl, ?_⟩) hHeld ?_
                    rotate_left
                    · (intro w hSw; (try dsimp only at hSw); go_simp; try with_reducible rfl)
                    try simp only [Act.put, List.setIfInBounds_toArray, List.set_cons_zero, List.set_cons_succ, List.getElem_toArray, List.getElem_cons_zero, List.getElem_cons_succ]
                    refine wpAnyH_ready (rs := [11]) (by kernel_rfl) (by simp) ?_
                    refine AllReadyH.cons rfl (fun K hK => ?_) AllReadyH.nil
                    go_simp
                    refine hK.out _ _ (trivial) (fun hHeld => ?_)
                    clear hK K
                    try simp only [Act.put, List.setIfInBounds_toArray, List.set_cons_zero, List.set_cons_succ, List.getElem_toArray, List.getElem_cons_zero, List.getElem_cons_succ]
                    refine wpAnyH_done (by kernel_rfl) ?_ _
                    have D9 := D8.out.setV (.slice p8 (rv.length + 1) c8)
                    have HLD : Hid (70 - lenAt (w8.setCell ⟨r, 2, none⟩ (.slice p8 (rv.length + 1) c8)) r < 70 - lenAt wr r) := by
                      have e9 : lenAt (w8.setCell ⟨r, 2, none⟩ (.slice p8 (rv.length + 1) c8)) r = rv.length + 1 := by
                        unfold lenAt
                        rw [D9.blk.cell 2]
                        rfl
                      show _ < _
                      rw [e9, HLA.out]
                      omega
                    have HD9 : Hid _ := D9
                    clear hHeld s8 f8 D9
                    go_wp2_with fail
                    go_roundw
                    case rel => exact .inl ⟨x6, y6, m6, d.k, d.a, _, HO6.out.2.2, HD9.out, rfl, HN6.out⟩
                    case measure => exact HLD.out
                  ·
                    have D6 : Hid (Dv w b g cap ts m6 0 0 r d.k d.a (.slice pv rv.length cv) w6) := D5.out.on b6 P6
                    have R6 : Hid (Dr r (.slice pv rv.length cv) rv w6) := R5.out.on b6 D5.out.lr
                    have HX6 : Hid (Rows2 w6 (r + 1) ⟨q6, vn, vc⟩) := ⟨owns_lower o6 D5.out.blk.lt, owns_lower q7 D5.out.blk.lt⟩
                    have HN6 : Hid (run .s0 ts = run (.s4 d ((rv ++ [(⟨q6, vn, vc⟩ : Rv)]).map Rv.r)) (ts.drop m6)) := by
                      show _ = _
                      rw [HP.out, h6 d _ (by simp)]
                      simp
                    have HO6 : Hid (vn.oneCell' = true ∧ vc.oneCell' = true ∧ m6 < ts.length) := ⟨owns_cell o6, owns_cell q7, hm6⟩
                    clear b6 P6 o6 q7 h6 hm6
                    have s6 : w6.cell? ⟨r, 2, none⟩ = some (.slice pv rv.length cv) := D6.out.blk.cell 2
                    go_wp2_with fail
                    refine hK.out _ _ (trivial) (fun hHeld => ?_)
                    clear hK K
                    try simp only [Act.put, List.setIfInBounds_toArray, List.set_cons_zero, List.set_cons_succ, List.getElem_toArray, List.getElem_cons_zero, List.getElem_cons_succ]
                    refine wpAnyH_ready (rs := [8]) (by kernel_rfl) (by simp) ?_
                    refine (AllReadyH.cons rfl (fun K hK => ?_) AllReadyH.nil)
                    go_simp
                    have hal : Below w6.heap.size w6 (w6.alloc (Obj.cells #[.int .i64 q6.act.k, .int .i64 q6.act.a, vn, vc] 43)) := (Below.refl _ _).alloc (Nat.le_refl _) _
                    have D7 : Hid (Dv w b g cap ts m6 0 0 r d.k d.a (.slice pv rv.length cv) (w6.alloc (Obj.cells #[.int .i64 q6.act.k, .int .i64 q6.act.a, vn, vc] 43))) := D6.out.over hal
                    have R7 : Hid (Dr r (.slice pv rv.length cv) rv (w6.alloc (Obj.cells #[.int .i64 q6.act.k, .int .i64 q6.act.a, vn, vc] 43))) := R6.out.over hal
                    have s7 : (w6.alloc (Obj.cells #[.int .i64 q6.act.k, .int .i64 q6.act.a, vn, vc] 43)).cell? ⟨r, 2, none⟩ = some (.slice pv rv.length cv) := D7.out.blk.cell 2
                    clear hal
                    refine hK.out _ _ (trivial) (fun hHeld => ?_)
                    clear hK K
                    try simp only [Act.put, List.setIfInBounds_toArray, List.set_cons_zero, List.set_cons_succ, List.getElem_toArray, List.getElem_cons_zero, List.getElem_cons_succ]
                    refine wpAnyH_ready (rs := [9]) (by kernel_rfl) (by simp) ?_
                    refine AllReadyH.cons rfl (fun K hK => ?_) AllReadyH.nil
                    refine step_append_rl (by rfl) (.tmp 67) (.tmp 74) (by rfl) (r + 1) _ rv.length (cellsR rv) (by rfl) R7.out.own (ruleL q6.act.k q6.act.a vn vc) rfl (rl_one HO6.out.1 HO6.out.2.1) ⟨w6.heap.size, 0, none⟩ (by rfl) (rl_new w6 _ _ _ _) (by omega) D7.out.blk.lt ?_
                    intro v8 w8 ho8 hg8
                    have D8 : Hid (Dv w b g cap ts m6 0 0 r d.k d.a (.slice pv rv.length cv) w8) := D7.out.grown R7.out.own hg8
                    have R8 : Hid (Dr r v8 (rv ++ [(⟨q6, vn, vc⟩ : Rv)]) (w8.setCell ⟨r, 2, none⟩ v8)) := R7.out.app (HX6.out.over ((Below.refl _ _).alloc (Nat.le_refl _) _)) (by rw [cellsR_snoc]; exact ho8) hg8
                    have s8 : w8.cell? ⟨r, 2, none⟩ = some (.slice pv rv.length cv) := D8.out.blk.cell 2
                    have f8 := D8.out.blk.f 2
                    obtain ⟨p8, c8, hv8⟩ : ∃ p c, v8 = .slice p (rv.length + 1) c := by
                      rcases ho8.2 with ⟨_, h0⟩ | ⟨g', c, cur, hv, _⟩
                      · omega
                      · exact ⟨_, c, hv⟩
                    subst hv8
                    clear ho8 hg8
                    refine hK.out _ _ (trivial) (fun hHeld => ?_)
                    clear hK K
                    try simp only [Act.put, List.setIfInBounds_toArray, List.set_cons_zero, List.set_cons_succ, List.getElem_toArray, List.getElem_cons_zero, List.getElem_cons_succ]
                    refine wpAnyH_take (i := 10) (v := ?_) rfl (by kernel_rfl) (by kernel_rfl) (by kernel_rfl) (fun _ _ _ h => h) (Or.inl ⟨by rfl, ?_⟩) hHeld ?_
                    rotate_left
                    · (intro w hSw; (try dsimp only at hSw); go_simp; try with_reducible rfl)
                    try simp only [Act.put, List.setIfInBounds_toArray, List.set_cons_zero, List.set_cons_succ, List.getElem_toArray, List.getElem_cons_zero, List.getElem_cons_succ]
                    refine wpAnyH_ready (rs := [11]) (by kernel_rfl) (by simp) ?_
                    refine AllReadyH.cons rfl (fun K hK => ?_) AllReadyH.nil
                    go_simp
                    refine hK.out _ _ (trivial) (fun hHeld => ?_)
                    clear hK K
                    try simp only [Act.put, List.setIfInBounds_toArray, List.set_cons_zero, List.set_cons_succ, List.getElem_toArray, List.getElem_cons_zero, List.getElem_cons_succ]
                    refine wpAnyH_done (by kernel_rfl) ?_ _
                    have D9 := D8.out.setV (.slice p8 (rv.length + 1) c8)
                    have HLD : Hid (70 - lenAt (w8.setCell ⟨r, 2, none⟩ (.slice p8 (rv.length + 1) c8)) r < 70 - lenAt wr r) := by
                      have e9 : lenAt (w8.setCell ⟨r, 2, none⟩ (.slice p8 (rv.length + 1) c8)) r = rv.length + 1 := by
                        unfold lenAt
                        rw [D9.blk.cell 2]
                        rfl
                      show _ < _
                      rw [e9, HLA.out]
                      omega
                    have HD9 : Hid _ := D9
                    clear hHeld s8 f8 D9
                    go_wp2_with fail
                    go_roundw
                    case rel => exact .inr ⟨m6, d, _, rv ++ [(⟨q6, vn, vc⟩ : Rv)], HD9.out, R8.out, HO6.out.2.2, by simp; omega, HN6.out⟩
                    case measure => exact HLD.out
                ·
                  go_simp
                  refine (HRU.out _ _ ?_ D5.out.pc).mono ?_
                  · first | rfl | (rw [IntKind.wrap_i64]; omega) | (unfold wrap64; omega)
                  rintro e w6 ⟨b6, ⟨x6, y6, m6, k6, a6, vn, vc, hx6, rfl, on6, oc6, P6, h6⟩ | ⟨q6, m6, vn, vc, hm6, hj6, rfl, P6, o6, q7, h6⟩⟩
                  ·
                    have D6 : Hid (Dv w b g cap ts m6 x6 y6 r d.k d.a (.slice pv rv.length cv) w6) := D5.out.on b6 P6
                    have R6 : Hid (Dr r (.slice pv rv.length cv) rv w6) := R5.out.on b6 D5.out.lr
                    have HN6 : Hid (run .s0 ts = .error (x6, y6)) := by
                      show _ = _
                      rw [HP.out, h6 d _ (by simp)]
                    have HO6 : Hid (vn.oneCell' = true ∧ vc.oneCell' = true ∧ ¬ x6 = 0) := ⟨on6, oc6, hx6⟩
                    clear b6 P6 h6 hx6 on6 oc6
                    have s6 : w6.cell? ⟨r, 2, none⟩ = some (.slice pv rv.length cv) := D6.out.blk.cell 2
                    go_wp2_with fail
                    refine hK.out _ _ (trivial) (fun hHeld => ?_)
                    clear hK K
                    try simp only [Act.put, List.setIfInBounds_toArray, List.set_cons_zero, List.set_cons_succ, List.getElem_toArray, List.getElem_cons_zero, List.getElem_cons_succ]
                    refine wpAnyH_ready (rs := [1, 8]) (by kernel_rfl) (by simp) ?_
                    refine (AllReadyH.cons rfl (fun K hK => ?_) (AllReadyH.cons rfl (fun K hK => ?_) AllReadyH.nil))
                    ·
                      go_simp
                      refine hK.out _ _ (trivial) (fun hHeld => ?_)
                      clear hK K
                      try simp only [Act.put, List.setIfInBounds_toArray, List.set_cons_zero, List.set_cons_succ, List.getElem_toArray, List.getElem_cons_zero, List.getElem_cons_succ]
                      refine wpAnyH_ready (rs := [8]) (by kernel_rfl) (by simp) ?_
                      refine (AllReadyH.cons rfl (fun K hK => ?_) AllReadyH.nil)
                      go_simp
                      have hal : Below w6.heap.size w6 (w6.alloc (Obj.cells #[.int .i64 k6, .int .i64 a6, vn, vc] 43)) := (Below.refl _ _).alloc (Nat.le_refl _) _
                      have D7 : Hid (Dv w b g cap ts m6 x6 y6 r d.k d.a (.slice pv rv.length cv) (w6.alloc (Obj.cells #[.int .i64 k6, .int .i64 a6, vn, vc] 43))) := D6.out.over hal
                      have R7 : Hid (Dr r (.slice pv rv.length cv) rv (w6.alloc (Obj.cells #[.int .i64 k6, .int .i64 a6, vn, vc] 43))) := R6.out.over hal
                      have s7 : (w6.alloc (Obj.cells #[.int .i64 k6, .int .i64 a6, vn, vc] 43)).cell? ⟨r, 2, none⟩ = some (.slice pv rv.length cv) := D7.out.blk.cell 2
                      clear hal
                      refine hK.out _ _ (trivial) (fun hHeld => ?_)
                      clear hK K
                      try simp only [Act.put, List.setIfInBounds_toArray, List.set_cons_zero, List.set_cons_succ, List.getElem_toArray, List.getElem_cons_zero, List.getElem_cons_succ]
                      refine wpAnyH_ready (rs := [9]) (by kernel_rfl) (by simp) ?_
                      refine AllReadyH.cons rfl (fun K hK => ?_) AllReadyH.nil
                      refine step_append_rl (by rfl) (.tmp 67) (.tmp 74) (by rfl) (r + 1) _ rv.length (cellsR rv) (by rfl) R7.out.own (ruleL k6 a6 vn vc) rfl (rl_one HO6.out.1 HO6.out.2.1) ⟨w6.heap.size, 0, none⟩ (by rfl) (rl_new w6 _ _ _ _) (by omega) D7.out.blk.lt ?_
                      intro v8 w8 ho8 hg8
                      have D8 : Hid (Dv w b g cap ts m6 x6 y6 r d.k d.a (.slice pv rv.length cv) w8) := D7.out.grown R7.out.own hg8
                      have s8 : w8.cell? ⟨r, 2, none⟩ = some (.slice pv rv.length cv) := D8.out.blk.cell 2
                      have f8 := D8.out.blk.f 2
                      obtain ⟨p8, c8, hv8⟩ : ∃ p c, v8 = .slice p (rv.length + 1) c := by
                        rcases ho8.2 with ⟨_, h0⟩ | ⟨g', c, cur, hv, _⟩
                        · omega
                        · exact ⟨_, c, hv⟩
                      subst hv8
                      clear ho8 hg8
                      refine hK.out _ _ (trivial) (fun hHeld => ?_)
                      clear hK K
                      try simp only [Act.put, List.setIfInBounds_toArray, List.set_cons_zero, List.set_cons_succ, List.getElem_toArray, List.getElem_cons_zero, List.getElem_cons_succ]
                      refine wpAnyH_take (i := 10) (v := ?_) rfl (by kernel_rfl) (by kernel_rfl) (by kernel_rfl) (fun _ _ _ h => h) (Or.inl ⟨by rfl, ?_⟩) hHeld ?_
                      rotate_left
                      · (intro w hSw; (try dsimp only at hSw); go_simp; try with_reducible rfl)
                      try simp only [Act.put, List.setIfInBounds_toArray, List.set_cons_zero, List.set_cons_succ, List.getElem_toArray, List.getElem_cons_zero, List.getElem_cons_succ]
                      refine wpAnyH_ready (rs := [11]) (by kernel_rfl) (by simp) ?_
                      refine AllReadyH.cons rfl (fun K hK => ?_) AllReadyH.nil
                      go_simp
                      refine hK.out _ _ (trivial) (fun hHeld => ?_)
                      clear hK K
                      try simp only [Act.put, List.setIfInBounds_toArray, List.set_cons_zero, List.set_cons_succ, List.getElem_toArray, List.getElem_cons_zero, List.getElem_cons_succ]
                      refine wpAnyH_done (by kernel_rfl) ?_ _
                      have D9 := D8.out.setV (.slice p8 (rv.length + 1) c8)
                      have HLD : Hid (70 - lenAt (w8.setCell ⟨r, 2, none⟩ (.slice p8 (rv.length + 1) c8)) r < 70 - lenAt wr r) := by
                        have e9 : lenAt (w8.setCell ⟨r, 2, none⟩ (.slice p8 (rv.length + 1) c8)) r = rv.length + 1 := by
                          unfold lenAt
                          rw [D9.blk.cell 2]
                          rfl
                        show _ < _
                        rw [e9, HLA.out]
                        omega
                      have HD9 : Hid _ := D9
                      clear hHeld s8 f8 D9
                      go_wp2_with fail
                      go_roundw
                      case rel => exact .inl ⟨x6, y6, m6, d.k, d.a, _, HO6.out.2.2, HD9.out, rfl, HN6.out⟩
                      case measure => exact HLD.out
                    ·
                      go_simp
                      have hal : Below w6.heap.size w6 (w6.alloc (Obj.cells #[.int .i64 k6, .int .i64 a6, vn, vc] 43)) := (Below.refl _ _).alloc (Nat.le_refl _) _
                      have D7 : Hid (Dv w b g cap ts m6 x6 y6 r d.k d.a (.slice pv rv.length cv) (w6.alloc (Obj.cells #[.int .i64 k6, .int .i64 a6, vn, vc] 43))) := D6.out.over hal
                      have R7 : Hid (Dr r (.slice pv rv.length cv) rv (w6.alloc (Obj.cells #[.int .i64 k6, .int .i64 a6, vn, vc] 43))) := R6.out.over hal
                      have s7 : (w6.alloc (Obj.cells #[.int .i64 k6, .int .i64 a6, vn, vc] 43)).cell? ⟨r, 2, none⟩ = some (.slice pv rv.length cv) := D7.out.blk.cell 2
                      clear hal
                      refine hK.out _ _ (trivial) (fun hHeld => ?_)
                      clear hK K
                      try simp only [Act.put, List.setIfInBounds_toArray, List.set_cons_zero, List.set_cons_succ, List.getElem_toArray, List.getElem_cons_zero, List.getElem_cons_succ]
                      refine wpAnyH_ready (rs := [1]) (by kernel_rfl) (by simp) ?_
                      refine (AllReadyH.cons rfl (fun K hK => ?_) AllReadyH.nil)
                      go_simp
                      refine hK.out _ _ (trivial) (fun hHeld => ?_)
                      clear hK K
                      try simp only [Act.put, List.setIfInBounds_toArray, List.set_cons_zero, List.set_cons_succ, List.getElem_toArray, List.getElem_cons_zero, List.getElem_cons_succ]
                      refine wpAnyH_ready (rs := [9]) (by kernel_rfl) (by simp) ?_
                      refine AllReadyH.cons rfl (fun K hK => ?_) AllReadyH.nil
                      refine step_append_rl (by rfl) (.tmp 67) (.tmp 74) (by rfl) (r + 1) _ rv.length (cellsR rv) (by rfl) R7.out.own (ruleL k6 a6 vn vc) rfl (rl_one HO6.out.1 HO6.out.2.1) ⟨w6.heap.size, 0, none⟩ (by rfl) (rl_new w6 _ _ _ _) (by omega) D7.out.blk.lt ?_
                      intro v8 w8 ho8 hg8
                      have D8 : Hid (Dv w b g cap ts m6 x6 y6 r d.k d.a (.slice pv rv.length cv) w8) := D7.out.grown R7.out.own hg8
                      have s8 : w8.cell? ⟨r, 2, none⟩ = some (.slice pv rv.length cv) := D8.out.blk.cell 2
                      have f8 := D8.out.blk.f 2
                      obtain ⟨p8, c8, hv8⟩ : ∃ p c, v8 = .slice p (rv.length + 1) c := by
                        rcases ho8.2 with ⟨_, h0⟩ | ⟨g', c, cur, hv, _⟩
                        · omega
                        · exact ⟨_, c, hv⟩
                      subst hv8
                      clear ho8 hg8
                      refine hK.out _ _ (trivial) (fun hHeld => ?_)
                      clear hK K
                      try simp only [Act.put, List.setIfInBounds_toArray, List.set_cons_zero, List.set_cons_succ, List.getElem_toArray, List.getElem_cons_zero, List.getElem_cons_succ]
                      refine wpAnyH_take (i := 10) (v := ?_) rfl (by kernel_rfl) (by kernel_rfl) (by kernel_rfl) (fun _ _ _ h => h) (Or.inl ⟨by rfl, ?_⟩) hHeld ?_
                      rotate_left
                      · (intro w hSw; (try dsimp only at hSw); go_simp; try with_reducible rfl)
                      try simp only [Act.put, List.setIfInBounds_toArray, List.set_cons_zero, List.set_cons_succ, List.getElem_toArray, List.getElem_cons_zero, List.getElem_cons_succ]
                      refine wpAnyH_ready (rs := [11]) (by kernel_rfl) (by simp) ?_
                      refine AllReadyH.cons rfl (fun K hK => ?_) AllReadyH.nil
                      go_simp
                      refine hK.out _ _ (trivial) (fun hHeld => ?_)
                      clear hK K
                      try simp only [Act.put, List.setIfInBounds_toArray, List.set_cons_zero, List.set_cons_succ, List.getElem_toArray, List.getElem_cons_zero, List.getElem_cons_succ]
                      refine wpAnyH_done (by kernel_rfl) ?_ _
                      have D9 := D8.out.setV (.slice p8 (rv.length + 1) c8)
                      have HLD : Hid (70 - lenAt (w8.setCell ⟨r, 2, none⟩ (.slice p8 (rv.length + 1) c8)) r < 70 - lenAt wr r) := by
                        have e9 : lenAt (w8.setCell ⟨r, 2, none⟩ (.slice p8 (rv.length + 1) c8)) r = rv.length + 1 := by
                          unfold lenAt
                          rw [D9.blk.cell 2]
                          rfl
                        show _ < _
                        rw [e9, HLA.out]
                        omega
                      have HD9 : Hid _ := D9
                      clear hHeld s8 f8 D9
                      go_wp2_with fail
                      go_roundw
                      case rel => exact .inl ⟨x6, y6, m6, d.k, d.a, _, HO6.out.2.2, HD9.out, rfl, HN6.out⟩
                      case measure => exact HLD.out
                  ·
                    have D6 : Hid (Dv w b g cap ts m6 0 0 r d.k d.a (.slice pv rv.length cv) w6) := D5.out.on b6 P6
                    have R6 : Hid (Dr r (.slice pv rv.length cv) rv w6) := R5.out.on b6 D5.out.lr
                    have HX6 : Hid (Rows2 w6 (r + 1) ⟨q6, vn, vc⟩) := ⟨owns_lower o6 D5.out.blk.lt, owns_lower q7 D5.out.blk.lt⟩
                    have HN6 : Hid (run .s0 ts = run (.s4 d ((rv ++ [(⟨q6, vn, vc⟩ : Rv)]).map Rv.r)) (ts.drop m6)) := by
                      show _ = _
                      rw [HP.out, h6 d _ (by simp)]
                      simp
                    have HO6 : Hid (vn.oneCell' = true ∧ vc.oneCell' = true ∧ m6 < ts.length) := ⟨owns_cell o6, owns_cell q7, hm6⟩
                    clear b6 P6 o6 q7 h6 hm6
                    have s6 : w6.cell? ⟨r, 2, none⟩ = some (.slice pv rv.length cv) := D6.out.blk.cell 2
                    go_wp2_with fail
                    refine hK.out _ _ (trivial) (fun hHeld => ?_)
                    clear hK K
                    try simp only [Act.put, List.setIfInBounds_toArray, List.set_cons_zero, List.set_cons_succ, List.getElem_toArray, List.getElem_cons_zero, List.getElem_cons_succ]
                    refine wpAnyH_ready (rs := [1, 8]) (by kernel_rfl) (by simp) ?_
                    refine (AllReadyH.cons rfl (fun K hK => ?_) (AllReadyH.cons rfl (fun K hK => ?_) AllReadyH.nil))
                    ·
                      go_simp
                      refine hK.out _ _ (trivial) (fun hHeld => ?_)
                      clear hK K
                      try simp only [Act.put, List.setIfInBounds_toArray, List.set_cons_zero, List.set_cons_succ, List.getElem_toArray, List.getElem_cons_zero, List.getElem_cons_succ]
                      refine wpAnyH_ready (rs := [8]) (by kernel_rfl) (by simp) ?_
                      refine (AllReadyH.cons rfl (fun K hK => ?_) AllReadyH.nil)
                      go_simp
                      have hal : Below w6.heap.size w6 (w6.alloc (Obj.cells #[.int .i64 q6.act.k, .int .i64 q6.act.a, vn, vc] 43)) := (Below.refl _ _).alloc (Nat.le_refl _) _
                      have D7 : Hid (Dv w b g cap ts m6 0 0 r d.k d.a (.slice pv rv.length cv) (w6.alloc (Obj.cells #[.int .i64 q6.act.k, .int .i64 q6.act.a, vn, vc] 43))) := D6.out.over hal
                      have R7 : Hid (Dr r (.slice pv rv.length cv) rv (w6.alloc (Obj.cells #[.int .i64 q6.act.k, .int .i64 q6.act.a, vn, vc] 43))) := R6.out.over hal
                      have s7 : (w6.alloc (Obj.cells #[.int .i64 q6.act.k, .int .i64 q6.act.a, vn, vc] 43)).cell? ⟨r, 2, none⟩ = some (.slice pv rv.length cv) := D7.out.blk.cell 2
                      clear hal
                      refine hK.out _ _ (trivial) (fun hHeld => ?_)
                      clear hK K
                      try simp only [Act.put, List.setIfInBounds_toArray, List.set_cons_zero, List.set_cons_succ, List.getElem_toArray, List.getElem_cons_zero, List.getElem_cons_succ]
                      refine wpAnyH_ready (rs := [9]) (by kernel_rfl) (by simp) ?_
                      refine AllReadyH.cons rfl (fun K hK => ?_) AllReadyH.nil
                      refine step_append_rl (by rfl) (.tmp 67) (.tmp 74) (by rfl) (r + 1) _ rv.length (cellsR rv) (by rfl) R7.out.own (ruleL q6.act.k q6.act.a vn vc) rfl (rl_one HO6.out.1 HO6.out.2.1) ⟨w6.heap.size, 0, none⟩ (by rfl) (rl_new w6 _ _ _ _) (by omega) D7.out.blk.lt ?_
                      intro v8 w8 ho8 hg8
                      have D8 : Hid (Dv w b g cap ts m6 0 0 r d.k d.a (.slice pv rv.length cv) w8) := D7.out.grown R7.out.own hg8
                      have R8 : Hid (Dr r v8 (rv ++ [(⟨q6, vn, vc⟩ : Rv)]) (w8.setCell ⟨r, 2, none⟩ v8)) := R7.out.app (HX6.out.over ((Below.refl _ _).alloc (Nat.le_refl _) _)) (by rw [cellsR_snoc]; exact ho8) hg8
                      have s8 : w8.cell? ⟨r, 2, none⟩ = some (.slice pv rv.length cv) := D8.out.blk.cell 2
                      have f8 := D8.out.blk.f 2
                      obtain ⟨p8, c8, hv8⟩ : ∃ p c, v8 = .slice p (rv.length + 1) c := by
                        rcases ho8.2 with ⟨_, h0⟩ | ⟨g', c, cur, hv, _⟩
                        · omega
                        · exact ⟨_, c, hv⟩
                      subst hv8
                      clear ho8 hg8
                      refine hK.out _ _ (trivial) (fun hHeld => ?_)
                      clear hK K
                      try simp only [Act.put, List.setIfInBounds_toArray, List.set_cons_zero, List.set_cons_succ, List.getElem_toArray, List.getElem_cons_zero, List.getElem_cons_succ]
                      refine wpAnyH_take (i := 10) (v := ?_) rfl (by kernel_rfl) (by kernel_rfl) (by kernel_rfl) (fun _ _ _ h => h) (Or.inl ⟨by rfl, ?_⟩) hHeld ?_
                      rotate_left
                      · (intro w hSw; (try dsimp only at hSw); go_simp; try with_reducible rfl)
                      try simp only [Act.put, List.setIfInBounds_toArray, List.set_cons_zero, List.set_cons_succ, List.getElem_toArray, List.getElem_cons_zero, List.getElem_cons_succ]
                      refine wpAnyH_ready (rs := [11]) (by kernel_rfl) (by simp) ?_
                      refine AllReadyH.cons rfl (fun K hK => ?_) AllReadyH.nil
                      go_simp
                      refine hK.out _ _ (trivial) (fun hHeld => ?_)
                      clear hK K
                      try simp only [Act.put, List.setIfInBounds_toArray, List.set_cons_zero, List.set_cons_succ, List.getElem_toArray, List.getElem_cons_zero, List.getElem_cons_succ]
                      refine wpAnyH_done (by kernel_rfl) ?_ _
                      have D9 := D8.out.setV (.slice p8 (rv.length + 1) c8)
                      have HLD : Hid (70 - lenAt (w8.setCell ⟨r, 2, none⟩ (.slice p8 (rv.length + 1) c8)) r < 70 - lenAt wr r) := by
                        have e9 : lenAt (w8.setCell ⟨r, 2, none⟩ (.slice p8 (rv.length + 1) c8)) r = rv.length + 1 := by
                          unfold lenAt
                          rw [D9.blk.cell 2]
                          rfl
                        show _ < _
                        rw [e9, HLA.out]
                        omega
                      have HD9 : Hid _ := D9
                      clear hHeld s8 f8 D9
                      go_wp2_with fail
                      go_roundw
                      case rel => exact .inr ⟨m6, d, _, rv ++ [(⟨q6, vn, vc⟩ : Rv)], HD9.out, R8.out, HO6.out.2.2, by simp; omega, HN6.out⟩
                      case measure => exact HLD.out
                    ·
                      go_simp
                      have hal : Below w6.heap.size w6 (w6.alloc (Obj.cells #[.int .i64 q6.act.k, .int .i64 q6.act.a, vn, vc] 43)) := (Below.refl _ _).alloc (Nat.le_refl _) _
                      have D7 : Hid (Dv w b g cap ts m6 0 0 r d.k d.a (.slice pv rv.length cv) (w6.alloc (Obj.cells #[.int .i64 q6.act.k, .int .i64 q6.act.a, vn, vc] 43))) := D6.out.over hal
                      have R7 : Hid (Dr r (.slice pv rv.length cv) rv (w6.alloc (Obj.cells #[.int .i64 q6.act.k, .int .i64 q6.act.a, vn, vc] 43))) := R6.out.over hal
                      have s7 : (w6.alloc (Obj.cells #[.int .i64 q6.act.k, .int .i64 q6.act.a, vn, vc] 43)).cell? ⟨r, 2, none⟩ = some (.slice pv rv.length cv) := D7.out.blk.cell 2
                      clear hal
                      refine hK.out _ _ (trivial) (fun hHeld => ?_)
                      clear hK K
                      try simp only [Act.put, List.setIfInBounds_toArray, List.set_cons_zero, List.set_cons_succ, List.getElem_toArray, List.getElem_cons_zero, List.getElem_cons_succ]
                      refine wpAnyH_ready (rs := [1]) (by kernel_rfl) (by simp) ?_
                      refine (AllReadyH.cons rfl (fun K hK => ?_) AllReadyH.nil)
                      go_simp
                      refine hK.out _ _ (trivial) (fun hHeld => ?_)
                      clear hK K
                      try simp only [Act.put, List.setIfInBounds_toArray, List.set_cons_zero, List.set_cons_succ, List.getElem_toArray, List.getElem_cons_zero, List.getElem_cons_succ]
                      refine wpAnyH_ready (rs := [9]) (by kernel_rfl) (by simp) ?_
                      refine AllReadyH.cons rfl (fun K hK => ?_) AllReadyH.nil
                      refine step_append_rl (by rfl) (.tmp 67) (.tmp 74) (by rfl) (r + 1) _ rv.length (cellsR rv) (by rfl) R7.out.own (ruleL q6.act.k q6.act.a vn vc) rfl (rl_one HO6.out.1 HO6.out.2.1) ⟨w6.heap.size, 0, none⟩ (by rfl) (rl_new w6 _ _ _ _) (by omega) D7.out.blk.lt ?_
                      intro v8 w8 ho8 hg8
                      have D8 : Hid (Dv w b g cap ts m6 0 0 r d.k d.a (.slice pv rv.length cv) w8) := D7.out.grown R7.out.own hg8
                      have R8 : Hid (Dr r v8 (rv ++ [(⟨q6, vn, vc⟩ : Rv)]) (w8.setCell ⟨r, 2, none⟩ v8)) := R7.out.app (HX6.out.over ((Below.refl _ _).alloc (Nat.le_refl _) _)) (by rw [cellsR_snoc]; exact ho8) hg8
                      have s8 : w8.cell? ⟨r, 2, none⟩ = some (.slice pv rv.length cv) := D8.out.blk.cell 2
                      have f8 := D8.out.blk.f 2
                      obtain ⟨p8, c8, hv8⟩ : ∃ p c, v8 = .slice p (rv.length + 1) c := by
                        rcases ho8.2 with ⟨_, h0⟩ | ⟨g', c, cur, hv, _⟩
                        · omega
                        · exact ⟨_, c, hv⟩
                      subst hv8
                      clear ho8 hg8
                      refine hK.out _ _ (trivial) (fun hHeld => ?_)
                      clear hK K
                      try simp only [Act.put, List.setIfInBounds_toArray, List.set_cons_zero, List.set_cons_succ, List.getElem_toArray, List.getElem_cons_zero, List.getElem_cons_succ]
                      refine wpAnyH_take (i := 10) (v := ?_) rfl (by kernel_rfl) (by kernel_rfl) (by kernel_rfl) (fun _ _ _ h => h) (Or.inl ⟨by rfl, ?_⟩) hHeld ?_
                      rotate_left
                      · (intro w hSw; (try dsimp only at hSw); go_simp; try with_reducible rfl)
                      try simp only [Act.put, List.setIfInBounds_toArray, List.set_cons_zero, List.set_cons_succ, List.getElem_toArray, List.getElem_cons_zero, List.getElem_cons_succ]
                      refine wpAnyH_ready (rs := [11]) (by kernel_rfl) (by simp) ?_
                      refine AllReadyH.cons rfl (fun K hK => ?_) AllReadyH.nil
                      go_simp
                      refine hK.out _ _ (trivial) (fun hHeld => ?_)
                      clear hK K
                      try simp only [Act.put, List.setIfInBounds_toArray, List.set_cons_zero, List.set_cons_succ, List.getElem_toArray, List.getElem_cons_zero, List.getElem_cons_succ]
                      refine wpAnyH_done (by kernel_rfl) ?_ _
                      have D9 := D8.out.setV (.slice p8 (rv.length + 1) c8)
                      have HLD : Hid (70 - lenAt (w8.setCell ⟨r, 2, none⟩ (.slice p8 (rv.length + 1) c8)) r < 70 - lenAt wr r) := by
                        have e9 : lenAt (w8.setCell ⟨r, 2, none⟩ (.slice p8 (rv.length + 1) c8)) r = rv.length + 1 := by
                          unfold lenAt
                          rw [D9.blk.cell 2]
                          rfl
                        show _ < _
                        rw [e9, HLA.out]
                        omega
                      have HD9 : Hid _ := D9
                      clear hHeld s8 f8 D9
                      go_wp2_with fail
                      go_roundw
                      case rel => exact .inr ⟨m6, d, _, rv ++ [(⟨q6, vn, vc⟩ : Rv)], HD9.out, R8.out, HO6.out.2.2, by simp; omega, HN6.out⟩
                      case measure => exact HLD.out

end Go.Proofs.YtdjjlccpmfhkiaaDoor.Doc

namespace Go.Proofs.YtdjjlccpmfhkiaaDoor
open Go.RowKit


set_option maxRecDepth 8000 in
set_option maxHeartbeats 4000000 in
theorem parseReads_walk (s : ByteArray) (w : World) (hv : Vars w) :
    Calls Tryd.prog 3 #[.string s] w fun e w' => e = .returned (.bool true) ∧ Below w.heap.size w w' := by
  have HV : Hid (Vars w) := hv
  have HW : Hid (∀ W, Vars W → Calls Tryd.prog 9 #[] W fun e w' => e = .returned (.bool true) ∧ Below W.heap.size W w') := awake_any
  clear hv
  by_cases hlong : 8300 < s.size
  · have h1 : decide ((8300 : Int) < s.size) = true := by simp; omega
    go_enter Tryd.func3, Tryd.ntmps3
    go_wp2_with (go_at_call 9; refine (HW.out _ HV.out).mono ?_; rintro e w1 ⟨rfl, b1⟩)
    go_ret
    exact ⟨rfl, b1⟩
  · have h1 : decide ((8300 : Int) < s.size) = false := by simp; omega
    have HP : Hid (∀ W, Vars W → Calls Tryd.prog 10 #[.string s] W fun e w' => Below W.heap.size W w' ∧ Par2 (prs (lst s)) e w') := fun W h => parse2 s W h
    have HPD : Hid (∀ W, Calls Tryd.prog 11 #[.string s] W fun e w' => Below W.heap.size W w' ∧ Par2 (prs (lst s)) e w') := fun W => Doc.dparse_any s W
    have hR : (∃ v, prs (lst s) = .ok v ∧ Sm v.2) ∨ ∃ c p, prs (lst s) = .error (c, p) := by
      rcases h : prs (lst s) with ⟨c, p⟩ | ⟨d, rs⟩
      · exact .inr ⟨c, p, rfl⟩
      · exact .inl ⟨_, rfl, sm_of h⟩
    clear hlong
    generalize prs (lst s) = R1 at *
    go_enter Tryd.func3, Tryd.ntmps3
    go_wp2_with fail
    refine (HW.out _ HV.out).mono ?_
    rintro e w1 ⟨rfl, b1⟩
    have V1 : Hid (Vars w1) := HV.out.below b1
    obtain ⟨⟨d, rs⟩, rfl, hsm⟩ | ⟨c, p, rfl⟩ := hR
    · have HSm : Hid (Sm rs) := hsm
      clear hsm
      go_wp2_with fail
      refine (HP.out _ V1.out).mono ?_
      rintro e w3 ⟨b3, v3, rv3, hr3, rfl, hV3⟩
      obtain ⟨a3, c3, rfl⟩ : ∃ a c, v3 = .slice a rv3.length c := by obtain ⟨a, c, e, _⟩ := hV3; exact ⟨a, c, e⟩
      have hal : Below w3.heap.size w3 (w3.alloc (Obj.cells #[.int .i64 d.k, .int .i64 d.a, .slice a3 rv3.length c3] 27)) := (Below.refl _ _).alloc (Nat.le_refl _) _
      have B3 : Hid (Below w.heap.size w (w3.alloc (Obj.cells #[.int .i64 d.k, .int .i64 d.a, .slice a3 rv3.length c3] 27))) := (b1.trans (b3.mono b1.size)).trans (hal.mono (Nat.le_trans b1.size b3.size))
      have S3 : Hid (RlsV (w3.alloc (Obj.cells #[.int .i64 d.k, .int .i64 d.a, .slice a3 rv3.length c3] 27)) (.slice a3 rv3.length c3) rv3) := hV3.below hal
      have K3 : Hid (Blk (w3.alloc (Obj.cells #[.int .i64 d.k, .int .i64 d.a, .slice a3 rv3.length c3] 27)) w3.heap.size 27 (rulL d.k d.a (.slice a3 rv3.length c3))) := blk_new w3 _ 27
      clear hV3 b3 hal
      go_wp2_with fail
      generalize w3.alloc (Obj.cells #[.int .i64 d.k, .int .i64 d.a, .slice a3 rv3.length c3] 27) = X3 at *
      generalize w3.heap.size = N3 at *
      refine (HPD.out _).mono ?_
      rintro e w4 ⟨b4, v4, rv4, hr4, rfl, hV4⟩
      obtain ⟨a4, c4, rfl⟩ : ∃ a c, v4 = .slice a rv4.length c := by obtain ⟨a, c, e, _⟩ := hV4; exact ⟨a, c, e⟩
      have hal : Below w4.heap.size w4 (w4.alloc (Obj.cells #[.int .i64 d.k, .int .i64 d.a, .slice a4 rv4.length c4] 27)) := (Below.refl _ _).alloc (Nat.le_refl _) _
      have B4 : Hid (Below w.heap.size w (w4.alloc (Obj.cells #[.int .i64 d.k, .int .i64 d.a, .slice a4 rv4.length c4] 27))) := (B3.out.trans (b4.mono B3.out.size)).trans (hal.mono (Nat.le_trans B3.out.size b4.size))
      have S4 : Hid (RlsV (w4.alloc (Obj.cells #[.int .i64 d.k, .int .i64 d.a, .slice a4 rv4.length c4] 27)) (.slice a4 rv4.length c4) rv4) := hV4.below hal
      have S34 : Hid (RlsV (w4.alloc (Obj.cells #[.int .i64 d.k, .int .i64 d.a, .slice a4 rv4.length c4] 27)) (.slice a3 rv3.length c3) rv3) := (S3.out.below b4).below hal
      have K4 : Hid (Blk (w4.alloc (Obj.cells #[.int .i64 d.k, .int .i64 d.a, .slice a4 rv4.length c4] 27)) w4.heap.size 27 (rulL d.k d.a (.slice a4 rv4.length c4))) := blk_new w4 _ 27
      have K34 := (K3.out.over b4).over hal
      have t0 : (w4.alloc (Obj.cells #[.int .i64 d.k, .int .i64 d.a, .slice a4 rv4.length c4] 27)).cell? ⟨N3, 0, none⟩ = some (.int .i64 d.k) := K34.cell 0
      have t1 : (w4.alloc (Obj.cells #[.int .i64 d.k, .int .i64 d.a, .slice a4 rv4.length c4] 27)).cell? ⟨N3, 1, none⟩ = some (.int .i64 d.a) := K34.cell 1
      have t2 : (w4.alloc (Obj.cells #[.int .i64 d.k, .int .i64 d.a, .slice a4 rv4.length c4] 27)).cell? ⟨N3, 2, none⟩ = some (.slice a3 rv3.length c3) := K34.cell 2
      have HS : Hid (Calls Tryd.prog 12 #[.agg #[.int .i64 d.k, .int .i64 d.a, .slice a3 rv3.length c3], .agg #[.int .i64 d.k, .int .i64 d.a, .slice a4 rv4.length c4]] (w4.alloc (Obj.cells #[.int .i64 d.k, .int .i64 d.a, .slice a4 rv4.length c4] 27)) fun e w' => e = .returned (.bool true) ∧ Below (w4.alloc (Obj.cells #[.int .i64 d.k, .int .i64 d.a, .slice a4 rv4.length c4] 27)).heap.size (w4.alloc (Obj.cells #[.int .i64 d.k, .int .i64 d.a, .slice a4 rv4.length c4] 27)) w') :=
        same_any _ d.k d.a _ _ rv3 rv4 S34.out S4.out (hr3.symm.trans hr4) (by rw [← hr3]; exact HSm.out)
      clear hV4 b4 hal K34 K4 K3 S34 S3 S4
      go_wp2_with fail
      refine HS.out.mono ?_
      rintro e w5 ⟨rfl, b5⟩
      go_wp2_with fail
      go_ret
      exact ⟨rfl, B4.out.trans (b5.mono B4.out.size)⟩
    · have hsm : Sm (List.map Rv.r []) := ⟨by decide, fun r hr => by cases hr⟩
      have HSm : Hid (Sm (List.map Rv.r [])) := hsm
      clear hsm
      go_wp2_with fail
      refine (HP.out _ V1.out).mono ?_
      rintro e w3 ⟨b3, rfl⟩
      have hal : Below w3.heap.size w3 (w3.alloc (Obj.cells #[.int .i64 0, .int .i64 0, .slice none 0 0] 27)) := (Below.refl _ _).alloc (Nat.le_refl _) _
      have B3 : Hid (Below w.heap.size w (w3.alloc (Obj.cells #[.int .i64 0, .int .i64 0, .slice none 0 0] 27))) := (b1.trans (b3.mono b1.size)).trans (hal.mono (Nat.le_trans b1.size b3.size))
      have K3 : Hid (Blk (w3.alloc (Obj.cells #[.int .i64 0, .int .i64 0, .slice none 0 0] 27)) w3.heap.size 27 (rulL 0 0 (.slice none 0 0))) := blk_new w3 _ 27
      clear b3 hal
      go_wp2_with fail
      generalize w3.alloc (Obj.cells #[.int .i64 0, .int .i64 0, .slice none 0 0] 27) = X3 at *
      generalize w3.heap.size = N3 at *
      refine (HPD.out _).mono ?_
      rintro e w4 ⟨b4, rfl⟩
      have hal : Below w4.heap.size w4 (w4.alloc (Obj.cells #[.int .i64 0, .int .i64 0, .slice none 0 0] 27)) := (Below.refl _ _).alloc (Nat.le_refl _) _
      have B4 : Hid (Below w.heap.size w (w4.alloc (Obj.cells #[.int .i64 0, .int .i64 0, .slice none 0 0] 27))) := (B3.out.trans (b4.mono B3.out.size)).trans (hal.mono (Nat.le_trans B3.out.size b4.size))
      have K34 := (K3.out.over b4).over hal
      have t0 : (w4.alloc (Obj.cells #[.int .i64 0, .int .i64 0, .slice none 0 0] 27)).cell? ⟨N3, 0, none⟩ = some (.int .i64 0) := K34.cell 0
      have t1 : (w4.alloc (Obj.cells #[.int .i64 0, .int .i64 0, .slice none 0 0] 27)).cell? ⟨N3, 1, none⟩ = some (.int .i64 0) := K34.cell 1
      have t2 : (w4.alloc (Obj.cells #[.int .i64 0, .int .i64 0, .slice none 0 0] 27)).cell? ⟨N3, 2, none⟩ = some (.slice none 0 0) := K34.cell 2
      have HS : Hid (∀ W, Calls Tryd.prog 12 #[.agg #[.int .i64 0, .int .i64 0, .slice none 0 0], .agg #[.int .i64 0, .int .i64 0, .slice none 0 0]] W fun e w' => e = .returned (.bool true) ∧ Below W.heap.size W w') :=
        fun W => same_any W 0 0 _ _ [] [] (rlsV_nil W) (rlsV_nil W) rfl HSm.out
      clear b4 hal K34 K3
      go_wp2_with fail
      refine (HS.out _).mono ?_
      rintro e w5 ⟨rfl, b5⟩
      go_wp2_with fail
      go_ret
      exact ⟨rfl, B4.out.trans (b5.mono B4.out.size)⟩

end Go.Proofs.YtdjjlccpmfhkiaaDoor

