/-
  The document's answer for rules: all of a text.
-/
import Derived.Test.YtdjjlccpmfhkiaaDoorDRuleM
import Derived.Test.YtdjjlccpmfhkiaaDoorJoinMem
import Derived.Test.YtdjjlccpmfhkiaaDoorRefAll
namespace Go.Proofs.YtdjjlccpmfhkiaaDoor.Doc
open Go.RowKit

theorem actD_code {l : List Tok} {x y : Nat} (h : actD l = .error (x, y)) : ¬ x = 0 := by
  cases l with
  | nil => cases h; decide
  | cons t r =>
    simp only [actD] at h
    split at h
    · split at h
      · split at h
        · cases h; decide
        · split at h
          · split at h
            · cases h; decide
            · cases h
          · cases h; decide
      · cases h
    · cases h; decide

/-- a rule, whatever stands there. -/
theorem rule_all (w : World) (b g cap n : Nat) (ts : List Tok) (j : Nat) (hT : Tks ts) (h : Pc w b g cap ts n 0 0) (hn : n < ts.length) (h4 : ¬ ts[n].k = 4) :
    Calls Tryd.prog 22 #[.pointer (some ⟨b, 0, none⟩), .int .i64 j] w fun e w' => RuD w b g cap ts n j e w' := by
  have hE : Ending4 ts := hT.nx
  have hA := (hT.tk n hn).isA
  by_cases hj : j ≤ 64
  · rcases hR : actD (ts.drop n) with ⟨x, y⟩ | ⟨v, l⟩
    · refine rule_err w b g cap n ts j hE h hn hj x y hR (actD_code hR) fun d rs hl => ?_
      rw [drop_at hn] at hR
      rw [drop_at hn, run_act4 (by omega) h4, hR]
    · exact rule_main w b g cap n ts j hE h hn h4 hj v l hR
  · rcases Bool.eq_false_or_eq_true (isA ts[n]) with h1 | h1
    · refine (rule_full w b g cap n ts j h hn h1 (by omega)).mono ?_
      rintro e w' ⟨rfl, hb, hp⟩
      refine ⟨hb, .inl ⟨4, ts[n].at', n, 0, 0, nilS, nilS, by decide, rfl, rfl, rfl, hp, fun d rs hl => ?_⟩⟩
      rw [drop_at hn, run_full (by omega) h4, if_pos h1]
    · have hR : actD (ts.drop n) = .error (7, ts[n].at') := by
        rw [drop_at hn]
        simp only [actD]
        rw [if_neg (not_of h1)]
      have hRR : ∀ d rs, rs.length + 1 = j → run (.s4 d rs) (ts.drop n) = .error (7, ts[n].at') := fun d rs hl => by
        rw [drop_at hn, run_full (by omega) h4, if_neg (not_of h1)]
      by_cases hk : ts[n].k = 1
      · have hk0 : kindOf ts[n].t = 0 := by
          rw [h1] at hA
          simpa using hA
        exact rule_errC w b g cap n ts j hE h hn (by omega) hk hk0 7 _ hR (by decide) hRR
      · exact rule_errB w b g cap n ts j hE h hn (by omega) hk 7 _ hR (by decide) hRR

/-- the rules under way: the place, the answer's cells, the rules' own, and their rows. -/
structure Dv (w : World) (b g cap : Nat) (ts : List Tok) (m : Nat) (c p : Int) (r : Nat) (k a : Int) (v : Value) (X : World) : Prop where
  pc : Pc X b g cap ts m c p
  out : Blk X w.heap.size 27 (rulL 0 0 (.slice none 0 0))
  blk : Blk X r 27 (rulL k a v)
  be : Below w.heap.size w X
  lg : w.heap.size < g
  lb : g < b
  lr : b < r
structure Dr (r : Nat) (v : Value) (rv : List Rv) (X : World) : Prop where
  own : X.ownsRow (r + 1) 43 4 v rv.length (cellsR rv)
  row : ∀ x ∈ rv, Rows2 X (r + 1) x

section
variable {w X Y : World} {b g cap m m' r : Nat} {ts : List Tok} {c p c' p' k a : Int} {v v' : Value} {rv : List Rv} {x : Rv} {xs : List Value} {n' : Nat}
theorem Dv.over (h : Dv w b g cap ts m c p r k a v X) (hb : Below X.heap.size X Y) : Dv w b g cap ts m c p r k a v Y :=
  ⟨h.pc.over hb, h.out.over hb, h.blk.over hb, h.be.trans (hb.mono (Nat.le_of_lt h.out.lt)), h.lg, h.lb, h.lr⟩
theorem Dv.on (h : Dv w b g cap ts m c p r k a v X) (hb : Bt b X Y) (hp : Pc Y b g cap ts m' c' p') : Dv w b g cap ts m' c' p' r k a v Y := by
  have l1 := h.lg
  have l2 := h.lb
  have l3 := h.lr
  have l4 := h.out.lt
  exact ⟨hp, hb.blk h.out (by omega), hb.blk h.blk (by omega), ⟨hb.os.trans h.be.os, hb.tape.trans h.be.tape, hb.output.trans h.be.output, Nat.le_trans h.be.size hb.size, fun k hk => (hb.block k (by omega) (by omega)).trans (h.be.block k hk)⟩, l1, l2, l3⟩
theorem Dv.next (h : Dv w b g cap ts m c p r k a v X) : Dv w b g cap ts (m + 1) c p r k a v (X.setCell ⟨b, 1, none⟩ (.int .i64 ((m : Int) + 1))) := h.on ((Bt.refl b X).setCell 1 _) (h.pc.set (m + 1))
theorem Dr.over (h : Dr r v rv X) (hb : Below X.heap.size X Y) : Dr r v rv Y := ⟨owns_below h.own hb (Nat.le_refl _), fun x hx => (h.row x hx).over hb⟩
theorem Dr.on (h : Dr r v rv X) (hb : Bt b X Y) (hl : b < r) : Dr r v rv Y := ⟨owns_bt h.own hb (by omega), fun x hx => (h.row x hx).on hb (by omega)⟩
theorem Dr.set (h : Dr r v rv X) {i j : Nat} (hj : j ≤ r) (u : Value) : Dr r v rv (X.setCell ⟨j, i, none⟩ u) :=
  ⟨owns_set h.own (by omega), fun x hx => ⟨owns_set (h.row x hx).1 (by omega), owns_set (h.row x hx).2 (by omega)⟩⟩
/-- the rules' own cells, written. -/
theorem Dv.set (h : Dv w b g cap ts m c p r k a v X) (i : Nat) (u : Value) {l : List Value} (hl : (rulL k a v).set i u = l) : Pc (X.setCell ⟨r, i, none⟩ u) b g cap ts m c p ∧ Blk (X.setCell ⟨r, i, none⟩ u) w.heap.size 27 (rulL 0 0 (.slice none 0 0)) ∧ Blk (X.setCell ⟨r, i, none⟩ u) r 27 l ∧ Below w.heap.size w (X.setCell ⟨r, i, none⟩ u) := by
  have l1 := h.lg
  have l2 := h.lb
  have l3 := h.lr
  subst hl
  exact ⟨h.pc.other (by omega) (by omega) u, h.out.other _ _ (by show _ ≠ r; omega), h.blk.set i u, below_setCell' h.be (by omega) u⟩
theorem Dv.setK (h : Dv w b g cap ts m c p r k a v X) (k' a' : Int) : Dv w b g cap ts m c p r k' a' v ((X.setCell ⟨r, 0, none⟩ (.int .i64 k')).setCell ⟨r, 1, none⟩ (.int .i64 a')) := by
  obtain ⟨h1, h2, h3, h4⟩ := h.set 0 (.int .i64 k') (l := rulL k' a v) rfl
  have q : Dv w b g cap ts m c p r k' a v (X.setCell ⟨r, 0, none⟩ (.int .i64 k')) := ⟨h1, h2, h3, h4, h.lg, h.lb, h.lr⟩
  obtain ⟨g1, g2, g3, g4⟩ := q.set 1 (.int .i64 a') (l := rulL k' a' v) rfl
  exact ⟨g1, g2, g3, g4, h.lg, h.lb, h.lr⟩
theorem Dv.setV (h : Dv w b g cap ts m c p r k a v X) (u : Value) : Dv w b g cap ts m c p r k a u (X.setCell ⟨r, 2, none⟩ u) := by
  obtain ⟨h1, h2, h3, h4⟩ := h.set 2 u (l := rulL k a u) rfl
  exact ⟨h1, h2, h3, h4, h.lg, h.lb, h.lr⟩
/-- behind an append to the rules. -/
theorem Dv.grown (h : Dv w b g cap ts m c p r k a v X) (ho : X.ownsRow (r + 1) 43 4 v' n' xs) (hg : X.grownBy Y v'.ownBlock) : Dv w b g cap ts m c p r k a v Y := by
  have l1 := h.lg
  have l2 := h.lb
  have l3 := h.lr
  have hk := owns_block ho
  exact ⟨h.pc.grown hg (fun k e => by have := hk k e; omega) (fun k e => by have := hk k e; omega), h.out.grown hg (fun k e => by have := hk k e; omega), h.blk.grown hg (fun k e => by have := hk k e; omega), below_grown h.be (Nat.le_of_lt h.out.lt) hg (fun k e => by have := hk k e; omega), l1, l2, l3⟩
theorem Dr.app (h : Dr r v rv X) (hx : Rows2 X (r + 1) x) (ho : Y.ownsRow (r + 1) 43 4 v' (rv.length + 1) (cellsR (rv ++ [x]))) (hg : X.grownBy Y v.ownBlock) : Dr r v' (rv ++ [x]) (Y.setCell ⟨r, 2, none⟩ v') := by
  have hrow : ∀ y, Rows2 X (r + 1) y → Rows2 (Y.setCell ⟨r, 2, none⟩ v') (r + 1) y := by
    intro y hy
    refine ⟨owns_same hy.1 fun j hj => ?_, owns_same hy.2 fun j hj => ?_⟩
    · rw [heap_setCell_other Y ⟨r, 2, none⟩ j v' (by have := owns_block hy.1 j hj; show j ≠ r; omega)]
      exact hg.block j (owns_lt hy.1 j hj) (fun e => owns_apart hy.1 h.own (by decide) j hj e.symm)
    · rw [heap_setCell_other Y ⟨r, 2, none⟩ j v' (by have := owns_block hy.2 j hj; show j ≠ r; omega)]
      exact hg.block j (owns_lt hy.2 j hj) (fun e => owns_apart hy.2 h.own (by decide) j hj e.symm)
  refine ⟨?_, fun y hy => ?_⟩
  · rw [List.length_append]
    exact owns_set ho (Nat.lt_succ_self r)
  · rcases List.mem_append.1 hy with hy | hy
    · exact hrow y (h.row y hy)
    · simp at hy
      subst hy
      exact hrow y hx
end

set_option maxRecDepth 8000 in
theorem step_append_rl {w : World} {ops : Array Oper} {o : Oper} {a : Act} {K : Act → World → Prop} {Q : Exit → Act → World → Prop} {E : Prop} (hgd : o.guard = none) (s x : Operand)
    (ho : o.op = .call { callee := .builtin .append, args := #[s, x], argTypes := #[25, 25] })
    (base : Nat) (v : Value) (n : Nat) (xs : List Value) (hs : a.eval s = v) (hown : w.ownsRow base 43 4 v n xs)
    (it : List Value) (hl : it.length = 4) (h1 : ∀ u ∈ it, u.oneCell' = true) (ad : Addr) (hx : a.eval x = .slice (some ad) 1 1) (hnews : ∀ j u, it[j]? = some u → w.cell? (ad.add j) = some u)
    (hn : n ≤ 1000000) (hbase : base ≤ w.heap.size)
    (h : ∀ v' w', w'.ownsRow base 43 4 v' (n + 1) (xs ++ it) → w.grownBy w' v.ownBlock → K (a.put o.dst v') w') :
    if Region.wanted o (yielded ops a.tmps) = true then Oper.wp Tryd.prog o a w K Q else E := by
  have hw : Region.wanted o (yielded ops a.tmps) = true := by simp [Region.wanted, hgd]
  rw [if_pos hw]
  obtain ⟨i0, hi, hz0, hz1, hz2⟩ := info_parts Tryd.info43
  obtain ⟨v', w', hr, g1, g2, _⟩ := run_append_own (P := Tryd.prog) w base 25 o.type 43 i0 (.agg #[.int .i64 0, .int .i64 0, .slice none 0 0, .slice none 0 0]) 4 64 Tryd.underlying25 hi hz0 hz1 hz2 rfl (by decide) v n xs hown ad 1 1 it (by rw [hl]) hnews h1 (by unfold maxLen; omega) (by omega) hbase
  unfold Oper.wp execOp
  simp only [ho, resolve, invoke, builtin, Sem.run_bind, Sem.run_pure, Result.andThen_ok, List.map_toArray, List.map_cons, List.map_nil, hs, hx, hr]
  exact h v' w' g1 g2

theorem rl_one {k a : Int} {vn vc : Value} (h1 : vn.oneCell' = true) (h2 : vc.oneCell' = true) : ∀ u ∈ ruleL k a vn vc, u.oneCell' = true := by
  intro u hu
  simp [ruleL] at hu
  rcases hu with rfl | rfl | rfl | rfl
  · rfl
  · rfl
  · exact h1
  · exact h2
theorem rl_new (w : World) (k a : Int) (vn vc : Value) : ∀ j u, (ruleL k a vn vc)[j]? = some u → (w.alloc (Obj.cells #[.int .i64 k, .int .i64 a, vn, vc] 43)).cell? ((⟨w.heap.size, 0, none⟩ : Addr).add j) = some u := by
  intro j u hu
  match j, hu with
  | 0, hu => cases hu; simp [Addr.add]
  | 1, hu => cases hu; simp [Addr.add]
  | 2, hu => cases hu; simp [Addr.add]
  | 3, hu => cases hu; simp [Addr.add]

end Go.Proofs.YtdjjlccpmfhkiaaDoor.Doc
