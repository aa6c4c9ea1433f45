/-
  Rows of structs: what is cut from them and appended to them.
-/
import Derived.Test.YtlckconhhhllkaaRAdd
namespace Go.Proofs.Ytlckconhhhllkaa
open Go.RowKit

/-- cells of so many structs that a slice leads to. -/
def ScS (sz : Nat) (W : World) (x : Value) (m : Nat) (ys : List Value) : Prop := ∃ ao c, x = .slice ao m c ∧ ys.length = m * sz ∧ (ao = none → m = 0 ∧ c = 0) ∧ ∀ a, ao = some a → ∀ j u, ys[j]? = some u → W.cell? (a.add j) = some u
theorem ScS.over {sz m : Nat} {W W' : World} {x : Value} {ys : List Value} (h : ScS sz W x m ys) (hb : Below W.heap.size W W') : ScS sz W' x m ys := by
  obtain ⟨ao, c, rfl, h0, h1, h2⟩ := h
  refine ⟨ao, c, rfl, h0, h1, fun a e j u hu => ?_⟩
  have h3 := h2 a e j u hu
  rw [World.cell?_of_block (a := a.add j) (hb.block _ (World.block_lt_of_cell? W _ h3))]
  exact h3
/-- cut from above. -/
theorem cutS_hi {ts e : TypeId} {sz : Nat} (ht : Try.prog.underlying ts = some (.slice (Try.prog.elem ts))) (hel : Try.prog.elem ts = e) (hz : ∀ w, (sizeOf e).run Try.prog w = .ok sz w) {W : World} {base n : Nat} {v : Value} {xs : List Value} (h : W.ownsRow base e sz v n xs) (i : Nat) (hi : i ≤ n) :
    ∃ x, ScS sz W x i (xs.take (i * sz)) ∧ ∀ w, (Instr.sliceAt ts v none (some (.int .i64 i)) none).run Try.prog w = .ok x w := by
  have hn : xs.length = n * sz := h.1
  have hle : i * sz ≤ n * sz := Nat.mul_le_mul_right _ hi
  rcases id h.2 with ⟨rfl, h0⟩ | ⟨g, cap, cur, rfl, _, _, hc, _⟩
  · obtain rfl : i = 0 := by omega
    refine ⟨.slice none 0 0, ⟨none, 0, rfl, by simp, fun _ => ⟨rfl, rfl⟩, fun a e => by cases e⟩, fun w => ?_⟩
    rw [run_sliceAt_slice w ts _ _ _ _ ht, run_slice_h w ts _ _ _ ht .i64 ((0 : Nat) : Int) (by omega) (by omega), hel, hz]
    simp [Result.andThen, sliced]
  · refine ⟨.slice (some ⟨g, 0, none⟩) i cap, ⟨_, cap, rfl, by rw [List.length_take, hn, Nat.min_eq_left hle], fun e => (by cases e), fun a e j u hu => ?_⟩, fun w => ?_⟩
    · cases e
      exact h.cells (g := g) rfl j u (by
        rw [List.getElem?_take] at hu
        split at hu
        · exact hu
        · cases hu)
    · rw [run_sliceAt_slice w ts _ _ _ _ ht, run_slice_h w ts _ _ _ ht .i64 i (by omega) (by omega), hel, hz]
      simp only [Result.andThen_ok, sliced, Int.toNat_natCast, Nat.sub_zero, Nat.zero_mul]
      by_cases h0 : cap = 0
      · rw [if_pos h0]
      · rw [if_neg h0, Option.map_some, Addr.add_lit, Nat.add_zero]
/-- cut from below. -/
theorem cutS_lo {ts e : TypeId} {sz : Nat} (ht : Try.prog.underlying ts = some (.slice (Try.prog.elem ts))) (hel : Try.prog.elem ts = e) (hz : ∀ w, (sizeOf e).run Try.prog w = .ok sz w) {W : World} {base n : Nat} {v : Value} {xs : List Value} (h : W.ownsRow base e sz v n xs) (i : Nat) (hi : i ≤ n) :
    ∃ x, ScS sz W x (n - i) (xs.drop (i * sz)) ∧ ∀ w, (Instr.sliceAt ts v (some (.int .i64 i)) none none).run Try.prog w = .ok x w := by
  have hn : xs.length = n * sz := h.1
  rcases id h.2 with ⟨rfl, h0⟩ | ⟨g, cap, cur, rfl, _, _, hc, _⟩
  · obtain rfl : i = 0 := by omega
    have hx : xs = [] := List.eq_nil_of_length_eq_zero (by rw [hn, h0]; simp)
    subst hx
    refine ⟨.slice none 0 0, ⟨none, 0, by rw [h0], by rw [h0]; simp, fun _ => ⟨by rw [h0], rfl⟩, fun a e => by cases e⟩, fun w => ?_⟩
    rw [run_sliceAt_slice w ts _ _ _ _ ht, run_slice_l w ts _ _ _ ht .i64 ((0 : Nat) : Int) (by omega) (by omega), hel, hz]
    simp [Result.andThen, sliced]
  · refine ⟨sliced (some ⟨g, 0, none⟩) i n cap sz, ?_, fun w => ?_⟩
    · unfold sliced
      have hdl : (xs.drop (i * sz)).length = (n - i) * sz := by rw [List.length_drop, hn, Nat.sub_mul]
      by_cases h0 : cap = i
      · rw [if_pos h0]
        refine ⟨_, cap - i, rfl, hdl, fun e => (by cases e), fun a e j u hu => ?_⟩
        have hz0 : (xs.drop (i * sz)) = [] := List.eq_nil_of_length_eq_zero (by rw [hdl, show n - i = 0 by omega, Nat.zero_mul])
        rw [hz0] at hu
        cases hu
      · rw [if_neg h0, Option.map_some, Addr.add_lit, Nat.zero_add]
        refine ⟨_, cap - i, rfl, hdl, fun e => (by cases e), fun a e j u hu => ?_⟩
        cases e
        rw [List.getElem?_drop] at hu
        have := h.cells (g := g) rfl (i * sz + j) u hu
        rw [Addr.add_lit, Nat.zero_add] at this
        rw [Addr.add_lit]
        exact this
    · rw [run_sliceAt_slice w ts _ _ _ _ ht, run_slice_l w ts _ _ _ ht .i64 i (by omega) (by omega), hel, hz]
      rfl
theorem run_apm {ts e : TypeId} {z : Value} {sz bytes : Nat} (E : Sty ts e z sz bytes) {W : World} {base n m : Nat} {v x : Value} {xs ys : List Value} (h : W.ownsRow base e sz v n xs) (hs : ScS sz W x m ys) (h1 : ∀ u ∈ ys, u.oneCell' = true) (hn : n + m ≤ 100000) (hb : (n + m) * bytes ≤ 140737488355328) (hbase : base ≤ W.heap.size) (ty : TypeId) :
    ∃ v' w', (Builtin.append_ #[ts, ts] ty #[v, x]).run Try.prog W = .ok v' w' ∧ ApS e sz base W w' v v' (n + m) (xs ++ ys) := by
  obtain ⟨i0, hi, hz0, hz1, hz2⟩ := info_parts E.info
  obtain ⟨ao, c, rfl, hl, hnil, hc⟩ := hs
  cases ao with
  | none =>
    obtain ⟨rfl, rfl⟩ := hnil rfl
    have hy : ys = [] := List.eq_nil_of_length_eq_zero (by rw [hl, Nat.zero_mul])
    subst hy
    exact ⟨v, W, run_append_owned_none (P := Try.prog) W base ts ty e i0 sz E.ht hi v n xs h, ⟨by rw [List.append_nil]; exact h, ⟨rfl, rfl, rfl, Nat.le_refl _, fun _ _ _ => rfl⟩, .inl rfl⟩⟩
  | some a =>
    obtain ⟨v', w', q0, q1, q2, _, q4⟩ := run_append_own_at (P := Try.prog) W base ts ty e i0 z sz bytes E.ht hi hz0 hz1 hz2 E.zc E.pos v n xs h a m c ys hl (hc a rfl) h1 (by unfold maxLen; omega) hb hbase
    exact ⟨v', w', q0, q1, q2, q4⟩
/-- at a step of a drawn region. -/
theorem step_apm {ts e : TypeId} {z : Value} {sz bytes : Nat} (E : Sty ts e z sz bytes) {W : World} {ops : Array Oper} {o : Oper} {a : Act} {K : Act → World → Prop} {Q : Exit → Act → World → Prop} {F : Prop} (hgd : o.guard = none) (s x : Operand)
    (ho : o.op = .call { callee := .builtin .append, args := #[s, x], argTypes := #[ts, ts] }) {base n m : Nat} {v xv : Value} {xs ys : List Value} (hv : a.eval s = v) (hx : a.eval x = xv)
    (h : W.ownsRow base e sz v n xs) (hs : ScS sz W xv m ys) (h1 : ∀ u ∈ ys, u.oneCell' = true) (hn : n + m ≤ 100000) (hb : (n + m) * bytes ≤ 140737488355328) (hbase : base ≤ W.heap.size)
    (hk : ∀ v' w', ApS e sz base W w' v v' (n + m) (xs ++ ys) → K (a.put o.dst v') w') :
    if Region.wanted o (yielded ops a.tmps) = true then Oper.wp Try.prog o a W K Q else F := by
  rw [if_pos (by simp [Region.wanted, hgd])]
  obtain ⟨v', w', hr, h2⟩ := run_apm E h hs h1 hn hb hbase o.type
  unfold Oper.wp execOp
  simp only [ho, resolve, invoke, builtin, Sem.run_bind, Sem.run_pure, Result.andThen_ok, List.map_toArray, List.map_cons, List.map_nil, hv, hx, hr]
  exact hk _ _ h2
theorem ApS.below {e : TypeId} {sz base n m : Nat} {w0 w w' : World} {v v' : Value} {xs ys : List Value} (h : ApS e sz base w w' v v' m xs) (hv : w.ownsRow w0.heap.size e sz v n ys) (hb : Below w0.heap.size w0 w) : Below w0.heap.size w0 w' :=
  hb.grown h.grow hb.size fun j hj => owns_block hv j hj
theorem rowS_fresh (W : World) (e : TypeId) (sz : Nat) : (W.alloc (.cells #[] e)).ownsRow W.heap.size e sz (.slice (some ⟨W.heap.size, 0, none⟩) 0 0) 0 [] :=
  ⟨by simp, .inr ⟨W.heap.size, 0, #[], rfl, Nat.le_refl _, heap_alloc_new _ _, Nat.le_refl _, by decide, by simp, by simp⟩⟩
theorem one_cells (l : List En) : ∀ u ∈ cellsE l, u.oneCell' = true := fun u hu => by
  unfold cellsE at hu
  obtain ⟨x, _, h2⟩ := List.mem_flatMap.1 hu
  exact one_en x u h2
theorem cellsE_take (l : List En) (i : Nat) : (cellsE l).take (i * 6) = cellsE (l.take i) := by
  induction l generalizing i with
  | nil => simp [cellsE]
  | cons x l ih =>
    cases i with
    | zero => simp [cellsE]
    | succ i =>
      have e : (i + 1) * 6 = 6 + i * 6 := by omega
      rw [e]
      show ((x.cells ++ cellsE l).take (6 + i * 6)) = x.cells ++ cellsE (l.take i)
      rw [List.take_append, List.take_of_length_le (by show 6 ≤ 6 + i * 6; omega), show 6 + i * 6 - x.cells.length = i * 6 from by show 6 + i * 6 - 6 = _; omega, ih]
theorem cellsE_drop (l : List En) (i : Nat) : (cellsE l).drop (i * 6) = cellsE (l.drop i) := by
  induction l generalizing i with
  | nil => simp [cellsE]
  | cons x l ih =>
    cases i with
    | zero => simp [cellsE]
    | succ i =>
      have e : (i + 1) * 6 = 6 + i * 6 := by omega
      rw [e]
      show ((x.cells ++ cellsE l).drop (6 + i * 6)) = cellsE (l.drop i)
      rw [List.drop_append, List.drop_of_length_le (by show 6 ≤ 6 + i * 6; omega), show 6 + i * 6 - x.cells.length = i * 6 from by show 6 + i * 6 - 6 = _; omega, ih]
      rfl

end Go.Proofs.Ytlckconhhhllkaa
