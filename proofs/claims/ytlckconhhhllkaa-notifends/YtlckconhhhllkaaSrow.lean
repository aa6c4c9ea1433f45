/-
  Rows of structs in memory of a call's own: notifications, calls.
-/
import Derived.Test.YtlckconhhhllkaaBase
namespace Go.Proofs.Ytlckconhhhllkaa
open Go.RowKit

section
variable {α : Type} {f : α → List Value} {sz : Nat}
theorem flat_len (hf : ∀ x, (f x).length = sz) (l : List α) : (l.flatMap f).length = l.length * sz := by
  induction l with
  | nil => simp
  | cons x l ih => rw [List.flatMap_cons, List.length_append, ih, hf, List.length_cons, Nat.add_mul, Nat.one_mul, Nat.add_comm]
theorem flat_at (hf : ∀ x, (f x).length = sz) (l : List α) : ∀ (i : Nat) (hi : i < l.length) (j : Nat), j < sz → (l.flatMap f)[i * sz + j]? = (f l[i])[j]? := by
  induction l with
  | nil => intro i hi; cases hi
  | cons x l ih =>
    intro i hi j hj
    rw [List.flatMap_cons]
    cases i with
    | zero =>
      rw [Nat.zero_mul, Nat.zero_add, List.getElem?_append_left (by rw [hf]; exact hj)]
      rfl
    | succ i =>
      have e : (i + 1) * sz + j = sz + (i * sz + j) := by rw [Nat.add_mul, Nat.one_mul]; omega
      rw [e, List.getElem?_append_right (by rw [hf]; omega), hf, Nat.add_sub_cancel_left]
      exact ih i (Nat.lt_of_succ_lt_succ hi) j hj
end
/-- a type of slices of structs. -/
structure Sty (ts e : TypeId) (z : Value) (sz bytes : Nat) : Prop where
  ht : Try.prog.underlying ts = some (.slice e)
  info : (Try.prog.info? e).map (fun i => (i.zero, i.size, i.bytes)) = some (some z, sz, bytes)
  zc : z.cells.size = sz
  pos : 0 < sz
theorem sty_e : Sty 39 44 (.agg #[.int .u64 0, .int .i64 0, .int .i64 0, .int .i64 0, .int .i64 0, .int .i64 0]) 6 48 := ⟨Try.underlying39, by kernel_rfl, rfl, by decide⟩
theorem sty_o : Sty 24 37 (.agg #[.int .i64 0, .int .i64 0, .int .u64 0, .int .i64 0, .int .i64 0]) 5 40 := ⟨Try.underlying24, by kernel_rfl, rfl, by decide⟩
/-- what an append of one tells. -/
structure ApS (e : TypeId) (sz base : Nat) (w w' : World) (v v' : Value) (n : Nat) (xs : List Value) : Prop where
  own : w'.ownsRow base e sz v' n xs
  grow : w.grownBy w' v.ownBlock
  at' : v'.ownBlock = v.ownBlock ∨ v'.ownBlock = some w.heap.size
theorem run_aps {ts e : TypeId} {z : Value} {sz bytes : Nat} (E : Sty ts e z sz bytes) {W : World} {base n g : Nat} {v : Value} {xs ys : List Value} (h : W.ownsRow base e sz v n xs) (hc : W.heap[g]? = some (.cells ys.toArray e (0, 0))) (hl : ys.length = sz) (h1 : ∀ u ∈ ys, u.oneCell' = true) (hn : n + 1 ≤ maxLen) (hb : (n + 1) * bytes ≤ 140737488355328) (hbase : base ≤ W.heap.size) (ty : TypeId) :
    ∃ v' w', (Builtin.append_ #[ts, ts] ty #[v, .slice (some ⟨g, 0, none⟩) 1 1]).run Try.prog W = .ok v' w' ∧ ApS e sz base W w' v v' (n + 1) (xs ++ ys) := by
  obtain ⟨i0, hi, hz0, hz1, hz2⟩ := info_parts E.info
  obtain ⟨v', w', q0, q1, q2, _, q4⟩ := run_append_own_at (P := Try.prog) W base ts ty e i0 z sz bytes E.ht hi hz0 hz1 hz2 E.zc E.pos v n xs h ⟨g, 0, none⟩ 1 1 ys (by rw [hl, Nat.one_mul]) (fun j u hu => by
    rw [Addr.add_lit, Nat.zero_add, cell_of_row W g j _ _ _ hc]
    simpa using hu) h1 hn hb hbase
  exact ⟨v', w', q0, q1, q2, q4⟩
/-- in a row of operations. -/
theorem list_aps {ts e : TypeId} {z : Value} {sz bytes : Nat} (E : Sty ts e z sz bytes) {W : World} {ops : Array Oper} {rest : List Oper} {o : Oper} {a : Act} {Q : Exit → Act → World → Prop} (hgd : o.guard = none) (s x : Operand)
    (ho : o.op = .call { callee := .builtin .append, args := #[s, x], argTypes := #[ts, ts] }) {base n g : Nat} {v : Value} {xs ys : List Value} (hv : a.eval s = v) (hx : a.eval x = .slice (some ⟨g, 0, none⟩) 1 1)
    (h : W.ownsRow base e sz v n xs) (hc : W.heap[g]? = some (.cells ys.toArray e (0, 0))) (hl : ys.length = sz) (h1 : ∀ u ∈ ys, u.oneCell' = true) (hn : n + 1 ≤ maxLen) (hb : (n + 1) * bytes ≤ 140737488355328) (hbase : base ≤ W.heap.size)
    (hk : ∀ v' w', ApS e sz base W w' v v' (n + 1) (xs ++ ys) → wpList Try.prog ops Q rest (a.put o.dst v') w') : wpList Try.prog ops Q (o :: rest) a W := by
  refine wpList_plain hgd fun _ hK => ?_
  obtain ⟨v', w', hr, h2⟩ := run_aps E h hc hl h1 hn hb hbase o.type
  unfold Oper.wp execOp
  simp only [ho, resolve, invoke, builtin, Sem.run_bind, Sem.run_pure, Result.andThen_ok, List.map_toArray, List.map_cons, List.map_nil, hv, hx, hr]
  exact hK _ _ (hk v' w' h2)
theorem aps_fr {e : TypeId} {base sz n m : Nat} {w w' : World} {v v' : Value} {xs ys : List Value} (h : w.ownsRow base e sz v n xs) (ha : ApS e sz base w w' v v' m ys) (hB : base ≤ w.heap.size) : Fr [e] [] base w w' := by
  have hx : ∀ k, v.ownBlock = some k → base ≤ k ∧ ∃ cs, w.heap[k]? = some (.cells cs e (0, 0)) := fun k hk => by
    rcases h.2 with ⟨rfl, _⟩ | ⟨g, cap, cur, rfl, hg, hh, _⟩
    · cases hk
    · cases hk
      exact ⟨hg, cur, hh⟩
  refine ⟨⟨ha.grow.os, ha.grow.tape, ha.grow.output, ha.grow.size, fun k hk => ha.grow.block k (by omega) fun e2 => ?_⟩, fun k o hk ht _ => ?_⟩
  · have := (hx k e2.symm).1
    omega
  · rw [ha.grow.block k (Array.getElem?_eq_some_iff.1 hk).1 fun e2 => ?_]
    · exact hk
    · obtain ⟨_, cs, hc⟩ := hx k e2.symm
      rw [hc] at hk
      cases hk
      exact ht _ _ _ rfl (by simp)
theorem rowS_slice {w : World} {base sz n : Nat} {e : TypeId} {v : Value} {xs : List Value} (h : w.ownsRow base e sz v n xs) : ∃ p cap, v = .slice p n cap := by
  rcases h.2 with ⟨rfl, h0⟩ | ⟨g, cap, cur, rfl, _⟩
  · exact ⟨none, 0, by rw [h0]⟩
  · exact ⟨_, cap, rfl⟩

def cellsE (l : List En) : List Value := l.flatMap En.cells
theorem enC_len (x : En) : x.cells.length = 6 := rfl
theorem cellsE_app (l m : List En) : cellsE (l ++ m) = cellsE l ++ cellsE m := List.flatMap_append
theorem cellsE_one (x : En) : cellsE [x] = x.cells := by simp [cellsE]
theorem one_en (x : En) : ∀ u ∈ x.cells, u.oneCell' = true := by
  intro u hu
  unfold En.cells at hu
  simp at hu
  rcases hu with rfl | rfl | rfl | rfl | rfl | rfl <;> rfl
theorem rowE_at {w : World} {base n cap : Nat} {p : Option Addr} {l : List En} (h : w.ownsRow base 44 6 (.slice p n cap) n (cellsE l)) {i : Nat} (hi : i < l.length) : ∃ g, p = some ⟨g, 0, none⟩ ∧ base ≤ g ∧ ∀ j u, (l[i]).cells[j]? = some u → w.cell? ⟨g, i * 6 + j, none⟩ = some u := by
  have hl : l.length * 6 = n * 6 := by have := h.1; unfold cellsE at this; rw [flat_len enC_len] at this; exact this
  rcases id h.2 with ⟨e, h0⟩ | ⟨g, cap', cur, e, hg, _⟩
  · omega
  · cases e
    refine ⟨g, rfl, hg, fun j u hu => ?_⟩
    have hj : j < 6 := by have := (List.getElem?_eq_some_iff.1 hu).1; exact this
    have := h.cells (g := g) rfl (i * 6 + j) u (by unfold cellsE; rw [flat_at enC_len l i hi j hj]; exact hu)
    rw [Addr.add_lit, Nat.zero_add] at this
    exact this
def Do.cells (o : Do) : List Value := [.int .i64 o.d, .int .i64 o.n, .int .u64 o.i, .int .i64 o.k, .int .i64 o.v]
def cellsD (l : List Do) : List Value := l.flatMap Do.cells
theorem doC_len (x : Do) : x.cells.length = 5 := rfl
theorem cellsD_app (l m : List Do) : cellsD (l ++ m) = cellsD l ++ cellsD m := List.flatMap_append
theorem cellsD_one (x : Do) : cellsD [x] = x.cells := by simp [cellsD]
theorem one_do (x : Do) : ∀ u ∈ x.cells, u.oneCell' = true := by
  intro u hu
  unfold Do.cells at hu
  simp at hu
  rcases hu with rfl | rfl | rfl | rfl | rfl <;> rfl
theorem opsR_row {w : World} {base n cap : Nat} {p : Option Addr} {l : List Do} (h : w.ownsRow base 37 5 (.slice p n cap) n (cellsD l)) (hl : l.length = n) (hn : n ≤ maxLen) (hu : ∀ o ∈ l, U64 o.i) : OpsR w p n l := by
  refine ⟨hl, hn, hu, fun h0 => ?_⟩
  rcases id h.2 with ⟨e, h1⟩ | ⟨g, cap', cur, e, hg, _⟩
  · omega
  · cases e
    refine ⟨g, 0, rfl, fun i q hi => ?_⟩
    obtain ⟨hil, hq⟩ := List.getElem?_eq_some_iff.1 hi
    have key : ∀ j u, q.cells[j]? = some u → w.cell? ⟨g, 0 + i * 5 + j, none⟩ = some u := fun j u hu => by
      have hj : j < 5 := by have := (List.getElem?_eq_some_iff.1 hu).1; exact this
      have := h.cells (g := g) rfl (i * 5 + j) u (by unfold cellsD; rw [flat_at doC_len l i hil j hj, hq]; exact hu)
      rw [Addr.add_lit, Nat.zero_add] at this
      rw [Nat.zero_add]
      exact this
    exact ⟨key 0 _ rfl, key 1 _ rfl, key 2 _ rfl, key 3 _ rfl, key 4 _ rfl⟩

end Go.Proofs.Ytlckconhhhllkaa
