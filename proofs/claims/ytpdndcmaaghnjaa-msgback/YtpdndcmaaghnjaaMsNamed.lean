/-
  A message that is made field by field: each store, with the world behind it named anew.
-/
import Derived.Test.YtpdndcmaaghnjaaMsDec
import Derived.Deep.MidRow
namespace Go.Proofs.Ytpdndcmaaghnjaa
open Go.RowKit
open D (Da Blk)

theorem run_store_at {P : Program} {w : World} {g i : Nat} {t ty : TypeId} {R : List Value} {v : Value} (hB : Blk w g t R) (hi : i < R.length) (hz : (P.info? ty).map (·.size) = some 1) (h1 : v.oneCell' = true) :
    (storeVar ty ⟨g, i, none⟩ v).run P w = .ok () (w.setCell ⟨g, i, none⟩ v) := by
  have hc : v.cells = #[v] := by cases v <;> first | rfl | cases h1
  have h2 := hB.cell i
  rw [List.getElem?_eq_getElem hi] at h2
  have ha : (⟨g, i, none⟩ : Addr).add 0 = ⟨g, i, none⟩ := by unfold Addr.add; simp
  cases hq : P.info? ty with
  | none => simp [hq] at hz
  | some j =>
    have hs : j.size = 1 := by simpa [hq] using hz
    simp [storeVar, sizeOf, typeInfo, hq, hc, hs, storeCells, ha, run_store P w _ v _ h1, h2, hB.f i]

/-- a store into a field; the world behind it is named anew. -/
theorem wpList_store_x {P : Program} {ops : Array Oper} {rest : List Oper} {o : Oper} {a : Act} {w : World} {Q : Exit → Act → World → Prop} (hgd : o.guard = none) (ty : TypeId) (x y : Operand) (ho : o.op = .store ty x y)
    (g i : Nat) (v : Value) (hx : a.eval x = .pointer (some ⟨g, i, none⟩)) (hy : a.eval y = v) {t : TypeId} {R : List Value} (hB : Blk w g t R) (hi : i < R.length) (hz : (P.info? ty).map (·.size) = some 1) (h1 : v.oneCell' = true)
    (h : ∀ X, X = w.setCell ⟨g, i, none⟩ v → wpList P ops Q rest (a.put o.dst undef) X) : wpList P ops Q (o :: rest) a w :=
  wpList_plain hgd fun _ hK => by
    unfold Oper.wp execOp
    simp only [ho, hx, hy, Instr.storeAt, Instr.sureAddr, Sem.run_bind, Sem.run_pure, Result.andThen_ok, run_store_at hB hi hz h1]
    exact hK _ _ (h _ rfl)
/-- a store of a whole block; the world behind it is named anew. -/
theorem wpList_store_r {P : Program} {ops : Array Oper} {rest : List Oper} {o : Oper} {a : Act} {w : World} {Q : Exit → Act → World → Prop} (hgd : o.guard = none) (ty : TypeId) (x y : Operand) (ho : o.op = .store ty x y)
    (g : Nat) (cells : Array Value) (hx : a.eval x = .pointer (some ⟨g, 0, none⟩)) (hy : a.eval y = .agg cells)
    (t : TypeId) (old : Array Value) (hg : w.heap[g]? = some (.cells old t (0, 0))) (hi : (P.info? ty).map (·.size) = some cells.size)
    (hold : old.size = cells.size) (h1 : cells.all (·.oneCell') = true)
    (h : ∀ X, X = w.setRow g cells → wpList P ops Q rest (a.put o.dst undef) X) : wpList P ops Q (o :: rest) a w :=
  wpList_store_row hgd ty x y ho g cells hx hy t old hg hi hold h1 (h _ rfl)
/-- a store of a part of a block; the world behind it is named anew. -/
theorem wpList_store_m {P : Program} {ops : Array Oper} {rest : List Oper} {op : Oper} {a : Act} {w : World} {Q : Exit → Act → World → Prop} (hgd : op.guard = none) (ty : TypeId) (x y : Operand) (ho : op.op = .store ty x y)
    (b o : Nat) (cells : Array Value) (hx : a.eval x = .pointer (some ⟨b, o, none⟩)) (hy : a.eval y = .agg cells)
    (ht : w.there b o cells.size) (hi : (P.info? ty).map (·.size) = some cells.size) (h1 : cells.all (·.oneCell') = true)
    (h : ∀ X, X = w.setCells b o cells.toList → wpList P ops Q rest (a.put op.dst undef) X) : wpList P ops Q (op :: rest) a w :=
  wpList_store_mid hgd ty x y ho b o cells hx hy ht hi h1 (h _ rfl)

/-- a message of another one's block, and one that is made. -/
structure Mk (w0 : World) (g n : Nat) (L : List Value) (q : Mg) (W : World) : Prop where
  src : Blk W g 28 L
  dst : Blk W n 28 q.cells
  b : Below w0.heap.size w0 W
  ne : g ≠ n
  ln : w0.heap.size ≤ n
theorem Mk.over {w0 W W' : World} {g n : Nat} {L : List Value} {q : Mg} (h : Mk w0 g n L q W) (hb : Below W.heap.size W W') : Mk w0 g n L q W' := ⟨h.src.over hb, h.dst.over hb, h.b.trans (hb.mono h.b.size), h.ne, h.ln⟩
section
variable {w0 W X : World} {g n : Nat} {L : List Value} {q : Mg}
theorem Mk.cell (h : Mk w0 g n L q W) (i : Nat) (v : Value) (q' : Mg) (hq : q.cells.set i v = q'.cells) (hX : X = W.setCell ⟨n, i, none⟩ v) : Mk w0 g n L q' X := by
  subst hX
  refine ⟨h.src.other _ _ h.ne, ?_, h.b.setCell h.ln _, h.ne, h.ln⟩
  have := h.dst.set i v
  rw [hq] at this
  exact this
theorem Mk.id (h : Mk w0 g n L q W) (x : Int) (hX : X = W.setCell ⟨n, 2, none⟩ (.int .u64 x)) : Mk w0 g n L { q with id := x } X := h.cell 2 _ _ rfl hX
theorem Mk.epoch (h : Mk w0 g n L q W) (x : Int) (hX : X = W.setCell ⟨n, 1, none⟩ (.int .u64 x)) : Mk w0 g n L { q with epoch := x } X := h.cell 1 _ _ rfl hX
theorem Mk.task (h : Mk w0 g n L q W) (x : Int) (hX : X = W.setCell ⟨n, 3, none⟩ (.int .i64 x)) : Mk w0 g n L { q with task := x } X := h.cell 3 _ _ rfl hX
theorem Mk.vals (h : Mk w0 g n L q W) (x : Int) (hX : X = W.setCell ⟨n, 4, none⟩ (.int .i64 x)) : Mk w0 g n L { q with val := x } X := h.cell 4 _ _ rfl hX
theorem Mk.path (h : Mk w0 g n L q W) (hd : q.data.ok) (p : List Int) (hX : X = W.setCell ⟨n, 14, none⟩ (.string (strOfNums p))) : Mk w0 g n L { q with path := p } X := by
  refine h.cell 14 _ _ ?_ hX
  obtain ⟨k, ep, id, t, v, d, r⟩ := q
  obtain ⟨a, b, c, l⟩ := d
  obtain ⟨x0, x1, x2, x3, x4, x5, rfl⟩ := D.six hd.2.2.2.1
  rfl
theorem Mk.there (h : Mk w0 g n L q W) (hd : q.data.ok) (e : Da) (hD : e.ok) : W.there n 5 e.cells.toArray.size := by
  intro j hj
  rw [List.size_toArray, e.cells_len hD] at hj
  refine ⟨?_, h.dst.f _⟩
  rw [h.dst.cell, List.getElem?_eq_getElem (by rw [q.cells_len hd]; omega)]
  rfl
theorem Mk.data (h : Mk w0 g n L q W) (hd : q.data.ok) (E : Da) (hD : E.ok) (hX : X = W.setCells n 5 E.cells.toArray.toList) : Mk w0 g n L { q with data := E } X := by
  subst hX
  obtain ⟨k, ep, id, t, v, d, r⟩ := q
  obtain ⟨a, b, c, l⟩ := d
  obtain ⟨x0, x1, x2, x3, x4, x5, rfl⟩ := D.six hd.2.2.2.1
  obtain ⟨a', b', c', l'⟩ := E
  obtain ⟨y0, y1, y2, y3, y4, y5, rfl⟩ := D.six hD.2.2.2.1
  have s (i : Nat) (v : Value) {Z : World} {R : List Value} (hz : Blk Z n 28 R ∧ Blk Z g 28 L ∧ Below w0.heap.size w0 Z) : Blk (Z.setCell ⟨n, i, none⟩ v) n 28 (R.set i v) ∧ Blk (Z.setCell ⟨n, i, none⟩ v) g 28 L ∧ Below w0.heap.size w0 (Z.setCell ⟨n, i, none⟩ v) :=
    ⟨hz.1.set i v, hz.2.1.other _ _ h.ne, hz.2.2.setCell h.ln _⟩
  have e := s 13 (.int .u64 y5) (s 12 (.int .u64 y4) (s 11 (.int .u64 y3) (s 10 (.int .u64 y2) (s 9 (.int .u64 y1) (s 8 (.int .u64 y0) (s 7 (.int .u64 c') (s 6 (.int .u32 b') (s 5 (.int .u32 a') ⟨h.dst, h.src, h.b⟩))))))))
  exact ⟨e.2.1, e.1, e.2.2, h.ne, h.ln⟩
theorem Mk.range {r : Mg} (h : Mk w0 g n q.cells r W) (hd : q.data.ok) : W.rangeAt g 5 q.data.cells := by
  intro j v hj
  rw [h.src.cell, q.cD hd j (by have := (List.getElem?_eq_some_iff.1 hj).1; rw [q.data.cells_len hd] at this; exact this)]
  exact hj
end

end Go.Proofs.Ytpdndcmaaghnjaa
