/-
  A link as it lies: both rows in one block of 130 cells; what may have turned behind its calls.
-/
import Derived.Test.YtljceoojbppaeaaLkMath
namespace Go.Proofs.Ytljceoojbppaeaa
open Go.RowKit D

/-- frames as cells; a row. -/
def strC (l : List (List Int)) : List Value := l.map fun f => .string (strOfNums f)
def rowC (l : List (List Int)) : List Value := strC l ++ (List.replicate (64 - l.length) (.string (strOfNums [])) ++ [.int .i64 (l.length : Int)])
theorem strC_len (l : List (List Int)) : (strC l).length = l.length := by simp [strC]
theorem rowC_len {l : List (List Int)} (h : l.length ≤ 64) : (rowC l).length = 65 := by
  simp [rowC, strC_len]
  omega
/-- the row at a place of a block. -/
structure Row (w : World) (b : Nat) (A : List Value) (l : List (List Int)) (Z : List Value) : Prop where
  blk : Blk w b 30 (A ++ (rowC l ++ Z))
  le : l.length ≤ 64
section
variable {w : World} {b : Nat} {A Z : List Value} {l : List (List Int)}
theorem Row.at (h : Row w b A l Z) (i : Nat) (hi : i < 65) : w.cell? ⟨b, A.length + i, none⟩ = (rowC l)[i]? := by
  rw [h.blk.cell, List.getElem?_append_right (by omega), Nat.add_sub_cancel_left, List.getElem?_append_left (by rw [rowC_len h.le]; exact hi)]
theorem Row.many (h : Row w b A l Z) : w.cell? ⟨b, A.length + 64, none⟩ = some (.int .i64 (l.length : Int)) := by
  rw [h.at 64 (by decide)]
  unfold rowC
  have := h.le
  rw [List.getElem?_append_right (by rw [strC_len]; omega), List.getElem?_append_right (by rw [strC_len, List.length_replicate]; omega), strC_len, List.length_replicate, show 64 - l.length - (64 - l.length) = 0 by omega]
  rfl
theorem Row.frame (h : Row w b A l Z) {i : Nat} (hi : i < l.length) : w.cell? ⟨b, A.length + i, none⟩ = some (.string (strOfNums (l.getD i []))) := by
  have := h.le
  rw [h.at i (by omega)]
  unfold rowC strC
  rw [List.getElem?_append_left (by simpa using hi), List.getElem?_map, List.getElem?_eq_getElem hi, List.getD_eq_getElem?_getD, List.getElem?_eq_getElem hi]
  rfl
theorem Row.some (h : Row w b A l Z) {i : Nat} (hi : i < 65) : ∃ v, w.cell? ⟨b, A.length + i, none⟩ = Option.some v := by
  rw [h.at i hi, List.getElem?_eq_getElem (by rw [rowC_len h.le]; exact hi)]
  exact ⟨_, rfl⟩
theorem Row.f (h : Row w b A l Z) (i : Nat) : w.frozen? ⟨b, i, none⟩ = false := h.blk.f i
end

/-- all but one block stands. -/
structure Kb (b : Nat) (w w' : World) : Prop where
  os : w'.os = w.os
  tape : w'.tape = w.tape
  output : w'.output = w.output
  size : w.heap.size ≤ w'.heap.size
  block : ∀ k, k < w.heap.size → k ≠ b → w'.heap[k]? = w.heap[k]?
theorem Kb.refl (b : Nat) (w : World) : Kb b w w := ⟨rfl, rfl, rfl, Nat.le_refl _, fun _ _ _ => rfl⟩
theorem Kb.trans {b : Nat} {u w w' : World} (h : Kb b u w) (k : Kb b w w') : Kb b u w' :=
  ⟨k.os.trans h.os, k.tape.trans h.tape, k.output.trans h.output, Nat.le_trans h.size k.size, fun i hi hx => (k.block i (Nat.lt_of_lt_of_le hi h.size) hx).trans (h.block i hi hx)⟩
theorem kb_below {b : Nat} {w w' : World} (h : Below w.heap.size w w') : Kb b w w' := ⟨h.os, h.tape, h.output, h.size, fun i hi _ => h.block i hi⟩
theorem Kb.below {b B : Nat} {w w' : World} (h : Kb b w w') (hB : B ≤ w.heap.size) (hb : B ≤ b) : Below B w w' := ⟨h.os, h.tape, h.output, h.size, fun i hi => h.block i (by omega) (by omega)⟩
theorem kb_set (w : World) (b i : Nat) (v : Value) : Kb b w (w.setCell ⟨b, i, none⟩ v) :=
  ⟨by simp [World.setCell], by simp [World.setCell], by simp [World.setCell], by simp, fun k _ hx => heap_setCell_other w ⟨b, i, none⟩ k v hx⟩
theorem Blk.kb {b k : Nat} {w w' : World} {t : TypeId} {l : List Value} (h : Blk w k t l) (hk : Kb b w w') (hb : k ≠ b) : Blk w' k t l := by
  unfold Blk
  rw [hk.block k h.lt hb]
  exact h
theorem Row.over {w w' : World} {b : Nat} {A Z : List Value} {l : List (List Int)} (h : Row w b A l Z) (hb : Below w.heap.size w w') : Row w' b A l Z := ⟨h.blk.over hb, h.le⟩
theorem Row.drew {w : World} {b : Nat} {A Z : List Value} {l : List (List Int)} (h : Row w b A l Z) : Row w.drew b A l Z := ⟨h.blk.drew, h.le⟩

/-- a frame laid behind the others, in cells. -/
theorem add_cells (A Z : List Value) (l : List (List Int)) (f : List Int) (hl : l.length < 64) :
    ((A ++ (rowC l ++ Z)).set (A.length + l.length) (.string (strOfNums f))).set (A.length + 64) (.int .i64 ((l.length + 1 : Nat) : Int)) = A ++ (rowC (l ++ [f]) ++ Z) := by
  rw [List.set_append_right _ _ (by omega), Nat.add_sub_cancel_left, List.set_append_right _ _ (by omega), Nat.add_sub_cancel_left]
  congr 1
  obtain ⟨k, hk⟩ : ∃ k, 64 - l.length = k + 1 := ⟨64 - l.length - 1, by omega⟩
  unfold rowC
  rw [List.append_assoc, List.set_append_right _ _ (by rw [strC_len]; omega), strC_len, Nat.sub_self, hk, List.replicate_succ, List.cons_append, List.cons_append, List.set_cons_zero, List.set_append_right _ _ (by rw [strC_len]; omega), strC_len, show 64 - l.length = k + 1 from hk, List.set_cons_succ, List.append_assoc,
    List.set_append_right _ _ (by rw [List.length_replicate]; omega), List.length_replicate, Nat.sub_self]
  simp [strC]
  omega
end Go.Proofs.Ytljceoojbppaeaa
