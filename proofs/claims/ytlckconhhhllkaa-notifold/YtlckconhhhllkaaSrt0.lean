/-
  A row of numbers that is sorted: how it lies, what two stores make of it, and which of two numbers is less.
-/
import Derived.Test.YtlckconhhhllkaaMem
import Derived.Sort.LotA
import Derived.Sort.LotB
import Derived.Sort.LotC
import Derived.BigQuiet
import Derived.BigRegion
import Derived.CellFam
namespace Go.Proofs.Ytlckconhhhllkaa
open Go.RowKit

/-- which of two numbers is less. -/
def ltZ (x y : Int) : Bool := decide (x < y)
theorem swoZ : Go.Sort.SWO ltZ where
  irrefl x := decide_eq_false (by omega)
  trans x y z h1 h2 := by have := of_decide_eq_true h1; have := of_decide_eq_true h2; exact decide_eq_true (by omega)
  ntrans x y z h1 h2 := by have := of_decide_eq_false h1; have := of_decide_eq_false h2; exact decide_eq_false (by omega)

/-- the row's cells. -/
def cellsA (d : Array Int) : List Value := d.toList.map (Value.int .u64)

/-- the row, and all else as it was. -/
structure Sw (w0 : World) (g : Nat) (tl : List Value) (d : Array Int) (X : World) : Prop where
  blk : Blk X g 23 (cellsA d ++ tl)
  grow : w0.grownBy X (some g)

theorem cellsA_at (d : Array Int) (tl : List Value) (i : Nat) (h : i < d.size) : (cellsA d ++ tl)[i]? = some (.int .u64 d[i]!) := by
  unfold cellsA
  rw [List.getElem?_append_left (by simpa using h), List.getElem?_map, getElem!_pos d i h]
  simp [h]
theorem cellsA_len (d : Array Int) : (cellsA d).length = d.size := by simp [cellsA]
theorem cellsA_set (d : Array Int) (tl : List Value) (i : Nat) (x : Int) (h : i < d.size) : (cellsA d ++ tl).set i (.int .u64 x) = cellsA (d.setIfInBounds i x) ++ tl := by
  rw [List.set_append_left _ _ (by rw [cellsA_len]; exact h)]
  unfold cellsA
  rw [← List.map_set, Array.toList_setIfInBounds]

section
variable {w0 w1 X Y : World} {g : Nat} {tl : List Value} {d d' : Array Int}
theorem Sw.refl (h : Blk X g 23 (cellsA d ++ tl)) : Sw X g tl d X := ⟨h, ⟨rfl, rfl, rfl, Nat.le_refl _, fun _ _ _ => rfl⟩⟩
theorem Sw.cell (h : Sw w0 g tl d X) (i : Nat) (hi : i < d.size) : X.cell? ⟨g, i, none⟩ = some (.int .u64 d[i]!) := (h.blk.cell i).trans (cellsA_at d tl i hi)
theorem Sw.f (h : Sw w0 g tl d X) (i : Nat) : X.frozen? ⟨g, i, none⟩ = false := h.blk.f i
theorem Sw.set (h : Sw w0 g tl d X) (i : Nat) (x : Int) (hi : i < d.size) : Sw w0 g tl (d.setIfInBounds i x) (X.setCell ⟨g, i, none⟩ (.int .u64 x)) := by
  refine ⟨?_, h.grow.os, h.grow.tape, h.grow.output, by have := h.grow.size; simpa using this, fun k hk hn => ?_⟩
  · rw [← cellsA_set d tl i x hi]
    exact h.blk.set i _
  · rw [heap_setCell_other X ⟨g, i, none⟩ k _ (fun e => hn (by rw [e]))]
    exact h.grow.block k hk hn
theorem Sw.swap (h : Sw w0 g tl d X) (i j : Nat) (hi : i < d.size) (hj : j < d.size) : Sw w0 g tl (Go.Sort.swp d i j) ((X.setCell ⟨g, i, none⟩ (.int .u64 d[j]!)).setCell ⟨g, j, none⟩ (.int .u64 d[i]!)) :=
  (h.set i _ hi).set j _ (by simpa using hj)
theorem Sw.drew (h : Sw w0 g tl d X) : Sw w0 g tl d X.drew := ⟨h.blk, h.grow.os, h.grow.tape, h.grow.output, h.grow.size, h.grow.block⟩
theorem Sw.drewN (h : Sw w0 g tl d X) (n : Nat) : Sw w0 g tl d (X.drewN n) := by
  induction n with
  | zero => exact h
  | succ n ih => exact ih.drew
theorem Sw.over (h : Sw w0 g tl d X) (hb : Below X.heap.size X Y) : Sw w0 g tl d Y :=
  ⟨h.blk.over hb, hb.os.trans h.grow.os, hb.tape.trans h.grow.tape, hb.output.trans h.grow.output, Nat.le_trans h.grow.size hb.size, fun k hk hn => (hb.block k (Nat.lt_of_lt_of_le hk h.grow.size)).trans (h.grow.block k hk hn)⟩
theorem Sw.trans (h : Sw w0 g tl d X) (h' : Sw X g tl d' Y) : Sw w0 g tl d' Y :=
  ⟨h'.blk, h'.grow.os.trans h.grow.os, h'.grow.tape.trans h.grow.tape, h'.grow.output.trans h.grow.output, Nat.le_trans h.grow.size h'.grow.size, fun k hk hn => (h'.grow.block k (Nat.lt_of_lt_of_le hk h.grow.size) hn).trans (h.grow.block k hk hn)⟩
end

theorem isNaN_any (x : Int) (w : World) : Calls Try.prog 63 #[.int .u64 x] w fun e w' => e = .returned (.bool false) ∧ w' = w := by
  go_enter Try.func63, Try.ntmps63
  go_wp2
  go_ret
  exact ⟨ret_bool (by simp), rfl⟩

theorem lessU_any (x y : Int) (w : World) : Calls Try.prog 53 #[.int .u64 x, .int .u64 y] w fun e w' => e = .returned (.bool (ltZ x y)) ∧ w' = w := by
  go_enter Try.func53, Try.ntmps53
  go_wp2_with (go_at_call 63; refine (isNaN_any _ _).mono ?_; rintro e w1 ⟨rfl, rfl⟩)
  go_ret
  exact ⟨rfl, rfl⟩

end Go.Proofs.Ytlckconhhhllkaa
