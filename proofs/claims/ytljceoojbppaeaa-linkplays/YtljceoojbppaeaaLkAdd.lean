/-
  A row's methods has and add.
-/
import Derived.Test.YtljceoojbppaeaaLkMem
namespace Go.Proofs.Ytljceoojbppaeaa
open Go.RowKit D

set_option maxHeartbeats 1000000 in
theorem has_any (w : World) (b : Nat) (A Z : List Value) (l : List (List Int)) (h : Row w b A l Z) (n : Int) :
    Calls Try.prog 28 #[.pointer (some ⟨b, A.length, none⟩), .int .i64 n] w fun e w' => e = .returned (.bool (hasN l n)) ∧ w' = w := by
  have hm := h.many
  have hle : (l.length : Int) ≤ 64 := by have := h.le; omega
  clear h
  unfold hasN
  generalize A.length = o at *
  generalize l.length = k at *
  by_cases h0 : n < 0
  · have h1 : decide (0 ≤ n ∧ n < (k : Int)) = false := by simp; omega
    rw [h1]
    have h2 : ¬ (0 : Int) ≤ n := by omega
    go_enter Try.func28, Try.ntmps28
    go_wp2
    go_ret
    exact ⟨rfl, rfl⟩
  · have h2 : (0 : Int) ≤ n := by omega
    by_cases h3 : n < (k : Int)
    · have h1 : decide (0 ≤ n ∧ n < (k : Int)) = true := by simp; omega
      rw [h1]
      go_enter Try.func28, Try.ntmps28
      go_wp2
      go_ret
      exact ⟨rfl, rfl⟩
    · have h1 : decide (0 ≤ n ∧ n < (k : Int)) = false := by simp; omega
      rw [h1]
      go_enter Try.func28, Try.ntmps28
      go_wp2
      go_ret
      exact ⟨rfl, rfl⟩

set_option maxHeartbeats 1000000 in
theorem add_no (w : World) (b : Nat) (A Z : List Value) (l : List (List Int)) (h : Row w b A l Z) (hl : l.length = 64) (f : List Int) :
    Calls Try.prog 27 #[.pointer (some ⟨b, A.length, none⟩), .string (strOfNums f)] w fun e w' => e = .returned (.bool false) ∧ w' = w := by
  have hm := h.many
  rw [hl] at hm
  clear h hl
  generalize A.length = o at *
  generalize strOfNums f = s at *
  go_enter Try.func27, Try.ntmps27
  go_wp2
  go_ret
  exact ⟨rfl, rfl⟩

set_option maxHeartbeats 2000000 in
theorem add_yes (w : World) (b : Nat) (A Z : List Value) (l : List (List Int)) (h : Row w b A l Z) (hl : l.length < 64) (f : List Int) :
    Calls Try.prog 27 #[.pointer (some ⟨b, A.length, none⟩), .string (strOfNums f)] w fun e w' => e = .returned (.bool true) ∧ Row w' b A (l ++ [f]) Z ∧ Kb b w w' := by
  have hm := h.many
  have HR : Hid (Row w b A l Z) := h
  obtain ⟨v0, hv0⟩ := h.some (i := l.length) (by omega)
  have hf0 := h.f (A.length + l.length)
  have hf1 := h.f (A.length + 64)
  have HL : Hid (l.length < 64) := hl
  have HS : Hid (((A ++ (rowC l ++ Z)).set (A.length + l.length) (.string (strOfNums f))).set (A.length + 64) (.int .i64 ((l.length + 1 : Nat) : Int)) = A ++ (rowC (l ++ [f]) ++ Z)) := add_cells A Z l f hl
  have hq : ((l.length : Int) == 64) = false := by simp; omega
  have hi0 : (l.length : Int) < 64 := by omega
  clear h hl
  generalize hk : l.length = k at *
  generalize ho : A.length = o at *
  generalize strOfNums f = s at *
  go_enter Try.func27, Try.ntmps27
  go_upto_region 3 with fail
  go_region
  have HB1 : Hid (Blk (w.setCell ⟨b, o + k, none⟩ (.string s)).drew b 30 ((A ++ (rowC l ++ Z)).set (o + k) (.string s))) := (HR.out.blk.set (o + k) (.string s)).drew
  have HK1 : Hid (Kb b w (w.setCell ⟨b, o + k, none⟩ (.string s)).drew) := (kb_set w b (o + k) (.string s)).trans (kb_below (Below.refl _ _).drew)
  have hm1 : (w.setCell ⟨b, o + k, none⟩ (.string s)).drew.cell? ⟨b, o + 64, none⟩ = some (.int .i64 (k : Int)) := by
    rw [HB1.out.cell, List.getElem?_set_ne (by have := HL.out; omega), ← HR.out.blk.cell]
    exact hm
  have hf2 := HB1.out.f (o + 64)
  clear hm hf0 hf1 hv0
  generalize (w.setCell ⟨b, o + k, none⟩ (.string s)).drew = w1 at *
  go_wp2
  go_ret
  have e : (k : Int) + 1 = ((k + 1 : Nat) : Int) := by omega
  rw [e]
  refine ⟨rfl, ⟨?_, by rw [List.length_append, List.length_singleton, hk]; exact HL.out⟩, HK1.out.trans (kb_set w1 b (o + 64) _)⟩
  rw [← HS.out]
  exact HB1.out.set (o + 64) _

end Go.Proofs.Ytljceoojbppaeaa
