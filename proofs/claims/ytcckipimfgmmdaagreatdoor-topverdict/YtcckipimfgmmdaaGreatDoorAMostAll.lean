/-
  What forbids most of what filters answered, by package act: of lists that are not empty, and of all.
-/
import Derived.Test.YtcckipimfgmmdaaGreatDoorAMost
import Derived.Deep.RegionHeld3
namespace Go.Proofs.YtcckipimfgmmdaaGreatDoor.A
open Go.RowKit

set_option maxHeartbeats 800000 in
theorem most_cons (b off len cap : Nat) (m : Int) (l : List Int) (w : World) (hl : ∀ z ∈ m :: l, U32 z) (hlen : len ≤ maxLen) (hcap : len ≤ cap) (h : Ns .u32 w (some ⟨b, off, none⟩) len (m :: l)) :
    Calls Tryz.prog 13 #[.slice (some ⟨b, off, none⟩) len cap] w fun e w' => e = .returned (.int .u32 (fom m l)) ∧ Below w.heap.size w w' := by
  have hll : l.length + 1 = len := h.1
  have c0 : w.cell? ⟨b, off, none⟩ = some (.int .u32 m) := by
    obtain ⟨_, _, e, hc⟩ := h.2 (by omega)
    cases e
    exact hc 0 (by omega)
  have hb0 := World.block_lt_of_cell? w _ c0
  have HD : Hid (Ns .u32 w (some ⟨b, off + 1, none⟩) (len - 1) l) := h.drop 1 (by omega)
  have HL : Hid (∀ z ∈ l, U32 z) := fun z hz => hl z (by simp [hz])
  have HM : Hid (U32 m) := hl m (by simp)
  have h1 : (1 : Int) ≤ (len : Int) := by omega
  have h2 : 1 ≤ len := by omega
  have h0 : 0 < len := by omega
  have h3 : 1 ≤ cap := by omega
  have h4 : (1 : Int) ≤ (cap : Int) := by omega
  have hz0 : ((len : Int) == 0) = false := by rw [beq_eq_false_iff_ne]; omega
  have hz1 : ¬ (len : Int) = 0 := by omega
  have HLen : Hid (len ≤ maxLen) := hlen
  clear hl h hlen
  by_cases h5 : cap = 1
  · obtain rfl : len = 1 := by omega
    obtain rfl : l = [] := List.eq_nil_of_length_eq_zero (by omega)
    subst h5
    have HQ : Hid (∀ a' c, Calls Tryz.prog 30 #[.int .u32 m, .slice a' 0 c] w.drew fun e w' => e = .returned (.int .u32 m) ∧ ((fun X => X.cell? ⟨b, off, none⟩ = some (.int .u32 m)) w' ∧ Hid (Below w.heap.size w w'))) := by
      intro a' c
      refine (fom_any m a' 0 c [] w.drew HM.out HL.out (Nat.zero_le _) ⟨rfl, fun h => absurd h (by omega)⟩).mono ?_
      rintro e w' ⟨rfl, hb⟩
      exact ⟨rfl, (hb.cell (p := ⟨b, off, none⟩) hb0).trans c0, (Below.refl _ _).drew.trans hb⟩
    go_enter Tryz.func13, Tryz.ntmps13
    go_wp2_with fail
    go_region_held3 (fun X => X.cell? ⟨b, off, none⟩ = some (.int .u32 m)) (first | assumption | go_keep) (first | (go_at_call 30; refine (HQ.out _ _).mono ?_; rintro e w5 ⟨rfl, hS5, G5⟩))
    all_goals
      go_wp2
      go_ret
      exact ⟨rfl, G5.out⟩
  · have h6 : ¬ (cap : Int) = 1 := by omega
    have HQ : Hid (∀ c, Calls Tryz.prog 30 #[.int .u32 m, .slice (some ⟨b, off + 1, none⟩) (len - 1) c] w.drew fun e w' => e = .returned (.int .u32 (fom m l)) ∧ ((fun X => X.cell? ⟨b, off, none⟩ = some (.int .u32 m)) w' ∧ Hid (Below w.heap.size w w'))) := by
      intro c
      refine (fom_any m _ (len - 1) c l w.drew HM.out HL.out (Nat.le_trans (Nat.sub_le _ _) HLen.out) (HD.out.below (Below.refl _ _).drew)).mono ?_
      rintro e w' ⟨rfl, hb⟩
      exact ⟨rfl, (hb.cell (p := ⟨b, off, none⟩) hb0).trans c0, (Below.refl _ _).drew.trans hb⟩
    go_enter Tryz.func13, Tryz.ntmps13
    go_wp2_with fail
    go_region_held3 (fun X => X.cell? ⟨b, off, none⟩ = some (.int .u32 m)) (first | assumption | go_keep) (first | (go_at_call 30; refine (HQ.out _).mono ?_; rintro e w5 ⟨rfl, hS5, G5⟩))
    all_goals
      go_wp2
      go_ret
      exact ⟨rfl, G5.out⟩

theorem most_any (a : Option Addr) (len cap : Nat) (l : List Int) (w : World) (hl : ∀ z ∈ l, U32 z) (hlen : len ≤ maxLen) (hcap : len ≤ cap) (h : Ns .u32 w a len l) :
    Calls Tryz.prog 13 #[.slice a len cap] w fun e w' => e = .returned (.int .u32 (most l)) ∧ Below w.heap.size w w' := by
  match l, hl, h with
  | [], _, h =>
    obtain rfl : len = 0 := h.1.symm
    exact most_nil a cap w
  | m :: l, hl, h =>
    obtain ⟨b, off, rfl, -⟩ := h.2 (by have := h.1; simp at this; omega)
    exact most_cons b off len cap m l w hl hlen hcap h

end Go.Proofs.YtcckipimfgmmdaaGreatDoor.A
