/-
  The reader's words of conditions, numbers, and acts.
-/
import Derived.Test.YtcckipimfgmmdaaGreatDoorPRd2
namespace Go.Proofs.YtcckipimfgmmdaaGreatDoor.P
open Go.RowKit

/-- the words of arguments. -/
def argT : List (List UInt8) := [[97, 114, 103, 48], [97, 114, 103, 49], [97, 114, 103, 50], [97, 114, 103, 51], [97, 114, 103, 52], [97, 114, 103, 53]]

theorem arg_inv (t : List UInt8) : argOf t = 0 ∨ ∃ x, argT[argOf t - 1]? = some x ∧ t = x := by
  unfold argOf
  split
  · next h => exact .inr ⟨_, rfl, h⟩
  · split
    · next h => exact .inr ⟨_, rfl, h⟩
    · split
      · next h => exact .inr ⟨_, rfl, h⟩
      · split
        · next h => exact .inr ⟨_, rfl, h⟩
        · split
          · next h => exact .inr ⟨_, rfl, h⟩
          · split
            · next h => exact .inr ⟨_, rfl, h⟩
            · exact .inl rfl

theorem arg_at {t x : List UInt8} {k : Nat} (hx : argT[k]? = some x) : t = x ↔ argOf t = k + 1 := by
  constructor
  · intro h
    subst h
    match k, hx with
    | 0, hx => cases hx; rfl
    | 1, hx => cases hx; rfl
    | 2, hx => cases hx; rfl
    | 3, hx => cases hx; rfl
    | 4, hx => cases hx; rfl
    | 5, hx => cases hx; rfl
  · intro h
    rcases arg_inv t with h0 | ⟨y, hy, rfl⟩
    · omega
    · rw [h, Nat.add_sub_cancel, hx] at hy
      cases hy
      rfl

set_option maxHeartbeats 2000000 in
theorem index_any (g cap : Nat) (t : List UInt8) (w : World) (h : ∀ i x, argT[i]? = some x → w.cell? ⟨g, i, none⟩ = some (.string (bar x))) :
    Calls Tryz.prog 96 #[.slice (some ⟨g, 0, none⟩) 6 cap, .string (bar t)] w fun e w' => e = .returned (.int .i64 ((argOf t : Int) - 1)) ∧ w' = w := by
  have HC : Hid (∀ i x, argT[i]? = some x → w.cell? ⟨g, i, none⟩ = some (.string (bar x))) := h
  have HQ : Hid (∀ k x, argT[k]? = some x → (((bar t).toList == (bar x).toList) = true ↔ argOf t = k + 1)) := by
    intro k x hx
    rw [txt_eq, lst_bar, beq_iff_eq]
    exact arg_at hx
  clear h
  have hle : argOf t ≤ 6 := arg_le t
  generalize argOf t = A at *
  generalize bar t = bt at *
  go_enter Tryz.func96, Tryz.ntmps96
  go_wp2
  go_loop [8] (fun i => ∃ k : Nat, k ≤ 6 ∧ i = .int .i64 k ∧ (A = 0 ∨ k < A)) (fun i => 6 - (intOf i).toNat)
  case atStart => exact ⟨0, Nat.zero_le _, rfl, by omega⟩
  case round =>
    obtain ⟨k, hk, rfl, hno⟩ := hrel
    by_cases hlt : k < 6
    · obtain ⟨x, hx⟩ : ∃ x, argT[k]? = some x := ⟨argT[k], List.getElem?_eq_getElem hlt⟩
      have hck := HC.out k x hx
      have HM := HQ.out k x hx
      have hlt' : (k : Int) < 6 := by omega
      clear hx
      generalize bar x = bx at *
      by_cases he : A = k + 1
      · have e1 : (bt.toList == bx.toList) = true := HM.2 he
        have HE : Hid (A = k + 1) := he
        clear HM he hno hle
        go_wp2
        go_ret
        exact ⟨ret_int (by have := HE.out; omega), rfl⟩
      · have e1 : (bt.toList == bx.toList) = false := by
          rcases Bool.eq_false_or_eq_true (bt.toList == bx.toList) with q | q
          · exact absurd (HM.1 q) he
          · exact q
        have HE : Hid (A = 0 ∨ k + 1 < A) := by show _ ∨ _; omega
        clear HM he hno hle
        go_wp2
        go_round
        case rel => exact ⟨k + 1, by omega, by go_num, HE.out⟩
        case measure => simp [intOf]; omega
    · obtain rfl : k = 6 := by omega
      have HE : Hid (A = 0) := by show _ = _; omega
      clear hno hle
      go_wp2
      go_ret
      exact ⟨by rw [HE.out]; rfl, rfl⟩

set_option maxHeartbeats 2000000 in
theorem arg_any (t : List UInt8) (w : World) :
    Calls Tryz.prog 139 #[.string (bar t)] w fun e w' => e = .returned (.int .i64 ((argOf t : Int) - 1)) ∧ Below w.heap.size w w' := by
  have HB : Hid (Below w.heap.size w (w.alloc (Obj.cells #[.string ⟨#[97, 114, 103, 48]⟩, .string ⟨#[97, 114, 103, 49]⟩, .string ⟨#[97, 114, 103, 50]⟩, .string ⟨#[97, 114, 103, 51]⟩, .string ⟨#[97, 114, 103, 52]⟩, .string ⟨#[97, 114, 103, 53]⟩] 9))) := (Below.refl _ _).alloc (Nat.le_refl _) _
  have HI : Hid (Calls Tryz.prog 96 #[.slice (some ⟨w.heap.size, 0, none⟩) 6 6, .string (bar t)] (w.alloc (Obj.cells #[.string ⟨#[97, 114, 103, 48]⟩, .string ⟨#[97, 114, 103, 49]⟩, .string ⟨#[97, 114, 103, 50]⟩, .string ⟨#[97, 114, 103, 51]⟩, .string ⟨#[97, 114, 103, 52]⟩, .string ⟨#[97, 114, 103, 53]⟩] 9)) fun e w' => e = .returned (.int .i64 ((argOf t : Int) - 1)) ∧ w' = (w.alloc (Obj.cells #[.string ⟨#[97, 114, 103, 48]⟩, .string ⟨#[97, 114, 103, 49]⟩, .string ⟨#[97, 114, 103, 50]⟩, .string ⟨#[97, 114, 103, 51]⟩, .string ⟨#[97, 114, 103, 52]⟩, .string ⟨#[97, 114, 103, 53]⟩] 9))) := by
    refine index_any _ 6 t _ fun i x hx => ?_
    rw [(blk_new w _ 9).cell i]
    match i, hx with
    | 0, hx => cases hx; rfl
    | 1, hx => cases hx; rfl
    | 2, hx => cases hx; rfl
    | 3, hx => cases hx; rfl
    | 4, hx => cases hx; rfl
    | 5, hx => cases hx; rfl
  go_enter Tryz.func139, Tryz.ntmps139
  go_wp2_with (go_at_call 96; refine HI.out.mono ?_; rintro e w1 ⟨rfl, rfl⟩)
  go_ret
  exact ⟨rfl, HB.out⟩

end Go.Proofs.YtcckipimfgmmdaaGreatDoor.P
