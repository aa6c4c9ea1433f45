/-
  What forbids most of what filters answered, by package act: proved of every list.
-/
import Derived.Test.YtcckipimfgmmdaaGreatDoorAValue
import Derived.Test.YtcckipimfgmmdaaGreatDoorAOf
import Derived.Test.YtcckipimfgmmdaaGreatDoorAMostMath
namespace Go.Proofs.YtcckipimfgmmdaaGreatDoor.A
open Go.RowKit

theorem getD_u {l : List Int} (hl : ∀ z ∈ l, U32 z) (k : Nat) (hk : k < l.length) : U32 (l.getD k 0) := by
  rw [show l.getD k 0 = l[k] by simp [hk]]
  exact hl _ (List.getElem_mem hk)

set_option maxHeartbeats 800000 in
theorem fom_any (m : Int) (a : Option Addr) (len cap : Nat) (l : List Int) (w : World) (hm : U32 m) (hl : ∀ z ∈ l, U32 z) (hlen : len ≤ maxLen) (h : Ns .u32 w a len l) :
    Calls Tryz.prog 30 #[.int .u32 m, .slice a len cap] w fun e w' => e = .returned (.int .u32 (fom m l)) ∧ Below w.heap.size w w' := by
  unfold maxLen at hlen
  have HO : Hid (∀ (v : Int) (W : World), U32 v → Calls Tryz.prog 58 #[.int .u32 v] W fun e w' => e = .returned (.agg #[.int .i64 (ki v), .int .i64 (ar v)]) ∧ Below W.heap.size W w') := fun v W h => of_any v W h
  have HL : Hid (∀ z ∈ l, U32 z) := hl
  have HM : Hid (U32 m) := hm
  have hll := h.1
  have hfd : ∀ (k a : Int) (W : World), (Instr.field 36 (.agg #[.int .i64 k, .int .i64 a]) 0).run Tryz.prog W = .ok (.int .i64 k) W := field_act
  clear hl hm
  go_enter Tryz.func30, Tryz.ntmps30
  go_wp2_with (go_at_call 58; refine (HO.out _ _ HM.out).mono ?_; rintro e w1 ⟨rfl, b1⟩)
  go_loopw [0, 5, 14] (fun x lst i wr => ∃ k : Nat, k ≤ len ∧ i = .int .i64 k ∧ x = .int .u32 (fom m (l.take k)) ∧ lst = .int .i64 (ki (fom m (l.take k))) ∧ Below w.heap.size w wr) (fun _ _ i _ => len - (intOf i).toNat)
  case atStart => exact ⟨0, Nat.zero_le _, rfl, rfl, rfl, b1⟩
  case round =>
    obtain ⟨k, hk, rfl, rfl, rfl, hbr⟩ := hrel
    clear b1
    by_cases hlt : k < len
    · obtain ⟨b, off, rfl, hc⟩ := (h.below hbr).2 (by omega)
      have q := hc k hlt
      have HT : Hid (fom m (l.take (k + 1)) = pick (fom m (l.take k)) (l.getD k 0)) := fom_take m l k (by omega)
      have HU : Hid (U32 (l.getD k 0)) := getD_u HL.out k (by omega)
      have hi1 : (k : Int) < (len : Int) := by omega
      clear hc
      generalize l.getD k 0 = z at *
      generalize fom m (l.take k) = x at *
      by_cases hz : ki z < ki x
      · have HE : Hid (fom m (l.take (k + 1)) = z) := by unfold Hid; rw [HT.out]; unfold pick; rw [if_pos hz]
        clear HT
        go_wp2_with (go_at_call 58; refine (HO.out _ _ HU.out).mono ?_; rintro e w2 ⟨rfl, b2⟩)
        go_roundw
        case rel => exact ⟨k + 1, by omega, by go_num, by rw [HE.out], by rw [HE.out], hbr.trans (b2.mono hbr.size)⟩
        case measure => simp [intOf]; omega
      · have HE : Hid (fom m (l.take (k + 1)) = x) := by unfold Hid; rw [HT.out]; unfold pick; rw [if_neg hz]
        clear HT
        go_wp2_with (go_at_call 58; refine (HO.out _ _ HU.out).mono ?_; rintro e w2 ⟨rfl, b2⟩)
        go_roundw
        case rel => exact ⟨k + 1, by omega, by go_num, by rw [HE.out], by rw [HE.out], hbr.trans (b2.mono hbr.size)⟩
        case measure => simp [intOf]; omega
    · have hi1 : ¬ (k : Int) < (len : Int) := by omega
      have HE : Hid (l.take k = l) := List.take_of_length_le (by omega)
      go_wp2
      go_ret
      exact ⟨ret_int (by rw [HE.out]), hbr⟩

theorem val_allow : valZ 8 0 = 2147418112 ∧ errZ 8 0 = 0 := by decide

theorem most_nil (a : Option Addr) (cap : Nat) (w : World) :
    Calls Tryz.prog 13 #[.slice a 0 cap] w fun e w' => e = .returned (.int .u32 2147418112) ∧ Below w.heap.size w w' := by
  have HV : Hid (∀ W : World, Calls Tryz.prog 11 #[.agg #[.int .i64 8, .int .i64 0]] W fun e w' => e = .returned (.tuple #[.int .u32 2147418112, .int .i64 0]) ∧ Below W.heap.size W w') := by
    intro W
    have := value_any 8 0 W
    rw [val_allow.1, val_allow.2] at this
    exact this
  go_enter Tryz.func13, Tryz.ntmps13
  go_wp2_with (go_at_call 11; refine (HV.out _).mono ?_; rintro e w1 ⟨rfl, b1⟩)
  go_ret
  exact ⟨rfl, b1⟩

end Go.Proofs.YtcckipimfgmmdaaGreatDoor.A
