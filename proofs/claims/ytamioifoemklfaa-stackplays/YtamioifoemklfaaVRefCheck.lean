/-
  What the document's Check tells of any program: proved; and of two rows of numbers, whether they are the same.
-/
import Derived.Test.YtamioifoemklfaaVCheck
import Derived.Test.YtamioifoemklfaaVWrongElse
namespace Go.Proofs.Ytamioifoemklfaa.V
open Go.RowKit

set_option maxHeartbeats 1000000 in
theorem refCheck_any (a : Option Addr) (len cap : Nat) (ins : List In) (w : World) (hlen : len ≤ maxLen) (h : Ins w a len ins) :
    Calls Try.prog 23 #[.slice a len cap] w fun e w' => Told w w' e (chk ins) := by
  have hll := h.1
  unfold maxLen at hlen
  by_cases h0 : len = 0
  · have hc : Hid (chk ins = (10, 0)) := by unfold Hid chk; rw [if_pos (by omega)]
    subst h0
    generalize chk ins = p at *
    clear h hll
    go_enter Try.func23, Try.ntmps23
    go_wp2
    go_ret2
    rw [hc.out]
    exact ⟨rfl, Below.refl _ _⟩
  · by_cases h4 : 4096 < len
    · have hc : Hid (chk ins = (4, 4096)) := by unfold Hid chk; rw [if_neg (by omega), if_pos (by omega)]
      generalize chk ins = p at *
      clear h hll
      have hz : ((len : Int) == 0) = false := by rw [beq_eq_false_iff_ne]; omega
      have hd : decide ((4096 : Int) < (len : Int)) = true := by simp; omega
      go_enter Try.func23, Try.ntmps23
      go_wp2
      go_ret2
      rw [hc.out]
      exact ⟨rfl, Below.refl _ _⟩
    · have hc : Hid (chk ins = ff ins 0) := by unfold Hid chk; rw [if_neg (by omega), if_neg (by omega)]
      generalize hz : ff ins 0 = z at *
      obtain ⟨z1, z2⟩ := z
      have HZ : Hid (ff ins 0 = (z1, z2)) := hz
      clear hz
      generalize chk ins = p at *
      have hz : ((len : Int) == 0) = false := by rw [beq_eq_false_iff_ne]; omega
      have hd : decide ((4096 : Int) < (len : Int)) = false := by simp; omega
      go_enter Try.func23, Try.ntmps23
      go_wp2
      go_loopw [4] (fun i wr => ∃ k : Nat, k ≤ len ∧ i = .int .i64 k ∧ ff (ins.drop k) k = (z1, z2) ∧ Below w.heap.size w wr) (fun i _ => len - (intOf i).toNat)
      case atStart => exact ⟨0, Nat.zero_le _, rfl, HZ.out, Below.refl _ _⟩
      case round =>
        obtain ⟨k, hk, rfl, hst, hbr⟩ := hrel
        clear hd hz
        by_cases hlt : k < len
        · have hir := h.below hbr
          obtain ⟨b, off, rfl, hcl⟩ := hir.2.2 (by omega)
          have hat := hcl k ins[k] (List.getElem?_eq_getElem (by omega))
          have HO : Hid (ins[k].ok) := hir.2.1 ins[k] (List.getElem_mem (by omega))
          have HS : Hid (ff (ins.drop k) k = if fault ins[k] (len - 1 - k) = 0 then ff (ins.drop (k + 1)) (k + 1 : Nat) else (fault ins[k] (len - 1 - k), k)) := ff_at ins k (len - 1 - k) (by omega) (by omega) k
          have HT : Hid (ff (ins.drop k) k = (z1, z2)) := hst
          have HW : Hid (∀ W : World, W = wr → Calls Try.prog 34 #[.slice (some ⟨b, off, none⟩) len cap, .int .i64 k] W fun e w' => e = .returned (.int .i64 (fault ins[k] (len - 1 - k))) ∧ Below W.heap.size W w') := fun W e => e ▸ wrong_any b off len cap k ins[k] wr (by omega) hlt HO.out hat
          clear hcl hir h hst hat HO
          generalize fault ins[k] (len - 1 - k) = fx at *
          have hi1 : (k : Int) < (len : Int) := by omega
          have hbs := hbr.size
          by_cases hf : fx = 0
          · have HZ2 : Hid (ff (ins.drop (k + 1)) (k + 1 : Nat) = (z1, z2)) := by have := HS.out; rw [if_pos hf] at this; exact this.symm.trans HT.out
            subst hf
            clear HS HT HZ
            go_wp2_with (go_at_call 34; refine (HW.out _ rfl).mono ?_; rintro e w1 ⟨rfl, b1⟩)
            go_roundw
            case rel => exact ⟨k + 1, by omega, by go_num, HZ2.out, hbr.trans (b1.mono hbs)⟩
            case measure => simp [intOf]; omega
          · have HZ2 : Hid ((fx, (k : Int)) = (z1, z2)) := by have := HS.out; rw [if_neg hf] at this; exact this.symm.trans HT.out
            have hf2 : (fx == 0) = false := by simp [hf]
            clear HS HT HZ
            go_wp2_with (go_at_call 34; refine (HW.out _ rfl).mono ?_; rintro e w1 ⟨rfl, b1⟩)
            go_ret2
            refine ⟨?_, hbr.trans (b1.mono hbs)⟩
            rw [hc.out, ← HZ2.out]
            rfl
        · have HN : Hid ((0, -1) = (z1, z2)) := by rw [List.drop_eq_nil_of_le (by omega)] at hst; exact hst
          clear hst
          go_wp2
          go_ret2
          refine ⟨?_, hbr⟩
          rw [hc.out, ← HN.out]
          rfl

end Go.Proofs.Ytamioifoemklfaa.V
