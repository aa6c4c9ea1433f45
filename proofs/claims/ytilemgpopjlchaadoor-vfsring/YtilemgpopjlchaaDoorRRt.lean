/-
  The document's Right.
-/
import Derived.Test.YtilemgpopjlchaaDoorBase
namespace Go.Proofs.YtilemgpopjlchaaDoor
open Go.RowKit

theorem rightP_bad {l : List UInt8} (h : l.length = 0 ∨ 256 < l.length ∨ (∃ c : UInt8, l[0]? = some c ∧ c ≠ 47) ∨ ∃ k : Nat, l[k]? = some 0) : rightP l = false := by
  rw [Bool.eq_false_iff]
  intro e
  obtain ⟨h1, ⟨r, rfl⟩, h3⟩ := right_iff.1 e
  rcases h with h | h | ⟨c, hc, h⟩ | ⟨k, hk⟩
  · simp at h
  · omega
  · simp at hc
    exact h hc.symm
  · exact h3 0 (List.mem_of_getElem? hk) rfl
theorem rightP_good {l : List UInt8} (h1 : l.length ≤ 256) (h2 : l[0]? = some 47) (h3 : ∀ (k : Nat) (c : UInt8), l[k]? = some c → c ≠ 0) : rightP l = true := by
  refine right_iff.2 ⟨h1, ?_, fun c hc => ?_⟩
  · cases l with
    | nil => cases h2
    | cons c r =>
      simp at h2
      exact ⟨r, by rw [h2]⟩
  · obtain ⟨k, hk⟩ := List.getElem?_of_mem hc
    exact h3 k c hk
theorem u8_ne {c d : UInt8} (h : c ≠ d) : ((c.toNat : Int) == (d.toNat : Int)) = false := by
  rw [Bool.eq_false_iff]
  intro e
  have e2 : (c.toNat : Int) = d.toNat := by simpa using e
  exact h (UInt8.toNat_inj.1 (by omega))

set_option maxHeartbeats 4000000 in
theorem rright_any (s : ByteArray) (w : World) (hs : s.size ≤ 100000) :
    Calls Tryd.prog 29 #[.string s] w fun e w' => e = .returned (.bool (rightP (lst s))) ∧ w' = w := by
  have HS : Hid (s.size ≤ 100000) := hs
  by_cases h0 : s.size = 0
  · have e0 : ((s.size : Int) == 0) = true := by simp [h0]
    have HR : Hid (rightP (lst s) = false) := rightP_bad (.inl (by rw [lst_length]; exact h0))
    clear h0
    go_enter Tryd.func29, Tryd.ntmps29
    go_wp2
    go_ret
    exact ⟨by rw [HR.out]; rfl, rfl⟩
  · have e0 : ((s.size : Int) == 0) = false := beq_eq_false_iff_ne.2 (by omega)
    by_cases h1 : 256 < s.size
    · have e1 : decide ((256 : Int) < (s.size : Int)) = true := decide_eq_true (by omega)
      have e1' : (256 : Int) < (s.size : Int) := by omega
      have HR : Hid (rightP (lst s) = false) := rightP_bad (.inr (.inl (by rw [lst_length]; exact h1)))
      clear h0 h1
      go_enter Tryd.func29, Tryd.ntmps29
      go_wp2
      go_ret
      exact ⟨by rw [HR.out]; rfl, rfl⟩
    · have e1 : decide ((256 : Int) < (s.size : Int)) = false := decide_eq_false (by omega)
      have e1' : ¬ (256 : Int) < (s.size : Int) := by omega
      have hp0 : 0 < s.size := by omega
      have hat := lst_at s 0 hp0
      by_cases hc : s[0]'hp0 = 47
      · have hq : (((s[0]'hp0).toNat : Int) != 47) = false := by rw [hc]; rfl
        have HH : Hid ((lst s)[0]? = some 47) := by show _ = _; rw [hat, hc]
        clear hc hat h0 h1
        go_enter Tryd.func29, Tryd.ntmps29
        go_wp2
        go_loopw [3] (fun v wr => ∃ i : Nat, v = .int .i64 i ∧ i ≤ s.size ∧ (∀ (k : Nat) (c : UInt8), k < i → (lst s)[k]? = some c → c ≠ 0) ∧ wr = w) (fun v _ => s.size - (intOf v).toNat)
        case atStart => exact ⟨0, rfl, Nat.zero_le _, fun k c hk => absurd hk (Nat.not_lt_zero _), rfl⟩
        case round =>
          obtain ⟨i, rfl, hi, hno, hw⟩ := hrel
          subst hw
          have HNO : Hid (∀ (k : Nat) (c : UInt8), k < i → (lst s)[k]? = some c → c ≠ 0) := hno
          clear hno
          by_cases hlt : i < s.size
          · have hi1 : (i : Int) < (s.size : Int) := by omega
            have hat := lst_at s i hlt
            by_cases hz : s[i]'hlt = 0
            · have hzz : (((s[i]'hlt).toNat : Int) == 0) = true := by rw [hz]; rfl
              have HR : Hid (rightP (lst s) = false) := rightP_bad (.inr (.inr (.inr ⟨i, by rw [hat, hz]⟩)))
              clear hz hat
              go_wp2
              go_ret
              exact ⟨by rw [HR.out]; rfl, rfl⟩
            · have hzz : (((s[i]'hlt).toNat : Int) == 0) = false := u8_ne (d := 0) hz
              have HX : Hid (∀ (k : Nat) (c : UInt8), k < i + 1 → (lst s)[k]? = some c → c ≠ 0) := fun k c hk hc => by
                by_cases e : k = i
                · subst e
                  rw [hat] at hc
                  cases hc
                  exact hz
                · exact HNO.out k c (by omega) hc
              clear hz hat
              go_wp2
              go_roundw
              case rel => exact ⟨i + 1, by go_num, hlt, HX.out, by trivial⟩
              case measure => simp [intOf]; omega
          · have hi1 : ¬ (i : Int) < (s.size : Int) := by omega
            have HR : Hid (rightP (lst s) = true) := rightP_good (by rw [lst_length]; omega) HH.out fun k c hc => HNO.out k c (by
              have := (List.getElem?_eq_some_iff.1 hc).1
              rw [lst_length] at this
              omega) hc
            go_wp2
            go_ret
            exact ⟨by rw [HR.out]; rfl, rfl⟩
      · have hq : (((s[0]'hp0).toNat : Int) != 47) = true := by
          have := u8_ne (d := 47) hc
          simpa using this
        have HR : Hid (rightP (lst s) = false) := rightP_bad (.inr (.inr (.inl ⟨_, hat, hc⟩)))
        clear hc hat h0 h1
        go_enter Tryd.func29, Tryd.ntmps29
        go_wp2
        go_ret
        exact ⟨by rw [HR.out]; rfl, rfl⟩

end Go.Proofs.YtilemgpopjlchaaDoor
