/-
  How often a list is halved at most: the program's and the document's.
-/
import Derived.Test.YthgkpecmpfgnjaaMem
import Derived.Test.YthgkpecmpfgnjaaShelf
namespace Go.Proofs.Ythgkpecmpfgnjaa
open Go.RowKit

theorem bl (k : Nat) : ∀ x : Nat, x < 2 ^ 64 → (Lib.bitLen x ≤ k ↔ x < 2 ^ k) := by
  induction k with
  | zero =>
    intro x hx
    by_cases h0 : x = 0
    · subst h0; simp [Lib.bitLen, Lib.bitLenAux]
    · rw [Lib.bitLen_half x h0 hx]
      simp
      omega
  | succ k ih =>
    intro x hx
    by_cases h0 : x = 0
    · subst h0
      constructor
      · intro _; exact Nat.two_pow_pos _
      · intro _; simp [Lib.bitLen, Lib.bitLenAux]
    · have := ih (x / 2) (by omega)
      rw [Lib.bitLen_half x h0 hx, Nat.pow_succ]
      constructor
      · intro h; have := this.1 (by omega); omega
      · intro h; have := this.2 (by omega); omega

/-- how often a list is halved at most. -/
def deepZ (s : Int) : Nat := if s < 2 then 0 else min (Lib.bitLen (s - 1).toNat) 62

theorem deepZ_is {s : Int} {k : Nat} (hs : s ≤ 9223372036854775807) (h0 : k = 0 ∨ (2 : Int) ^ (k - 1) < s) (h1 : s ≤ (2 : Int) ^ k) (hk : k < 62) : deepZ s = k := by
  have c1 : (2 : Int) ^ k = ((2 ^ k : Nat) : Int) := by norm_cast
  have c2 : (2 : Int) ^ (k - 1) = ((2 ^ (k - 1) : Nat) : Int) := by norm_cast
  have hp : 0 < 2 ^ (k - 1) := Nat.two_pow_pos _
  unfold deepZ
  by_cases h2 : s < 2
  · rw [if_pos h2]
    rcases h0 with h0 | h0
    · exact h0.symm
    · omega
  · rw [if_neg h2]
    have hx : (s - 1).toNat < 2 ^ 64 := by omega
    have k0 : k ≠ 0 := by rintro rfl; simp at h1; omega
    have h3 : Lib.bitLen (s - 1).toNat ≤ k := (bl k _ hx).2 (by omega)
    have h4 : ¬ Lib.bitLen (s - 1).toNat ≤ k - 1 := by
      rw [bl (k - 1) _ hx]
      rcases h0 with h0 | h0
      · exact absurd h0 k0
      · omega
    omega
theorem deepZ_far {s : Int} (hs : s ≤ 9223372036854775807) (h : (2 : Int) ^ 61 < s) : deepZ s = 62 := by
  unfold deepZ
  have hx : (s - 1).toNat < 2 ^ 64 := by omega
  rw [if_neg (by omega)]
  have h4 : ¬ Lib.bitLen (s - 1).toNat ≤ 61 := by
    rw [bl 61 _ hx]
    omega
  omega
theorem deepZ_le (s : Int) : deepZ s ≤ 62 := by unfold deepZ; split <;> omega
/-- so many halvings are enough. -/
theorem deepZ_pow (n : Nat) (h : n ≤ 1000000) : n ≤ 2 ^ deepZ n := by
  unfold deepZ
  split
  · simp; omega
  · have hx : ((n : Int) - 1).toNat < 2 ^ 64 := by omega
    have h1 : Lib.bitLen ((n : Int) - 1).toNat ≤ 20 := (bl 20 _ hx).2 (by omega)
    rw [Nat.min_eq_left (by omega)]
    have := (bl _ _ hx).1 (Nat.le_refl (Lib.bitLen ((n : Int) - 1).toNat))
    omega

theorem deep_any (s : Int) (w : World) (h0 : -9223372036854775808 ≤ s) (h1 : s ≤ 9223372036854775807) :
    Calls Try.prog 15 #[.int .i64 s] w fun e w' => e = .returned (.int .i64 (deepZ s : Nat)) ∧ w' = w := by
  by_cases h2 : s < 2
  · have e0 : deepZ s = 0 := by unfold deepZ; rw [if_pos h2]
    rw [e0]
    clear e0
    go_enter Try.func15, Try.ntmps15
    go_wp2
    go_ret
    exact ⟨rfl, rfl⟩
  · have e0 : Hid (deepZ s = min (Lib.bitLen (s - 1).toNat) 62) := by unfold Hid deepZ; rw [if_neg h2]
    generalize deepZ s = d at *
    have e1 : wrap64 (s - 1) = s - 1 := by unfold wrap64; omega
    have e2 : IntKind.u64.wrap (s - 1) = s - 1 := by rw [IntKind.wrap_u64]; omega
    have HL : Hid (∀ W : World, Calls Try.prog 23 #[.int .u64 (s - 1)] W fun e w' => e = .returned (.int .i64 (Lib.bitLen (s - 1).toNat : Nat)) ∧ w' = W) := fun W => Try.bits_Len (s - 1) W (by omega) (by omega)
    have h2' : 2 ≤ s := by omega
    generalize Lib.bitLen (s - 1).toNat = q at *
    clear h0 h1 h2
    go_enter Try.func15, Try.ntmps15
    go_wp2_with (go_at_call 23; refine (HL.out _).mono ?_; rintro e w1 ⟨rfl, rfl⟩)
    go_ret
    exact ⟨ret_int (by rw [e0.out]; omega), rfl⟩

set_option maxHeartbeats 1000000 in
theorem refDeep_any (s : Int) (w : World) (h1 : s ≤ 9223372036854775807) :
    Calls Try.prog 16 #[.int .i64 s] w fun e w' => e = .returned (.int .i64 (deepZ s : Nat)) ∧ w' = w := by
  have H1 : Hid (s ≤ 9223372036854775807) := h1
  clear h1
  have HD : Hid (deepZ s = deepZ s) := rfl
  generalize hd : deepZ s = d at HD ⊢
  have HD2 : Hid (deepZ s = d) := hd
  clear hd HD
  go_enter Try.func16, Try.ntmps16
  go_wp2
  go_loopw [3, 4] (fun p i wr => ∃ (k : Nat) (z : Int), k ≤ 62 ∧ p = .int .i64 z ∧ i = .int .i64 k ∧ Hid (z = 2 ^ k) ∧ Hid (k = 0 ∨ (2 : Int) ^ (k - 1) < s) ∧ wr = w) (fun _ i _ => 62 - (intOf i).toNat)
  case atStart => exact ⟨0, 1, by omega, rfl, rfl, rfl, .inl rfl, rfl⟩
  case round =>
    obtain ⟨k, z, hk, rfl, rfl, HZ, HK, rfl⟩ := hrel
    by_cases hlt : k < 62
    · by_cases hz : s ≤ z
      · have e : d = k := by
          rw [← HD2.out]
          refine deepZ_is H1.out HK.out ?_ hlt
          rw [← HZ.out]
          exact hz
        subst e
        have hi1 : (d : Int) < 62 := by omega
        go_wp2
        go_ret
        exact ⟨rfl, rfl⟩
      · have e1 : Hid (z * 2 = 2 ^ (k + 1)) := by unfold Hid; rw [HZ.out, Int.pow_succ]
        have HB : Hid ((2 : Int) ^ (k + 1) ≤ 4611686018427387904) := by
          have : 2 ^ (k + 1) ≤ 2 ^ 62 := Nat.pow_le_pow_right (by decide) (by omega)
          have c1 : (2 : Int) ^ (k + 1) = ((2 ^ (k + 1) : Nat) : Int) := by norm_cast
          unfold Hid
          omega
        have HP : Hid (0 < z) := by
          have c1 : (2 : Int) ^ k = ((2 ^ k : Nat) : Int) := by norm_cast
          have := Nat.two_pow_pos k
          have h := HZ.out
          unfold Hid
          omega
        have e2 : wrap64 (z * 2) = z * 2 := by have h1 := e1.out; have h2 := HB.out; have h3 := HP.out; unfold wrap64; omega
        have hi1 : (k : Int) < 62 := by omega
        have hz' : z < s := by omega
        have HN : Hid (k + 1 = 0 ∨ (2 : Int) ^ (k + 1 - 1) < s) := .inr (by rw [show k + 1 - 1 = k from by omega, ← HZ.out]; exact hz')
        clear HZ HB HP HK
        go_wp2
        go_roundw
        case rel => exact ⟨k + 1, z * 2, by omega, by rw [e2], by go_num, e1, HN, trivial⟩
        case measure => simp [intOf]; omega
    · have hk2 : k = 62 := by omega
      have e : d = 62 := by
        rw [← HD2.out]
        refine deepZ_far H1.out ?_
        rcases HK.out with h | h
        · omega
        · rw [hk2] at h; exact h
      subst e
      have hge : ¬ (k : Int) < 62 := by omega
      clear hk2
      go_wp2
      go_ret
      exact ⟨rfl, rfl⟩

end Go.Proofs.Ythgkpecmpfgnjaa
