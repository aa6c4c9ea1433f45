/-
  What may be shown, by the document: acts, words, conditions, rules.
-/
import Derived.Test.YtimclfdecdappaaCRef
namespace Go.Proofs.Ytimclfdecdappaa
open Go.RowKit

theorem rhas_any (k : Int) (w : World) : Calls Try.prog 57 #[.int .i64 k] w fun e w' => e = .returned (.bool (hasN k)) ∧ w' = w := by
  unfold hasN
  rcases Bool.eq_false_or_eq_true (k == 3) with h1 | h1
  · go_enter Try.func57, Try.ntmps57
    go_wp2
    go_ret
    exact ⟨ret_bool (by rw [h1]; rfl), rfl⟩
  · rcases Bool.eq_false_or_eq_true (k == 4) with h2 | h2
    · go_enter Try.func57, Try.ntmps57
      go_wp2
      go_ret
      exact ⟨ret_bool (by rw [h1, h2]; rfl), rfl⟩
    · go_enter Try.func57, Try.ntmps57
      go_wp2
      go_ret
      exact ⟨ret_bool (by rw [h1, h2]; rfl), rfl⟩

theorem actB_zero {k : Int} (h1 : ¬ k < 1) (h2 : ¬ 8 < k) : actB k 0 = true := by
  rw [actB_mk (by omega) (by omega)]
  split <;> decide
theorem actB_has {k a : Int} (h1 : ¬ k < 1) (h2 : ¬ 8 < k) (h3 : hasN k = true) : actB k a = (decide (0 ≤ a) && decide (a ≤ 65535)) := by
  rw [actB_mk (by omega) (by omega), if_pos h3]
theorem actB_hasnt {k a : Int} (h1 : ¬ k < 1) (h2 : ¬ 8 < k) (h3 : hasN k = false) (h4 : ¬ a = 0) : actB k a = false := by
  rw [actB_mk (by omega) (by omega), if_neg (by rw [h3]; decide)]
  simpa using h4

theorem ractR_any (k a : Int) (w : World) : Calls Try.prog 43 #[.agg #[.int .i64 k, .int .i64 a]] w fun e w' => e = .returned (.bool (actB k a)) ∧ Below w.heap.size w w' := by
  have be : Below w.heap.size w (w.alloc (Obj.cells #[.int .i64 k, .int .i64 a] 30)) := (Below.refl _ _).alloc (Nat.le_refl _) _
  by_cases h1 : k < 1
  · have HE : Hid (actB k a = false) := actB_no (.inl h1)
    have hd : decide (k < 1) = true := decide_eq_true h1
    go_enter Try.func43, Try.ntmps43
    go_wp2
    go_ret
    exact ⟨ret_bool HE.out.symm, be⟩
  · have hd : decide (k < 1) = false := decide_eq_false h1
    by_cases h2 : 8 < k
    · have HE : Hid (actB k a = false) := actB_no (.inr h2)
      have hd2 : decide (8 < k) = true := decide_eq_true h2
      go_enter Try.func43, Try.ntmps43
      go_wp2
      go_ret
      exact ⟨ret_bool HE.out.symm, be⟩
    · have hd2 : decide (8 < k) = false := decide_eq_false h2
      rcases Bool.eq_false_or_eq_true (a == 0) with h0 | h0
      · have ha : a = 0 := by simpa using h0
        have HE : Hid (actB k a = true) := by subst ha; exact actB_zero h1 h2
        clear ha
        go_enter Try.func43, Try.ntmps43
        go_wp2_with (go_at_call 57; refine (rhas_any _ _).mono ?_; rintro e w1 ⟨rfl, rfl⟩)
        go_ret
        exact ⟨ret_bool HE.out.symm, be⟩
      · have ha : ¬ a = 0 := by simpa using h0
        rcases Bool.eq_false_or_eq_true (hasN k) with h3 | h3
        · have HE : Hid (actB k a = (decide (0 ≤ a) && decide (a ≤ 65535))) := actB_has h1 h2 h3
          by_cases h4 : 0 < a
          · have h5 : decide (0 < a) = true := decide_eq_true h4
            go_enter Try.func43, Try.ntmps43
            go_wp2_with (go_at_call 57; refine (rhas_any _ _).mono ?_; rintro e w1 ⟨rfl, rfl⟩; rw [h3])
            go_ret
            refine ⟨ret_bool ?_, be⟩
            rw [HE.out, Bool.eq_iff_iff]
            simp
            omega
          · have h5 : decide (0 < a) = false := decide_eq_false h4
            go_enter Try.func43, Try.ntmps43
            go_wp2_with (go_at_call 57; refine (rhas_any _ _).mono ?_; rintro e w1 ⟨rfl, rfl⟩; rw [h3])
            go_ret
            refine ⟨ret_bool ?_, be⟩
            rw [HE.out, Bool.eq_iff_iff]
            simp
            omega
        · have HE : Hid (actB k a = false) := actB_hasnt h1 h2 h3 ha
          go_enter Try.func43, Try.ntmps43
          go_wp2_with (go_at_call 57; refine (rhas_any _ _).mono ?_; rintro e w1 ⟨rfl, rfl⟩; rw [h3])
          go_ret
          exact ⟨ret_bool HE.out.symm, be⟩

theorem rsm_any (n : Nat) (w : World) : Calls Try.prog 58 #[.int .u8 n] w fun e w' => e = .returned (.bool (loN n)) ∧ w' = w := by
  rcases Bool.eq_false_or_eq_true (decide (97 ≤ (n : Int))) with h1 | h1
  · go_enter Try.func58, Try.ntmps58
    go_wp2
    go_ret
    exact ⟨ret_bool (by unfold loN; rw [show decide (97 ≤ n) = true from by simp at h1 ⊢; omega]; simp; omega), rfl⟩
  · go_enter Try.func58, Try.ntmps58
    go_wp2
    go_ret
    exact ⟨ret_bool (by unfold loN; rw [show decide (97 ≤ n) = false from by simp at h1 ⊢; omega]; rfl), rfl⟩
theorem rdg_any (n : Nat) (w : World) : Calls Try.prog 90 #[.int .u8 n] w fun e w' => e = .returned (.bool (dgN n)) ∧ w' = w := by
  rcases Bool.eq_false_or_eq_true (decide (48 ≤ (n : Int))) with h1 | h1
  · go_enter Try.func90, Try.ntmps90
    go_wp2
    go_ret
    exact ⟨ret_bool (by unfold dgN; rw [show decide (48 ≤ n) = true from by simp at h1 ⊢; omega]; simp; omega), rfl⟩
  · go_enter Try.func90, Try.ntmps90
    go_wp2
    go_ret
    exact ⟨ret_bool (by unfold dgN; rw [show decide (48 ≤ n) = false from by simp at h1 ⊢; omega]; rfl), rfl⟩
theorem rgo_any (n : Nat) (w : World) : Calls Try.prog 81 #[.int .u8 n] w fun e w' => e = .returned (.bool (wN n)) ∧ w' = w := by
  rcases Bool.eq_false_or_eq_true (loN n) with h1 | h1
  · go_enter Try.func81, Try.ntmps81
    go_wp2_with (first | (go_at_call 58; refine (rsm_any n _).mono ?_; rintro e w' ⟨rfl, rfl⟩; rw [h1]) | (go_at_call 90; refine (rdg_any n _).mono ?_; rintro e w' ⟨rfl, rfl⟩))
    go_ret
    exact ⟨ret_bool (by unfold wN; rw [h1]; rfl), rfl⟩
  · rcases Bool.eq_false_or_eq_true (dgN n) with h2 | h2
    · go_enter Try.func81, Try.ntmps81
      go_wp2_with (first | (go_at_call 58; refine (rsm_any n _).mono ?_; rintro e w' ⟨rfl, rfl⟩; rw [h1]) | (go_at_call 90; refine (rdg_any n _).mono ?_; rintro e w' ⟨rfl, rfl⟩; rw [h2]))
      go_ret
      exact ⟨ret_bool (by unfold wN; rw [h1, h2]; rfl), rfl⟩
    · go_enter Try.func81, Try.ntmps81
      go_wp2_with (first | (go_at_call 58; refine (rsm_any n _).mono ?_; rintro e w' ⟨rfl, rfl⟩; rw [h1]) | (go_at_call 90; refine (rdg_any n _).mono ?_; rintro e w' ⟨rfl, rfl⟩; rw [h2]))
      go_ret
      refine ⟨ret_bool ?_, rfl⟩
      unfold wN
      rw [h1, h2]
      rcases Bool.eq_false_or_eq_true (n == 95) with h3 | h3 <;> rw [h3] <;> simp at h3 ⊢ <;> omega

set_option maxHeartbeats 1000000 in
theorem rrun_any (s : ByteArray) (w : World) (hs : s.size ≤ 1000000) :
    Calls Try.prog 59 #[.string s, .int .i64 0] w fun e w' => e = .returned (.int .i64 ((lst s).takeWhile ofW).length) ∧ w' = w := by
  go_enter Try.func59, Try.ntmps59
  go_wp2
  go_loop [5] (fun vi => ∃ i : Nat, vi = .int .i64 i ∧ Run ofW (lst s) i) (fun vi => s.size - (intOf vi).toNat)
  case atStart => exact ⟨0, rfl, Nat.zero_le _, fun i c h => by omega⟩
  case round =>
    obtain ⟨i, rfl, hr⟩ := hrel
    have hri : i ≤ s.size := by have := hr.1; rw [lst_length] at this; exact this
    have HR : Hid (Run ofW (lst s) i) := hr
    clear hr
    by_cases hlt : i < s.size
    · have hi1 : decide ((i : Int) < (s.size : Int)) = true := decide_eq_true (by omega)
      have hi2 : (i : Int) < (s.size : Int) := by omega
      have hG : Hid (∀ W, Calls Try.prog 81 #[.int .u8 (s[i]'hlt).toNat] W fun e w' => e = .returned (.bool (wN (s[i]'hlt).toNat)) ∧ w' = W) := rgo_any _
      have hix : ∀ W : World, (Instr.index 9 (.string s) (.int .i64 i)).run Try.prog W = .ok (.int .u8 (s[i]'hlt).toNat) W := fun W => by
        have hc : (0 : Int) ≤ (i : Int) ∧ (i : Int) < (s.size : Int) := by omega
        simp [Instr.index, asIntOf, hlt, run_underlying Try.underlying9]
      have HS : Hid (wN (s[i]'hlt).toNat = true → Run ofW (lst s) (i + 1)) := fun hq => by
        refine ⟨by rw [lst_length]; omega, fun j c hj hc => ?_⟩
        rcases Nat.lt_or_ge j i with h | h
        · exact HR.out.2 j c h hc
        · obtain rfl : j = i := by omega
          rw [lst_at s j hlt] at hc
          cases hc
          exact hq
      have HF : Hid (wN (s[i]'hlt).toNat = false → ((lst s).takeWhile ofW).length = i) := fun hq => HR.out.stop hlt hq
      generalize (s[i]'hlt).toNat = c at *
      generalize wN c = q at *
      cases q with
      | true =>
        go_wp2_with (go_at_call 81; refine (hG.out _).mono ?_; rintro e w' ⟨rfl, rfl⟩)
        go_round
        case rel => exact ⟨i + 1, by go_num, HS.out trivial⟩
        case measure => simp [intOf]; omega
      | false =>
        go_wp2_with (go_at_call 81; refine (hG.out _).mono ?_; rintro e w' ⟨rfl, rfl⟩)
        go_ret
        exact ⟨ret_int (by rw [HF.out trivial]), rfl⟩
    · have hge : decide ((i : Int) < (s.size : Int)) = false := decide_eq_false (by omega)
      have hge2 : ¬ (i : Int) < (s.size : Int) := by omega
      have HF : Hid (((lst s).takeWhile ofW).length = s.size) := HR.out.last hlt
      obtain rfl : i = s.size := by omega
      go_wp2
      go_ret
      exact ⟨ret_int (by rw [HF.out]), rfl⟩

set_option maxHeartbeats 800000 in
theorem ris_any (s : ByteArray) (w : World) (hs : s.size ≤ 1000000) :
    Calls Try.prog 44 #[.string s] w fun e w' => e = .returned (.bool (isWd (lst s))) ∧ w' = w := by
  by_cases h0 : 0 < s.size
  · have hd : decide (0 < (s.size : Int)) = true := decide_eq_true (by omega)
    have HI : Hid (isWd (lst s) = (loN (s[0]'h0).toNat && decide (((lst s).takeWhile ofW).length = s.size))) := isWd_at s h0
    have HQ : Hid (∀ W, Calls Try.prog 59 #[.string s, .int .i64 0] W fun e w' => e = .returned (.int .i64 ((lst s).takeWhile ofW).length) ∧ w' = W) := fun W => rrun_any s W hs
    have hix : ∀ W : World, (Instr.index 9 (.string s) (.int .i64 0)).run Try.prog W = .ok (.int .u8 (s[0]'h0).toNat) W := fun W => by
      simp [Instr.index, asIntOf, h0, run_underlying Try.underlying9]
    have HG : Hid (∀ W, Calls Try.prog 58 #[.int .u8 (s[0]'h0).toNat] W fun e w' => e = .returned (.bool (loN (s[0]'h0).toNat)) ∧ w' = W) := rsm_any _
    generalize ((lst s).takeWhile ofW).length = L at *
    generalize (s[0]'h0).toNat = c at *
    generalize loN c = q at *
    cases q with
    | true =>
      go_enter Try.func44, Try.ntmps44
      go_wp2_with (first | (go_at_call 58; refine (HG.out _).mono ?_; rintro e w1 ⟨rfl, rfl⟩) | (go_at_call 59; refine (HQ.out _).mono ?_; rintro e w1 ⟨rfl, rfl⟩))
      go_ret
      refine ⟨ret_bool ?_, rfl⟩
      rw [HI.out]
      exact ibd' L s.size
    | false =>
      go_enter Try.func44, Try.ntmps44
      go_wp2_with (first | (go_at_call 58; refine (HG.out _).mono ?_; rintro e w1 ⟨rfl, rfl⟩) | (go_at_call 59; refine (HQ.out _).mono ?_; rintro e w1 ⟨rfl, rfl⟩))
      go_ret
      exact ⟨ret_bool HI.out.symm, rfl⟩
  · have e : s = ⟨#[]⟩ := ByteArray.ext (Array.eq_empty_of_size_eq_zero (by show s.data.size = 0; have : s.size = s.data.size := rfl; omega))
    subst e
    go_enter Try.func44, Try.ntmps44
    go_wp2
    go_ret
    exact ⟨rfl, rfl⟩

end Go.Proofs.Ytimclfdecdappaa
