/-
  Which acts may be, by the document: proved.
-/
import Derived.Test.YtaipnnbpmpdnfaaSmall
namespace Go.Proofs.Ytaipnnbpmpdnfaa
open Go.RowKit

set_option maxHeartbeats 400000 in
theorem refRight_any (k a : Int) (w : World) :
    Calls Try.prog 13 #[.agg #[.int .i64 k, .int .i64 a]] w fun e w' => e = .returned (.bool (rightB k a)) ∧ Below w.heap.size w w' := by
  have e1 : ∀ o, Below w.heap.size w (w.alloc o) := fun o => (Below.refl _ _).alloc (Nat.le_refl _) _
  have HH : Hid (∀ W : World, Calls Try.prog 21 #[.int .i64 k] W fun e w' => e = .returned (.bool (hasB k)) ∧ w' = W) := fun W => refHas_any k W
  by_cases h1 : k < 1
  · have er : rightB k a = false := by
      unfold rightB
      have : decide (1 ≤ k) = false := by simp; omega
      rw [this]
      rfl
    rw [er]
    clear HH er
    go_enter Try.func13, Try.ntmps13
    go_wp2
    go_ret
    exact ⟨rfl, e1 _⟩
  · by_cases h8 : 8 < k
    · have er : rightB k a = false := by
        unfold rightB
        have : decide (k ≤ 8) = false := by simp; omega
        rw [this]
        simp
      rw [er]
      clear HH er
      go_enter Try.func13, Try.ntmps13
      go_wp2
      go_ret
      exact ⟨rfl, e1 _⟩
    · have er : Hid (rightB k a = (a == 0 || hasB k && decide (0 ≤ a) && decide (a ≤ 65535))) := by
        unfold Hid rightB
        have d1 : decide (1 ≤ k) = true := by simp; omega
        have d2 : decide (k ≤ 8) = true := by simp; omega
        rw [d1, d2]
        rfl
      rw [er.out]
      clear er
      by_cases h0 : a = 0
      · subst h0
        clear HH
        go_enter Try.func13, Try.ntmps13
        go_wp2
        go_ret
        exact ⟨rfl, e1 _⟩
      · have hz : (a == 0) = false := by rw [beq_eq_false_iff_ne]; exact h0
        rw [hz, Bool.false_or]
        have hg : hasB k = true ∨ hasB k = false := by cases hasB k <;> simp
        rcases hg with hg | hg
        · rw [hg] at HH ⊢
          clear hg
          go_enter Try.func13, Try.ntmps13
          go_wp2_with (go_at_call 21; refine (HH.out _).mono ?_; rintro e w2 ⟨rfl, rfl⟩)
          all_goals (go_ret; exact ⟨ret_bool (by rw [Bool.eq_iff_iff]; simp <;> omega), e1 _⟩)
        · rw [hg] at HH ⊢
          clear hg
          rw [Bool.false_and, Bool.false_and]
          go_enter Try.func13, Try.ntmps13
          go_wp2_with (go_at_call 21; refine (HH.out _).mono ?_; rintro e w2 ⟨rfl, rfl⟩)
          all_goals (go_ret; exact ⟨ret_bool (by simp), e1 _⟩)

end Go.Proofs.Ytaipnnbpmpdnfaa
