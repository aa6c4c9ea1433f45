/-
  Which kinds have an Arg, the numbers of the kinds, and which acts may be, by package act and by the document: proved.
-/
import Derived.Test.YtcckipimfgmmdaaGreatDoorAMem
namespace Go.Proofs.YtcckipimfgmmdaaGreatDoor.A
open Go.RowKit

theorem has_any (k : Int) (w : World) :
    Calls Tryz.prog 56 #[.int .i64 k] w fun e w' => e = .returned (.bool (hasB k)) ∧ w' = w := by
  go_enter Tryz.func56, Tryz.ntmps56
  go_wp2
  all_goals (go_ret; exact ⟨ret_bool (by simp [hasB, *]), rfl⟩)

theorem numbers_any (w : World) :
    Calls Tryz.prog 28 #[] w fun e w' => e = .returned (.agg (cellsU tblL).toArray) ∧ Below w.heap.size w w' := by
  have e1 : ∀ o, Below w.heap.size w (w.alloc o) := fun o => (Below.refl _ _).alloc (Nat.le_refl _) _
  go_enter Tryz.func28, Tryz.ntmps28
  go_wp2
  refine bodyPost_ret (v := .agg (cellsU tblL).toArray) (by simp [results, Tryz.results28, go_sem, cellsU, tblL]) rfl ⟨rfl, ?_⟩
  exact e1 _

theorem tbl_at (k : Nat) (h : k < 9) : (cellsU tblL)[k]? = some (.int .u32 (tblL.getD k 0)) := by
  match k, h with
  | 0, _ | 1, _ | 2, _ | 3, _ | 4, _ | 5, _ | 6, _ | 7, _ | 8, _ => rfl

/-- the document's numbers, from 1 on. -/
def refL : List Int := [2147483648, 0, 196608, 327680, 2143289344, 2146435072, 2147221504, 2147418112]

theorem refL_at (i : Nat) (h : i < 8) : refL.getD i 0 = tblL.getD (i + 1) 0 := by
  match i, h with
  | 0, _ | 1, _ | 2, _ | 3, _ | 4, _ | 5, _ | 6, _ | 7, _ => rfl

theorem ns_ref (w : World) : Ns .u32 (w.alloc (.cells #[.int .u32 2147483648, .int .u32 0, .int .u32 196608, .int .u32 327680, .int .u32 2143289344, .int .u32 2146435072, .int .u32 2147221504, .int .u32 2147418112] 23)) (some ⟨w.heap.size, 0, none⟩) 8 refL := by
  refine ⟨rfl, fun _ => ⟨_, _, rfl, fun i hi => ?_⟩⟩
  match i, hi with
  | 0, _ | 1, _ | 2, _ | 3, _ | 4, _ | 5, _ | 6, _ | 7, _ => simp [refL]

set_option maxHeartbeats 400000 in
theorem right_any (k a : Int) (w : World) :
    Calls Tryz.prog 27 #[.agg #[.int .i64 k, .int .i64 a]] w fun e w' => e = .returned (.bool (rightB k a)) ∧ Below w.heap.size w w' := by
  have e1 : ∀ o, Below w.heap.size w (w.alloc o) := fun o => (Below.refl _ _).alloc (Nat.le_refl _) _
  have HH : Hid (∀ W : World, Calls Tryz.prog 56 #[.int .i64 k] W fun e w' => e = .returned (.bool (hasB k)) ∧ w' = W) := fun W => has_any k W
  by_cases h1 : k < 1
  · have er : rightB k a = false := by
      unfold rightB
      have : decide (1 ≤ k) = false := by simp; omega
      rw [this]
      rfl
    rw [er]
    clear HH er
    go_enter Tryz.func27, Tryz.ntmps27
    go_wp2
    go_ret
    exact ⟨rfl, e1 _⟩
  · by_cases h8 : 8 < k
    · have er : rightB k a = false := by
        unfold rightB
        have : decide (k ≤ 8) = false := by simp; omega
        rw [this]
        simp
      rw [er]
      clear HH er
      go_enter Tryz.func27, Tryz.ntmps27
      go_wp2
      go_ret
      exact ⟨rfl, e1 _⟩
    · have er : Hid (rightB k a = (a == 0 || hasB k && decide (0 ≤ a) && decide (a ≤ 65535))) := by
        unfold Hid rightB
        have d1 : decide (1 ≤ k) = true := by simp; omega
        have d2 : decide (k ≤ 8) = true := by simp; omega
        rw [d1, d2]
        rfl
      rw [er.out]
      have hg : hasB k = true ∨ hasB k = false := by cases hasB k <;> simp
      rcases hg with hg | hg
      · rw [hg] at HH ⊢
        clear hg
        have HZ : Hid ((a == 0 || true && decide (0 ≤ a) && decide (a ≤ 65535)) = (decide (0 ≤ a) && decide (a ≤ 65535))) := by
          unfold Hid
          by_cases h0 : a = 0
          · subst h0; rfl
          · simp [h0]
        rw [HZ.out]
        go_enter Tryz.func27, Tryz.ntmps27
        go_wp2_with (go_at_call 56; refine (HH.out _).mono ?_; rintro e w2 ⟨rfl, rfl⟩)
        all_goals (go_ret; exact ⟨ret_bool (by simp <;> omega), e1 _⟩)
      · rw [hg] at HH ⊢
        clear hg
        rw [Bool.false_and, Bool.false_and, Bool.or_false]
        go_enter Tryz.func27, Tryz.ntmps27
        go_wp2_with (go_at_call 56; refine (HH.out _).mono ?_; rintro e w2 ⟨rfl, rfl⟩)
        all_goals (go_ret; exact ⟨ret_bool (by simp), e1 _⟩)

end Go.Proofs.YtcckipimfgmmdaaGreatDoor.A
