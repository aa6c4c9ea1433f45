/-
  The small question that each law asks first comes out true, and turns nothing that was there.
-/
import Derived.Test.YtbieemiogbkaiaaLaid
namespace Go.Proofs.Ytbieemiogbkaiaa
open Go.RowKit

/-- the items of the small question. -/
def twoIts : List It := [⟨258, 2, false, ⟨#[]⟩⟩, ⟨0, 0, true, ⟨#[97, 98]⟩⟩]

theorem two_laid : layAll twoIts = ([1, 2, 0, 2, 97, 98], 0) := by decide +kernel

theorem two_at (w : World) (o : Obj) (ho : o = .cells #[.int .u64 258, .int .i64 2, .bool false, .string ⟨#[]⟩, .int .u64 0, .int .i64 0, .bool true, .string ⟨#[97, 98]⟩] 32) : Items (w.alloc o) (some ⟨w.heap.size, 0, none⟩) 2 twoIts := by
  subst ho
  refine ⟨rfl, ?_, fun _ => ⟨_, _, rfl, fun i x hx => ?_⟩⟩
  · intro x hx
    simp only [twoIts, List.mem_cons, List.not_mem_nil, or_false] at hx
    rcases hx with rfl | rfl <;> exact ⟨by decide, by decide⟩
  · match i, hx with
    | 0, hx => cases hx; exact ⟨by simp, by simp, by simp, by simp⟩
    | 1, hx => cases hx; exact ⟨by simp, by simp, by simp, by simp⟩

set_option maxHeartbeats 400000 in
theorem awake_any (w : World) :
    Calls Try.prog 9 #[] w fun e w' => e = .returned (.bool true) ∧ Below w.heap.size w w' := by
  have e1 : ∀ o, Below w.heap.size w (w.alloc o) := fun o => (Below.refl _ _).alloc (Nat.le_refl _) _
  go_enter Try.func9, Try.ntmps9
  go_wp2_with fail
  refine (laid_any _ 2 2 twoIts _ (by decide) (two_at w _ rfl)).mono ?_
  rintro e w2 ⟨hb2, v, rfl, ho, hbd⟩
  rw [two_laid] at ho hbd
  rw [two_laid]
  obtain ⟨a, cap, rfl, hbs, _⟩ := owns_bs ho hbd
  have hb6 : Bs w2 a 6 [1, 2, 0, 2, 97, 98] := hbs
  have hcv := run_text hb6 cap
  clear hbs hb6 ho hbd
  have hq : strOfNums [1, 2, 0, 2, 97, 98] = ⟨#[1, 2, 0, 2, 97, 98]⟩ := rfl
  go_wp2
  go_ret
  exact ⟨rfl, (e1 _).trans (hb2.mono (e1 _).size)⟩

end Go.Proofs.Ytbieemiogbkaiaa
