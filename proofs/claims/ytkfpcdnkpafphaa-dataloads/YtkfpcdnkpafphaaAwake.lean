/-
  The small question that each law asks first comes out true, and turns nothing that was there.
-/
import Derived.Test.YtkfpcdnkpafphaaBytes
namespace Go.Proofs.Ytkfpcdnkpafphaa
open Go.RowKit

/-- the call that the question is about. -/
def dd : Da := ⟨258, 0, 0, [0, 0, 0, 0, 0, 0]⟩

theorem dd_ok : dd.ok := by
  refine ⟨⟨by decide, by decide⟩, ⟨by decide, by decide⟩, ⟨by decide, by decide⟩, rfl, ?_⟩
  intro z hz
  simp only [dd, List.mem_cons, List.not_mem_nil, or_false, or_self] at hz
  subst hz
  exact ⟨by decide, by decide⟩

set_option maxHeartbeats 400000 in
theorem awake_any (w : World) :
    Calls Try.prog 9 #[] w fun e w' => e = .returned (.bool true) ∧ Below w.heap.size w w' := by
  have HE : Hid (∀ W : World, Calls Try.prog 12 #[.agg #[.int .u32 258, .int .u32 0, .int .u64 0, .int .u64 0, .int .u64 0, .int .u64 0, .int .u64 0, .int .u64 0, .int .u64 0]] W fun e w' => Below W.heap.size W w' ∧ ∃ v', e = .returned v' ∧ w'.ownsRow W.heap.size 5 1 v' 64 (cellsB dd.enc)) := fun W => bytes_any dd W dd_ok
  have HQ : Hid (Byt dd.enc) := enc_byt dd dd_ok
  have H0 : Hid (dd.enc.getD 0 0 = 2) := rfl
  have H1 : Hid (dd.enc.getD 1 0 = 1) := rfl
  generalize dd.enc = en at *
  go_enter Try.func9, Try.ntmps9
  go_wp2_with fail
  refine (HE.out w).mono ?_
  rintro e w2 ⟨hb2, v, rfl, ho⟩
  obtain ⟨a, cap, rfl, hbs, -, -⟩ := owns_bs ho HQ.out
  obtain ⟨b, off, rfl, hc⟩ := hbs.2.2 (by decide)
  have c0 := hc 0 (by decide)
  have c1 := hc 1 (by decide)
  rw [H0.out, Nat.add_zero] at c0
  rw [H1.out] at c1
  clear hbs ho hc
  go_wp2
  go_ret
  exact ⟨rfl, hb2⟩

end Go.Proofs.Ytkfpcdnkpafphaa
