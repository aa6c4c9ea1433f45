/-
  Three numbers.
-/
import Derived.Test.YthgkpecmpfgnjaaBuild
import Derived.Test.YthgkpecmpfgnjaaPath
namespace Go.Proofs.Ythgkpecmpfgnjaa
open Go.RowKit

def l3 : List Int := [5, 7, 9]
theorem l3_rises : rises l3 = true := by decide
theorem l3_err : bErr l3 = 0 := by unfold bErr; rw [if_neg (by decide), if_pos l3_rises]
theorem l3_mids : bMids l3 = [1, 2] := by
  unfold bMids
  rw [if_neg (by decide), if_pos l3_rises]
  show mids 0 3 = _
  rw [mids_two (by decide), mids_one (a := 0) (by decide), show mid 0 3 = 1 from rfl, mids_two (by decide), show mid 1 3 = 2 from rfl, mids_one (a := 1) (by decide), mids_one (a := 2) (by decide)]
  rfl
theorem l3_path : pMids l3 8 = [1, 2, 1] := by
  unfold pMids
  rw [if_neg (by decide), if_pos l3_err]
  show pathF l3 8 0 3 = _
  rw [pathF_up (by decide) (by decide), show mid 0 3 = 1 from rfl, pathF_down (by decide) (by decide), show mid 1 3 = 2 from rfl, pathF_one (by decide)]

theorem new_three (w : World) : Ns .u32 (w.alloc (.cells #[.int .u32 5, .int .u32 7, .int .u32 9] 30)) (some ⟨w.heap.size, 0, none⟩) 3 l3 := by
  refine ⟨rfl, fun _ => ⟨w.heap.size, 0, rfl, fun i hi => ?_⟩⟩
  match i, hi with
  | 0, _ => simp; rfl
  | 1, _ => simp; rfl
  | 2, _ => simp; rfl

set_option maxHeartbeats 1000000 in
theorem awake_any (w : World) : Calls Try.prog 9 #[] w fun e w' => e = .returned (.bool true) ∧ Below w.heap.size w w' := by
  have HB : Hid (∀ W : World, Calls Try.prog 10 #[.slice (some ⟨W.heap.size, 0, none⟩) 3 3] (W.alloc (.cells #[.int .u32 5, .int .u32 7, .int .u32 9] 30)) fun e w' => Bld (W.alloc (.cells #[.int .u32 5, .int .u32 7, .int .u32 9] 30)) w' e [1, 2] 0) := fun W => by
    have := build_any (some ⟨W.heap.size, 0, none⟩) 3 3 l3 _ (new_three W)
    rw [l3_err, l3_mids] at this
    exact this
  have HP : Hid (∀ W : World, Calls Try.prog 13 #[.slice (some ⟨W.heap.size, 0, none⟩) 3 3, .int .u32 8] (W.alloc (.cells #[.int .u32 5, .int .u32 7, .int .u32 9] 30)) fun e w' => Told (W.alloc (.cells #[.int .u32 5, .int .u32 7, .int .u32 9] 30)) w' e [1, 2, 1]) := fun W => by
    have := path_any (some ⟨W.heap.size, 0, none⟩) 3 3 l3 8 _ (new_three W)
    rw [l3_path] at this
    exact this
  go_enter Try.func9, Try.ntmps9
  go_wp2_with (first
    | (go_at_call 10; refine (HB.out _).mono ?_; rintro e w2 ⟨hb2, v2, rfl, ho2⟩; obtain ⟨a2, c2, rfl, n2⟩ := owns_ns ho2)
    | (go_at_call 13; refine (HP.out _).mono ?_; rintro e w4 ⟨hb4, v4, rfl, ho4⟩; obtain ⟨a4, c4, rfl, n4⟩ := owns_ns ho4; obtain ⟨b2, o2, rfl, q2⟩ := ((n2.below (below_new _ _)).below hb4).2 (by decide); obtain ⟨b4, o4, rfl, q4⟩ := n4.2 (by decide); have r2 := q2 1 (by decide); have r4 := q4 2 (by decide)))
  go_ret
  exact ⟨rfl, (below_new w _).trans ((hb2.mono (below_new w _).size).trans (((below_new w2 _).mono (Nat.le_trans (below_new w _).size hb2.size)).trans (hb4.mono (Nat.le_trans (Nat.le_trans (below_new w _).size hb2.size) (below_new w2 _).size))))⟩

end Go.Proofs.Ythgkpecmpfgnjaa
