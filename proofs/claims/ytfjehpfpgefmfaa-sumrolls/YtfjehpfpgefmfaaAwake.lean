/-
  The small question that each law asks first comes out true, and turns nothing that was there.
-/
import Derived.Test.YtfjehpfpgefmfaaGo
import Derived.Lib.SlBytesConst
namespace Go.Proofs.Ytfjehpfpgefmfaa
open Go.RowKit

/-- the bytes of the small question. -/
def wiki : List Int := [87, 105, 107, 105, 112, 101, 100, 105, 97]

theorem wiki_sum : goS 1 wiki = 300286872 := by decide +kernel

theorem wiki_at (w : World) : Bs (w.alloc (Obj.cells #[.int .u8 87, .int .u8 105, .int .u8 107, .int .u8 105, .int .u8 112, .int .u8 101, .int .u8 100, .int .u8 105, .int .u8 97] 5 (9, 10))) (some ⟨w.heap.size, 0, none⟩) 9 wiki := by
  refine ⟨rfl, by decide +kernel, fun _ => ⟨_, _, rfl, fun i hi => ?_⟩⟩
  rw [Nat.zero_add, World.cell?_alloc_mark]
  match i, hi with
  | 0, _ => rfl
  | 1, _ => rfl
  | 2, _ => rfl
  | 3, _ => rfl
  | 4, _ => rfl
  | 5, _ => rfl
  | 6, _ => rfl
  | 7, _ => rfl
  | 8, _ => rfl

set_option maxHeartbeats 400000 in
theorem awake_any (w : World) :
    Calls Try.prog 9 #[] w fun e w' => e = .returned (.bool true) ∧ Below w.heap.size w w' := by
  have hcv := Lib.run_convert_bytes_const (P := Try.prog) w 22 5 #[.int .u8 87, .int .u8 105, .int .u8 107, .int .u8 105, .int .u8 112, .int .u8 101, .int .u8 100, .int .u8 105, .int .u8 97] 9 9 Try.underlying22 Try.underlying5
  have hz := wiki_sum
  go_enter Try.func9, Try.ntmps9
  go_wp2_with (go_at_call 10; refine (of_any _ 9 9 wiki _ (by decide) (wiki_at w)).mono ?_; rintro e w' ⟨rfl, rfl⟩)
  go_ret
  exact ⟨rfl, (Below.refl _ _).alloc (Nat.le_refl _) _⟩

end Go.Proofs.Ytfjehpfpgefmfaa
