/-
  The program's names without the last one.
-/
import Derived.Test.YtilemgpopjlchaaDoorTNm
namespace Go.Proofs.YtilemgpopjlchaaDoor
open Go.RowKit Go.Shelf

set_option maxHeartbeats 2000000 in
theorem twol_none (W : World) : Calls Tryd.prog 51 #[.slice none 0 0] W fun e w' => e = .returned (.slice none 0 0) ∧ w' = W := by
  go_enter Tryd.func51, Tryd.ntmps51
  go_wp2
  go_ret
  exact ⟨rfl, rfl⟩
set_option maxHeartbeats 2000000 in
theorem twol_empty (g c : Nat) (W : World) : Calls Tryd.prog 51 #[.slice (some ⟨g, 0, none⟩) 0 c] W fun e w' => e = .returned (.slice (some ⟨g, 0, none⟩) 0 c) ∧ w' = W := by
  have hc : (0 : Int) ≤ (c : Int) := by omega
  go_enter Tryd.func51, Tryd.ntmps51
  go_wp2
  go_ret
  exact ⟨rfl, rfl⟩
set_option maxHeartbeats 2000000 in
theorem twol_some (g m c : Nat) (W : World) (hm : m + 1 ≤ c) (h5 : m ≤ 5000) : Calls Tryd.prog 51 #[.slice (some ⟨g, 0, none⟩) (m + 1) c] W fun e w' => e = .returned (.slice (some ⟨g, 0, none⟩) m c) ∧ w' = W := by
  obtain ⟨k, hk⟩ : ∃ k, m + 1 = k := ⟨_, rfl⟩
  rw [hk]
  have hmm : (k : Int) - 1 = (m : Int) := by omega
  have hmw : IntKind.i64.wrap (m : Int) = (m : Int) := by rw [IntKind.wrap_i64]; omega
  have hmx : max (m : Int) 0 = (m : Int) := by omega
  have hmc' : (m : Int) ≤ (c : Int) := by omega
  have hmc : m ≤ c := by omega
  have hm0 : (0 : Int) ≤ (m : Int) := by omega
  have hm1 : ¬ (m : Int) < 0 := by omega
  clear hk hm
  go_enter Tryd.func51, Tryd.ntmps51
  go_wp2
  go_ret
  exact ⟨rfl, rfl⟩

end Go.Proofs.YtilemgpopjlchaaDoor
