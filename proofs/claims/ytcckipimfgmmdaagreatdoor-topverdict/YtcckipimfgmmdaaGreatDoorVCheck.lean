/-
  What Check tells of any program, however long: proved.
-/
import Derived.Test.YtcckipimfgmmdaaGreatDoorVFirst
namespace Go.Proofs.YtcckipimfgmmdaaGreatDoor.V
open Go.RowKit

/-- what Check and the document's Check tell. -/
def Told (w w' : World) (e : Ending) (p : Int × Int) : Prop := e = .returned (.tuple #[.int .i64 p.1, .int .i64 p.2]) ∧ Below w.heap.size w w'

set_option maxHeartbeats 400000 in
theorem check_any (a : Option Addr) (len cap : Nat) (ins : List In) (w : World) (hlen : len ≤ maxLen) (h : Ins w a len ins) :
    Calls Tryz.prog 19 #[.slice a len cap] w fun e w' => Told w w' e (chk ins) := by
  have hll := h.1
  unfold maxLen at hlen
  by_cases h0 : len = 0
  · have hc : Hid (chk ins = (10, 0)) := by unfold Hid chk; rw [if_pos (by omega)]
    subst h0
    generalize chk ins = p at *
    clear h hll
    go_enter Tryz.func19, Tryz.ntmps19
    go_wp2
    go_ret2
    rw [hc.out]
    exact ⟨rfl, Below.refl _ _⟩
  · by_cases h4 : 4096 < len
    · have hc : Hid (chk ins = (4, 4096)) := by unfold Hid chk; rw [if_neg (by omega), if_pos (by omega)]
      generalize chk ins = p at *
      clear h hll
      have hz : ¬ (len : Int) = 0 := by omega
      have hd : decide ((4096 : Int) < (len : Int)) = true := by simp; omega
      go_enter Tryz.func19, Tryz.ntmps19
      go_wp2
      go_ret2
      rw [hc.out]
      exact ⟨rfl, Below.refl _ _⟩
    · have hc : Hid (chk ins = ff ins 0) := by unfold Hid chk; rw [if_neg (by omega), if_neg (by omega)]
      have HF : Hid (∀ W : World, W = w → Calls Tryz.prog 38 #[.slice a len cap] W fun e w' => e = .returned (.tuple #[.int .i64 (ff ins 0).1, .int .i64 (ff ins 0).2]) ∧ Below W.heap.size W w') := fun W e => e ▸ first_any a len cap ins w (by omega) h
      generalize chk ins = p at *
      generalize ff ins 0 = q at *
      clear h hll
      have hz : ¬ (len : Int) = 0 := by omega
      have hd : decide ((4096 : Int) < (len : Int)) = false := by simp; omega
      go_enter Tryz.func19, Tryz.ntmps19
      go_wp2_with (go_at_call 38; refine (HF.out _ rfl).mono ?_; rintro e w1 ⟨rfl, b1⟩)
      go_ret2
      rw [hc.out]
      exact ⟨rfl, b1⟩

end Go.Proofs.YtcckipimfgmmdaaGreatDoor.V
