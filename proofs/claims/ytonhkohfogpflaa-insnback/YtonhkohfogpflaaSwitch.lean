/-
  In a region that draws its order the condition on the world may be made stronger on the way.
-/
import Derived.Test.YtonhkohfogpflaaMem
import Derived.Deep.RegionHeld3
namespace Go.Proofs.Ytonhkohfogpflaa
open Go.RowKit

theorem wpAnyH_switch {P : Program} {md : Region.Mode} {ops : Array Oper} {Q : Exit → Act → World → Prop} {S S2 : World → Prop} (hS : ∀ w, S2 w → S w) :
    ∀ {fuel : Nat} {listed : Array Bool} {a : Act} {w : World}, wpAnyH P md ops Q S2 fuel listed a w → wpAnyH P md ops Q S fuel listed a w := by
  intro fuel
  induction fuel with
  | zero => intro listed a w h; exact h
  | succ n ih => intro listed a w h; exact ⟨h.1, fun i hi => wpOp_mono (fun a' w' h' => ⟨hS _ h'.1, ih h'.2⟩) (h.2 i hi)⟩

end Go.Proofs.Ytonhkohfogpflaa
