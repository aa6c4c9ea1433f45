/-
  The law CheckTells, walked: true for every program.
-/
import Derived.Test.YtfdnhdijogphiaaRefCheck
import Derived.Test.YtfdnhdijogphiaaAwake
namespace Go.Proofs.Ytfdnhdijogphiaa
open Go.RowKit

set_option maxHeartbeats 400000 in
theorem checkTells_walk (a : Option Addr) (len cap : Nat) (ins : List In) (w : World) (hlen : len ≤ maxLen) (h : Ins w a len ins) :
    Calls Try.prog 3 #[.slice a len cap] w fun e w' => e = .returned (.bool true) ∧ Below w.heap.size w w' := by
  have HA : Hid (∀ W : World, Calls Try.prog 9 #[] W fun e w' => e = .returned (.bool true) ∧ Below W.heap.size W w') := fun W => awake_any W
  have HC : Hid (∀ W : World, Ins W a len ins → Calls Try.prog 10 #[.slice a len cap] W fun e w' => Told W w' e (chk ins)) := fun W h => check_any a len cap ins W hlen h
  have HR : Hid (∀ W : World, Ins W a len ins → Calls Try.prog 11 #[.slice a len cap] W fun e w' => Told W w' e (chk ins)) := fun W h => refCheck_any a len cap ins W hlen h
  generalize chk ins = p at *
  obtain ⟨p1, p2⟩ := p
  clear hlen
  go_enter Try.func3, Try.ntmps3
  go_wp2_with (first | (go_at_call 9; refine (HA.out _).mono ?_; rintro e w1 ⟨rfl, b1⟩; have h1 := h.below b1) | (go_at_call 10; refine (HC.out _ h1).mono ?_; rintro e w2 ⟨rfl, b2⟩; have h2 := h1.below b2) | (go_at_call 11; refine (HR.out _ h2).mono ?_; rintro e w3 ⟨rfl, b3⟩))
  go_ret
  have c1 := b1.trans (b2.mono b1.size)
  exact ⟨by simp, c1.trans (b3.mono c1.size)⟩

end Go.Proofs.Ytfdnhdijogphiaa
