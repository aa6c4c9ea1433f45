/-
  The law ActMost, walked: true for every list.
-/
import Derived.Test.YtaipnnbpmpdnfaaAwake
import Derived.Test.YtaipnnbpmpdnfaaMostAll
import Derived.Test.YtaipnnbpmpdnfaaRefMost
namespace Go.Proofs.Ytaipnnbpmpdnfaa
open Go.RowKit

set_option maxHeartbeats 400000 in
theorem actMost_walk (a : Option Addr) (len cap : Nat) (l : List Int) (w : World) (hl : ∀ z ∈ l, U32 z) (hlen : len ≤ maxLen) (hcap : len ≤ cap) (h : Ns .u32 w a len l) :
    Calls Try.prog 5 #[.slice a len cap] w fun e w' => e = .returned (.bool true) ∧ Below w.heap.size w w' := by
  have HW : Hid (∀ W : World, Calls Try.prog 9 #[] W fun e w' => e = .returned (.bool true) ∧ Below W.heap.size W w') := awake_any
  have H1 : Hid (∀ W : World, Ns .u32 W a len l → Calls Try.prog 16 #[.slice a len cap] W fun e w' => e = .returned (.int .u32 (most l)) ∧ Below W.heap.size W w') := fun W h => most_any a len cap l W hl hlen hcap h
  have H2 : Hid (∀ W : World, Ns .u32 W a len l → Calls Try.prog 17 #[.slice a len cap] W fun e w' => e = .returned (.int .u32 (most l)) ∧ Below W.heap.size W w') := fun W h => refMost_any a len cap l W hl hlen h
  have HN : Hid (Ns .u32 w a len l) := h
  clear h hl hcap hlen
  generalize most l = m at *
  by_cases h2 : 200 < len
  · have hd : decide ((200 : Int) < (len : Int)) = true := by simp; omega
    clear h2
    go_enter Try.func5, Try.ntmps5
    go_wp2_with (go_at_call 9; refine (HW.out _).mono ?_; rintro e w1 ⟨rfl, b1⟩)
    go_ret
    exact ⟨rfl, b1⟩
  · have hd : decide ((200 : Int) < (len : Int)) = false := by simp; omega
    clear h2
    go_enter Try.func5, Try.ntmps5
    go_wp2_with (first | (go_at_call 9; refine (HW.out _).mono ?_; rintro e w1 ⟨rfl, b1⟩; have n1 : Hid (Ns .u32 w1 a len l) := HN.out.below b1) | (go_at_call 16; refine (H1.out _ n1.out).mono ?_; rintro e w2 ⟨rfl, b2⟩; have n2 : Hid (Ns .u32 w2 a len l) := n1.out.below b2) | (go_at_call 17; refine (H2.out _ n2.out).mono ?_; rintro e w3 ⟨rfl, b3⟩))
    go_ret
    have c1 := b1.trans (b2.mono b1.size)
    exact ⟨rfl, c1.trans (b3.mono c1.size)⟩

end Go.Proofs.Ytaipnnbpmpdnfaa
