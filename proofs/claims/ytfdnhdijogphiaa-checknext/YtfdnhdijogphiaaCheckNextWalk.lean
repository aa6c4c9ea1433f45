/-
  The law CheckNext, walked: true for every program and place.
-/
import Derived.Test.YtfdnhdijogphiaaRefNext
import Derived.Test.YtfdnhdijogphiaaSameInts
import Derived.Test.YtfdnhdijogphiaaAwake
namespace Go.Proofs.Ytfdnhdijogphiaa
open Go.RowKit

/-- both answers are one list. -/
theorem next_both (a : Option Addr) (len cap : Nat) (ins : List In) (i : Int) (hlen : len ≤ 4096) (hl : ins.length = len) : ∃ l : List Int, l.length ≤ 4096 ∧
    (∀ W : World, Ins W a len ins → Calls Try.prog 13 #[.slice a len cap, .int .i64 i] W fun e w' => NextTold W w' e l) ∧
    (∀ W : World, Ins W a len ins → Calls Try.prog 14 #[.slice a len cap, .int .i64 i] W fun e w' => NextTold W w' e l) := by
  by_cases hi : i < 0 ∨ (len : Int) ≤ i
  · exact ⟨[], by simp, fun W _ => next_out a len cap i W hi, fun W _ => refNext_out a len cap i W hi⟩
  · obtain ⟨k, rfl⟩ := Int.eq_ofNat_of_zero_le (show 0 ≤ i by omega)
    have hk : k < len := by omega
    by_cases hx : ins[k].ok
    · refine ⟨led ins[k] k (len - 1 - k), by have := led_len ins[k] k (len - 1 - k); omega, fun W h => ?_, fun W h => ?_⟩
      · obtain ⟨b, off, rfl, hc⟩ := h.2.2 (by omega)
        rw [led_same ins[k] hx]
        exact next_in b off len cap k ins[k] W (by omega) hk hx (hc k ins[k] (List.getElem?_eq_getElem (by omega)))
      · obtain ⟨b, off, rfl, hc⟩ := h.2.2 (by omega)
        exact refNext_in b off len cap k ins[k] W (by omega) hk hx (hc k ins[k] (List.getElem?_eq_getElem (by omega)))
    · exact ⟨[], by simp, fun W h => absurd (h.2.1 ins[k] (List.getElem_mem (by omega))) hx, fun W h => absurd (h.2.1 ins[k] (List.getElem_mem (by omega))) hx⟩

set_option maxHeartbeats 400000 in
theorem checkNext_walk (a : Option Addr) (len cap : Nat) (ins : List In) (i : Int) (w : World) (hlen : len ≤ maxLen) (h : Ins w a len ins) :
    Calls Try.prog 4 #[.slice a len cap, .int .i64 i] w fun e w' => e = .returned (.bool true) ∧ Below w.heap.size w w' := by
  unfold maxLen at hlen
  by_cases h4 : 4096 < len
  · have hd : decide ((4096 : Int) < (len : Int)) = true := by simp; omega
    go_enter Try.func4, Try.ntmps4
    go_wp2_with (go_at_call 9; refine (awake_any _).mono ?_; rintro e w1 ⟨rfl, b1⟩)
    go_ret
    exact ⟨rfl, b1⟩
  · have hd : decide ((4096 : Int) < (len : Int)) = false := by simp; omega
    obtain ⟨l, hl, g1, g2⟩ := next_both a len cap ins i (by omega) h.1
    have H1 : Hid (∀ W : World, Ins W a len ins → Calls Try.prog 13 #[.slice a len cap, .int .i64 i] W fun e w' => NextTold W w' e l) := g1
    have H2 : Hid (∀ W : World, Ins W a len ins → Calls Try.prog 14 #[.slice a len cap, .int .i64 i] W fun e w' => NextTold W w' e l) := g2
    have HL : Hid (l.length ≤ 4096) := hl
    clear g1 g2 hl
    go_enter Try.func4, Try.ntmps4
    go_wp2_with (first | (go_at_call 9; refine (awake_any _).mono ?_; rintro e w1 ⟨rfl, b1⟩; have h1 := h.below b1) | (go_at_call 13; refine (H1.out _ h1).mono ?_; rintro e w2 ⟨b2, v2, rfl, o2⟩; have h2 := h1.below b2; obtain ⟨a2, cap2, rfl, n2⟩ := owns_ns o2; clear o2) | (go_at_call 14; refine (H2.out _ h2).mono ?_; rintro e w3 ⟨b3, v3, rfl, o3⟩; obtain ⟨a3, cap3, rfl, n3⟩ := owns_ns o3; clear o3; have n22 := n2.below b3) | (go_at_call 12; refine (same_any a2 a3 l.length cap2 cap3 l _ (by have := HL.out; omega) n22 n3).mono ?_; rintro e w4 ⟨rfl, b4⟩))
    go_ret
    have c1 := b1.trans (b2.mono b1.size)
    have c2 := c1.trans (b3.mono c1.size)
    exact ⟨rfl, c2.trans (b4.mono c2.size)⟩

end Go.Proofs.Ytfdnhdijogphiaa
