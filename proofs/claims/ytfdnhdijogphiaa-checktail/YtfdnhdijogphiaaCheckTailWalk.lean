/-
  The law CheckTail, walked: true for every program and place.
-/
import Derived.Test.YtfdnhdijogphiaaAwake
namespace Go.Proofs.Ytfdnhdijogphiaa
open Go.RowKit

theorem Ins.drop {w : World} {b off len : Nat} {l : List In} (h : Ins w (some ⟨b, off, none⟩) len l) (i : Nat) (hi : i ≤ len) : Ins w (some ⟨b, off + i * 4, none⟩) (len - i) (l.drop i) := by
  refine ⟨by rw [List.length_drop, h.1], fun x hx => h.2.1 x (List.mem_of_mem_drop hx), fun h0 => ⟨b, off + i * 4, rfl, fun j x hj => ?_⟩⟩
  obtain ⟨_, _, e, hc⟩ := h.2.2 (by omega)
  cases e
  rw [List.getElem?_drop] at hj
  have := hc (i + j) x hj
  rw [Nat.add_mul, ← Nat.add_assoc] at this
  exact this

theorem chk_zero (l : List In) (h : (chk l).1 = 0) : 0 < l.length ∧ l.length ≤ 4096 ∧ (ff l 0).1 = 0 ∧ (chk l).2 = -1 := by
  unfold chk at *
  by_cases h0 : l.length = 0
  · rw [if_pos h0] at h; exact absurd h (by decide)
  · rw [if_neg h0] at *
    by_cases h4 : 4096 < l.length
    · rw [if_pos h4] at h; exact absurd h (by decide)
    · rw [if_neg h4] at *
      refine ⟨by omega, by omega, h, ?_⟩
      rcases ff_bd l 0 with h1 | h1
      · exact h1.2
      · omega

theorem chk_drop (l : List In) (i : Nat) (h : (chk l).1 = 0) (hi : i < l.length) : chk (l.drop i) = (0, -1) := by
  obtain ⟨h1, h2, h3, -⟩ := chk_zero l h
  unfold chk
  rw [List.length_drop, if_neg (by omega), if_neg (by omega)]
  exact ff_drop l 0 i 0 h3

set_option maxHeartbeats 800000 in
theorem checkTail_walk (a : Option Addr) (len cap : Nat) (ins : List In) (i : Int) (w : World) (hlen : len ≤ maxLen) (hcap : len ≤ cap) (h : Ins w a len ins) :
    Calls Try.prog 7 #[.slice a len cap, .int .i64 i] w fun e w' => e = .returned (.bool true) ∧ Below w.heap.size w w' := by
  have HC : Hid (∀ W : World, Ins W a len ins → Calls Try.prog 10 #[.slice a len cap] W fun e w' => Told W w' e (chk ins)) := fun W h => check_any a len cap ins W hlen h
  by_cases hz : (chk ins).1 = 0
  · obtain ⟨l1, l2, -, -⟩ := chk_zero ins hz
    have hl := h.1
    by_cases hi : i < 0
    · clear hlen l1 l2 hl
      generalize chk ins = p at *
      obtain ⟨p1, p2⟩ := p
      dsimp only at hz
      subst hz
      go_enter Try.func7, Try.ntmps7
      go_wp2_with (first | (go_at_call 9; refine (awake_any _).mono ?_; rintro e w1 ⟨rfl, b1⟩; have h1 := h.below b1) | (go_at_call 10; refine (HC.out _ h1).mono ?_; rintro e w2 ⟨rfl, b2⟩))
      go_ret
      exact ⟨rfl, b1.trans (b2.mono b1.size)⟩
    · obtain ⟨n, rfl⟩ := Int.eq_ofNat_of_zero_le (show 0 ≤ i by omega)
      obtain ⟨b, off, rfl, -⟩ := h.2.2 (by omega)
      have hm : n % len < len := Nat.mod_lt _ (by omega)
      have hr : Int.tmod (n : Int) (len : Int) = ((n % len : Nat) : Int) := by rw [Int.tmod_eq_emod_of_nonneg (by omega)]; rfl
      have HT : Hid (∀ (W : World) (c : Nat), Ins W (some ⟨b, off, none⟩) len ins → Calls Try.prog 10 #[.slice (some ⟨b, off + n % len * 4, none⟩) (len - n % len) c] W fun e w' => Told W w' e (0, -1)) := fun W c hI => by
        have := check_any _ (len - n % len) c _ W (by unfold maxLen at *; omega) (hI.drop (n % len) (by omega))
        rw [chk_drop ins (n % len) hz (by omega)] at this
        exact this
      have hne : ¬ cap = n % len := by omega
      have hz1 : ((len : Int) == 0) = false := by rw [beq_eq_false_iff_ne]; omega
      have hz2 : ¬ (len : Int) = 0 := by omega
      have hpos : (0 : Int) < len := by omega
      clear hlen
      generalize n % len = m at *
      generalize chk ins = p at *
      obtain ⟨p1, p2⟩ := p
      dsimp only at hz
      subst hz
      have hmc : m ≤ cap := by omega
      have hml : m ≤ len := by omega
      go_enter Try.func7, Try.ntmps7
      go_wp2_with fail
      refine (awake_any _).mono ?_
      rintro e w1 ⟨rfl, b1⟩
      have h1 := h.below b1
      go_wp2_with fail
      refine (HC.out _ h1).mono ?_
      rintro e w2 ⟨rfl, b2⟩
      have h2 := h1.below b2
      go_wp2_with fail
      refine (HT.out _ _ h2).mono ?_
      rintro e w3 ⟨rfl, b3⟩
      go_wp2
      go_ret
      have c1 := b1.trans (b2.mono b1.size)
      exact ⟨rfl, c1.trans (b3.mono c1.size)⟩
  · clear hlen
    generalize chk ins = p at *
    obtain ⟨p1, p2⟩ := p
    dsimp only at hz
    have hz1 : (p1 == 0) = false := by rw [beq_eq_false_iff_ne]; exact hz
    go_enter Try.func7, Try.ntmps7
    go_wp2_with (first | (go_at_call 9; refine (awake_any _).mono ?_; rintro e w1 ⟨rfl, b1⟩; have h1 := h.below b1) | (go_at_call 10; refine (HC.out _ h1).mono ?_; rintro e w2 ⟨rfl, b2⟩))
    go_ret
    exact ⟨rfl, b1.trans (b2.mono b1.size)⟩

end Go.Proofs.Ytfdnhdijogphiaa
