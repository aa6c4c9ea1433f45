/-
  The law CheckMore, walked: true for every program and number.
-/
import Derived.Test.YtfdnhdijogphiaaAwake
namespace Go.Proofs.Ytfdnhdijogphiaa
open Go.RowKit

/-- what Check tells with one instruction more ahead. -/
def MoreSaid (p q : Int × Int) : Prop :=
  (p.1 = 10 ∧ q = (15, 0)) ∨ (p.1 ≠ 10 ∧ p.1 ≠ 0 ∧ q = (p.1, p.2 + 1) ∧ 0 ≤ p.2 ∧ p.2 ≤ 4096) ∨ (p.1 = 0 ∧ q = (0, -1))

theorem chk_more (l : List In) (k : Int) (hl : l.length ≤ 4095) : MoreSaid (chk l) (chk (⟨0, 0, 0, k⟩ :: l)) := by
  have e : chk (⟨0, 0, 0, k⟩ :: l) = if fault ⟨0, 0, 0, k⟩ l.length = 0 then ff l (0 + 1) else (fault ⟨0, 0, 0, k⟩ l.length, 0) := by
    unfold chk
    rw [List.length_cons, if_neg (by omega), if_neg (by omega)]
    rfl
  rw [e, fault_imm]
  by_cases h0 : l.length = 0
  · left
    refine ⟨by unfold chk; rw [if_pos h0], ?_⟩
    rw [if_pos h0, if_neg (by decide)]
  · have ec : chk l = ff l 0 := by unfold chk; rw [if_neg h0, if_neg (by omega)]
    rw [ec, if_neg h0, if_pos rfl, ff_shift]
    rcases ff_bd l 0 with h1 | h1
    · right; right
      exact ⟨h1.1, by rw [if_pos h1.1]⟩
    · right; left
      exact ⟨by omega, by omega, by rw [if_neg (by omega)], by omega, by omega⟩

set_option maxHeartbeats 800000 in
theorem checkMore_walk (a : Option Addr) (len cap : Nat) (ins : List In) (k : Int) (w : World) (hlen : len ≤ maxLen) (hao : a = none → cap = 0) (hk0 : 0 ≤ k) (hk1 : k ≤ 4294967295) (h : Ins w a len ins) :
    Calls Try.prog 6 #[.slice a len cap, .int .u32 k] w fun e w' => e = .returned (.bool true) ∧ Below w.heap.size w w' := by
  unfold maxLen at hlen
  by_cases h4 : 4095 < len
  · have hd : decide ((4095 : Int) < (len : Int)) = true := by simp; omega
    go_enter Try.func6, Try.ntmps6
    go_wp2_with (go_at_call 9; refine (awake_any _).mono ?_; rintro e w1 ⟨rfl, b1⟩)
    go_ret
    exact ⟨rfl, b1⟩
  · have hd : decide ((4095 : Int) < (len : Int)) = false := by simp; omega
    have hll := h.1
    have HM : Hid (MoreSaid (chk ins) (chk (⟨0, 0, 0, k⟩ :: ins))) := chk_more ins k (by omega)
    have hok : Hid (∀ x ∈ (⟨0, 0, 0, k⟩ :: ins : List In), x.ok) := by
      intro x hx
      rcases List.mem_cons.1 hx with rfl | hx
      · exact ⟨by dsimp only; decide, by dsimp only; decide, by dsimp only; decide, hk0, hk1⟩
      · exact h.2.1 x hx
    have HC : Hid (∀ W : World, Ins W a len ins → Calls Try.prog 10 #[.slice a len cap] W fun e w' => Told W w' e (chk ins)) := fun W h => check_any a len cap ins W (by unfold maxLen; omega) h
    have HD : Hid (∀ (W : World) (a' : Option Addr) (c : Nat), Ins W a' (1 + len) (⟨0, 0, 0, k⟩ :: ins) → Calls Try.prog 10 #[.slice a' (1 + len) c] W fun e w' => Told W w' e (chk (⟨0, 0, 0, k⟩ :: ins))) := fun W a' c h => check_any a' (1 + len) c _ W (by unfold maxLen; omega) h
    generalize chk (⟨0, 0, 0, k⟩ :: ins) = q at *
    generalize chk ins = p at *
    obtain ⟨p1, p2⟩ := p
    obtain ⟨q1, q2⟩ := q
    have Hlen : Hid (len ≤ 4095) := by unfold Hid; omega
    clear hlen
    go_enter Try.func6, Try.ntmps6
    go_wp2_with fail
    refine (awake_any _).mono ?_
    rintro e w1 ⟨rfl, b1⟩
    have h1 := h.below b1
    have hown : (w1.alloc (.cells #[.int .u16 0, .int .u8 0, .int .u8 0, .int .u32 k] 36)).ownsRow w1.heap.size 36 4 (.slice (some ⟨w1.heap.size, 0, none⟩) 1 1) 1 (cellsI [⟨0, 0, 0, k⟩]) := World.ownsRow_lit w1 _ 1 (Nat.le_refl _) (by unfold maxLen; decide) rfl
    have hB := (Below.refl w1.heap.size w1).alloc (Nat.le_refl _) (Obj.cells #[.int .u16 0, .int .u8 0, .int .u8 0, .int .u32 k] 36)
    have h2 := h1.below hB
    go_wp2_with (at_builtin; refine append_ins rfl (.tmp 18) (.tmp 19) rfl w1.heap.size _ 1 [⟨0, 0, 0, k⟩] rfl hown a len cap ins rfl hao h2 (by have := Hlen.out; omega) (by rw [size_alloc']; omega) ?_; intro v4 w4 ho4 hg4; have B4 := hB.grown hg4 hB.size (owns_block hown); have h3 := h1.below B4; obtain ⟨a4, cap4, rfl, i4⟩ := owns_ins ho4 hok.out)
    refine (HC.out _ h3).mono ?_
    rintro e w5 ⟨rfl, b5⟩
    have i5 := i4.below b5
    clear ho4 hg4 hown
    go_wp2_with fail
    refine (HD.out _ _ _ i5).mono ?_
    rintro e w6 ⟨rfl, b6⟩
    have c1 := b1.trans (B4.mono b1.size)
    have c2 := c1.trans (b5.mono c1.size)
    have c3 := c2.trans (b6.mono c2.size)
    rcases HM.out with ⟨m1, m2⟩ | ⟨m1, m2, m3, m4, m5⟩ | ⟨m1, m2⟩
    · dsimp only at m1
      cases m2
      subst m1
      go_wp2
      go_ret
      exact ⟨rfl, c3⟩
    · dsimp only at m1 m2 m3 m4 m5
      cases m3
      have n1 : (p1 == 10) = false := by rw [beq_eq_false_iff_ne]; exact m1
      have n2 : (p1 == 0) = false := by rw [beq_eq_false_iff_ne]; exact m2
      clear HM HD HC
      go_wp2
      go_ret
      exact ⟨by simp, c3⟩
    · dsimp only at m1
      cases m2
      subst m1
      go_wp2
      go_ret
      exact ⟨rfl, c3⟩

end Go.Proofs.Ytfdnhdijogphiaa
