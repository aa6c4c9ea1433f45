/-
  The law ActJoined, walked: true for every two lists.
-/
import Derived.Test.YtaipnnbpmpdnfaaAwake
import Derived.Test.YtaipnnbpmpdnfaaMostAll
namespace Go.Proofs.Ytaipnnbpmpdnfaa
open Go.RowKit

set_option maxHeartbeats 1000000 in
theorem actJoined_walk (a a' : Option Addr) (len cap len' cap' : Nat) (l l' : List Int) (w : World) (hl : ∀ z ∈ l, U32 z) (hl' : ∀ z ∈ l', U32 z) (hcap : len ≤ cap) (hcap' : len' ≤ cap') (hao : a = none → cap = 0) (hao' : a' = none → cap' = 0) (h : Ns .u32 w a len l) (h' : Ns .u32 w a' len' l') :
    Calls Try.prog 8 #[.slice a len cap, .slice a' len' cap'] w fun e w' => e = .returned (.bool true) ∧ Below w.heap.size w w' := by
  have HW : Hid (∀ W : World, Calls Try.prog 9 #[] W fun e w' => e = .returned (.bool true) ∧ Below W.heap.size W w') := awake_any
  have hll := h.1
  have hll' := h'.1
  by_cases hbad : (decide (500 < len) || decide (500 < len') || decide (len = 0) || decide (len' = 0)) = true
  · have hcase : 500 < len ∨ (¬ 500 < len ∧ 500 < len') ∨ (¬ 500 < len ∧ ¬ 500 < len' ∧ len = 0) ∨ (¬ 500 < len ∧ ¬ 500 < len' ∧ ¬ len = 0 ∧ len' = 0) := by
      simp at hbad
      omega
    clear hbad h h' hl hl' hcap hcap' hao hao' hll hll'
    rcases hcase with h1 | ⟨h1, h2⟩ | ⟨h1, h2, h3⟩ | ⟨h1, h2, h3, h4⟩
    · have d1 : decide ((500 : Int) < (len : Int)) = true := by simp; omega
      clear h1
      go_enter Try.func8, Try.ntmps8
      go_wp2_with (go_at_call 9; refine (HW.out _).mono ?_; rintro e w1 ⟨rfl, b1⟩)
      go_ret
      exact ⟨rfl, b1⟩
    · have d1 : decide ((500 : Int) < (len : Int)) = false := by simp; omega
      have d2 : decide ((500 : Int) < (len' : Int)) = true := by simp; omega
      clear h1 h2
      go_enter Try.func8, Try.ntmps8
      go_wp2_with (go_at_call 9; refine (HW.out _).mono ?_; rintro e w1 ⟨rfl, b1⟩)
      go_ret
      exact ⟨rfl, b1⟩
    · have d2 : decide ((500 : Int) < (len' : Int)) = false := by simp; omega
      subst h3
      clear h1 h2
      go_enter Try.func8, Try.ntmps8
      go_wp2_with (go_at_call 9; refine (HW.out _).mono ?_; rintro e w1 ⟨rfl, b1⟩)
      go_ret
      exact ⟨rfl, b1⟩
    · have d1 : decide ((500 : Int) < (len : Int)) = false := by simp; omega
      have z1 : ((len : Int) == 0) = false := by rw [beq_eq_false_iff_ne]; omega
      have z2 : ¬ (len : Int) = 0 := by omega
      subst h4
      clear h1 h2
      go_enter Try.func8, Try.ntmps8
      go_wp2_with (go_at_call 9; refine (HW.out _).mono ?_; rintro e w1 ⟨rfl, b1⟩)
      go_ret
      exact ⟨rfl, b1⟩
  · have hgood : len ≤ 500 ∧ len' ≤ 500 ∧ len ≠ 0 ∧ len' ≠ 0 := by
      simp at hbad
      omega
    obtain ⟨g1, g2, g3, g4⟩ := hgood
    have d1 : decide ((500 : Int) < (len : Int)) = false := by simp; omega
    have d2 : decide ((500 : Int) < (len' : Int)) = false := by simp; omega
    have z1 : ((len : Int) == 0) = false := by rw [beq_eq_false_iff_ne]; omega
    have z2 : ((len' : Int) == 0) = false := by rw [beq_eq_false_iff_ne]; omega
    have z3 : ¬ (len : Int) = 0 := by omega
    have z4 : ¬ (len' : Int) = 0 := by omega
    have hne : l ≠ [] := by intro e; subst e; simp at hll; omega
    have hne' : l' ≠ [] := by intro e; subst e; simp at hll'; omega
    have HE : Hid (most (l ++ l') = most [most l, most l']) := most_app l l' hne hne'
    have HA : Hid (∀ (W : World) (b : Option Addr) (c : Nat), len + len' ≤ c → Ns .u32 W b (len + len') (l ++ l') → Calls Try.prog 16 #[.slice b (len + len') c] W fun e w' => e = .returned (.int .u32 (most (l ++ l'))) ∧ Below W.heap.size W w') := fun W b c hc h => most_any b (len + len') c _ W (by intro z hz; rcases List.mem_append.1 hz with hz | hz; exact hl z hz; exact hl' z hz) (by unfold maxLen; omega) hc h
    have H1 : Hid (∀ W : World, Ns .u32 W a len l → Calls Try.prog 16 #[.slice a len cap] W fun e w' => e = .returned (.int .u32 (most l)) ∧ Below W.heap.size W w') := fun W h => most_any a len cap l W hl (by unfold maxLen; omega) hcap h
    have H2 : Hid (∀ W : World, Ns .u32 W a' len' l' → Calls Try.prog 16 #[.slice a' len' cap'] W fun e w' => e = .returned (.int .u32 (most l')) ∧ Below W.heap.size W w') := fun W h => most_any a' len' cap' l' W hl' (by unfold maxLen; omega) hcap' h
    have H3 : Hid (∀ (W : World), Calls Try.prog 16 #[.slice (some ⟨W.heap.size, 0, none⟩) 2 2] (W.alloc (.cells #[.int .u32 (most l), .int .u32 (most l')] 25)) fun e w' => e = .returned (.int .u32 (most [most l, most l'])) ∧ Below (W.alloc (.cells #[.int .u32 (most l), .int .u32 (most l')] 25)).heap.size (W.alloc (.cells #[.int .u32 (most l), .int .u32 (most l')] 25)) w') := fun W => most_any _ 2 2 _ _ (by intro z hz; simp at hz; rcases hz with rfl | rfl; exact most_u l hl; exact most_u l' hl') (by unfold maxLen; decide) (Nat.le_refl _) (ns_two W _ _)
    rw [HE.out] at HA
    have HN : Hid (Ns .u32 w a len l) := h
    have HN' : Hid (Ns .u32 w a' len' l') := h'
    have HL : Hid (len ≤ 500 ∧ len' ≤ 500) := ⟨g1, g2⟩
    have HAo : Hid (a = none → cap = 0) := hao
    have HAo' : Hid (a' = none → cap' = 0) := hao'
    clear HE h h' hl hl' hcap hcap' hao hao' hbad g1 g2 g3 g4 hne hne' hll hll'
    generalize most [most l, most l'] = m at *
    generalize most l = ml at *
    generalize most l' = ml' at *
    go_enter Try.func8, Try.ntmps8
    go_wp2_with fail
    refine (HW.out _).mono ?_
    rintro e w1 ⟨rfl, b1⟩
    have n1 := HN.out.below b1
    have n1' := HN'.out.below b1
    have hown : (w1.alloc (.cells #[] 25)).ownsRow w1.heap.size 25 1 (.slice (some ⟨w1.heap.size, 0, none⟩) 0 0) 0 (cellsU []) := World.ownsRow_lit w1 _ 0 (Nat.le_refl _) (by unfold maxLen; decide) rfl
    have hB := (Below.refl w1.heap.size w1).alloc (Nat.le_refl _) (Obj.cells #[] 25)
    have n2 := n1.below hB
    have n2' := n1'.below hB
    go_wp2_with (first | (at_builtin; refine append_nums rfl (.tmp 27) (.tmp 28) rfl w1.heap.size _ 0 [] rfl hown a len cap l rfl HAo.out n2 (by have := HL.out; omega) (by rw [size_alloc']; omega) ?_; intro v3 w3 ho3 hg3; rw [List.nil_append, Nat.zero_add] at ho3; have B3 := hB.grown hg3 hB.size (owns_block hown); have n3' := n1'.below B3) | (at_builtin; refine append_nums rfl (.tmp 29) (.tmp 30) rfl w1.heap.size _ len l rfl ho3 a' len' cap' l' rfl HAo'.out n3' (by have := HL.out; omega) B3.size ?_; intro v4 w4 ho4 hg4; have B4 := B3.grown hg4 B3.size (owns_block ho3); obtain ⟨a4, c4, rfl, n4, hc4, -⟩ := owns_ns ho4))
    refine (HA.out _ _ _ hc4 n4).mono ?_
    rintro e w5 ⟨rfl, b5⟩
    have B5 := B4.trans (b5.mono B4.size)
    have n5 := n1.below B5
    go_wp2_with fail
    refine (H1.out _ n5).mono ?_
    rintro e w6 ⟨rfl, b6⟩
    have B6 := B5.trans (b6.mono B5.size)
    have n6' := n1'.below B6
    go_wp2_with fail
    refine (H2.out _ n6').mono ?_
    rintro e w7 ⟨rfl, b7⟩
    have B7 := B6.trans (b7.mono B6.size)
    go_wp2_with fail
    refine (H3.out _).mono ?_
    rintro e w8 ⟨rfl, b8⟩
    have B7' := B7.alloc B7.size (Obj.cells #[.int .u32 ml, .int .u32 ml'] 25)
    have B8 := B7'.trans (b8.mono B7'.size)
    go_wp2
    go_ret
    exact ⟨rfl, b1.trans (B8.mono b1.size)⟩

end Go.Proofs.Ytaipnnbpmpdnfaa
