/-
  The law CheckAhead, walked: true for every program.
-/
import Derived.Test.YtfdnhdijogphiaaNext
import Derived.Test.YtfdnhdijogphiaaSameInts
import Derived.Test.YtfdnhdijogphiaaAwake
namespace Go.Proofs.Ytfdnhdijogphiaa
open Go.RowKit

theorem chk_place (l : List In) (h : (chk l).1 ≠ 0) : 0 ≤ (chk l).2 := by
  unfold chk at *
  by_cases h0 : l.length = 0
  · rw [if_pos h0]; decide
  · rw [if_neg h0] at *
    by_cases h4 : 4096 < l.length
    · rw [if_pos h4]; decide
    · rw [if_neg h4] at *
      rcases ff_bd l 0 with h1 | h1
      · exact absurd h1.1 h
      · omega

theorem chk_ok (l : List In) (h : (chk l).1 = 0) : 0 < l.length ∧ l.length ≤ 4096 ∧ (ff l 0).1 = 0 ∧ (chk l).2 = -1 := by
  unfold chk at *
  by_cases h0 : l.length = 0
  · rw [if_pos h0] at h; exact absurd h (by decide)
  · rw [if_neg h0] at *
    by_cases h4 : 4096 < l.length
    · rw [if_pos h4] at h; exact absurd h (by decide)
    · rw [if_neg h4] at *
      refine ⟨by omega, by omega, h, ?_⟩
      rcases ff_bd l 0 with h1 | h1
      · exact h1.2
      · omega

theorem ff_all (l : List In) (p : Int) (h : (ff l p).1 = 0) (i : Nat) (hi : i < l.length) : fault l[i] (l.length - 1 - i) = 0 := by
  induction l generalizing p i with
  | nil => cases hi
  | cons x r ih =>
    unfold ff at h
    by_cases hx : fault x r.length = 0
    · rw [if_pos hx] at h
      cases i with
      | zero =>
        show fault x _ = 0
        rw [show (x :: r).length - 1 - 0 = r.length from by rw [List.length_cons]; omega]
        exact hx
      | succ i =>
        have hi' : i < r.length := by rw [List.length_cons] at hi; omega
        show fault r[i] _ = 0
        rw [show (x :: r).length - 1 - (i + 1) = r.length - 1 - i from by rw [List.length_cons]; omega]
        exact ih (p + 1) h i hi'
    · rw [if_neg hx] at h
      exact absurd h hx

/-- what a call of Next tells of a program that may be run. -/
theorem next_ahead (b off len cap i : Nat) (ins : List In) (hl : ins.length = len) (hlen : len ≤ 4096) (hi : i < len) (hf : (ff ins 0).1 = 0) (hx : (ins[i]'(by omega)).ok) :
    ∃ l, Ahead i len (isIn endL (ins[i]'(by omega)).c) l ∧ ∀ W : World, Ins W (some ⟨b, off, none⟩) len ins → Calls Try.prog 13 #[.slice (some ⟨b, off, none⟩) len cap, .int .i64 i] W fun e w' => NextTold W w' e l := by
  have hfi := ff_all ins 0 hf i (by omega)
  subst hl
  refine ⟨goOn i (ins.length - 1 - i) (skipsL ins[i]), goOn_ahead ins[i] hx i ins.length hi hfi, fun W h => ?_⟩
  obtain ⟨_, _, e, hc⟩ := h.2.2 (by omega)
  cases e
  exact next_in b off ins.length cap i ins[i] W (by omega) hi hx (hc i ins[i] (List.getElem?_eq_getElem (by omega)))

set_option maxRecDepth 4000 in
set_option maxHeartbeats 2000000 in
theorem checkAhead_walk (a : Option Addr) (len cap : Nat) (ins : List In) (w : World) (hlen : len ≤ maxLen) (h : Ins w a len ins) :
    Calls Try.prog 5 #[.slice a len cap] w fun e w' => e = .returned (.bool true) ∧ Below w.heap.size w w' := by
  have HC : Hid (∀ W : World, Ins W a len ins → Calls Try.prog 10 #[.slice a len cap] W fun e w' => Told W w' e (chk ins)) := fun W h => check_any a len cap ins W hlen h
  by_cases hz : (chk ins).1 = 0
  · obtain ⟨l1, l2, l3, l4⟩ := chk_ok ins hz
    have hl := h.1
    have HF : Hid ((ff ins 0).1 = 0) := l3
    generalize chk ins = p at *
    obtain ⟨p1, p2⟩ := p
    dsimp only at hz l4
    subst hz l4
    clear l3 hlen
    rw [hl] at l1 l2
    have hd1 : decide ((len : Int) < 1) = false := by simp; omega
    have hd2 : decide ((4096 : Int) < (len : Int)) = false := by simp; omega
    obtain ⟨b, off, rfl, -⟩ := h.2.2 (by omega)
    go_enter Try.func5, Try.ntmps5
    go_wp2_with (first | (go_at_call 9; refine (awake_any _).mono ?_; rintro e w1 ⟨rfl, b1⟩; have h1 := h.below b1) | (go_at_call 10; refine (HC.out _ h1).mono ?_; rintro e w2 ⟨rfl, b2⟩))
    have c1 := b1.trans (b2.mono b1.size)
    clear hd1 hd2 HC b2 h1 b1
    go_loopw [6] (fun i wr => ∃ k : Nat, k ≤ len ∧ i = .int .i64 k ∧ Below w.heap.size w wr) (fun i _ => len - (intOf i).toNat)
    case atStart => exact ⟨0, Nat.zero_le _, rfl, c1⟩
    case round =>
      obtain ⟨i, hi, rfl, hbr⟩ := hrel
      clear c1
      by_cases hlt : i < len
      · have hir := h.below hbr
        obtain ⟨_, _, eq, hc⟩ := hir.2.2 (by omega)
        cases eq
        have hib : i < ins.length := by omega
        obtain ⟨q1, -, -, -⟩ := hc i ins[i] (List.getElem?_eq_getElem hib)
        obtain ⟨l, hA, hN⟩ := next_ahead b off len cap i ins hl (by omega) hlt HF.out (h.2.1 ins[i] (List.getElem_mem hib))
        have HN : Hid (∀ W : World, Ins W (some ⟨b, off, none⟩) len ins → Calls Try.prog 13 #[.slice (some ⟨b, off, none⟩) len cap, .int .i64 i] W fun e w' => NextTold W w' e l) := hN
        have HE : Hid (isIn endL ins[i].c = (ins[i].c == 6 || ins[i].c == 22)) := by unfold Hid; simp [endL, isIn_cons, isIn_nil]
        clear hc hN
        generalize isIn endL ins[i].c = be at *
        generalize ins[i].c = c at *
        obtain ⟨few, none', ahead, rise⟩ := hA
        have HA : Hid (∀ k, k < l.length → (i : Int) < l.getD k 0 ∧ l.getD k 0 < len) := ahead
        have HR : Hid (∀ k, 0 < k → k < l.length → l.getD (k - 1) 0 < l.getD k 0) := rise
        have HO : Hid (decide (l.length = 0) = (c == 6 || c == 22)) := by unfold Hid; rw [none', HE.out]
        have HW : Hid (l.length ≤ 2) := few
        clear ahead rise none' few HE
        have hi1 : (i : Int) < (len : Int) := by omega
        go_wp2_with fail
        refine (HN.out _ hir).mono ?_
        rintro e w3 ⟨b3, v3, rfl, o3⟩
        obtain ⟨a3, cap3, rfl, n3⟩ := owns_ns o3
        have q3 : w3.cell? ⟨b, off + i * 4, none⟩ = some (.int .u16 c) := by rw [b3.cell (p := ⟨b, off + i * 4, none⟩) (World.block_lt_of_cell? wr _ q1)]; exact q1
        have c3 := hbr.trans (b3.mono hbr.size)
        clear o3 hir HN q1
        generalize l.length = m at *
        have hm3 : m = 0 ∨ m = 1 ∨ m = 2 := by have := HW.out; omega
        by_cases h6 : c = 6
        · have hm : m = 0 := by have := HO.out; rw [h6] at this; simpa using this
          subst hm h6
          clear HO hm3 HA HR
          go_wp2
          go_loopw [9] (fun j wr2 => ∃ k : Nat, k ≤ 0 ∧ j = .int .i64 k ∧ Below w3.heap.size w3 wr2) (fun j _ => 0 - (intOf j).toNat)
          case atStart => exact ⟨0, by decide, rfl, Below.refl _ _⟩
          case round =>
            obtain ⟨k, hk, rfl, hbr2⟩ := hrel
            obtain rfl : k = 0 := by omega
            go_wp2
            go_roundw
            case rel => exact ⟨i + 1, by omega, by go_num, c3.trans (hbr2.mono c3.size)⟩
            case measure => simp [intOf]; omega
        · by_cases h22 : c = 22
          · have hm : m = 0 := by have := HO.out; rw [h22] at this; simpa using this
            subst hm h22
            clear HO hm3 HA HR
            go_wp2
            go_loopw [9] (fun j wr2 => ∃ k : Nat, k ≤ 0 ∧ j = .int .i64 k ∧ Below w3.heap.size w3 wr2) (fun j _ => 0 - (intOf j).toNat)
            case atStart => exact ⟨0, by decide, rfl, Below.refl _ _⟩
            case round =>
              obtain ⟨k, hk, rfl, hbr2⟩ := hrel
              obtain rfl : k = 0 := by omega
              go_wp2
              go_roundw
              case rel => exact ⟨i + 1, by omega, by go_num, c3.trans (hbr2.mono c3.size)⟩
              case measure => simp [intOf]; omega
          · have hm0 : m ≠ 0 := by
              have := HO.out
              rw [beq_eq_false_iff_ne.2 h6, beq_eq_false_iff_ne.2 h22] at this
              simpa using this
            have n6 : (c == 6) = false := beq_eq_false_iff_ne.2 h6
            have n22 : (c == 22) = false := beq_eq_false_iff_ne.2 h22
            rcases hm3 with hm | hm | hm
            · exact absurd hm hm0
            · subst hm
              clear HO hm0
              go_wp2
              go_loopw [9] (fun j wr2 => ∃ k : Nat, k ≤ 1 ∧ j = .int .i64 k ∧ Below w3.heap.size w3 wr2) (fun j _ => 1 - (intOf j).toNat)
              case atStart => exact ⟨0, by decide, rfl, Below.refl _ _⟩
              case round =>
                obtain ⟨k, hk, rfl, hbr2⟩ := hrel
                by_cases hlt2 : k < 1
                · obtain ⟨b2, off2, rfl, hc2⟩ := (n3.below hbr2).2 (by decide)
                  obtain rfl : k = 0 := by omega
                  obtain ⟨z1, z2⟩ := HA.out 0 (by decide)
                  have d1 := hc2 0 (by decide)
                  rw [Nat.add_zero] at d1
                  generalize l.getD 0 0 = z at *
                  have g1 : decide (z ≤ (i : Int)) = false := by simp; omega
                  have g2 : decide ((len : Int) ≤ z) = false := by simp; omega
                  clear hc2 HA HR
                  go_wp2_with fail
                  go_quiet (fail)
                  go_wp2
                  go_roundw
                  case rel => exact ⟨0 + 1, by decide, by go_num, below_drewN hbr2 _⟩
                  case measure => simp [intOf]
                · obtain rfl : k = 1 := by omega
                  go_wp2
                  go_roundw
                  case rel => exact ⟨i + 1, by omega, by go_num, c3.trans (hbr2.mono c3.size)⟩
                  case measure => simp [intOf]; omega
            · subst hm
              clear HO hm0
              go_wp2
              go_loopw [9] (fun j wr2 => ∃ k : Nat, k ≤ 2 ∧ j = .int .i64 k ∧ Below w3.heap.size w3 wr2) (fun j _ => 2 - (intOf j).toNat)
              case atStart => exact ⟨0, by decide, rfl, Below.refl _ _⟩
              case round =>
                obtain ⟨k, hk, rfl, hbr2⟩ := hrel
                by_cases hlt2 : k < 2
                · obtain ⟨b2, off2, rfl, hc2⟩ := (n3.below hbr2).2 (by decide)
                  rcases (by omega : k = 0 ∨ k = 1) with rfl | rfl
                  · obtain ⟨z1, z2⟩ := HA.out 0 (by decide)
                    have d1 := hc2 0 (by decide)
                    rw [Nat.add_zero] at d1
                    generalize l.getD 0 0 = z at *
                    have g1 : decide (z ≤ (i : Int)) = false := by simp; omega
                    have g2 : decide ((len : Int) ≤ z) = false := by simp; omega
                    clear hc2 HA HR
                    go_wp2_with fail
                    go_quiet (fail)
                    go_wp2
                    go_roundw
                    case rel => exact ⟨0 + 1, by decide, by go_num, below_drewN hbr2 _⟩
                    case measure => simp [intOf]
                  · obtain ⟨z1, z2⟩ := HA.out 1 (by decide)
                    have z3 := HR.out 1 (by decide) (by decide)
                    have d1 := hc2 1 (by decide)
                    have d0 := hc2 0 (by decide)
                    rw [Nat.add_zero] at d0
                    have z3 : l.getD 0 0 < l.getD 1 0 := z3
                    generalize l.getD 0 0 = y at *
                    generalize l.getD 1 0 = z at *
                    have g3 : decide (z ≤ y) = false := by simp; omega
                    have g1 : decide (z ≤ (i : Int)) = false := by simp; omega
                    have g2 : decide ((len : Int) ≤ z) = false := by simp; omega
                    clear hc2 HA HR
                    go_wp2_with fail
                    go_quiet (fail)
                    go_wp2
                    go_roundw
                    case rel => exact ⟨1 + 1, by decide, by go_num, below_drewN hbr2 _⟩
                    case measure => simp [intOf]
                · obtain rfl : k = 2 := by omega
                  go_wp2
                  go_roundw
                  case rel => exact ⟨i + 1, by omega, by go_num, c3.trans (hbr2.mono c3.size)⟩
                  case measure => simp [intOf]; omega
      · go_wp2
        go_ret
        exact ⟨rfl, hbr⟩
  · have hp := chk_place ins hz
    generalize chk ins = p at *
    obtain ⟨p1, p2⟩ := p
    dsimp only at hz hp
    clear hlen
    have hz1 : (p1 == 0) = false := by rw [beq_eq_false_iff_ne]; exact hz
    go_enter Try.func5, Try.ntmps5
    go_wp2_with (first | (go_at_call 9; refine (awake_any _).mono ?_; rintro e w1 ⟨rfl, b1⟩; have h1 := h.below b1) | (go_at_call 10; refine (HC.out _ h1).mono ?_; rintro e w2 ⟨rfl, b2⟩))
    go_ret
    exact ⟨by simp, b1.trans (b2.mono b1.size)⟩

end Go.Proofs.Ytfdnhdijogphiaa
