/-
  The law InsnFew, walked: true for every code.
-/
import Derived.Test.YtonhkohfogpflaaRefKinds
import Derived.Test.YtonhkohfogpflaaAwake
namespace Go.Proofs.Ytonhkohfogpflaa
open Go.RowKit

/-- how many of the first codes are known. -/
def howMany : Nat → Int
  | 0 => 0
  | n + 1 => howMany n + (if knownB (n : Int) then 1 else 0)

theorem howMany_bd (n : Nat) : 0 ≤ howMany n ∧ howMany n ≤ n := by
  induction n with
  | zero => exact ⟨Int.le_refl _, Int.le_refl _⟩
  | succ n ih =>
    show 0 ≤ howMany n + (if knownB (n : Int) then 1 else 0) ∧ howMany n + (if knownB (n : Int) then 1 else 0) ≤ ((n + 1 : Nat) : Int)
    split <;> omega

theorem howMany_all : howMany 256 = 39 := by
  have e : ∀ n : Nat, n ≤ 256 → howMany n = (((List.range n).filter (fun i : Nat => isIn aloneL (i : Int) || isIn compL (kNat i : Int) || isIn cmpL (kNat i : Int))).length : Nat) := by
    intro n
    induction n with
    | zero => intro _; rfl
    | succ n ih =>
      intro h
      show howMany n + (if knownB (n : Int) then 1 else 0) = _
      rw [ih (by omega), List.range_succ, List.filter_append, List.length_append]
      unfold knownB
      rw [kOf_nat n (by omega)]
      rw [List.filter_cons, List.filter_nil]
      cases (isIn aloneL (n : Int) || isIn compL (kNat n : Int) || isIn cmpL (kNat n : Int)) with
      | true => simp
      | false => simp
  rw [e 256 (Nat.le_refl _)]
  decide +kernel

set_option maxHeartbeats 1000000 in
theorem insnFew_walk (c : Int) (w : World) (h0 : 0 ≤ c) (h1 : c ≤ 65535) :
    Calls Try.prog 8 #[.int .u16 c] w fun e w' => e = .returned (.bool true) ∧ Below w.heap.size w w' := by
  obtain ⟨-, -, e3, e4⟩ := known_same c h0 h1
  have HK : Hid (∀ (c : Int) (W : World), Calls Try.prog 10 #[.int .u16 c] W fun e w' => e = .returned (.bool (knownB c)) ∧ Below W.heap.size W w') := fun c W => known_any c W
  have HJ : Hid (∀ W : World, Calls Try.prog 12 #[.int .u16 c] W fun e w' => e = .returned (.bool (jumpsB c)) ∧ w' = W) := fun W => jumps_any c W
  have HE : Hid (∀ W : World, Calls Try.prog 14 #[.int .u16 c] W fun e w' => e = .returned (.bool (isIn endL c)) ∧ w' = W) := fun W => ends_any c W
  have HH : Hid (256 ≤ c → knownB c = false) := fun h => known_high c h h1
  have E3 : Hid ((jumpsB c && isIn endL c) = false) := e3
  have E4 : Hid ((jumpsB c || isIn endL c) = true → knownB c = true) := e4
  clear e3 e4
  go_enter Try.func8, Try.ntmps8
  go_wp2_with (go_at_call 9; refine (awake_any _).mono ?_; rintro e w1 ⟨rfl, b1⟩)
  go_loopw [4, 5] (fun n i wr => ∃ k : Nat, k ≤ 256 ∧ i = .int .i64 k ∧ n = .int .i64 (howMany k) ∧ Below w.heap.size w wr) (fun _ i _ => 256 - (intOf i).toNat)
  case atStart => exact ⟨0, by decide, rfl, rfl, b1⟩
  case round =>
    obtain ⟨k, hk, rfl, rfl, hb⟩ := hrel
    clear b1
    obtain ⟨n1, n2⟩ := howMany_bd k
    by_cases hlt : k < 256
    · have hw : IntKind.u16.wrap (k : Int) = k := by rw [IntKind.wrap_u16]; omega
      have hm : Hid (howMany (k + 1) = howMany k + (if knownB (k : Int) then 1 else 0)) := rfl
      have HK2 : Hid (∀ (W : World), Calls Try.prog 10 #[.int .u16 (k : Int)] W fun e w' => e = .returned (.bool (knownB (k : Int))) ∧ Below W.heap.size W w') := HK.out k
      generalize howMany k = y at *
      generalize knownB (k : Int) = p at *
      have hlt' : (k : Int) < 256 := by omega
      cases p with
      | true =>
        go_wp2_with (go_at_call 10; refine (HK2.out _).mono ?_; rintro e w2 ⟨rfl, b2⟩)
        go_roundw
        case rel => exact ⟨k + 1, by omega, by go_num, by rw [hm.out]; go_num, hb.trans (b2.mono hb.size)⟩
        case measure => simp [intOf]; omega
      | false =>
        go_wp2_with (go_at_call 10; refine (HK2.out _).mono ?_; rintro e w2 ⟨rfl, b2⟩)
        go_roundw
        case rel => exact ⟨k + 1, by omega, by go_num, by rw [hm.out]; simp, hb.trans (b2.mono hb.size)⟩
        case measure => simp [intOf]; omega
    · have h39 : howMany k = 39 := by
        obtain rfl : k = 256 := by omega
        exact howMany_all
      rw [h39]
      have hnl : ¬ ((k : Int) < 256) := by omega
      clear h39 hlt
      have HK2 : Hid (∀ (W : World), Calls Try.prog 10 #[.int .u16 c] W fun e w' => e = .returned (.bool (knownB c)) ∧ Below W.heap.size W w') := HK.out c
      clear n1 n2 HK
      generalize knownB c = p at *
      generalize jumpsB c = q at *
      generalize isIn endL c = r at *
      have HN : Hid (256 ≤ c → p = false) := HH.out
      clear HH
      by_cases hc : 256 ≤ c
      · obtain rfl : p = false := HN.out hc
        have hq : q = false := by cases q with
          | false => rfl
          | true => exact absurd (E4.out rfl) (by decide)
        have hr : r = false := by cases r with
          | false => rfl
          | true => exact absurd (E4.out (by simp)) (by decide)
        subst hq hr
        have hd : decide (c < 256) = false := by simp; omega
        clear hc h0 h1 E3 E4 HN hk
        go_wp2_with (first | (go_at_call 12; refine (HJ.out _).mono ?_; rintro e w4 ⟨rfl, rfl⟩) | (go_at_call 14; refine (HE.out _).mono ?_; rintro e w6 ⟨rfl, rfl⟩) | (go_at_call 10; refine (HK2.out _).mono ?_; rintro e w5 ⟨rfl, b5⟩))
        go_ret
        exact ⟨rfl, hb.trans (b5.mono hb.size)⟩
      · have hd : decide (c < 256) = true := by simp; omega
        clear hc h0 h1 HN hk
        cases q with
        | true =>
          obtain rfl : r = false := by simpa using E3.out
          obtain rfl : p = true := E4.out rfl
          clear E3 E4
          go_wp2_with (first | (go_at_call 12; refine (HJ.out _).mono ?_; rintro e w4 ⟨rfl, rfl⟩) | (go_at_call 14; refine (HE.out _).mono ?_; rintro e w6 ⟨rfl, rfl⟩) | (go_at_call 10; refine (HK2.out _).mono ?_; rintro e w5 ⟨rfl, b5⟩))
          go_ret
          exact ⟨rfl, hb.trans (b5.mono hb.size)⟩
        | false =>
          cases r with
          | true =>
            obtain rfl : p = true := E4.out rfl
            clear E3 E4
            go_wp2_with (first | (go_at_call 12; refine (HJ.out _).mono ?_; rintro e w4 ⟨rfl, rfl⟩) | (go_at_call 14; refine (HE.out _).mono ?_; rintro e w6 ⟨rfl, rfl⟩) | (go_at_call 10; refine (HK2.out _).mono ?_; rintro e w5 ⟨rfl, b5⟩))
            go_ret
            exact ⟨rfl, hb.trans (b5.mono hb.size)⟩
          | false =>
            clear E3 E4
            go_wp2_with (first | (go_at_call 12; refine (HJ.out _).mono ?_; rintro e w4 ⟨rfl, rfl⟩) | (go_at_call 14; refine (HE.out _).mono ?_; rintro e w6 ⟨rfl, rfl⟩) | (go_at_call 10; refine (HK2.out _).mono ?_; rintro e w5 ⟨rfl, b5⟩))
            go_ret
            exact ⟨rfl, hb⟩

end Go.Proofs.Ytonhkohfogpflaa
