/-
  A timer that is set anew waits anew: the law's walk.
-/
import Derived.Test.YtifddbfcongepaaTmF
import Derived.BigQuiet
import Derived.Deep.DeepCutAuto
namespace Go.Proofs.Ytifddbfcongepaa
open Go.RowKit Go.Maps

set_option maxHeartbeats 8000000 in
set_option maxRecDepth 8000 in
theorem anew_go (w : World) (v ahead z : Int) (h1 : 1 ≤ v) (h2 : v ≤ 1000) (h3 : 0 ≤ ahead) (h4 : ahead ≤ 1000) (hz : U64 z) : Calls Try.prog 6 #[.int .i64 v, .int .i64 ahead, .int .u64 z] w fun e w' => e = .returned (.bool true) ∧ Below w.heap.size w w' := by
  have HA : Hid (Calls Try.prog 8 #[] w fun e w' => e = .returned (.bool true) ∧ Below w.heap.size w w') := awake_any w
  have HN : Hid (∀ W, Below w.heap.size w W → Calls Try.prog 9 #[.int .i64 v] W fun e w' => NewF w v e w') := fun W hb => new_f hb h1 h2
  have HZ : Hid (U64 z) := hz
  have c1 : decide (ahead < 0) = false := decide_eq_false (by omega)
  have c2 : decide (1000 < ahead) = false := decide_eq_false (by omega)
  have c3 : ¬ ahead < 0 := by omega
  have c4 : ¬ 1000 < ahead := by omega
  obtain ⟨q, hq⟩ : ∃ q, Int.tmod ahead v = q := ⟨_, rfl⟩
  have hq1 : 0 ≤ q := by rw [← hq]; exact Int.tmod_nonneg v h3
  have hq2 : q < v := by rw [← hq]; exact Int.tmod_lt_of_pos ahead (by omega)
  have hv0 : v ≠ 0 := by omega
  have HS : Hid (∀ (b B : Nat) (x : Int) (W : World), TmF w W b B v [(z, x)] 1 → Calls Try.prog 11 #[.pointer (some ⟨b, 0, none⟩), .int .u64 z] W fun e w' => SetF w b B v [(z, v)] 1 e w') := fun b B x W h => by
    refine (set_f h z hz (by omega)).mono ?_
    rintro e w' ⟨rfl, hh⟩
    rw [set_one] at hh
    exact ⟨rfl, hh.re (okt_one hz h1 (Int.le_refl _) h2)⟩
  have HS0 : Hid (∀ (b B : Nat) (W : World), TmF w W b B v [] 0 → Calls Try.prog 11 #[.pointer (some ⟨b, 0, none⟩), .int .u64 z] W fun e w' => SetF w b B v [(z, v)] 1 e w') := fun b B W h => set_f h z hz (by omega)
  have HT : Hid (∀ (b B : Nat) (x : Int) (W : World), 2 ≤ x → x ≤ v → TmF w W b B v [(z, x)] 1 → Calls Try.prog 16 #[.pointer (some ⟨b, 0, none⟩)] W fun e w' => ∃ p c, e = .returned (.slice p 0 c) ∧ TmF w w' b B v [(z, x - 1)] 1) := fun b B x W k1 k2 h => by
    refine (tick_f h (by omega)).mono ?_
    rintro e w' ⟨v', ts, rfl, r, t, _⟩
    rw [tick_one (by omega)] at t
    obtain ⟨p, c, rfl⟩ := r.nil (off_one (by omega))
    exact ⟨p, c, rfl, t⟩
  have HT1 : Hid (∀ (b B : Nat) (W : World), TmF w W b B v [(z, 1)] 1 → Calls Try.prog 16 #[.pointer (some ⟨b, 0, none⟩)] W fun e w' => ∃ g c, e = .returned (.slice (some ⟨g, 0, none⟩) 1 c) ∧ w'.cell? ⟨g, 0, none⟩ = some (.int .u64 z) ∧ TmF w w' b B v [(z, v)] 1) := fun b B W h => by
    refine (tick_f h (by omega)).mono ?_
    rintro e w' ⟨v', ts, rfl, r, t, _⟩
    rw [tick_now] at t
    obtain ⟨g, c, rfl, _, hc⟩ := r.one (off_now z)
    exact ⟨g, c, rfl, hc, t⟩
  have HT0 : Hid (∀ (b B : Nat) (W : World), TmF w W b B v [] 1 → Calls Try.prog 16 #[.pointer (some ⟨b, 0, none⟩)] W fun e w' => ∃ p c, e = .returned (.slice p 0 c) ∧ TmF w w' b B v [] 1) := fun b B W h => by
    refine (tick_f h (by omega)).mono ?_
    rintro e w' ⟨v', ts, rfl, r, t, _⟩
    obtain ⟨p, c, rfl⟩ := r.nil rfl
    exact ⟨p, c, rfl, t⟩
  have HI0 : Hid (∀ (b B : Nat) (W : World), TmF w W b B v [] 1 → Calls Try.prog 18 #[.pointer (some ⟨b, 0, none⟩)] W fun e w' => ∃ p c, e = .returned (.slice p 0 c) ∧ TmF w w' b B v [] 1) := fun b B W h => by
    refine (ids_f h (by omega)).mono ?_
    rintro e w' ⟨v', ts, rfl, r, t, _⟩
    obtain ⟨p, c, rfl⟩ := r.nil rfl
    exact ⟨p, c, rfl, t⟩
  have HP1 : Hid (∀ (b B : Nat) (W : World), TmF w W b B v [(z, v)] 1 → Calls Try.prog 13 #[.pointer (some ⟨b, 0, none⟩), .int .u64 z] W fun e w' => e = .returned (.bool true) ∧ TmF w w' b B v [] 1) := fun b B W h => by
    refine (stop_f h z hz).mono ?_
    rintro e w' ⟨rfl, t⟩
    rw [stop_one] at t
    exact ⟨by simp [keys], t⟩
  have HP0 : Hid (∀ (b B : Nat) (W : World), TmF w W b B v [] 1 → Calls Try.prog 13 #[.pointer (some ⟨b, 0, none⟩), .int .u64 z] W fun e w' => e = .returned (.bool false) ∧ TmF w w' b B v [] 1) := fun b B W h => by
    refine (stop_f h z hz).mono ?_
    rintro e w' ⟨rfl, t⟩
    exact ⟨by simp [keys], t⟩
  clear hz
  go_enter Try.func6, Try.ntmps6
  go_wp2_with fail
  refine HA.out.mono ?_
  rintro e w1 ⟨rfl, hb1⟩
  have B1 : Hid (Below w.heap.size w w1) := hb1
  clear hb1 HA
  go_wp2_with fail
  refine (HN.out w1 B1.out).mono ?_
  rintro e w2 ⟨b, B, rfl, ht2⟩
  have T2 : Hid (TmF w w2 b B v [] 0) := ht2
  clear ht2 HN
  go_wp2_with fail
  refine (HS0.out b B w2 T2.out).mono ?_
  rintro e w3 ⟨rfl, ht3⟩
  have T3 : Hid (TmF w w3 b B v [(z, v)] 1) := ht3
  clear ht3 T2 HS0
  go_wp2_with fail
  go_loopw [10] (fun vi wr => ∃ i : Int, vi = .int .i64 i ∧ 0 ≤ i ∧ i ≤ q ∧ TmF w wr b B v [(z, v - i)] 1) (fun vi _ => (q - intOf vi).toNat)
  case atStart => exact ⟨0, rfl, Int.le_refl _, hq1, by rw [Int.sub_zero]; exact T3.out⟩
  case round =>
    obtain ⟨i, rfl, hi0, hiq, ht⟩ := hrel
    have T4 : Hid (TmF w wr b B v [(z, v - i)] 1) := ht
    clear ht T3
    by_cases hlt : i < q
    · go_wp2_with fail
      refine (HT.out b B (v - i) wr (by omega) (by omega) T4.out).mono ?_
      rintro e w4 ⟨p, c, rfl, ht⟩
      have T5 : Hid (TmF w w4 b B v [(z, v - (i + 1))] 1) := by
        rw [show v - i - 1 = v - (i + 1) by omega] at ht
        exact ht
      clear ht
      go_wp2_with fail
      go_roundw
      case rel => exact ⟨i + 1, rfl, by omega, by omega, T5.out⟩
      case measure => simp [intOf]; omega
    · go_wp2_with fail
      refine (HS.out b B (v - i) wr T4.out).mono ?_
      rintro e w4 ⟨rfl, ht⟩
      have T5 : Hid (TmF w w4 b B v [(z, v)] 1) := ht
      clear ht T4
      go_wp2_with fail
      go_loopw [11] (fun vi wz => ∃ k : Int, vi = .int .i64 k ∧ 1 ≤ k ∧ k ≤ v ∧ TmF w wz b B v [(z, v - k + 1)] 1) (fun vi _ => (v - intOf vi).toNat)
      case atStart => exact ⟨1, rfl, Int.le_refl _, h1, by rw [show v - 1 + 1 = v by omega]; exact T5.out⟩
      case round =>
        obtain ⟨k, rfl, hk1, hkv, ht⟩ := hrel
        have T6 : Hid (TmF w wr b B v [(z, v - k + 1)] 1) := ht
        clear ht T5
        by_cases hkl : k < v
        · go_wp2_with fail
          refine (HT.out b B (v - k + 1) wr (by omega) (by omega) T6.out).mono ?_
          rintro e w5 ⟨p, c, rfl, ht⟩
          have T7 : Hid (TmF w w5 b B v [(z, v - (k + 1) + 1)] 1) := by
            rw [show v - k + 1 - 1 = v - (k + 1) + 1 by omega] at ht
            exact ht
          clear ht
          go_wp2_with fail
          go_roundw
          case rel => exact ⟨k + 1, rfl, by omega, by omega, T7.out⟩
          case measure => simp [intOf]; omega
        · have T7 : Hid (TmF w wr b B v [(z, 1)] 1) := by
            have := T6.out
            rw [show v - k + 1 = 1 by omega] at this
            exact this
          go_wp2_with fail
          refine (HT1.out b B wr T7.out).mono ?_
          rintro e w5 ⟨g, c, rfl, hc, ht⟩
          have T8 : Hid (TmF w w5 b B v [(z, v)] 1) := ht
          clear ht T7 T6
          go_wp2_with (first
            | (go_at_call 13; refine (HP1.out b B _ T8.out).mono ?_; rintro e w6 ⟨rfl, ht⟩; have T9 : Hid (TmF w w6 b B v [] 1) := ht; clear ht T8)
            | (go_at_call 13; refine (HP0.out b B _ T9.out).mono ?_; rintro e w7 ⟨rfl, ht⟩; have T10 : Hid (TmF w w7 b B v [] 1) := ht; clear ht T9))
          go_loopw [13] (fun vi wz => ∃ j : Int, vi = .int .i64 j ∧ 0 ≤ j ∧ j ≤ 3 ∧ TmF w wz b B v [] 1) (fun vi _ => (3 - intOf vi).toNat)
          case atStart => exact ⟨0, rfl, Int.le_refl _, by omega, T10.out⟩
          case round =>
            obtain ⟨j, rfl, hj0, hj3, ht⟩ := hrel
            have T11 : Hid (TmF w wr b B v [] 1) := ht
            clear ht T10
            by_cases hjl : j < 3
            · go_wp2_with fail
              refine (HT0.out b B wr T11.out).mono ?_
              rintro e w8 ⟨p, c', rfl, ht⟩
              have T12 : Hid (TmF w w8 b B v [] 1) := ht
              clear ht
              go_wp2_with fail
              go_roundw
              case rel => exact ⟨j + 1, rfl, by omega, by omega, T12.out⟩
              case measure => simp [intOf]; omega
            · go_wp2_with (first | (go_at_call 18; refine (HI0.out b B _ T11.out).mono ?_; rintro e w8 ⟨p, c', rfl, ht⟩; have T12 : Hid (TmF w w8 b B v [] 1) := ht; clear ht))
              go_ret
              exact ⟨rfl, T12.out.bel⟩

set_option maxHeartbeats 4000000 in
set_option maxRecDepth 8000 in
theorem anew_not (w : World) (v ahead z : Int) (h : v < 1 ∨ 1000 < v) : Calls Try.prog 6 #[.int .i64 v, .int .i64 ahead, .int .u64 z] w fun e w' => e = .returned (.bool true) ∧ Below w.heap.size w w' := by
  have HA : Hid (Calls Try.prog 8 #[] w fun e w' => e = .returned (.bool true) ∧ Below w.heap.size w w') := awake_any w
  have HN : Hid (∀ W, Calls Try.prog 9 #[.int .i64 v] W fun e w' => e = .returned (.tuple #[.pointer none, .int .i64 1]) ∧ w' = W) := fun W => new_not v W h
  clear h
  go_enter Try.func6, Try.ntmps6
  go_wp2_with fail
  refine HA.out.mono ?_
  rintro e w1 ⟨rfl, hb1⟩
  have B1 : Hid (Below w.heap.size w w1) := hb1
  clear hb1 HA
  go_wp2_with fail
  refine (HN.out w1).mono ?_
  rintro e w2 ⟨rfl, hw2⟩
  subst hw2
  go_wp2_with fail
  go_ret
  exact ⟨rfl, B1.out⟩

set_option maxHeartbeats 4000000 in
set_option maxRecDepth 8000 in
theorem anew_far (w : World) (v ahead z : Int) (h1 : 1 ≤ v) (h2 : v ≤ 1000) (h : ahead < 0 ∨ 1000 < ahead) : Calls Try.prog 6 #[.int .i64 v, .int .i64 ahead, .int .u64 z] w fun e w' => e = .returned (.bool true) ∧ Below w.heap.size w w' := by
  have HA : Hid (Calls Try.prog 8 #[] w fun e w' => e = .returned (.bool true) ∧ Below w.heap.size w w') := awake_any w
  have HN : Hid (∀ W, Below w.heap.size w W → Calls Try.prog 9 #[.int .i64 v] W fun e w' => NewF w v e w') := fun W hb => new_f hb h1 h2
  by_cases c3 : ahead < 0
  · have c1 : decide (ahead < 0) = true := decide_eq_true c3
    clear h
    go_enter Try.func6, Try.ntmps6
    go_wp2_with fail
    refine HA.out.mono ?_
    rintro e w1 ⟨rfl, hb1⟩
    have B1 : Hid (Below w.heap.size w w1) := hb1
    clear hb1 HA
    go_wp2_with fail
    refine (HN.out w1 B1.out).mono ?_
    rintro e w2 ⟨b, B, rfl, ht2⟩
    have T2 : Hid (TmF w w2 b B v [] 0) := ht2
    clear ht2 HN
    go_wp2_with fail
    go_ret
    exact ⟨rfl, T2.out.bel⟩
  · have c1 : decide (ahead < 0) = false := decide_eq_false c3
    have c4 : 1000 < ahead := by omega
    have c2 : decide (1000 < ahead) = true := decide_eq_true c4
    clear h
    go_enter Try.func6, Try.ntmps6
    go_wp2_with fail
    refine HA.out.mono ?_
    rintro e w1 ⟨rfl, hb1⟩
    have B1 : Hid (Below w.heap.size w w1) := hb1
    clear hb1 HA
    go_wp2_with fail
    refine (HN.out w1 B1.out).mono ?_
    rintro e w2 ⟨b, B, rfl, ht2⟩
    have T2 : Hid (TmF w w2 b B v [] 0) := ht2
    clear ht2 HN
    go_wp2_with fail
    go_ret
    exact ⟨rfl, T2.out.bel⟩

theorem anew_walk (w : World) (v ahead z : Int) (_hv : (Lit.int .i64 v).wf = true) (_ha : (Lit.int .i64 ahead).wf = true) (hz : (Lit.int .u64 z).wf = true) : Calls Try.prog 6 #[.int .i64 v, .int .i64 ahead, .int .u64 z] w fun e w' => e = .returned (.bool true) ∧ Below w.heap.size w w' := by
  by_cases h : 1 ≤ v ∧ v ≤ 1000
  · by_cases h2 : 0 ≤ ahead ∧ ahead ≤ 1000
    · exact anew_go w v ahead z h.1 h.2 h2.1 h2.2 (u64_wf hz)
    · exact anew_far w v ahead z h.1 h.2 (by omega)
  · exact anew_not w v ahead z (by omega)

end Go.Proofs.Ytifddbfcongepaa
