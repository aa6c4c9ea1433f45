/-
  The document's answer: what numbers are worth.
-/
import Derived.Test.YtdjjlccpmfhkiaaDoorRef
namespace Go.Proofs.YtdjjlccpmfhkiaaDoor
open Go.RowKit

theorem dv_hi {c : UInt8} (h : dgN c.toNat = false) (h2 : ¬ (97 ≤ c.toNat ∧ c.toNat ≤ 102)) : 16 ≤ dv c := by
  unfold dv
  rw [if_neg (by rw [h]; decide)]
  split
  · next h3 =>
    simp [loN] at h3
    omega
  · omega
theorem dv_af {c : UInt8} (h : dgN c.toNat = false) (h2 : 97 ≤ c.toNat ∧ c.toNat ≤ 102) : (dv c : Int) = (c.toNat : Int) - 87 := by
  unfold dv
  rw [if_neg (by rw [h]; decide), if_pos (by simp [loN]; omega)]
  omega

set_option maxHeartbeats 4000000 in
set_option maxRecDepth 8000 in
theorem num10_any (d : ByteArray) (w : World) (h0 : 0 < d.size) (hs : d.size ≤ 100000000) (hz : ¬ (1 < d.size ∧ (d[0]'h0).toNat = 48)) :
    Calls Tryd.prog 55 #[.string d] w fun e w' => Worth (parse 10 0 (lst d)) e ∧ w' = w := by
  generalize hR : parse 10 0 (lst d) = R
  have HR : Hid (R = parse 10 0 (lst d)) := hR.symm
  clear hR
  by_cases h1 : 1 < d.size
  · have e1 : (1 : Int) < d.size := by omega
    have e48 : (((d[0]'h0).toNat : Int) == 48) = false := by
      rw [beq_eq_false_iff_ne]
      omega
    clear hz
    go_enter Tryd.func55, Tryd.ntmps55
    go_wp2
    go_loop [2, 3, 6, 7] (fun r2 r3 vn vi => ∃ (k acc : Nat) (a : Int), vn = .int .u64 a ∧ vi = .int .i64 k ∧ k ≤ d.size ∧ Hid (a = (acc : Int) ∧ acc < 18446744073709551616 ∧ R = parse 10 acc ((lst d).drop k)))
      (fun _ _ _ vi => d.size - (intOf vi).toNat)
    case atStart => exact ⟨0, 0, 0, rfl, rfl, Nat.zero_le _, rfl, by omega, HR.out⟩
    case round =>
      obtain ⟨k, acc, a, rfl, rfl, hk, hh⟩ := hrel
      obtain ⟨ha, hacc, hpa⟩ := hh.out
      clear hh
      have a0 : 0 ≤ a := by omega
      have a1 : a < 18446744073709551616 := by omega
      by_cases hkn : k < d.size
      · rw [drop_cons d k hkn, parse_cons] at hpa
        rcases Bool.eq_false_or_eq_true (dgN (d[k]'hkn).toNat) with hd | hd
        · obtain ⟨d1, d2, d3⟩ := dv_dg hd
          by_cases hov : (18446744073709551615 - ((d[k]'hkn).toNat - 48 : Int)) / 10 < a
          · have HN : Hid (R = none) := by
              rw [if_neg (by omega)] at hpa
              exact hpa
            clear hpa ha hacc d1
            go_wp2_with (go_at_call 54; refine (digit_any _ _).mono ?_; rintro e w' ⟨rfl, rfl⟩; rw [hd])
            go_ret2
            exact ⟨by rw [HN.out]; exact ⟨_, rfl⟩, rfl⟩
          · have HN : Hid (a * 10 + ((d[k]'hkn).toNat - 48 : Int) = ((acc * 10 + dv (d[k]'hkn) : Nat) : Int) ∧ acc * 10 + dv (d[k]'hkn) < 18446744073709551616 ∧ R = parse 10 (acc * 10 + dv (d[k]'hkn)) ((lst d).drop (k + 1))) := by
              rw [if_pos (by omega)] at hpa
              exact ⟨by omega, by omega, hpa⟩
            have hov2 : a * 10 + ((d[k]'hkn).toNat - 48 : Int) < 18446744073709551616 := by omega
            clear hpa ha hacc d1
            go_wp2_with (go_at_call 54; refine (digit_any _ _).mono ?_; rintro e w' ⟨rfl, rfl⟩; rw [hd])
            go_round
            case rel => exact ⟨k + 1, _, a * 10 + ((d[k]'hkn).toNat - 48 : Int), by first | rfl | (congr 1; omega), by go_num, by omega, HN⟩
            case measure => simp [intOf]; omega
        · have hnd : ((d[k]'hkn).toNat : Int) < 256 := by have := (d[k]'hkn).toNat_lt; omega
          by_cases haf : 97 ≤ (d[k]'hkn).toNat ∧ (d[k]'hkn).toNat ≤ 102
          · have d1 := dv_af hd haf
            have d2 : (97 : Int) ≤ (d[k]'hkn).toNat := by omega
            have d3 : ((d[k]'hkn).toNat : Int) ≤ 102 := by omega
            clear haf
            have HN : Hid (R = none) := by
              rw [if_neg (by omega)] at hpa
              exact hpa
            clear hpa ha hacc d1
            go_wp2_with (go_at_call 54; refine (digit_any _ _).mono ?_; rintro e w' ⟨rfl, rfl⟩; rw [hd])
            go_ret2
            exact ⟨by rw [HN.out]; exact ⟨_, rfl⟩, rfl⟩
          · have d1 := dv_hi hd haf
            have HN : Hid (R = none) := by
              rw [if_neg (by omega)] at hpa
              exact hpa
            clear hpa ha hacc d1
            by_cases hlo : (97 : Int) ≤ (d[k]'hkn).toNat
            · have hhi : ¬ ((d[k]'hkn).toNat : Int) ≤ 102 := by omega
              clear haf
              go_wp2_with (go_at_call 54; refine (digit_any _ _).mono ?_; rintro e w' ⟨rfl, rfl⟩; rw [hd])
              go_ret2
              exact ⟨by rw [HN.out]; exact ⟨_, rfl⟩, rfl⟩
            · clear haf
              go_wp2_with (go_at_call 54; refine (digit_any _ _).mono ?_; rintro e w' ⟨rfl, rfl⟩; rw [hd])
              go_ret2
              exact ⟨by rw [HN.out]; exact ⟨_, rfl⟩, rfl⟩
      · have hkn2 : ¬ (k : Int) < d.size := by omega
        have HN : Hid (R = some acc ∧ a = acc) := ⟨by rw [hpa, List.drop_eq_nil_of_le (by rw [lst_length]; omega)]; rfl, ha⟩
        have hd0 : decide ((0 : Int) < d.size) = true := by simp; omega
        clear ha hacc hpa a0 a1
        go_wp2
        go_ret2
        exact ⟨by rw [HN.out.1, HN.out.2]; rfl, rfl⟩
  · have e1 : ¬ (1 : Int) < d.size := by omega
    clear hz
    go_enter Tryd.func55, Tryd.ntmps55
    go_wp2
    go_loop [2, 3, 6, 7] (fun r2 r3 vn vi => ∃ (k acc : Nat) (a : Int), vn = .int .u64 a ∧ vi = .int .i64 k ∧ k ≤ d.size ∧ Hid (a = (acc : Int) ∧ acc < 18446744073709551616 ∧ R = parse 10 acc ((lst d).drop k)))
      (fun _ _ _ vi => d.size - (intOf vi).toNat)
    case atStart => exact ⟨0, 0, 0, rfl, rfl, Nat.zero_le _, rfl, by omega, HR.out⟩
    case round =>
      obtain ⟨k, acc, a, rfl, rfl, hk, hh⟩ := hrel
      obtain ⟨ha, hacc, hpa⟩ := hh.out
      clear hh
      have a0 : 0 ≤ a := by omega
      have a1 : a < 18446744073709551616 := by omega
      by_cases hkn : k < d.size
      · rw [drop_cons d k hkn, parse_cons] at hpa
        rcases Bool.eq_false_or_eq_true (dgN (d[k]'hkn).toNat) with hd | hd
        · obtain ⟨d1, d2, d3⟩ := dv_dg hd
          by_cases hov : (18446744073709551615 - ((d[k]'hkn).toNat - 48 : Int)) / 10 < a
          · have HN : Hid (R = none) := by
              rw [if_neg (by omega)] at hpa
              exact hpa
            clear hpa ha hacc d1
            go_wp2_with (go_at_call 54; refine (digit_any _ _).mono ?_; rintro e w' ⟨rfl, rfl⟩; rw [hd])
            go_ret2
            exact ⟨by rw [HN.out]; exact ⟨_, rfl⟩, rfl⟩
          · have HN : Hid (a * 10 + ((d[k]'hkn).toNat - 48 : Int) = ((acc * 10 + dv (d[k]'hkn) : Nat) : Int) ∧ acc * 10 + dv (d[k]'hkn) < 18446744073709551616 ∧ R = parse 10 (acc * 10 + dv (d[k]'hkn)) ((lst d).drop (k + 1))) := by
              rw [if_pos (by omega)] at hpa
              exact ⟨by omega, by omega, hpa⟩
            have hov2 : a * 10 + ((d[k]'hkn).toNat - 48 : Int) < 18446744073709551616 := by omega
            clear hpa ha hacc d1
            go_wp2_with (go_at_call 54; refine (digit_any _ _).mono ?_; rintro e w' ⟨rfl, rfl⟩; rw [hd])
            go_round
            case rel => exact ⟨k + 1, _, a * 10 + ((d[k]'hkn).toNat - 48 : Int), by first | rfl | (congr 1; omega), by go_num, by omega, HN⟩
            case measure => simp [intOf]; omega
        · have hnd : ((d[k]'hkn).toNat : Int) < 256 := by have := (d[k]'hkn).toNat_lt; omega
          by_cases haf : 97 ≤ (d[k]'hkn).toNat ∧ (d[k]'hkn).toNat ≤ 102
          · have d1 := dv_af hd haf
            have d2 : (97 : Int) ≤ (d[k]'hkn).toNat := by omega
            have d3 : ((d[k]'hkn).toNat : Int) ≤ 102 := by omega
            clear haf
            have HN : Hid (R = none) := by
              rw [if_neg (by omega)] at hpa
              exact hpa
            clear hpa ha hacc d1
            go_wp2_with (go_at_call 54; refine (digit_any _ _).mono ?_; rintro e w' ⟨rfl, rfl⟩; rw [hd])
            go_ret2
            exact ⟨by rw [HN.out]; exact ⟨_, rfl⟩, rfl⟩
          · have d1 := dv_hi hd haf
            have HN : Hid (R = none) := by
              rw [if_neg (by omega)] at hpa
              exact hpa
            clear hpa ha hacc d1
            by_cases hlo : (97 : Int) ≤ (d[k]'hkn).toNat
            · have hhi : ¬ ((d[k]'hkn).toNat : Int) ≤ 102 := by omega
              clear haf
              go_wp2_with (go_at_call 54; refine (digit_any _ _).mono ?_; rintro e w' ⟨rfl, rfl⟩; rw [hd])
              go_ret2
              exact ⟨by rw [HN.out]; exact ⟨_, rfl⟩, rfl⟩
            · clear haf
              go_wp2_with (go_at_call 54; refine (digit_any _ _).mono ?_; rintro e w' ⟨rfl, rfl⟩; rw [hd])
              go_ret2
              exact ⟨by rw [HN.out]; exact ⟨_, rfl⟩, rfl⟩
      · have hkn2 : ¬ (k : Int) < d.size := by omega
        have HN : Hid (R = some acc ∧ a = acc) := ⟨by rw [hpa, List.drop_eq_nil_of_le (by rw [lst_length]; omega)]; rfl, ha⟩
        have hd0 : decide ((0 : Int) < d.size) = true := by simp; omega
        clear ha hacc hpa a0 a1
        go_wp2
        go_ret2
        exact ⟨by rw [HN.out.1, HN.out.2]; rfl, rfl⟩

theorem two_0x (s : ByteArray) (h0 : 0 < s.size) (h1 : 1 < s.size) : (lst s).take 2 = [s[0]'h0, s[1]'h1] := by
  have e0 := drop_cons s 0 h0
  have e1 := drop_cons s 1 h1
  rw [List.drop_zero] at e0
  rw [e0, e1]
  rfl

theorem u8_of {c : UInt8} {n : Nat} (h : c.toNat = n) : c = UInt8.ofNat n := by
  subst h
  simp

set_option maxHeartbeats 4000000 in
set_option maxRecDepth 8000 in
theorem num16_any (s : ByteArray) (w : World) (h0 : 0 < s.size) (h3 : 3 ≤ s.size) (h18 : s.size ≤ 18) (hz : (s[0]'h0).toNat = 48) (hx : (s[1]'(by omega)).toNat = 120) :
    Calls Tryd.prog 55 #[.string s] w fun e w' => Worth (parse 16 0 ((lst s).drop 2)) e ∧ w' = w := by
  rw [← drop2]
  have hdz := size2 s
  have e1 : (1 : Int) < s.size := by omega
  have e2 : ¬ (s.size : Int) < 3 := by omega
  have e3 : ¬ (18 : Int) < s.size := by omega
  have e48 : (((s[0]'h0).toNat : Int) == 48) = true := by rw [hz]; rfl
  have e120 : (((s[1]'(by omega)).toNat : Int) == 120) = true := by rw [hx]; rfl
  have e120' : (((s[1]'(by omega)).toNat : Int) != 120) = false := by rw [hx]; rfl
  have h2 : 2 ≤ s.size := by omega
  clear hz hx
  generalize hR : parse 16 0 (lst (s.extract 2 s.size)) = R
  have HR : Hid (R = parse 16 0 (lst (s.extract 2 s.size))) := hR.symm
  clear hR
  go_enter Tryd.func55, Tryd.ntmps55
  go_wp2
  generalize s.extract 2 s.size = d at *
  have h0d : 0 < d.size := by omega
  have hs : d.size ≤ 100000000 := by omega
  clear hdz

  go_loop [2, 3, 6, 7] (fun r2 r3 vn vi => ∃ (k acc : Nat) (a : Int), vn = .int .u64 a ∧ vi = .int .i64 k ∧ k ≤ d.size ∧ Hid (a = (acc : Int) ∧ acc < 18446744073709551616 ∧ R = parse 16 acc ((lst d).drop k)))
    (fun _ _ _ vi => d.size - (intOf vi).toNat)
  case atStart => exact ⟨0, 0, 0, rfl, rfl, Nat.zero_le _, rfl, by omega, HR.out⟩
  case round =>
    obtain ⟨k, acc, a, rfl, rfl, hk, hh⟩ := hrel
    obtain ⟨ha, hacc, hpa⟩ := hh.out
    clear hh
    have a0 : 0 ≤ a := by omega
    have a1 : a < 18446744073709551616 := by omega
    by_cases hkn : k < d.size
    · rw [drop_cons d k hkn, parse_cons] at hpa
      rcases Bool.eq_false_or_eq_true (dgN (d[k]'hkn).toNat) with hd | hd
      · obtain ⟨d1, d2, d3⟩ := dv_dg hd
        by_cases hov : (18446744073709551615 - ((d[k]'hkn).toNat - 48 : Int)) / 16 < a
        · have HN : Hid (R = none) := by
            rw [if_neg (by omega)] at hpa
            exact hpa
          clear hpa ha hacc d1
          go_wp2_with (go_at_call 54; refine (digit_any _ _).mono ?_; rintro e w' ⟨rfl, rfl⟩; rw [hd])
          go_ret2
          exact ⟨by rw [HN.out]; exact ⟨_, rfl⟩, rfl⟩
        · have HN : Hid (a * 16 + ((d[k]'hkn).toNat - 48 : Int) = ((acc * 16 + dv (d[k]'hkn) : Nat) : Int) ∧ acc * 16 + dv (d[k]'hkn) < 18446744073709551616 ∧ R = parse 16 (acc * 16 + dv (d[k]'hkn)) ((lst d).drop (k + 1))) := by
            rw [if_pos (by omega)] at hpa
            exact ⟨by omega, by omega, hpa⟩
          have hov2 : a * 16 + ((d[k]'hkn).toNat - 48 : Int) < 18446744073709551616 := by omega
          clear hpa ha hacc d1
          go_wp2_with (go_at_call 54; refine (digit_any _ _).mono ?_; rintro e w' ⟨rfl, rfl⟩; rw [hd])
          go_round
          case rel => exact ⟨k + 1, _, a * 16 + ((d[k]'hkn).toNat - 48 : Int), by first | rfl | (congr 1; omega), by go_num, by omega, HN⟩
          case measure => simp [intOf]; omega
      · have hnd : ((d[k]'hkn).toNat : Int) < 256 := by have := (d[k]'hkn).toNat_lt; omega
        by_cases haf : 97 ≤ (d[k]'hkn).toNat ∧ (d[k]'hkn).toNat ≤ 102
        · have d1 := dv_af hd haf
          have d2 : (97 : Int) ≤ (d[k]'hkn).toNat := by omega
          have d3 : ((d[k]'hkn).toNat : Int) ≤ 102 := by omega
          clear haf
          by_cases hov : (18446744073709551615 - ((d[k]'hkn).toNat - 87 : Int)) / 16 < a
          · have HN : Hid (R = none) := by
              rw [if_neg (by omega)] at hpa
              exact hpa
            clear hpa ha hacc d1
            go_wp2_with (go_at_call 54; refine (digit_any _ _).mono ?_; rintro e w' ⟨rfl, rfl⟩; rw [hd])
            go_ret2
            exact ⟨by rw [HN.out]; exact ⟨_, rfl⟩, rfl⟩
          · have HN : Hid (a * 16 + ((d[k]'hkn).toNat - 87 : Int) = ((acc * 16 + dv (d[k]'hkn) : Nat) : Int) ∧ acc * 16 + dv (d[k]'hkn) < 18446744073709551616 ∧ R = parse 16 (acc * 16 + dv (d[k]'hkn)) ((lst d).drop (k + 1))) := by
              rw [if_pos (by omega)] at hpa
              exact ⟨by omega, by omega, hpa⟩
            have hov2 : a * 16 + ((d[k]'hkn).toNat - 87 : Int) < 18446744073709551616 := by omega
            clear hpa ha hacc d1
            go_wp2_with (go_at_call 54; refine (digit_any _ _).mono ?_; rintro e w' ⟨rfl, rfl⟩; rw [hd])
            go_round
            case rel => exact ⟨k + 1, _, a * 16 + ((d[k]'hkn).toNat - 87 : Int), by first | rfl | (congr 1; omega), by go_num, by omega, HN⟩
            case measure => simp [intOf]; omega
        · have d1 := dv_hi hd haf
          have HN : Hid (R = none) := by
            rw [if_neg (by omega)] at hpa
            exact hpa
          clear hpa ha hacc d1
          by_cases hlo : (97 : Int) ≤ (d[k]'hkn).toNat
          · have hhi : ¬ ((d[k]'hkn).toNat : Int) ≤ 102 := by omega
            clear haf
            go_wp2_with (go_at_call 54; refine (digit_any _ _).mono ?_; rintro e w' ⟨rfl, rfl⟩; rw [hd])
            go_ret2
            exact ⟨by rw [HN.out]; exact ⟨_, rfl⟩, rfl⟩
          · clear haf
            go_wp2_with (go_at_call 54; refine (digit_any _ _).mono ?_; rintro e w' ⟨rfl, rfl⟩; rw [hd])
            go_ret2
            exact ⟨by rw [HN.out]; exact ⟨_, rfl⟩, rfl⟩
    · have hkn2 : ¬ (k : Int) < d.size := by omega
      have HN : Hid (R = some acc ∧ a = acc) := ⟨by rw [hpa, List.drop_eq_nil_of_le (by rw [lst_length]; omega)]; rfl, ha⟩
      have hd0 : decide ((0 : Int) < d.size) = true := by simp; omega
      clear ha hacc hpa a0 a1
      go_wp2
      go_ret2
      exact ⟨by rw [HN.out.1, HN.out.2]; rfl, rfl⟩

set_option maxHeartbeats 2000000 in
theorem num_no (s : ByteArray) (w : World) (h0 : 0 < s.size) (h1 : 1 < s.size) (hz : (s[0]'h0).toNat = 48) (hx : ¬ (s[1]'h1).toNat = 120 ∨ s.size < 3 ∨ 18 < s.size) :
    Calls Tryd.prog 55 #[.string s] w fun e w' => Worth none e ∧ w' = w := by
  have e1 : (1 : Int) < s.size := by omega
  have e48 : (((s[0]'h0).toNat : Int) == 48) = true := by rw [hz]; rfl
  clear hz
  by_cases hx1 : (s[1]'h1).toNat = 120
  · have e120 : ((s[1]'h1).toNat : Int) = 120 := by omega
    by_cases hx2 : s.size < 3
    · have e3 : (s.size : Int) < 3 := by omega
      clear hx hx1 hx2
      go_enter Tryd.func55, Tryd.ntmps55
      go_wp2
      go_ret2
      exact ⟨⟨_, rfl⟩, rfl⟩
    · have e3 : ¬ (s.size : Int) < 3 := by omega
      have e4 : (18 : Int) < s.size := by omega
      clear hx hx1 hx2
      go_enter Tryd.func55, Tryd.ntmps55
      go_wp2
      go_ret2
      exact ⟨⟨_, rfl⟩, rfl⟩
  · have e120 : ¬ ((s[1]'h1).toNat : Int) = 120 := by omega
    clear hx hx1
    go_enter Tryd.func55, Tryd.ntmps55
    go_wp2
    go_ret2
    exact ⟨⟨_, rfl⟩, rfl⟩

theorem num_any (s : ByteArray) (w : World) (h0 : 0 < s.size) (hs : s.size ≤ 100000000) :
    Calls Tryd.prog 55 #[.string s] w fun e w' => Worth (numV (lst s)) e ∧ w' = w := by
  by_cases hz : 1 < s.size ∧ (s[0]'h0).toNat = 48
  · obtain ⟨hz1, hz2⟩ := hz
    have ht := two_0x s h0 hz1
    by_cases hx : (s[1]'hz1).toNat = 120
    · rw [numV_hex (by rw [ht, u8_of hz2, u8_of hx]; rfl), lst_length]
      by_cases h2 : s.size = 2
      · rw [if_pos h2]
        exact num_no s w h0 hz1 hz2 (by omega)
      · rw [if_neg h2]
        by_cases h18 : s.size ≤ 18
        · rw [if_pos h18]
          exact num16_any s w h0 (by omega) h18 hz2 hx
        · rw [if_neg h18]
          exact num_no s w h0 hz1 hz2 (by omega)
    · rw [numV_zero (by rw [ht]; intro h; simp at h; exact hx (by rw [h.2]; rfl)) (by rw [take1 s h0, u8_of hz2]; rfl), if_neg (by intro h; have := lst_length s; rw [h] at this; simp at this; omega)]
      exact num_no s w h0 hz1 hz2 (.inl hx)
  · have hn : numV (lst s) = parse 10 0 (lst s) := by
      by_cases h48 : (s[0]'h0).toNat = 48
      · have h1 : s.size = 1 := by omega
        have ht := take1 s h0
        rw [u8_of h48, List.take_of_length_le (by rw [lst_length]; omega)] at ht
        rw [ht]
        rfl
      · exact numV_ten (by rw [take1 s h0]; intro h; simp at h; exact h48 (by rw [h]; rfl))
    rw [hn]
    exact num10_any s w h0 hs hz

end Go.Proofs.YtdjjlccpmfhkiaaDoor
