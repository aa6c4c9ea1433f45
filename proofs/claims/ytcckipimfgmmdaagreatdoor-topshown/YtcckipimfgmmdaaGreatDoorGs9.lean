/-
  PParse.
-/
import Derived.Test.YtcckipimfgmmdaaGreatDoorGs8
set_option maxHeartbeats 4000000
namespace Go.Proofs.YtcckipimfgmmdaaGreatDoor.P
open Go.RowKit
theorem bits_lo : ∀ n ∈ List.range 128, loN n = true -> bits .or .u8 (n : Int) 32 = n := by decide +kernel
theorem bits_us : bits .or .u8 95 32 = 127 := by decide +kernel
theorem lower_any (n : Int) (w : World) : Calls Tryz.prog 177 #[.int .u8 n] w fun e w' => e = .returned (.int .u8 (bits .or .u8 n 32)) /\ w' = w := by
 go_enter Tryz.func177, Tryz.ntmps177
 go_wp2
 go_ret
 exact ⟨rfl, rfl⟩
def Parsed (r : Option Nat) (e : Ending) : Prop :=
 match r with
 | some n => e = .returned (.tuple #[.int .u64 n, .nilIface])
 | none => ∃ (m c : Int), (c = 1 \/ c = 2) /\ e = .returned (.tuple #[.int .u64 m, .iface 246 (.int .i64 c)])
theorem Parsed.num {r : Option Nat} {n : Int} {m : Nat} {e : Ending} (h : r = some m) (hn : n = m) (he : e = .returned (.tuple #[.int .u64 n, .nilIface])) : Parsed r e := by
 subst h hn
 exact he
theorem Parsed.bad {r : Option Nat} {m c : Int} {e : Ending} (h : r = none) (hc : c = 1 \/ c = 2) (he : e = .returned (.tuple #[.int .u64 m, .iface 246 (.int .i64 c)])) : Parsed r e := by
 subst h
 exact ⟨m, c, hc, he⟩
theorem parse_cons (b a : Nat) (c : UInt8) (r : (List UInt8)) : parse b a (c :: r) = if dv c < b /\ a * b + dv c < 18446744073709551616 then parse b (a * b + dv c) r else none := rfl
theorem dv_dg {c : UInt8} (h : dgN c.toNat = true) : (dv c : Int) = (c.toNat : Int) - 48 /\ 48 <= (c.toNat : Int) /\ (c.toNat : Int) <= 57 := by
 unfold dv
 rw [if_pos h]
 simp [dgN] at h
 omega
theorem dv_lo {c : UInt8} (h : dgN c.toNat = false) (h2 : loN c.toNat = true) : (dv c : Int) = (c.toNat : Int) - 87 /\ 97 <= (c.toNat : Int) /\ (c.toNat : Int) <= 122 := by
 unfold dv
 rw [if_neg (by rw [h]; decide), if_pos h2]
 simp [loN] at h2
 omega
theorem dv_us {c : UInt8} (h : dgN c.toNat = false) (h2 : loN c.toNat = false) : dv c = 99 := by
 unfold dv
 rw [if_neg (by rw [h]; decide), if_neg (by rw [h2]; decide)]
theorem wrap_over {x : Int} (h1 : 18446744073709551616 <= x) (h2 : x < 36893488147419103232) : IntKind.u64.wrap x = x - 18446744073709551616 := by
 rw [IntKind.wrap_u64]
 omega
theorem max64 : IntKind.u64.wrap (IntKind.u64.wrap 18446744073709551616 - 1) = 18446744073709551615 := by
 rw [IntKind.wrap_u64, IntKind.wrap_u64]
 decide
theorem bytesRow_cell (w : World) (s : ByteArray) (cap : Nat) (fr : Nat × Nat) (j : Nat) (hj : j < s.size) : (w.alloc (.cells (bytesRow s cap) 5 fr)).cell? ⟨w.heap.size, j, none⟩ = some (.int .u8 ((lst s).getD j 0).toNat) := by
 rw [World.cell?_alloc_mark, bytesRow_at s cap j hj]
 rw [List.getD_eq_getElem?_getD, lst_at s j hj]
 rfl
set_option maxRecDepth 8000 in
theorem parse10_any (s : ByteArray) (w : World) (hw : ∀ c ∈ lst s, wN c.toNat = true) (hs : s.size <= 100000000) :
  Calls Tryz.prog 159 #[.string s, .int .i64 10, .int .i64 64] w fun e w' => Below w.heap.size w w' /\ Parsed (if s.size = 0 then none else parse 10 0 (lst s)) e := by
 by_cases h0 : s.size = 0
 ·have e : s = ⟨#[]⟩ := ByteArray.ext (Array.eq_empty_of_size_eq_zero h0)
  rw [if_pos h0]
  subst e
  go_enter Tryz.func159, Tryz.ntmps159
  go_wp2
  go_ret2
  exact ⟨Below.refl _ _, Parsed.bad rfl (.inr rfl) rfl⟩
 ·rw [if_neg h0]
  have hemp : s.toList.isEmpty = false := by
   rw [show s.toList = lst s from ByteArray.toList_eq s]
   cases h : lst s with
   | nil => have := lst_length s; rw [h] at this; simp at this; omega
   | cons c r => rfl
  have hcv := run_bytes_of_string (P := Tryz.prog) w 9 62 5 s Tryz.underlying9 Tryz.underlying62 Tryz.underlying5
  have hB := bytesRow_cell w.drew s (grownCap w s.size 0 5) ((bytesRow s (grownCap w s.size 0 5)).size, (bytesRow s (grownCap w s.size 0 5)).size + 1)
  have HBE : Hid (Below w.heap.size w (w.drew.alloc (.cells (bytesRow s (grownCap w s.size 0 5)) 5 ((bytesRow s (grownCap w s.size 0 5)).size, (bytesRow s (grownCap w s.size 0 5)).size + 1)))) := ((Below.refl w.heap.size w).drew).alloc (Nat.le_refl _) _
  generalize w.drew.alloc (.cells (bytesRow s (grownCap w s.size 0 5)) 5 ((bytesRow s (grownCap w s.size 0 5)).size, (bytesRow s (grownCap w s.size 0 5)).size + 1)) = W1 at hcv hB HBE
  have HW : Hid (∀ c ∈ lst s, wN c.toNat = true) := hw
  have HB : Hid (∀ j, j < s.size -> W1.cell? ⟨w.heap.size, j, none⟩ = some (.int .u8 ((lst s).getD j 0).toNat)) := hB
  have hmv := max64
  clear hw hB h0
  go_enter Tryz.func159, Tryz.ntmps159
  go_wp2
  go_loop [12, 13, 101] (fun vu vn vi => ∃ (k acc : Nat) (a : Int), vu = .bool false /\ vn = .int .u64 a /\ vi = .int .i64 k /\ k <= s.size /\ Hid (a = (acc : Int) /\ acc < 18446744073709551616 /\ parse 10 0 (lst s) = parse 10 acc ((lst s).drop k)))
   (fun _ _ vi => s.size - (intOf vi).toNat)
  case atStart => exact ⟨0, 0, 0, rfl, rfl, rfl, Nat.zero_le _, rfl, by omega, rfl⟩
  case round =>
   obtain ⟨k, acc, a, rfl, rfl, rfl, hk, hh⟩ := hrel
   obtain ⟨ha, hacc, hpa⟩ := hh.out
   clear hh
   have a0 : 0 <= a := by omega
   have a1 : a < 18446744073709551616 := by omega
   by_cases hkn : k < s.size
   ·have hc := HB.out k hkn
    have hg : (lst s).getD k 0 = s[k]'hkn := by rw [List.getD_eq_getElem?_getD, lst_at s k hkn]; rfl
    rw [drop_cons s k hkn] at hpa
    have hwc := HW.out (s[k]'hkn) (List.mem_of_getElem? (lst_at s k hkn))
    rw [hg] at hc
    generalize s[k]'hkn = c at hc hpa hwc
    clear hg
    rw [parse_cons] at hpa
    generalize hz : ((c.toNat : Nat) : Int) = z at hc
    rcases Bool.eq_false_or_eq_true (dgN c.toNat) with hd | hd
    ·obtain ⟨d1, d2, d3⟩ := dv_dg hd
     rw [hz] at d1 d2 d3
     by_cases hcut : 1844674407370955162 <= a
     ·have HN : Hid (parse 10 0 (lst s) = none) := by
       rw [if_neg (by omega)] at hpa
       exact hpa
      clear hpa hwc hd ha hacc d1 hz
      go_wp2
      go_ret2
      exact ⟨HBE.out, Parsed.bad HN.out (.inl rfl) rfl⟩
     ·by_cases hov : 18446744073709551616 <= a * 10 + (z - 48)
      ·have HN : Hid (parse 10 0 (lst s) = none) := by
        rw [if_neg (by omega)] at hpa
        exact hpa
       have hwr : IntKind.u64.wrap (a * 10 + (z - 48)) = a * 10 + (z - 48) - 18446744073709551616 := wrap_over hov (by omega)
       clear hpa hwc hd ha hacc d1 hz
       go_wp2
       go_ret2
       exact ⟨HBE.out, Parsed.bad HN.out (.inl rfl) rfl⟩
      ·have HN : Hid (a * 10 + (z - 48) = ((acc * 10 + dv c : Nat) : Int) /\ acc * 10 + dv c < 18446744073709551616 /\ parse 10 0 (lst s) = parse 10 (acc * 10 + dv c) ((lst s).drop (k + 1))) := by
        rw [if_pos (by omega)] at hpa
        exact ⟨by omega, by omega, hpa⟩
       have hov2 : a * 10 + (z - 48) < 18446744073709551616 := by omega
       clear hov
       clear hpa hwc hd ha hacc d1 hz
       go_wp2
       go_round
       case rel => exact ⟨k + 1, acc * 10 + dv c, a * 10 + (z - 48), rfl, by first | rfl | (congr 1; omega), by go_num, by omega, HN⟩
       case measure => simp [intOf]; omega
    ·rcases Bool.eq_false_or_eq_true (loN c.toNat) with hl | hl
     ·obtain ⟨d1, d2, d3⟩ := dv_lo hd hl
      have hbl := bits_lo c.toNat (by rw [List.mem_range]; omega) hl
      rw [hz] at d1 d2 d3 hbl
      have HN : Hid (parse 10 0 (lst s) = none) := by
       rw [if_neg (by omega)] at hpa
       exact hpa
      clear hpa hwc hd ha hacc d1 hz hl
      go_wp2_with (go_at_call 177; refine (lower_any _ _).mono ?_; rintro e w' ⟨rfl, rfl⟩; rw [hbl])
      go_ret2
      exact ⟨HBE.out, Parsed.bad HN.out (.inr rfl) rfl⟩
     ·have hu : c.toNat = 95 := by
       unfold wN at hwc
       rw [hd, hl] at hwc
       simpa using hwc
      rw [if_neg (by rw [dv_us hd hl]; omega)] at hpa
      have HN : Hid (parse 10 0 (lst s) = none) := hpa
      obtain rfl : z = 95 := by omega
      have hbu := bits_us
      clear hpa hwc hd hl hu hz ha hacc
      go_wp2_with (go_at_call 177; refine (lower_any _ _).mono ?_; rintro e w' ⟨rfl, rfl⟩; rw [hbu])
      go_ret2
      exact ⟨HBE.out, Parsed.bad HN.out (.inr rfl) rfl⟩
   ·obtain rfl : k = s.size := by omega
    have HN : Hid (parse 10 0 (lst s) = some acc /\ a = acc) := ⟨by rw [hpa, List.drop_eq_nil_of_le (by rw [lst_length]; exact Nat.le_refl _)]; rfl, ha⟩
    clear ha hacc hpa a0 a1
    go_wp2
    go_ret2
    exact ⟨HBE.out, Parsed.num HN.out.1 HN.out.2 rfl⟩
set_option maxRecDepth 8000 in
theorem parse16_any (s : ByteArray) (w : World) (hw : ∀ c ∈ lst s, wN c.toNat = true) (hs : s.size <= 100000000) :
  Calls Tryz.prog 159 #[.string s, .int .i64 16, .int .i64 64] w fun e w' => Below w.heap.size w w' /\ Parsed (if s.size = 0 then none else parse 16 0 (lst s)) e := by
 by_cases h0 : s.size = 0
 ·have e : s = ⟨#[]⟩ := ByteArray.ext (Array.eq_empty_of_size_eq_zero h0)
  rw [if_pos h0]
  subst e
  go_enter Tryz.func159, Tryz.ntmps159
  go_wp2
  go_ret2
  exact ⟨Below.refl _ _, Parsed.bad rfl (.inr rfl) rfl⟩
 ·rw [if_neg h0]
  have hemp : s.toList.isEmpty = false := by
   rw [show s.toList = lst s from ByteArray.toList_eq s]
   cases h : lst s with
   | nil => have := lst_length s; rw [h] at this; simp at this; omega
   | cons c r => rfl
  have hcv := run_bytes_of_string (P := Tryz.prog) w 9 62 5 s Tryz.underlying9 Tryz.underlying62 Tryz.underlying5
  have hB := bytesRow_cell w.drew s (grownCap w s.size 0 5) ((bytesRow s (grownCap w s.size 0 5)).size, (bytesRow s (grownCap w s.size 0 5)).size + 1)
  have HBE : Hid (Below w.heap.size w (w.drew.alloc (.cells (bytesRow s (grownCap w s.size 0 5)) 5 ((bytesRow s (grownCap w s.size 0 5)).size, (bytesRow s (grownCap w s.size 0 5)).size + 1)))) := ((Below.refl w.heap.size w).drew).alloc (Nat.le_refl _) _
  generalize w.drew.alloc (.cells (bytesRow s (grownCap w s.size 0 5)) 5 ((bytesRow s (grownCap w s.size 0 5)).size, (bytesRow s (grownCap w s.size 0 5)).size + 1)) = W1 at hcv hB HBE
  have HW : Hid (∀ c ∈ lst s, wN c.toNat = true) := hw
  have HB : Hid (∀ j, j < s.size -> W1.cell? ⟨w.heap.size, j, none⟩ = some (.int .u8 ((lst s).getD j 0).toNat)) := hB
  have hmv := max64
  clear hw hB h0
  go_enter Tryz.func159, Tryz.ntmps159
  go_wp2
  go_loop [12, 13, 101] (fun vu vn vi => ∃ (k acc : Nat) (a : Int), vu = .bool false /\ vn = .int .u64 a /\ vi = .int .i64 k /\ k <= s.size /\ Hid (a = (acc : Int) /\ acc < 18446744073709551616 /\ parse 16 0 (lst s) = parse 16 acc ((lst s).drop k)))
   (fun _ _ vi => s.size - (intOf vi).toNat)
  case atStart => exact ⟨0, 0, 0, rfl, rfl, rfl, Nat.zero_le _, rfl, by omega, rfl⟩
  case round =>
   obtain ⟨k, acc, a, rfl, rfl, rfl, hk, hh⟩ := hrel
   obtain ⟨ha, hacc, hpa⟩ := hh.out
   clear hh
   have a0 : 0 <= a := by omega
   have a1 : a < 18446744073709551616 := by omega
   by_cases hkn : k < s.size
   ·have hc := HB.out k hkn
    have hg : (lst s).getD k 0 = s[k]'hkn := by rw [List.getD_eq_getElem?_getD, lst_at s k hkn]; rfl
    rw [drop_cons s k hkn] at hpa
    have hwc := HW.out (s[k]'hkn) (List.mem_of_getElem? (lst_at s k hkn))
    rw [hg] at hc
    generalize s[k]'hkn = c at hc hpa hwc
    clear hg
    rw [parse_cons] at hpa
    generalize hz : ((c.toNat : Nat) : Int) = z at hc
    rcases Bool.eq_false_or_eq_true (dgN c.toNat) with hd | hd
    ·obtain ⟨d1, d2, d3⟩ := dv_dg hd
     rw [hz] at d1 d2 d3
     by_cases hcut : 1152921504606846976 <= a
     ·have HN : Hid (parse 16 0 (lst s) = none) := by
       rw [if_neg (by omega)] at hpa
       exact hpa
      clear hpa hwc hd ha hacc d1 hz
      go_wp2
      go_ret2
      exact ⟨HBE.out, Parsed.bad HN.out (.inl rfl) rfl⟩
     ·by_cases hov : 18446744073709551616 <= a * 16 + (z - 48)
      ·exfalso; omega
      ·have HN : Hid (a * 16 + (z - 48) = ((acc * 16 + dv c : Nat) : Int) /\ acc * 16 + dv c < 18446744073709551616 /\ parse 16 0 (lst s) = parse 16 (acc * 16 + dv c) ((lst s).drop (k + 1))) := by
        rw [if_pos (by omega)] at hpa
        exact ⟨by omega, by omega, hpa⟩
       have hov2 : a * 16 + (z - 48) < 18446744073709551616 := by omega
       clear hov
       clear hpa hwc hd ha hacc d1 hz
       go_wp2
       go_round
       case rel => exact ⟨k + 1, acc * 16 + dv c, a * 16 + (z - 48), rfl, by first | rfl | (congr 1; omega), by go_num, by omega, HN⟩
       case measure => simp [intOf]; omega
    ·rcases Bool.eq_false_or_eq_true (loN c.toNat) with hl | hl
     ·obtain ⟨d1, d2, d3⟩ := dv_lo hd hl
      have hbl := bits_lo c.toNat (by rw [List.mem_range]; omega) hl
      rw [hz] at d1 d2 d3 hbl
      by_cases h16 : 103 <= z
      ·have HN : Hid (parse 16 0 (lst s) = none) := by
        rw [if_neg (by omega)] at hpa
        exact hpa
       clear hpa hwc hd ha hacc d1 hz hl
       go_wp2_with (go_at_call 177; refine (lower_any _ _).mono ?_; rintro e w' ⟨rfl, rfl⟩; rw [hbl])
       go_ret2
       exact ⟨HBE.out, Parsed.bad HN.out (.inr rfl) rfl⟩
      ·by_cases hcut : 1152921504606846976 <= a
       ·have HN : Hid (parse 16 0 (lst s) = none) := by
         rw [if_neg (by omega)] at hpa
         exact hpa
        clear hpa hwc hd ha hacc d1 hz hl
        go_wp2_with (go_at_call 177; refine (lower_any _ _).mono ?_; rintro e w' ⟨rfl, rfl⟩; rw [hbl])
        go_ret2
        exact ⟨HBE.out, Parsed.bad HN.out (.inl rfl) rfl⟩
       ·by_cases hov : 18446744073709551616 <= a * 16 + (z - 87)
        ·exfalso; omega
        ·have HN : Hid (a * 16 + (z - 87) = ((acc * 16 + dv c : Nat) : Int) /\ acc * 16 + dv c < 18446744073709551616 /\ parse 16 0 (lst s) = parse 16 (acc * 16 + dv c) ((lst s).drop (k + 1))) := by
          rw [if_pos (by omega)] at hpa
          exact ⟨by omega, by omega, hpa⟩
         have hov2 : a * 16 + (z - 87) < 18446744073709551616 := by omega
         clear hov
         clear hpa hwc hd ha hacc d1 hz hl
         go_wp2_with (go_at_call 177; refine (lower_any _ _).mono ?_; rintro e w' ⟨rfl, rfl⟩; rw [hbl])
         go_round
         case rel => exact ⟨k + 1, acc * 16 + dv c, a * 16 + (z - 87), rfl, by first | rfl | (congr 1; omega), by go_num, by omega, HN⟩
         case measure => simp [intOf]; omega
     ·have hu : c.toNat = 95 := by
       unfold wN at hwc
       rw [hd, hl] at hwc
       simpa using hwc
      rw [if_neg (by rw [dv_us hd hl]; omega)] at hpa
      have HN : Hid (parse 16 0 (lst s) = none) := hpa
      obtain rfl : z = 95 := by omega
      have hbu := bits_us
      clear hpa hwc hd hl hu hz ha hacc
      go_wp2_with (go_at_call 177; refine (lower_any _ _).mono ?_; rintro e w' ⟨rfl, rfl⟩; rw [hbu])
      go_ret2
      exact ⟨HBE.out, Parsed.bad HN.out (.inr rfl) rfl⟩
   ·obtain rfl : k = s.size := by omega
    have HN : Hid (parse 16 0 (lst s) = some acc /\ a = acc) := ⟨by rw [hpa, List.drop_eq_nil_of_le (by rw [lst_length]; exact Nat.le_refl _)]; rfl, ha⟩
    clear ha hacc hpa a0 a1
    go_wp2
    go_ret2
    exact ⟨HBE.out, Parsed.num HN.out.1 HN.out.2 rfl⟩
end Go.Proofs.YtcckipimfgmmdaaGreatDoor.P
