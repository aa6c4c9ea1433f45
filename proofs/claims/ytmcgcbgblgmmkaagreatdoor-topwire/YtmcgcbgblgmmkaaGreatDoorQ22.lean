/-
  PClone PParse PErr PWorth PSmall PSize PFirst.
-/
import Derived.Test.YtmcgcbgblgmmkaaGreatDoorQ15
import Derived.Lib.BufferWrite
import Derived.Lib.UnsafeStr
import Derived.Lib.IfaceEq
set_option maxRecDepth 8000
set_option maxHeartbeats 4000000
namespace Go.Proofs.YtmcgcbgblgmmkaaGreatDoor.P
open F (Tryz.info5)
open F.D (Blk blk_new ret_bool)
open M (bar_lst lst lst_length)
open Go.RowKit
theorem Tryz.cells5 : Tryz.prog.cellsOf 5 = 1 := by kernel_rfl
theorem lite_any (s : ByteArray) (w : World) (hs : s.size <= 100000000) :
  Calls Tryz.prog 137 #[.string s] w fun e w' => e = .returned (.string s) /\ Below w.heap.size w w' := by
 rcases Nat.eq_zero_or_pos s.size with h0 | h0
 ·have e : s = ⟨#[]⟩ := ByteArray.ext (Array.eq_empty_of_size_eq_zero h0)
  subst e
  go_enter Tryz.func137, Tryz.ntmps137
  go_wp2
  go_ret
  exact ⟨rfl, Below.refl _ _⟩
 ·obtain ⟨i0, hi, hz0, hz1, hz2⟩ := info_parts Tryz.info5
  obtain ⟨M, hM⟩ : ∃ M, M = madeCells (Value.int .u8 0).cells (((s.size : Nat) : Int).toNat * i0.size) := ⟨_, rfl⟩
  have hMs : M.size = s.size := by rw [hM, size_madeCells, hz1]; simp
  have hmk : ∀ W : World, (Instr.makeSlice 37 (.int .i64 (s.size : Int)) (.int .i64 (s.size : Int))).run Tryz.prog W = .ok (.slice (some ⟨W.heap.size, 0, none⟩) s.size s.size) (W.alloc (.cells M 5)) := fun W => by
   have h := run_make (P := Tryz.prog) W 37 5 i0 (.int .u8 0) Tryz.underlying37 hi hz0 .i64 .i64 (s.size : Int) (s.size : Int) (by omega) (by omega) (by rw [hz2]; omega) (by omega)
   rw [<- hM] at h
   simpa using h
  clear hM
  obtain ⟨Y, hY⟩ : ∃ Y : Array Value, Y.toList = Lib.byteCells (lst s) /\ (Builtin.copy_ #[37, 9] 3 #[.slice (some ⟨w.heap.size, 0, none⟩) s.size s.size, .string s]).run Tryz.prog (w.alloc (.cells M 5)) = .ok (goInt s.size) ((w.alloc (.cells M 5)).setRow w.heap.size Y) := by
   refine ⟨_, ?_, Lib.run_copy_row_string (P := Tryz.prog) (w.alloc (.cells M 5)) 37 9 3 5 w.heap.size 0 s.size s.size s M 5 Tryz.underlying37 (by rw [hi]; simp [hz1]) (heap_alloc_new w _) (Nat.le_refl _) (by omega)⟩
   rw [List.toList_toArray, List.take_zero, List.nil_append, List.drop_of_length_le (by rw [Array.length_toList]; omega), List.append_nil]
   rfl
  obtain ⟨hYl, hcp⟩ := hY
  have hB := (blk_new w M 5).row Y
  have hYs : Y.size = s.size := by rw [<- Array.length_toList, hYl, Lib.byteCells_length, lst_length]
  have hus : (Builtin.unsafeString_ #[245, 3] 9 #[.pointer (some ⟨w.heap.size, 0, none⟩), .int .i64 s.size]).run Tryz.prog ((w.alloc (.cells M 5)).setRow w.heap.size Y) = .ok (.string s) (((w.alloc (.cells M 5)).setRow w.heap.size Y).freeze ⟨w.heap.size, 0, none⟩ s.size) := by
   have h := Lib.run_unsafeString_row (P := Tryz.prog) (w := (w.alloc (.cells M 5)).setRow w.heap.size Y) 245 3 9 5 Tryz.underlying245 Tryz.cells5 w.heap.size Y.size (by unfold World.shape?; unfold Blk at hB; rw [hB]) (lst s) (fun e => by have := lst_length s; rw [e] at this; simp at this; omega) (by rw [lst_length]; omega) (by rw [lst_length]; omega)
    (fun j x hx => by
     have hc := hB.cell j
     rw [show (⟨w.heap.size, j, none⟩ : Addr) = (⟨w.heap.size, 0, none⟩ : Addr).add j from by unfold Addr.add; split <;> simp_all] at hc
     rw [hc, hYl]
     simp [Lib.byteCells, hx])
   rw [lst_length] at h
   rw [h]
   have : (⟨(lst s).toArray⟩ : ByteArray) = s := bar_lst s
   rw [this]
  clear hB
  have hb1 : Below w.heap.size w (w.alloc (.cells M 5)) := (Below.refl _ w).alloc (Nat.le_refl _) _
  have hb2 : Below w.heap.size (w.alloc (.cells M 5)) ((w.alloc (.cells M 5)).setRow w.heap.size Y) := ⟨rfl, rfl, rfl, by simp, fun k hk => setRow_other _ _ _ _ (by omega)⟩
  go_enter Tryz.func137, Tryz.ntmps137
  go_wp2
  go_ret
  exact ⟨rfl, Lib.below_freeze (hb1.trans hb2) (p := ⟨w.heap.size, 0, none⟩) (Nat.le_refl _) _⟩
theorem clone_any (s : ByteArray) (w : World) (hs : s.size <= 100000000) :
  Calls Tryz.prog 96 #[.string s] w fun e w' => e = .returned (.string s) /\ Below w.heap.size w w' := by
 go_enter Tryz.func96, Tryz.ntmps96
 go_wp2_with (go_at_call 137; refine (lite_any s _ hs).mono ?_; rintro e w' ⟨rfl, hb⟩)
 go_ret
 exact ⟨rfl, hb⟩
def pre (s p : ByteArray) : Bool := (lst p).isPrefixOf (lst s)
theorem pre_long {s p : ByteArray} (h : s.size < p.size) : pre s p = false := by
 unfold pre
 rcases Bool.eq_false_or_eq_true ((lst p).isPrefixOf (lst s)) with h1 | h1
 ·have := (List.isPrefixOf_iff_prefix.1 h1).length_le
  rw [lst_length, lst_length] at this
  omega
 ·exact h1
theorem toList_lst (s : ByteArray) : s.toList = lst s := ByteArray.toList_eq s
theorem pre_eq {s p : ByteArray} : ((s.extract 0 p.size).toList == p.toList) = pre s p := by
 unfold pre
 rw [Bool.eq_iff_iff, beq_iff_eq, List.isPrefixOf_iff_prefix, List.prefix_iff_eq_take, toList_lst, toList_lst, lst_extract, lst_length, List.drop_zero, Nat.sub_zero]
 exact eq_comm
theorem hasp_any (s p : ByteArray) (w : World) :
  Calls Tryz.prog 139 #[.string s, .string p] w fun e w' => e = .returned (.bool (pre s p)) /\ w' = w := by
 rcases Nat.lt_or_ge s.size p.size with h | h
 ·have h1 : ¬ p.size <= s.size := by omega
  have hq := pre_long h
  clear h
  go_enter Tryz.func139, Tryz.ntmps139
  go_wp2
  go_ret
  exact ⟨by rw [hq]; rfl, rfl⟩
 ·have h1 : p.size <= s.size := h
  clear h
  go_enter Tryz.func139, Tryz.ntmps139
  go_wp2
  go_ret
  exact ⟨ret_bool (by rw [<- pre_eq]), rfl⟩
theorem hasPrefix_any (s p : ByteArray) (w : World) :
  Calls Tryz.prog 101 #[.string s, .string p] w fun e w' => e = .returned (.bool (pre s p)) /\ w' = w := by
 go_enter Tryz.func101, Tryz.ntmps101
 go_wp2_with (go_at_call 139; refine (hasp_any s p _).mono ?_; rintro e w' ⟨rfl, rfl⟩)
 go_ret
 exact ⟨rfl, rfl⟩
theorem cut_any (s p : ByteArray) (w : World) :
  Calls Tryz.prog 166 #[.string s, .string p] w fun e w' => e = .returned (.tuple #[.string (if pre s p then s.extract p.size s.size else s), .bool (pre s p)]) /\ w' = w := by
 rcases Bool.eq_false_or_eq_true (pre s p) with h | h
 ·have hle : p.size <= s.size := by
   rcases Nat.lt_or_ge s.size p.size with h1 | h1
   ·rw [pre_long h1] at h; cases h
   ·exact h1
  rw [h, if_pos rfl]
  go_enter Tryz.func166, Tryz.ntmps166
  go_wp2_with (first | (go_at_call 139; refine (hasp_any s p _).mono ?_; rintro e w' ⟨rfl, rfl⟩; rw [h]) | go_in)
  go_ret2
  exact ⟨rfl, rfl⟩
 ·rw [h, if_neg (by decide)]
  go_enter Tryz.func166, Tryz.ntmps166
  go_wp2_with (first | (go_at_call 139; refine (hasp_any s p _).mono ?_; rintro e w' ⟨rfl, rfl⟩; rw [h]) | go_in)
  go_ret2
  exact ⟨rfl, rfl⟩
open M (dgN drop_cons loN lst_at wN)
theorem bits_lo : ∀ n ∈ List.range 128, loN n = true -> bits .or .u8 (n : Int) 32 = n := by decide +kernel
theorem bits_us : bits .or .u8 95 32 = 127 := by decide +kernel
theorem lower_any (n : Int) (w : World) : Calls Tryz.prog 209 #[.int .u8 n] w fun e w' => e = .returned (.int .u8 (bits .or .u8 n 32)) /\ w' = w := by
 go_enter Tryz.func209, Tryz.ntmps209
 go_wp2
 go_ret
 exact ⟨rfl, rfl⟩
def Parsed (r : Option Nat) (e : Ending) : Prop :=
 match r with
 | some n => e = .returned (.tuple #[.int .u64 n, .nilIface])
 | none => ∃ (m c : Int), (c = 1 \/ c = 2) /\ e = .returned (.tuple #[.int .u64 m, .iface 292 (.int .i64 c)])
theorem Parsed.num {r : Option Nat} {n : Int} {m : Nat} {e : Ending} (h : r = some m) (hn : n = m) (he : e = .returned (.tuple #[.int .u64 n, .nilIface])) : Parsed r e := by
 subst h hn
 exact he
theorem Parsed.bad {r : Option Nat} {m c : Int} {e : Ending} (h : r = none) (hc : c = 1 \/ c = 2) (he : e = .returned (.tuple #[.int .u64 m, .iface 292 (.int .i64 c)])) : Parsed r e := by
 subst h
 exact ⟨m, c, hc, he⟩
theorem parse_cons (b a : Nat) (c : UInt8) (r : (List UInt8)) : parse b a (c :: r) = if dv c < b /\ a * b + dv c < 18446744073709551616 then parse b (a * b + dv c) r else none := rfl
theorem dv_dg {c : UInt8} (h : dgN c.toNat = true) : (dv c : Int) = (c.toNat : Int) - 48 /\ 48 <= (c.toNat : Int) /\ (c.toNat : Int) <= 57 := by
 unfold dv
 rw [if_pos h]
 simp [dgN] at h
 omega
theorem dv_lo {c : UInt8} (h : dgN c.toNat = false) (h2 : loN c.toNat = true) : (dv c : Int) = (c.toNat : Int) - 87 /\ 97 <= (c.toNat : Int) /\ (c.toNat : Int) <= 122 := by
 unfold dv
 rw [if_neg (by rw [h]; decide), if_pos h2]
 simp [loN] at h2
 omega
theorem dv_us {c : UInt8} (h : dgN c.toNat = false) (h2 : loN c.toNat = false) : dv c = 99 := by
 unfold dv
 rw [if_neg (by rw [h]; decide), if_neg (by rw [h2]; decide)]
theorem wrap_over {x : Int} (h1 : 18446744073709551616 <= x) (h2 : x < 36893488147419103232) : IntKind.u64.wrap x = x - 18446744073709551616 := by
 rw [IntKind.wrap_u64]
 omega
theorem max64 : IntKind.u64.wrap (IntKind.u64.wrap 18446744073709551616 - 1) = 18446744073709551615 := by
 rw [IntKind.wrap_u64, IntKind.wrap_u64]
 decide
theorem bytesRow_cell (w : World) (s : ByteArray) (cap : Nat) (fr : Nat × Nat) (j : Nat) (hj : j < s.size) : (w.alloc (.cells (bytesRow s cap) 5 fr)).cell? ⟨w.heap.size, j, none⟩ = some (.int .u8 ((lst s).getD j 0).toNat) := by
 rw [World.cell?_alloc_mark, bytesRow_at s cap j hj]
 rw [List.getD_eq_getElem?_getD, lst_at s j hj]
 rfl
theorem parse10_any (s : ByteArray) (w : World) (hw : ∀ c ∈ lst s, wN c.toNat = true) (hs : s.size <= 100000000) :
  Calls Tryz.prog 192 #[.string s, .int .i64 10, .int .i64 64] w fun e w' => Below w.heap.size w w' /\ Parsed (if s.size = 0 then none else parse 10 0 (lst s)) e := by
 by_cases h0 : s.size = 0
 ·have e : s = ⟨#[]⟩ := ByteArray.ext (Array.eq_empty_of_size_eq_zero h0)
  rw [if_pos h0]
  subst e
  go_enter Tryz.func192, Tryz.ntmps192
  go_wp2
  go_ret2
  exact ⟨Below.refl _ _, Parsed.bad rfl (.inr rfl) rfl⟩
 ·rw [if_neg h0]
  have hemp : s.toList.isEmpty = false := by
   rw [show s.toList = lst s from ByteArray.toList_eq s]
   cases h : lst s with
   | nil => have := lst_length s; rw [h] at this; simp at this; omega
   | cons c r => rfl
  have hcv := run_bytes_of_string (P := Tryz.prog) w 9 37 5 s Tryz.underlying9 Tryz.underlying37 Tryz.underlying5
  have hB := bytesRow_cell w.drew s (grownCap w s.size 0 5) ((bytesRow s (grownCap w s.size 0 5)).size, (bytesRow s (grownCap w s.size 0 5)).size + 1)
  have HBE : Hid (Below w.heap.size w (w.drew.alloc (.cells (bytesRow s (grownCap w s.size 0 5)) 5 ((bytesRow s (grownCap w s.size 0 5)).size, (bytesRow s (grownCap w s.size 0 5)).size + 1)))) := ((Below.refl w.heap.size w).drew).alloc (Nat.le_refl _) _
  generalize w.drew.alloc (.cells (bytesRow s (grownCap w s.size 0 5)) 5 ((bytesRow s (grownCap w s.size 0 5)).size, (bytesRow s (grownCap w s.size 0 5)).size + 1)) = W1 at hcv hB HBE
  have HW : Hid (∀ c ∈ lst s, wN c.toNat = true) := hw
  have HB : Hid (∀ j, j < s.size -> W1.cell? ⟨w.heap.size, j, none⟩ = some (.int .u8 ((lst s).getD j 0).toNat)) := hB
  have hmv := max64
  clear hw hB h0
  go_enter Tryz.func192, Tryz.ntmps192
  go_wp2
  go_loop [12, 13, 101] (fun vu vn vi => ∃ (k acc : Nat) (a : Int), vu = .bool false /\ vn = .int .u64 a /\ vi = .int .i64 k /\ k <= s.size /\ Hid (a = (acc : Int) /\ acc < 18446744073709551616 /\ parse 10 0 (lst s) = parse 10 acc ((lst s).drop k)))
   (fun _ _ vi => s.size - (intOf vi).toNat)
  case atStart => exact ⟨0, 0, 0, rfl, rfl, rfl, Nat.zero_le _, rfl, by omega, rfl⟩
  case round =>
   obtain ⟨k, acc, a, rfl, rfl, rfl, hk, hh⟩ := hrel
   obtain ⟨ha, hacc, hpa⟩ := hh.out
   clear hh
   have a0 : 0 <= a := by omega
   have a1 : a < 18446744073709551616 := by omega
   by_cases hkn : k < s.size
   ·have hc := HB.out k hkn
    have hg : (lst s).getD k 0 = s[k]'hkn := by rw [List.getD_eq_getElem?_getD, lst_at s k hkn]; rfl
    rw [drop_cons s k hkn] at hpa
    have hwc := HW.out (s[k]'hkn) (List.mem_of_getElem? (lst_at s k hkn))
    rw [hg] at hc
    generalize s[k]'hkn = c at hc hpa hwc
    clear hg
    rw [parse_cons] at hpa
    generalize hz : ((c.toNat : Nat) : Int) = z at hc
    rcases Bool.eq_false_or_eq_true (dgN c.toNat) with hd | hd
    ·obtain ⟨d1, d2, d3⟩ := dv_dg hd
     rw [hz] at d1 d2 d3
     by_cases hcut : 1844674407370955162 <= a
     ·have HN : Hid (parse 10 0 (lst s) = none) := by
       rw [if_neg (by omega)] at hpa
       exact hpa
      clear hpa hwc hd ha hacc d1 hz
      go_wp2
      go_ret2
      exact ⟨HBE.out, Parsed.bad HN.out (.inl rfl) rfl⟩
     ·by_cases hov : 18446744073709551616 <= a * 10 + (z - 48)
      ·have HN : Hid (parse 10 0 (lst s) = none) := by
        rw [if_neg (by omega)] at hpa
        exact hpa
       have hwr : IntKind.u64.wrap (a * 10 + (z - 48)) = a * 10 + (z - 48) - 18446744073709551616 := wrap_over hov (by omega)
       clear hpa hwc hd ha hacc d1 hz
       go_wp2
       go_ret2
       exact ⟨HBE.out, Parsed.bad HN.out (.inl rfl) rfl⟩
      ·have HN : Hid (a * 10 + (z - 48) = ((acc * 10 + dv c : Nat) : Int) /\ acc * 10 + dv c < 18446744073709551616 /\ parse 10 0 (lst s) = parse 10 (acc * 10 + dv c) ((lst s).drop (k + 1))) := by
        rw [if_pos (by omega)] at hpa
        exact ⟨by omega, by omega, hpa⟩
       have hov2 : a * 10 + (z - 48) < 18446744073709551616 := by omega
       clear hov
       clear hpa hwc hd ha hacc d1 hz
       go_wp2
       go_round
       case rel => exact ⟨k + 1, acc * 10 + dv c, a * 10 + (z - 48), rfl, by first | rfl | (congr 1; omega), by go_num, by omega, HN⟩
       case measure => simp [intOf]; omega
    ·rcases Bool.eq_false_or_eq_true (loN c.toNat) with hl | hl
     ·obtain ⟨d1, d2, d3⟩ := dv_lo hd hl
      have hbl := bits_lo c.toNat (by rw [List.mem_range]; omega) hl
      rw [hz] at d1 d2 d3 hbl
      have HN : Hid (parse 10 0 (lst s) = none) := by
       rw [if_neg (by omega)] at hpa
       exact hpa
      clear hpa hwc hd ha hacc d1 hz hl
      go_wp2_with (go_at_call 209; refine (lower_any _ _).mono ?_; rintro e w' ⟨rfl, rfl⟩; rw [hbl])
      go_ret2
      exact ⟨HBE.out, Parsed.bad HN.out (.inr rfl) rfl⟩
     ·have hu : c.toNat = 95 := by
       unfold wN at hwc
       rw [hd, hl] at hwc
       simpa using hwc
      rw [if_neg (by rw [dv_us hd hl]; omega)] at hpa
      have HN : Hid (parse 10 0 (lst s) = none) := hpa
      obtain rfl : z = 95 := by omega
      have hbu := bits_us
      clear hpa hwc hd hl hu hz ha hacc
      go_wp2_with (go_at_call 209; refine (lower_any _ _).mono ?_; rintro e w' ⟨rfl, rfl⟩; rw [hbu])
      go_ret2
      exact ⟨HBE.out, Parsed.bad HN.out (.inr rfl) rfl⟩
   ·obtain rfl : k = s.size := by omega
    have HN : Hid (parse 10 0 (lst s) = some acc /\ a = acc) := ⟨by rw [hpa, List.drop_eq_nil_of_le (by rw [lst_length]; exact Nat.le_refl _)]; rfl, ha⟩
    clear ha hacc hpa a0 a1
    go_wp2
    go_ret2
    exact ⟨HBE.out, Parsed.num HN.out.1 HN.out.2 rfl⟩
theorem parse16_any (s : ByteArray) (w : World) (hw : ∀ c ∈ lst s, wN c.toNat = true) (hs : s.size <= 100000000) :
  Calls Tryz.prog 192 #[.string s, .int .i64 16, .int .i64 64] w fun e w' => Below w.heap.size w w' /\ Parsed (if s.size = 0 then none else parse 16 0 (lst s)) e := by
 by_cases h0 : s.size = 0
 ·have e : s = ⟨#[]⟩ := ByteArray.ext (Array.eq_empty_of_size_eq_zero h0)
  rw [if_pos h0]
  subst e
  go_enter Tryz.func192, Tryz.ntmps192
  go_wp2
  go_ret2
  exact ⟨Below.refl _ _, Parsed.bad rfl (.inr rfl) rfl⟩
 ·rw [if_neg h0]
  have hemp : s.toList.isEmpty = false := by
   rw [show s.toList = lst s from ByteArray.toList_eq s]
   cases h : lst s with
   | nil => have := lst_length s; rw [h] at this; simp at this; omega
   | cons c r => rfl
  have hcv := run_bytes_of_string (P := Tryz.prog) w 9 37 5 s Tryz.underlying9 Tryz.underlying37 Tryz.underlying5
  have hB := bytesRow_cell w.drew s (grownCap w s.size 0 5) ((bytesRow s (grownCap w s.size 0 5)).size, (bytesRow s (grownCap w s.size 0 5)).size + 1)
  have HBE : Hid (Below w.heap.size w (w.drew.alloc (.cells (bytesRow s (grownCap w s.size 0 5)) 5 ((bytesRow s (grownCap w s.size 0 5)).size, (bytesRow s (grownCap w s.size 0 5)).size + 1)))) := ((Below.refl w.heap.size w).drew).alloc (Nat.le_refl _) _
  generalize w.drew.alloc (.cells (bytesRow s (grownCap w s.size 0 5)) 5 ((bytesRow s (grownCap w s.size 0 5)).size, (bytesRow s (grownCap w s.size 0 5)).size + 1)) = W1 at hcv hB HBE
  have HW : Hid (∀ c ∈ lst s, wN c.toNat = true) := hw
  have HB : Hid (∀ j, j < s.size -> W1.cell? ⟨w.heap.size, j, none⟩ = some (.int .u8 ((lst s).getD j 0).toNat)) := hB
  have hmv := max64
  clear hw hB h0
  go_enter Tryz.func192, Tryz.ntmps192
  go_wp2
  go_loop [12, 13, 101] (fun vu vn vi => ∃ (k acc : Nat) (a : Int), vu = .bool false /\ vn = .int .u64 a /\ vi = .int .i64 k /\ k <= s.size /\ Hid (a = (acc : Int) /\ acc < 18446744073709551616 /\ parse 16 0 (lst s) = parse 16 acc ((lst s).drop k)))
   (fun _ _ vi => s.size - (intOf vi).toNat)
  case atStart => exact ⟨0, 0, 0, rfl, rfl, rfl, Nat.zero_le _, rfl, by omega, rfl⟩
  case round =>
   obtain ⟨k, acc, a, rfl, rfl, rfl, hk, hh⟩ := hrel
   obtain ⟨ha, hacc, hpa⟩ := hh.out
   clear hh
   have a0 : 0 <= a := by omega
   have a1 : a < 18446744073709551616 := by omega
   by_cases hkn : k < s.size
   ·have hc := HB.out k hkn
    have hg : (lst s).getD k 0 = s[k]'hkn := by rw [List.getD_eq_getElem?_getD, lst_at s k hkn]; rfl
    rw [drop_cons s k hkn] at hpa
    have hwc := HW.out (s[k]'hkn) (List.mem_of_getElem? (lst_at s k hkn))
    rw [hg] at hc
    generalize s[k]'hkn = c at hc hpa hwc
    clear hg
    rw [parse_cons] at hpa
    generalize hz : ((c.toNat : Nat) : Int) = z at hc
    rcases Bool.eq_false_or_eq_true (dgN c.toNat) with hd | hd
    ·obtain ⟨d1, d2, d3⟩ := dv_dg hd
     rw [hz] at d1 d2 d3
     by_cases hcut : 1152921504606846976 <= a
     ·have HN : Hid (parse 16 0 (lst s) = none) := by
       rw [if_neg (by omega)] at hpa
       exact hpa
      clear hpa hwc hd ha hacc d1 hz
      go_wp2
      go_ret2
      exact ⟨HBE.out, Parsed.bad HN.out (.inl rfl) rfl⟩
     ·by_cases hov : 18446744073709551616 <= a * 16 + (z - 48)
      ·exfalso; omega
      ·have HN : Hid (a * 16 + (z - 48) = ((acc * 16 + dv c : Nat) : Int) /\ acc * 16 + dv c < 18446744073709551616 /\ parse 16 0 (lst s) = parse 16 (acc * 16 + dv c) ((lst s).drop (k + 1))) := by
        rw [if_pos (by omega)] at hpa
        exact ⟨by omega, by omega, hpa⟩
       have hov2 : a * 16 + (z - 48) < 18446744073709551616 := by omega
       clear hov
       clear hpa hwc hd ha hacc d1 hz
       go_wp2
       go_round
       case rel => exact ⟨k + 1, acc * 16 + dv c, a * 16 + (z - 48), rfl, by first | rfl | (congr 1; omega), by go_num, by omega, HN⟩
       case measure => simp [intOf]; omega
    ·rcases Bool.eq_false_or_eq_true (loN c.toNat) with hl | hl
     ·obtain ⟨d1, d2, d3⟩ := dv_lo hd hl
      have hbl := bits_lo c.toNat (by rw [List.mem_range]; omega) hl
      rw [hz] at d1 d2 d3 hbl
      by_cases h16 : 103 <= z
      ·have HN : Hid (parse 16 0 (lst s) = none) := by
        rw [if_neg (by omega)] at hpa
        exact hpa
       clear hpa hwc hd ha hacc d1 hz hl
       go_wp2_with (go_at_call 209; refine (lower_any _ _).mono ?_; rintro e w' ⟨rfl, rfl⟩; rw [hbl])
       go_ret2
       exact ⟨HBE.out, Parsed.bad HN.out (.inr rfl) rfl⟩
      ·by_cases hcut : 1152921504606846976 <= a
       ·have HN : Hid (parse 16 0 (lst s) = none) := by
         rw [if_neg (by omega)] at hpa
         exact hpa
        clear hpa hwc hd ha hacc d1 hz hl
        go_wp2_with (go_at_call 209; refine (lower_any _ _).mono ?_; rintro e w' ⟨rfl, rfl⟩; rw [hbl])
        go_ret2
        exact ⟨HBE.out, Parsed.bad HN.out (.inl rfl) rfl⟩
       ·by_cases hov : 18446744073709551616 <= a * 16 + (z - 87)
        ·exfalso; omega
        ·have HN : Hid (a * 16 + (z - 87) = ((acc * 16 + dv c : Nat) : Int) /\ acc * 16 + dv c < 18446744073709551616 /\ parse 16 0 (lst s) = parse 16 (acc * 16 + dv c) ((lst s).drop (k + 1))) := by
          rw [if_pos (by omega)] at hpa
          exact ⟨by omega, by omega, hpa⟩
         have hov2 : a * 16 + (z - 87) < 18446744073709551616 := by omega
         clear hov
         clear hpa hwc hd ha hacc d1 hz hl
         go_wp2_with (go_at_call 209; refine (lower_any _ _).mono ?_; rintro e w' ⟨rfl, rfl⟩; rw [hbl])
         go_round
         case rel => exact ⟨k + 1, acc * 16 + dv c, a * 16 + (z - 87), rfl, by first | rfl | (congr 1; omega), by go_num, by omega, HN⟩
         case measure => simp [intOf]; omega
     ·have hu : c.toNat = 95 := by
       unfold wN at hwc
       rw [hd, hl] at hwc
       simpa using hwc
      rw [if_neg (by rw [dv_us hd hl]; omega)] at hpa
      have HN : Hid (parse 16 0 (lst s) = none) := hpa
      obtain rfl : z = 95 := by omega
      have hbu := bits_us
      clear hpa hwc hd hl hu hz ha hacc
      go_wp2_with (go_at_call 209; refine (lower_any _ _).mono ?_; rintro e w' ⟨rfl, rfl⟩; rw [hbu])
      go_ret2
      exact ⟨HBE.out, Parsed.bad HN.out (.inr rfl) rfl⟩
   ·obtain rfl : k = s.size := by omega
    have HN : Hid (parse 16 0 (lst s) = some acc /\ a = acc) := ⟨by rw [hpa, List.drop_eq_nil_of_le (by rw [lst_length]; exact Nat.le_refl _)]; rfl, ha⟩
    clear ha hacc hpa a0 a1
    go_wp2
    go_ret2
    exact ⟨HBE.out, Parsed.num HN.out.1 HN.out.2 rfl⟩
def IsPtr (e : Ending) : Prop := ∃ p, e = .returned (.pointer p)
def Kept (w : World) (g : Nat) (v : Value) (X : World) : Prop := X.cell? ⟨g, 0, none⟩ = some v /\ Below w.heap.size w X
theorem lite_kept (s : ByteArray) (hs : s.size <= 100000000) (w : World) (g : Nat) (v : Value) (hg : g < w.heap.size) (W : World) (h : Kept w g v W) :
  Calls Tryz.prog 137 #[.string s] W fun e w' => e = .returned (.string s) /\ Kept w g v w' := by
 refine (lite_any s W hs).mono ?_
 rintro e w' ⟨rfl, hb⟩
 have hb2 : Below w.heap.size w w' := h.2.trans (hb.mono h.2.size)
 refine ⟨rfl, ?_, hb2⟩
 rw [hb.cell (p := ⟨g, 0, none⟩) (Nat.lt_of_lt_of_le hg h.2.size)]
 exact h.1
theorem kept_alloc {w : World} {g : Nat} {v : Value} (hg : g < w.heap.size) (X : World) (o : Obj) (h : X.cell? ⟨g, 0, none⟩ = some v /\ Kept w g v X) : (X.alloc o).cell? ⟨g, 0, none⟩ = some v /\ Kept w g v (X.alloc o) := by
 have hb : Below w.heap.size w (X.alloc o) := h.2.2.alloc h.2.2.size o
 have hc : (X.alloc o).cell? ⟨g, 0, none⟩ = some v := by
  have hb2 : Below X.heap.size X (X.alloc o) := (Below.refl _ _).alloc (Nat.le_refl _) _
  rw [hb2.cell (p := ⟨g, 0, none⟩) (Nat.lt_of_lt_of_le hg h.2.2.size)]
  exact h.1
 exact ⟨hc, hc, hb⟩
theorem syntax_any (f s : ByteArray) (w : World) (hs : s.size <= 100000000) (hv : Vars w) :
  Calls Tryz.prog 211 #[.string f, .string s] w fun e w' => IsPtr e /\ Below w.heap.size w w' := by
 obtain ⟨t0, v0, t1, v1, h0, h1⟩ := hv
 clear h1
 have HQ : Hid (∀ W, (W.cell? ⟨0, 0, none⟩ = some (.iface t0 v0) /\ Kept w 0 (.iface t0 v0) W) -> Calls Tryz.prog 137 #[.string s] W fun e w' => e = .returned (.string s) /\ (w'.cell? ⟨0, 0, none⟩ = some (.iface t0 v0) /\ Kept w 0 (.iface t0 v0) w')) := by
  intro W h
  refine (lite_kept s hs w 0 _ (World.block_lt_of_cell? w _ h0) W h.2).mono ?_
  rintro e w' ⟨rfl, hk⟩
  exact ⟨rfl, hk.1, hk⟩
 have HA : Hid (∀ X o, (X.cell? ⟨0, 0, none⟩ = some (.iface t0 v0) /\ Kept w 0 (.iface t0 v0) X) -> ((X.alloc o).cell? ⟨0, 0, none⟩ = some (.iface t0 v0) /\ Kept w 0 (.iface t0 v0) (X.alloc o))) := fun X o => kept_alloc (World.block_lt_of_cell? w _ h0) X o
 have hS0 : w.drew.cell? ⟨0, 0, none⟩ = some (.iface t0 v0) /\ Kept w 0 (.iface t0 v0) w.drew := ⟨h0, h0, (Below.refl _ _).drew⟩
 go_enter Tryz.func211, Tryz.ntmps211
 go_wp2
 go_region_held3 (fun X => X.cell? ⟨0, 0, none⟩ = some (.iface t0 v0) /\ Kept w 0 (.iface t0 v0) X) (first | assumption | exact HA.out _ _ (by assumption) | go_keep) (first | (go_at_call 137; refine (HQ.out _ (by assumption)).mono ?_; rintro e w5 ⟨rfl, hS5⟩))
 all_goals
  go_wp2
  go_ret
  exact ⟨⟨_, rfl⟩, hS5.2.2.alloc hS5.2.2.size _⟩
theorem range_any (f s : ByteArray) (w : World) (hs : s.size <= 100000000) (hv : Vars w) :
  Calls Tryz.prog 212 #[.string f, .string s] w fun e w' => IsPtr e /\ Below w.heap.size w w' := by
 obtain ⟨t0, v0, t1, v1, h1, h0⟩ := hv
 clear h1
 have HQ : Hid (∀ W, (W.cell? ⟨1, 0, none⟩ = some (.iface t1 v1) /\ Kept w 1 (.iface t1 v1) W) -> Calls Tryz.prog 137 #[.string s] W fun e w' => e = .returned (.string s) /\ (w'.cell? ⟨1, 0, none⟩ = some (.iface t1 v1) /\ Kept w 1 (.iface t1 v1) w')) := by
  intro W h
  refine (lite_kept s hs w 1 _ (World.block_lt_of_cell? w _ h0) W h.2).mono ?_
  rintro e w' ⟨rfl, hk⟩
  exact ⟨rfl, hk.1, hk⟩
 have HA : Hid (∀ X o, (X.cell? ⟨1, 0, none⟩ = some (.iface t1 v1) /\ Kept w 1 (.iface t1 v1) X) -> ((X.alloc o).cell? ⟨1, 0, none⟩ = some (.iface t1 v1) /\ Kept w 1 (.iface t1 v1) (X.alloc o))) := fun X o => kept_alloc (World.block_lt_of_cell? w _ h0) X o
 have hS0 : w.drew.cell? ⟨1, 0, none⟩ = some (.iface t1 v1) /\ Kept w 1 (.iface t1 v1) w.drew := ⟨h0, h0, (Below.refl _ _).drew⟩
 go_enter Tryz.func212, Tryz.ntmps212
 go_wp2
 go_region_held3 (fun X => X.cell? ⟨1, 0, none⟩ = some (.iface t1 v1) /\ Kept w 1 (.iface t1 v1) X) (first | assumption | exact HA.out _ _ (by assumption) | go_keep) (first | (go_at_call 137; refine (HQ.out _ (by assumption)).mono ?_; rintro e w5 ⟨rfl, hS5⟩))
 all_goals
  go_wp2
  go_ret
  exact ⟨⟨_, rfl⟩, hS5.2.2.alloc hS5.2.2.size _⟩
theorem toErr_any (f s : ByteArray) (b c : Int) (w : World) (hs : s.size <= 100000000) (hv : Vars w) (hc : c = 1 \/ c = 2) :
  Calls Tryz.prog 193 #[.string f, .string s, .int .i64 b, .int .i64 64, .iface 292 (.int .i64 c)] w fun e w' => (∃ p, e = .returned (.iface 294 p)) /\ Below w.heap.size w w' := by
 have h58 : (Tryz.prog.info? 292).map (·.comparable) = some true := by kernel_rfl
 have q22 : ∀ W, (binOp .eql 249 (.iface 292 (.int .i64 2)) (.iface 292 (.int .i64 2))).run Tryz.prog W = .ok (.bool true) W := fun W => Lib.run_eql_iface_int W 2 2 Tryz.underlying249 h58 Tryz.underlying292
 have q12 : ∀ W, (binOp .eql 249 (.iface 292 (.int .i64 1)) (.iface 292 (.int .i64 2))).run Tryz.prog W = .ok (.bool false) W := fun W => Lib.run_eql_iface_int W 1 2 Tryz.underlying249 h58 Tryz.underlying292
 have q11 : ∀ W, (binOp .eql 249 (.iface 292 (.int .i64 1)) (.iface 292 (.int .i64 1))).run Tryz.prog W = .ok (.bool true) W := fun W => Lib.run_eql_iface_int W 1 1 Tryz.underlying249 h58 Tryz.underlying292
 clear h58
 rcases hc with rfl | rfl
 ·go_enter Tryz.func193, Tryz.ntmps193
  go_wp2_with (go_at_call 212; refine (range_any f s _ hs hv).mono ?_; rintro e w' ⟨⟨p, rfl⟩, hb⟩)
  go_ret
  exact ⟨⟨_, rfl⟩, hb⟩
 ·go_enter Tryz.func193, Tryz.ntmps193
  go_wp2_with (go_at_call 211; refine (syntax_any f s _ hs hv).mono ?_; rintro e w' ⟨⟨p, rfl⟩, hb⟩)
  go_ret
  exact ⟨⟨_, rfl⟩, hb⟩
def Read (r : Option Nat) (e : Ending) : Prop :=
 match r with
 | some n => e = .returned (.tuple #[.int .u64 n, .nilIface])
 | none => ∃ m t x, e = .returned (.tuple #[.int .u64 m, .iface t x])
theorem read10_any (s : ByteArray) (w : World) (hw : ∀ c ∈ lst s, wN c.toNat = true) (hs : s.size <= 100000000) (hv : Vars w) :
  Calls Tryz.prog 167 #[.string s, .int .i64 10, .int .i64 64] w fun e w' => Below w.heap.size w w' /\ Read (if s.size = 0 then none else parse 10 0 (lst s)) e := by
 have HP := parse10_any s w hw hs
 generalize (if s.size = 0 then none else parse 10 0 (lst s)) = r at *
 cases r with
 | some n =>
  go_enter Tryz.func167, Tryz.ntmps167
  go_wp2_with (go_at_call 192; refine HP.mono ?_; rintro e w1 ⟨hb, rfl⟩)
  go_ret2
  exact ⟨hb, rfl⟩
 | none =>
  go_enter Tryz.func167, Tryz.ntmps167
  go_wp2_with (first | (go_at_call 192; refine HP.mono ?_; rintro e w1 ⟨hb, m, c, hc, rfl⟩; have hv1 := hv.below hb) | (go_at_call 193; refine (toErr_any _ s 10 c _ hs hv1 hc).mono ?_; rintro e w2 ⟨⟨p, rfl⟩, hb2⟩))
  go_ret2
  exact ⟨hb.trans (hb2.mono hb.size), _, _, _, rfl⟩
theorem read16_any (s : ByteArray) (w : World) (hw : ∀ c ∈ lst s, wN c.toNat = true) (hs : s.size <= 100000000) (hv : Vars w) :
  Calls Tryz.prog 167 #[.string s, .int .i64 16, .int .i64 64] w fun e w' => Below w.heap.size w w' /\ Read (if s.size = 0 then none else parse 16 0 (lst s)) e := by
 have HP := parse16_any s w hw hs
 generalize (if s.size = 0 then none else parse 16 0 (lst s)) = r at *
 cases r with
 | some n =>
  go_enter Tryz.func167, Tryz.ntmps167
  go_wp2_with (go_at_call 192; refine HP.mono ?_; rintro e w1 ⟨hb, rfl⟩)
  go_ret2
  exact ⟨hb, rfl⟩
 | none =>
  go_enter Tryz.func167, Tryz.ntmps167
  go_wp2_with (first | (go_at_call 192; refine HP.mono ?_; rintro e w1 ⟨hb, m, c, hc, rfl⟩; have hv1 := hv.below hb) | (go_at_call 193; refine (toErr_any _ s 16 c _ hs hv1 hc).mono ?_; rintro e w2 ⟨⟨p, rfl⟩, hb2⟩))
  go_ret2
  exact ⟨hb.trans (hb2.mono hb.size), _, _, _, rfl⟩
def Worth (r : Option Nat) (e : Ending) : Prop :=
 match r with
 | some n => e = .returned (.tuple #[.int .u64 n, .bool true])
 | none => ∃ m, e = .returned (.tuple #[.int .u64 m, .bool false])
theorem pre_0x (s : ByteArray) : pre s ⟨#[48, 120]⟩ = decide ((lst s).take 2 = [48, 120]) := by
 unfold pre
 rw [Bool.eq_iff_iff, List.isPrefixOf_iff_prefix, List.prefix_iff_eq_take, decide_eq_true_iff]
 exact eq_comm
theorem drop2 (s : ByteArray) : lst (s.extract 2 s.size) = (lst s).drop 2 := by
 rw [lst_extract]
 exact List.take_of_length_le (by rw [List.length_drop, lst_length]; exact Nat.le_refl _)
theorem numV_hex {l : (List UInt8)} (h : l.take 2 = [48, 120]) : numV l = if l.length = 2 then none else (if l.length <= 18 then parse 16 0 (l.drop 2) else none) := by
 have hl : 2 <= l.length := by
  have := congrArg List.length h
  rw [List.length_take] at this
  simp at this
  omega
 unfold numV
 rw [if_pos h]
 by_cases h2 : l.length = 2
 ·rw [if_pos h2, if_neg (by omega)]
 ·rw [if_neg h2]
  by_cases h3 : l.length <= 18
  ·rw [if_pos h3, if_pos ⟨by omega, h3⟩]
  ·rw [if_neg h3, if_neg (by omega)]
theorem numV_zero {l : (List UInt8)} (h : ¬ l.take 2 = [48, 120]) (h0 : l.take 1 = [48]) : numV l = if l = [48] then some 0 else none := by
 unfold numV
 rw [if_neg h, if_pos h0]
theorem numV_ten {l : (List UInt8)} (h0 : ¬ l.take 1 = [48]) : numV l = parse 10 0 l := by
 unfold numV
 rw [if_neg, if_neg h0]
 intro h
 apply h0
 match l, h with
 | [a, b], h => simp at h ⊢; exact h.1
 | a :: b :: c :: r, h => simp at h ⊢; exact h.1
theorem take1 (s : ByteArray) (h : 0 < s.size) : (lst s).take 1 = [s[0]'h] := by
 have := drop_cons s 0 h
 rw [List.drop_zero] at this
 rw [this]
 rfl
theorem size2 (s : ByteArray) : (s.extract 2 s.size).size = s.size - 2 := by
 rw [<- lst_length, drop2, List.length_drop, lst_length]
theorem worth_any (s : ByteArray) (w : World) (h0 : 0 < s.size) (hw : ∀ c ∈ lst s, wN c.toNat = true) (hs : s.size <= 100000000) (hv : Vars w) :
  Calls Tryz.prog 138 #[.string s] w fun e w' => Below w.heap.size w w' /\ Worth (numV (lst s)) e := by
 have HC := cut_any s ⟨#[48, 120]⟩ w
 rw [pre_0x] at HC
 by_cases h : (lst s).take 2 = [48, 120]
 ·rw [decide_eq_true h, if_pos rfl, show (ByteArray.mk #[48, 120]).size = 2 from rfl] at HC
  have HQ := read16_any (s.extract 2 s.size) w (fun c hc => hw c (by rw [drop2] at hc; exact List.mem_of_mem_drop hc)) (by rw [size2]; omega) hv
  rw [drop2, size2] at HQ
  rw [numV_hex h, lst_length]
  have hl : 2 <= s.size := by
   have := congrArg List.length h
   rw [List.length_take, lst_length] at this
   simp at this
   omega
  have hsz := size2 s
  generalize s.extract 2 s.size = d at *
  by_cases h2 : s.size = 2
  ·rw [if_pos (by omega)] at HQ
   rw [if_pos h2]
   clear h hw hv h2 hsz
   go_enter Tryz.func138, Tryz.ntmps138
   go_wp2_with (first | (go_at_call 166; refine HC.mono ?_; rintro e w1 ⟨rfl, rfl⟩) | (go_at_call 167; refine HQ.mono ?_; rintro e w1 ⟨hb, m, t, x, rfl⟩))
   go_ret2
   exact ⟨hb, _, rfl⟩
  ·rw [if_neg (by omega)] at HQ
   rw [if_neg h2]
   generalize parse 16 0 ((lst s).drop 2) = r at *
   cases r with
   | none =>
    rw [ite_self]
    clear h hw hv h2 hsz
    go_enter Tryz.func138, Tryz.ntmps138
    go_wp2_with (first | (go_at_call 166; refine HC.mono ?_; rintro e w1 ⟨rfl, rfl⟩) | (go_at_call 167; refine HQ.mono ?_; rintro e w1 ⟨hb, m, t, x, rfl⟩))
    go_ret2
    exact ⟨hb, _, rfl⟩
   | some n =>
    have HN : Hid (∀ e, e = .returned (.tuple #[.int .u64 n, .bool (decide ((d.size : Int) <= 16))]) -> Worth (if s.size <= 18 then some n else none) e) := by
     rintro e rfl
     by_cases h3 : s.size <= 18
     ·rw [if_pos h3]
      show _ = _
      rw [show decide ((d.size : Int) <= 16) = true from by simp; omega]
     ·rw [if_neg h3]
      refine ⟨n, ?_⟩
      rw [show decide ((d.size : Int) <= 16) = false from by simp; omega]
    generalize (if s.size <= 18 then some n else none) = R at *
    clear h hw hv h2 hsz hl h0
    go_enter Tryz.func138, Tryz.ntmps138
    go_wp2_with (first | (go_at_call 166; refine HC.mono ?_; rintro e w1 ⟨rfl, rfl⟩) | (go_at_call 167; refine HQ.mono ?_; rintro e w1 ⟨hb, rfl⟩))
    go_ret2
    exact ⟨hb, HN.out _ rfl⟩
 ·rw [decide_eq_false h, if_neg (by decide)] at HC
  have ht := take1 s h0
  by_cases hz : (lst s).take 1 = [48]
  ·rw [numV_zero h hz]
   have hc : (s[0]'h0).toNat = 48 := by
    rw [hz] at ht
    injection ht with ht _
    rw [<- ht]
    rfl
   have HN : Hid (∀ e, e = .returned (.tuple #[.int .u64 0, .bool (s.toList == [48])]) -> Worth (if lst s = [48] then some 0 else none) e) := by
    rintro e rfl
    rw [show s.toList = lst s from ByteArray.toList_eq s]
    by_cases h3 : lst s = [48]
    ·rw [if_pos h3, h3]
     show _ = _
     rfl
    ·rw [if_neg h3]
     refine ⟨0, ?_⟩
     rw [show (lst s == [48]) = false from by
      rw [beq_eq_false_iff_ne]
      exact h3]
   have hix : ((s[0]'h0).toNat : Int) = 48 := by omega
   generalize (if lst s = [48] then some 0 else none) = R at *
   clear h hw hv hz ht hc
   go_enter Tryz.func138, Tryz.ntmps138
   go_wp2_with (first | (go_at_call 166; refine HC.mono ?_; rintro e w1 ⟨rfl, rfl⟩))
   go_ret2
   exact ⟨Below.refl _ _, HN.out _ rfl⟩
  ·rw [numV_ten hz]
   have HQ := read10_any s w hw hs hv
   rw [if_neg (by omega)] at HQ
   have hix : (((s[0]'h0).toNat : Int) == 48) = false := by
    rw [beq_eq_false_iff_ne]
    intro e
    apply hz
    rw [ht]
    have : s[0]'h0 = 48 := UInt8.toNat_inj.1 (by show _ = 48; omega)
    rw [this]
   generalize parse 10 0 (lst s) = r at *
   clear h hw hv hz ht
   cases r with
   | none =>
    go_enter Tryz.func138, Tryz.ntmps138
    go_wp2_with (first | (go_at_call 166; refine HC.mono ?_; rintro e w1 ⟨rfl, rfl⟩) | (go_at_call 167; refine HQ.mono ?_; rintro e w1 ⟨hb, m, t, x, rfl⟩))
    go_quiet (fail)
    go_wp2
    go_ret2
    exact ⟨hb.trans ((below_drewN _ _).mono hb.size), _, rfl⟩
   | some n =>
    go_enter Tryz.func138, Tryz.ntmps138
    go_wp2_with (first | (go_at_call 166; refine HC.mono ?_; rintro e w1 ⟨rfl, rfl⟩) | (go_at_call 167; refine HQ.mono ?_; rintro e w1 ⟨hb, rfl⟩))
    go_quiet (fail)
    go_wp2
    go_ret2
    exact ⟨hb.trans ((below_drewN _ _).mono hb.size), rfl⟩
theorem no_any (n : Nat) (w : World) : Calls Tryz.prog 67 #[.int .i32 n] w fun e w' => e = .returned (.bool (noN n)) /\ w' = w := by
 go_enter Tryz.func67, Tryz.ntmps67
 go_wp2
 go_ret
 refine ⟨ret_bool ?_, rfl⟩
 unfold noN
 rcases Bool.eq_false_or_eq_true (n == 10) with h3 | h3 <;> rw [h3] <;> simp at h3 ⊢ <;> omega
theorem ib {n : Nat} {k : Int} {m : Nat} (h : k = m) : ((n : Int) == k) = (n == m) := by
 subst h
 rcases Bool.eq_false_or_eq_true (n == m) with h3 | h3 <;> rw [h3] <;> simp at h3 ⊢ <;> omega
theorem bl_any (n : Nat) (w : World) : Calls Tryz.prog 65 #[.int .i32 n] w fun e w' => e = .returned (.bool (blN n)) /\ w' = w := by
 have e9 : ((n : Int) == 9) = (n == 9) := ib rfl
 have e10 : ((n : Int) == 10) = (n == 10) := ib rfl
 have e13 : ((n : Int) == 13) = (n == 13) := ib rfl
 have e32 : ((n : Int) == 32) = (n == 32) := ib rfl
 rcases Bool.eq_false_or_eq_true (n == 9) with h1 | h1 <;> rw [h1] at e9
 ·go_enter Tryz.func65, Tryz.ntmps65
  go_wp2
  go_ret
  exact ⟨ret_bool (by unfold blN; rw [h1]; rfl), rfl⟩
 ·rcases Bool.eq_false_or_eq_true (n == 10) with h2 | h2 <;> rw [h2] at e10
  ·go_enter Tryz.func65, Tryz.ntmps65
   go_wp2
   go_ret
   exact ⟨ret_bool (by unfold blN; rw [h1, h2]; rfl), rfl⟩
  ·rcases Bool.eq_false_or_eq_true (n == 13) with h3 | h3 <;> rw [h3] at e13
   ·go_enter Tryz.func65, Tryz.ntmps65
    go_wp2
    go_ret
    exact ⟨ret_bool (by unfold blN; rw [h1, h2, h3]; rfl), rfl⟩
   ·rcases Bool.eq_false_or_eq_true (n == 32) with h4 | h4 <;> rw [h4] at e32
    ·go_enter Tryz.func65, Tryz.ntmps65
     go_wp2
     go_ret
     exact ⟨ret_bool (by unfold blN; rw [h1, h2, h3, h4]; rfl), rfl⟩
    ·go_enter Tryz.func65, Tryz.ntmps65
     go_wp2
     go_ret
     exact ⟨ret_bool (by unfold blN; rw [h1, h2, h3, h4]; rfl), rfl⟩
open F (ret_int)
open M (Kind Run width_pos)
theorem kindN : Kind noN true := ⟨fun _ h => noN_high h⟩
theorem sizeN_any (s : ByteArray) (w : World) :
  Calls Tryz.prog 66 #[.string s, .func (.func 67) #[] #[]] w fun e w' => e = .returned (.int .i64 ((lst s).takeWhile ofN).length) /\ Below w.heap.size w w' := by
 go_enter Tryz.func66, Tryz.ntmps66
 go_wp2
 go_loopw [4] (fun n w' => n = .int .i64 0 /\ ∃ pos, w' = w.iter s pos /\ Run ofN (lst s) pos) (fun _ w' => s.size - w'.iterPos w.heap.size)
 case atStart => exact ⟨rfl, 0, rfl, Nat.zero_le _, fun i c h => by omega⟩
 case round =>
  obtain ⟨rfl, pos, rfl, hr⟩ := hrel
  have hbe : Below w.heap.size w (w.iter s pos) := (Below.refl _ _).alloc (Nat.le_refl _) _
  by_cases hp : pos < s.size
  ·have hnx : ∀ ty, (Instr.next (.pointer (some ⟨w.heap.size, 0, none⟩)) true ty).run Tryz.prog (w.iter s pos) = _ := fun ty => run_next_any w s pos ty hp
   have hwd := width_pos s pos hp
   rcases Bool.eq_false_or_eq_true (noN (Utf8.decode s pos).1) with hq | hq
   ·go_wp2_with (go_at_call 67; refine (no_any _ _).mono ?_; rintro e w' ⟨rfl, rfl⟩; rw [hq])
    go_roundw
    case rel => exact ⟨rfl, _, rfl, kindN.step hr hp hq⟩
    case measure => simp; omega
   ·go_wp2_with (go_at_call 67; refine (no_any _ _).mono ?_; rintro e w' ⟨rfl, rfl⟩; rw [hq])
    go_ret
    exact ⟨ret_int (by rw [hr.stop hp (by rw [kindN.rune s pos hp] at hq; exact hq)]), (Below.refl _ _).alloc (Nat.le_refl _) _⟩
  ·have hnx : ∀ ty, (Instr.next (.pointer (some ⟨w.heap.size, 0, none⟩)) true ty).run Tryz.prog (w.iter s pos) = _ := fun ty => run_next_end w s pos ty hp
   go_wp2
   go_ret
   exact ⟨ret_int (by rw [hr.last hp]), hbe⟩
open M (bar dg_any lo_any ofW sizeW_any)
theorem at_op {P : Program} {ops : Array Oper} {Q : Exit -> Act -> World -> Prop} {rest : List Oper} {o : Oper} {a : Act} {w : World} (op : Op) (_ho : o.op = op) (h : wpList P ops Q (o :: rest) a w) : wpList P ops Q (o :: rest) a w := h
theorem below_setRow {B : Nat} {a w : World} (h : Below B a w) {g : Nat} (hg : B <= g) (cs : Array Value) : Below B a (w.setRow g cs) :=
 h.trans ⟨rfl, rfl, rfl, by simp, fun k hk => setRow_other _ _ _ _ (by omega)⟩
theorem results_row2 {fn : Func} {p u : Tmp} (h : fn.results = #[.cell p 142, .tmp u]) (tmps : Array Value) (w : World) (g : Nat) (l : List Value) (y : Value)
  (hp : tmps.getD p undef = .pointer (some ⟨g, 0, none⟩)) (hg : Blk w g 142 l) (hl : (Tryz.prog.info? 142).map (·.size) = some l.toArray.size) (hy : tmps.getD u undef = y) :
  (results fn tmps).run Tryz.prog w = .ok (.tuple #[.agg l.toArray, y]) w := by
 rw [results_cell_tmp h, hp, hy]
 simp [asAddr, run_loadVar_row w g 142 142 l.toArray (0, 0) _ hg Tryz.underlying142 rfl hl]
def tc (k p : Int) (s : ByteArray) (n : Int) : List Value := [.int .i64 k, .int .i64 p, .string s, .int .u64 n]
def tz : List Value := tc 0 0 ⟨#[]⟩ 0
theorem tc_size (k p : Int) (s : ByteArray) (n : Int) : (Tryz.prog.info? 142).map (·.size) = some (tc k p s n).toArray.size := Tryz.size142
theorem tc_one (k p : Int) (s : ByteArray) (n : Int) : (tc k p s n).toArray.all (·.oneCell') = true := by simp [tc, Value.oneCell']
def Kt (w : World) (l : List Value) (X : World) : Prop := Blk X w.heap.size 142 l /\ Below w.heap.size w X
theorem kt_new (w : World) : Kt w tz (w.alloc (Obj.cells #[.int .i64 0, .int .i64 0, .string ⟨#[]⟩, .int .u64 0] 142)) := ⟨blk_new w _ 142, (Below.refl _ _).alloc (Nat.le_refl _) _⟩
theorem Kt.over {w X Y : World} {l : List Value} (h : Kt w l X) (hb : Below X.heap.size X Y) : Kt w l Y := ⟨h.1.over hb, h.2.trans (hb.mono h.2.size)⟩
theorem Kt.row {w X : World} {l : List Value} (h : Kt w l X) (m : List Value) : Kt w m (X.setRow w.heap.size m.toArray) := ⟨h.1.row _, below_setRow h.2 (Nat.le_refl _) _⟩
def One (r : Except Nat (Nat × (List UInt8) × Nat)) (p : Int) (e : Ending) : Prop :=
 match r with
 | .ok (k, t, n) => e = .returned (.tuple #[.agg (tc k p (bar t) n).toArray, .int .i64 0])
 | .error c => e = .returned (.tuple #[.agg tz.toArray, .int .i64 c])
theorem number_any (s : ByteArray) (w : World) (h0 : 0 < s.size) (hw : ∀ c ∈ lst s, wN c.toNat = true) (hs : s.size <= 100000000) (hv : Vars w) :
  Calls Tryz.prog 99 #[.string s] w fun e w' => Below w.heap.size w w' /\ One (numR (lst s)) 0 e := by
 have K0 : Hid (Kt w tz _) := kt_new w
 have HQ := worth_any s _ h0 hw hs (hv.below K0.out.2)
 unfold numR
 generalize numV (lst s) = r at *
 cases r with
 | none =>
  go_enter Tryz.func99, Tryz.ntmps99
  go_wp2_with (first | (go_at_call 138; refine HQ.mono ?_; rintro e w1 ⟨hb, m, rfl⟩; have K1 : Hid (Kt w tz w1) := K0.out.over hb) | (refine at_op (.store 142 (.tmp 2) (.tmp 13)) rfl ?_; refine wpList_store_row rfl 142 (.tmp 2) (.tmp 13) rfl w.heap.size tz.toArray rfl rfl 142 _ K1.out.1 (tc_size _ _ _ _) rfl (tc_one _ _ _ _) ?_))
  refine bodyPost_ret (v := .tuple #[.agg tz.toArray, .int .i64 6]) ?_ rfl ⟨(K1.out.row tz).2, rfl⟩
  exact results_row2 Tryz.results99 _ _ w.heap.size tz _ rfl (K1.out.row tz).1 (tc_size _ _ _ _) rfl
 | some n =>
  go_enter Tryz.func99, Tryz.ntmps99
  go_wp2_with (first | (go_at_call 138; refine HQ.mono ?_; rintro e w1 ⟨hb, rfl⟩; have K1 : Hid (Kt w tz w1) := K0.out.over hb) | (refine at_op (.store 142 (.tmp 2) (.tmp 16)) rfl ?_; refine wpList_store_row rfl 142 (.tmp 2) (.tmp 16) rfl w.heap.size (tc 2 0 s n).toArray rfl rfl 142 _ K1.out.1 (tc_size _ _ _ _) rfl (tc_one _ _ _ _) ?_))
  refine bodyPost_ret (v := .tuple #[.agg (tc 2 0 s n).toArray, .int .i64 0]) ?_ rfl ⟨(K1.out.row (tc 2 0 s n)).2, ?_⟩
  ·exact results_row2 Tryz.results99 _ _ w.heap.size (tc 2 0 s n) _ rfl (K1.out.row _).1 (tc_size _ _ _ _) rfl
  ·show _ = _
   rw [bar_lst]
   rfl
theorem find_at {q : (List UInt8) -> Bool} : ∀ (L : List (List UInt8)) (k : Nat) (p : (List UInt8)), (∀ (i : Nat) x, i < k -> L[i]? = some x -> q x = false) -> L[k]? = some p -> q p = true -> L.find? q = some p := by
 intro L
 induction L with
 | nil => intro k p _ h; simp at h
 | cons y L ih =>
  intro k p h hk hp
  cases k with
  | zero =>
   simp at hk
   subst hk
   rw [List.find?_cons, hp]
  | succ k =>
   rw [List.find?_cons, h 0 y (by omega) rfl]
   exact ih k p (fun i x hi hx => h (i + 1) x (by omega) (by simpa using hx)) (by simpa using hk) hp
theorem find_none {q : (List UInt8) -> Bool} (L : List (List UInt8)) (h : ∀ (i : Nat) x, L[i]? = some x -> q x = false) : L.find? q = none := by
 rw [List.find?_eq_none]
 intro x hx
 obtain ⟨i, hi, rfl⟩ := List.mem_iff_getElem.1 hx
 rw [h i L[i] (List.getElem?_eq_getElem hi)]
 decide
def Sg (w : World) (b : Nat) : Prop := ∀ i p, signs[i]? = some p -> w.cell? ⟨b, i, none⟩ = some (.string (bar p))
theorem signs_any (w : World) : Calls Tryz.prog 100 #[] w fun e w' => (∃ b, e = .returned (.slice (some ⟨b, 0, none⟩) 9 9) /\ Sg w' b) /\ Below w.heap.size w w' := by
 go_enter Tryz.func100, Tryz.ntmps100
 go_wp2
 go_ret
 refine ⟨⟨_, rfl, fun i p h => ?_⟩, (Below.refl _ _).alloc (Nat.le_refl _) _⟩
 match i, h with
 | 0, h => cases h; simp; rfl
 | 1, h => cases h; simp; rfl
 | 2, h => cases h; simp; rfl
 | 3, h => cases h; simp; rfl
 | 4, h => cases h; simp; rfl
 | 5, h => cases h; simp; rfl
 | 6, h => cases h; simp; rfl
 | 7, h => cases h; simp; rfl
 | 8, h => cases h; simp; rfl
theorem one_lo {c : UInt8} {r : (List UInt8)} (h : loN c.toNat = true) : one (c :: r) = .ok (1, (c :: r).takeWhile ofW, 0) := by
 unfold one
 simp only
 rw [if_pos h]
theorem one_dg {c : UInt8} {r : (List UInt8)} (h : loN c.toNat = false) (h2 : dgN c.toNat = true) : one (c :: r) = numR ((c :: r).takeWhile ofW) := by
 unfold one
 simp only
 rw [if_neg (by rw [h]; decide), if_pos h2]
theorem one_sg {c : UInt8} {r : (List UInt8)} (h : loN c.toNat = false) (h2 : dgN c.toNat = false) : one (c :: r) = sgR (sign (c :: r)) := by
 unfold one
 simp only
 rw [if_neg (by rw [h]; decide), if_neg (by rw [h2]; decide)]
theorem extract_while (s : ByteArray) (p : UInt8 -> Bool) : s.extract 0 ((lst s).takeWhile p).length = bar ((lst s).takeWhile p) := by
 rw [extract_bar, List.drop_zero, Nat.sub_zero, take_while_take]
theorem kindLo : Kind loN false := ⟨fun n h => by have : ¬ n <= 122 := by omega
                                                  simp [loN, this]⟩
theorem kindDg : Kind dgN false := ⟨fun n h => by have : ¬ n <= 57 := by omega
                                                  simp [dgN, this]⟩
theorem first_any (s : ByteArray) (n : Nat) (w : World) (h0 : 0 < s.size) (h1 : loN n = loN (s[0]'h0).toNat) (h2 : dgN n = dgN (s[0]'h0).toNat) (hs : s.size <= 100000000) (hv : Vars w) :
  Calls Tryz.prog 68 #[.string s, .int .i32 n] w fun e w' => Below w.heap.size w w' /\ One (one (lst s)) 0 e := by
 have K0 : Hid (Kt w tz _) := kt_new w
 have HV0 : Hid (Vars _) := hv.below K0.out.2
 have hc := drop_cons s 0 h0
 rw [List.drop_zero] at hc
 have hle : ((lst s).takeWhile ofW).length <= s.size := by have := take_while_le ofW (lst s); rw [lst_length] at this; exact this
 have hex := extract_while s ofW
 have hsz : (bar ((lst s).takeWhile ofW)).size <= 100000000 := by rw [bar_size]; omega
 rcases Bool.eq_false_or_eq_true (loN n) with hl | hl
 ·have HO : Hid (∀ e, e = .returned (.tuple #[.agg (tc 1 0 (bar ((lst s).takeWhile ofW)) 0).toArray, .int .i64 0]) -> One (one (lst s)) 0 e) := by
   rw [hc, one_lo (by rw [<- h1]; exact hl), <- hc]
   intro e he
   exact he
  have HW : Hid (∀ W : World, Calls Tryz.prog 66 #[.string s, .func (.func 97) #[] #[]] W fun e w' => e = .returned (.int .i64 ((lst s).takeWhile ofW).length) /\ Below W.heap.size W w') := sizeW_any s
  generalize ((lst s).takeWhile ofW).length = L at *
  generalize bar ((lst s).takeWhile ofW) = t at *
  clear hc h1 h2 hv
  go_enter Tryz.func68, Tryz.ntmps68
  go_wp2_with (first | (go_at_call 95; refine (lo_any n _).mono ?_; rintro e w1 ⟨rfl, rfl⟩; rw [hl]) | (go_at_call 66; refine (HW.out _).mono ?_; rintro e w1 ⟨rfl, b1⟩; have K1 : Hid (Kt w tz w1) := K0.out.over b1) | (go_at_call 96; refine (clone_any t _ hsz).mono ?_; rintro e w2 ⟨rfl, b2⟩; have K2 : Hid (Kt w tz w2) := K1.out.over b2) | (refine at_op (.store 142 (.tmp 4) (.tmp 16)) rfl ?_; refine wpList_store_row rfl 142 (.tmp 4) (.tmp 16) rfl w.heap.size (tc 1 0 t 0).toArray rfl rfl 142 _ K2.out.1 (tc_size _ _ _ _) rfl (tc_one _ _ _ _) ?_))
  refine bodyPost_ret (v := .tuple #[.agg (tc 1 0 t 0).toArray, .int .i64 0]) ?_ rfl ⟨(K2.out.row (tc 1 0 t 0)).2, HO.out _ rfl⟩
  exact results_row2 Tryz.results68 _ _ w.heap.size (tc 1 0 t 0) _ rfl (K2.out.row _).1 (tc_size _ _ _ _) rfl
 ·rcases Bool.eq_false_or_eq_true (dgN n) with hd | hd
  ·have hwd : wN (s[0]'h0).toNat = true := by unfold wN; rw [<- h1, hl, <- h2, hd]; rfl
   have hpos : 0 < (bar ((lst s).takeWhile ofW)).size := by
    rw [bar_size, hc, List.takeWhile_cons, if_pos (show ofW _ = true from hwd)]
    simp
   have HN : Hid (∀ W, Vars W -> Calls Tryz.prog 99 #[.string (bar ((lst s).takeWhile ofW))] W fun e w' => Below W.heap.size W w' /\ One (one (lst s)) 0 e) := by
    intro W hW
    have := number_any (bar ((lst s).takeWhile ofW)) W hpos (by rw [lst_bar]; exact take_while_all ofW (lst s)) hsz hW
    rw [lst_bar] at this
    rw [hc] at this ⊢
    rw [one_dg (by rw [<- h1]; exact hl) (by rw [<- h2]; exact hd)]
    exact this
   have HW : Hid (∀ W : World, Calls Tryz.prog 66 #[.string s, .func (.func 97) #[] #[]] W fun e w' => e = .returned (.int .i64 ((lst s).takeWhile ofW).length) /\ Below W.heap.size W w') := sizeW_any s
   generalize ((lst s).takeWhile ofW).length = L at *
   generalize bar ((lst s).takeWhile ofW) = t at *
   clear hc h1 h2 hv hwd hpos
   generalize one (lst s) = R at *
   obtain c | ⟨k, t', m⟩ := R
   ·go_enter Tryz.func68, Tryz.ntmps68
    go_wp2_with (first | (go_at_call 95; refine (lo_any n _).mono ?_; rintro e w1 ⟨rfl, rfl⟩; rw [hl]) | (go_at_call 98; refine (dg_any n _).mono ?_; rintro e w1 ⟨rfl, rfl⟩; rw [hd]) | (go_at_call 66; refine (HW.out _).mono ?_; rintro e w1 ⟨rfl, b1⟩; have K1 : Hid (Kt w tz w1) := K0.out.over b1; have V1 : Hid (Vars w1) := HV0.out.below b1) | (go_at_call 96; refine (clone_any t _ hsz).mono ?_; rintro e w2 ⟨rfl, b2⟩; have K2 : Hid (Kt w tz w2) := K1.out.over b2; have V2 : Hid (Vars w2) := V1.out.below b2) | (go_at_call 99; refine (HN.out _ V2.out).mono ?_; rintro e w3 ⟨b3, rfl⟩; have K3 : Hid (Kt w tz w3) := K2.out.over b3) | (refine at_op (.store 142 (.tmp 4) (.tmp 26)) rfl ?_; refine wpList_store_row rfl 142 (.tmp 4) (.tmp 26) rfl w.heap.size tz.toArray rfl rfl 142 _ K3.out.1 (tc_size _ _ _ _) rfl (tc_one _ _ _ _) ?_))
    refine bodyPost_ret (v := .tuple #[.agg tz.toArray, .int .i64 c]) ?_ rfl ⟨(K3.out.row tz).2, rfl⟩
    exact results_row2 Tryz.results68 _ _ w.heap.size tz _ rfl (K3.out.row _).1 (tc_size _ _ _ _) rfl
   ·go_enter Tryz.func68, Tryz.ntmps68
    go_wp2_with (first | (go_at_call 95; refine (lo_any n _).mono ?_; rintro e w1 ⟨rfl, rfl⟩; rw [hl]) | (go_at_call 98; refine (dg_any n _).mono ?_; rintro e w1 ⟨rfl, rfl⟩; rw [hd]) | (go_at_call 66; refine (HW.out _).mono ?_; rintro e w1 ⟨rfl, b1⟩; have K1 : Hid (Kt w tz w1) := K0.out.over b1; have V1 : Hid (Vars w1) := HV0.out.below b1) | (go_at_call 96; refine (clone_any t _ hsz).mono ?_; rintro e w2 ⟨rfl, b2⟩; have K2 : Hid (Kt w tz w2) := K1.out.over b2; have V2 : Hid (Vars w2) := V1.out.below b2) | (go_at_call 99; refine (HN.out _ V2.out).mono ?_; rintro e w3 ⟨b3, rfl⟩; have K3 : Hid (Kt w tz w3) := K2.out.over b3) | (refine at_op (.store 142 (.tmp 4) (.tmp 26)) rfl ?_; refine wpList_store_row rfl 142 (.tmp 4) (.tmp 26) rfl w.heap.size (tc k 0 (bar t') m).toArray rfl rfl 142 _ K3.out.1 (tc_size _ _ _ _) rfl (tc_one _ _ _ _) ?_))
    refine bodyPost_ret (v := .tuple #[.agg (tc k 0 (bar t') m).toArray, .int .i64 0]) ?_ rfl ⟨(K3.out.row (tc k 0 (bar t') m)).2, rfl⟩
    exact results_row2 Tryz.results68 _ _ w.heap.size (tc k 0 (bar t') m) _ rfl (K3.out.row _).1 (tc_size _ _ _ _) rfl
  ·have HO : Hid (one (lst s) = sgR (sign (lst s))) := by
    show _ = _
    rw [hc, one_sg (by rw [<- h1]; exact hl) (by rw [<- h2]; exact hd)]
   clear hc h1 h2 hv hle hex hsz
   go_enter Tryz.func68, Tryz.ntmps68
   go_wp2_with (first | (go_at_call 95; refine (lo_any n _).mono ?_; rintro e w1 ⟨rfl, rfl⟩; rw [hl]) | (go_at_call 98; refine (dg_any n _).mono ?_; rintro e w1 ⟨rfl, rfl⟩; rw [hd]) | (go_at_call 100; refine (signs_any _).mono ?_; rintro e w1 ⟨⟨sb, rfl, hsg⟩, b1⟩; have K1 : Hid (Kt w tz w1) := K0.out.over b1; have SG : Hid (Sg w1 sb) := hsg; clear hsg b1))
   go_loop [30] (fun i => ∃ k : Nat, k <= 9 /\ i = .int .i64 k /\ Hid (∀ i x, i < k -> signs[i]? = some x -> x.isPrefixOf (lst s) = false)) (fun i => 9 - (intOf i).toNat)
   case atStart => exact ⟨0, by omega, rfl, fun i x h => by omega⟩
   case round =>
    obtain ⟨k, hk, rfl, HF⟩ := hrel
    by_cases hk9 : k < 9
    ·obtain ⟨p, hp⟩ : ∃ p, signs[k]? = some p := ⟨_, List.getElem?_eq_getElem (show k < signs.length from hk9)⟩
     have hcell := SG.out k p hp
     have HP : Hid (signs[k]? = some p) := hp
     have HQ : Hid (∀ W, Calls Tryz.prog 101 #[.string s, .string (bar p)] W fun e w' => e = .returned (.bool (p.isPrefixOf (lst s))) /\ w' = W) := by
      intro W
      have := hasPrefix_any s (bar p) W
      unfold pre at this
      rw [lst_bar] at this
      exact this
     clear hp
     rcases Bool.eq_false_or_eq_true (p.isPrefixOf (lst s)) with hq | hq
     ·have HE : Hid (one (lst s) = .ok (3, p, 0)) := by
       have : sign (lst s) = some p := find_at signs k p HF.out HP.out hq
       show _ = _
       rw [HO.out, this]
       rfl
      go_wp2_with (first | (go_at_call 101; refine (HQ.out _).mono ?_; rintro e w3 ⟨rfl, rfl⟩; rw [hq]) | (refine at_op (.store 142 (.tmp 4) (.tmp 38)) rfl ?_; refine wpList_store_row rfl 142 (.tmp 4) (.tmp 38) rfl w.heap.size (tc 3 0 (bar p) 0).toArray rfl rfl 142 _ K1.out.1 (tc_size _ _ _ _) rfl (tc_one _ _ _ _) ?_))
      refine bodyPost_ret (v := .tuple #[.agg (tc 3 0 (bar p) 0).toArray, .int .i64 0]) ?_ rfl ⟨(K1.out.row (tc 3 0 (bar p) 0)).2, by rw [HE.out]; rfl⟩
      exact results_row2 Tryz.results68 _ _ w.heap.size (tc 3 0 (bar p) 0) _ rfl (K1.out.row _).1 (tc_size _ _ _ _) rfl
     ·go_wp2_with (first | (go_at_call 101; refine (HQ.out _).mono ?_; rintro e w3 ⟨rfl, rfl⟩; rw [hq]))
      go_round
      case rel =>
       refine ⟨k + 1, by omega, by go_num, fun i x hi hx => ?_⟩
       rcases Nat.lt_or_ge i k with h | h
       ·exact HF.out i x h hx
       ·obtain rfl : i = k := by omega
        rw [HP.out] at hx
        cases hx
        exact hq
      case measure => simp [intOf]; omega
    ·have hk10 : ¬ (k : Int) < 9 := by omega
     have HE : Hid (one (lst s) = .error 5) := by
      have : sign (lst s) = none := find_none signs (fun i x hx => HF.out i x (by have := (List.getElem?_eq_some_iff.1 hx).1; have : signs.length = 9 := rfl; omega) hx)
      show _ = _
      rw [HO.out, this]
      rfl
     go_wp2_with (refine at_op (.store 142 (.tmp 4) (.tmp 40)) rfl ?_; refine wpList_store_row rfl 142 (.tmp 4) (.tmp 40) rfl w.heap.size tz.toArray rfl rfl 142 _ K1.out.1 (tc_size _ _ _ _) rfl (tc_one _ _ _ _) ?_)
     refine bodyPost_ret (v := .tuple #[.agg tz.toArray, .int .i64 5]) ?_ rfl ⟨(K1.out.row tz).2, by rw [HE.out]; rfl⟩
     exact results_row2 Tryz.results68 _ _ w.heap.size tz _ rfl (K1.out.row _).1 (tc_size _ _ _ _) rfl
end Go.Proofs.YtmcgcbgblgmmkaaGreatDoor.P
