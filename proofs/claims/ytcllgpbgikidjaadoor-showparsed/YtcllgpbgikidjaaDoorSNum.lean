/-
  Numbers as texts.
-/
import Derived.Test.YtcllgpbgikidjaaDoorSRight
import Derived.Test.YtcllgpbgikidjaaDoorShelf
import Derived.Lib.AppendIntMem
import Derived.Lib.SmallJoins
import Derived.Lib.ItoaLen
namespace Go.Proofs.YtcllgpbgikidjaaDoor
open Go.RowKit Go.Sort

/-- the table of powers is laid. -/
def Tb (T : List Int) (w : World) : Prop := T = Lib.pow10Tab ∧ Lib.TabIs Tryd.prog w "internal/strconv.uint64pow10" .u64 Lib.pow10Tab

theorem Tb.below {T : List Int} {w w' : World} (h : Tb T w) (hb : Below w.heap.size w w') : Tb T w' := ⟨h.1, Joins.tab_stays (g := 3) (by kernel_rfl) h.2 hb (Nat.le_refl _)⟩

/-- a number's digits. -/
def dec (_ : List Int) (n : Nat) : List UInt8 := Lib.decDigits n

theorem itoa_any (T : List Int) (n : Nat) (hn : n ≤ 65535) (w : World) (ht : Tb T w) :
    Calls Tryd.prog 75 #[.int .i64 n] w fun e w' => e = .returned (.string (bar (dec T n))) ∧ Below w.heap.size w w' := by
  refine (Tryd.strconv_Itoa n (by omega) (by omega) w ht.2).mono ?_
  rintro e w' ⟨rfl, k, os, rfl⟩
  refine ⟨?_, Lib.below_grow _ w (Nat.le_refl _) k os⟩
  rw [Lib.itoa_nonneg]
  rfl

theorem below_put (w : World) (o : Obj) (off : Nat) (dk : Array UInt8) (k : Nat) : Below w.heap.size w ((putRow (fun (b : UInt8) => Value.int .u8 (b.toNat : Int)) (w.alloc o) w.heap.size off dk).drewN k) := by
  rw [alloc_eq_grow]
  obtain ⟨os', _, e⟩ := putRow_grow_new (fun (b : UInt8) => Value.int .u8 (b.toNat : Int)) w #[o] w.heap.size off dk (Nat.le_refl _)
  rw [e]
  exact Lib.below_grow _ w (Nat.le_refl _) k os'

theorem holds_zero0 (w : World) (T : TypeId) (nd : Nat) (hs : nd ≤ 24) : Holds (fun (b : UInt8) => Value.int .u8 (b.toNat : Int)) (w.alloc (.cells Lib.zeros24 T)) w.heap.size 0 (Array.replicate nd (0 : UInt8)) := fun j hj => by
  have hj' : j < nd := by simpa using hj
  refine ⟨?_, World.frozen?_alloc_new _ _ _ _⟩
  rw [World.cell?_alloc_new, Lib.zeros24_at _ (by omega), getElem!_pos _ j hj]
  simp

set_option maxHeartbeats 1000000 in
theorem fmtU2_any (T : List Int) (n : Nat) (hn : n < 18446744073709551616) (w : World) (ht : Tb T w) :
    Calls Tryd.prog 115 #[.int .u64 n, .int .i64 10] w fun e w' => e = .returned (.string (bar (dec T n))) ∧ Below w.heap.size w w' := by
  by_cases hs : n < 100
  · have hs' : (n : Int) < 100 := by omega
    go_enter Tryd.func115, Tryd.ntmps115
    go_wp2_with (go_at_call 78; refine (Tryd.internal_strconv_small n hs _).mono ?_; rintro e w' ⟨rfl, rfl⟩)
    go_ret
    exact ⟨rfl, Below.refl _ _⟩
  · have hs' : ¬ (n : Int) < 100 := by omega
    have hu1 : 1 ≤ n := by omega
    have hnd20 : Lib.nDigits n ≤ 20 := by have := Lib.numDigits_eq n hu1 hn; split at this <;> omega
    have hal : Tryd.prog.arrayLen 125 = 24 := by kernel_rfl
    have hsl : ∀ W, (Instr.sliceAt 125 (.pointer (some ⟨w.heap.size, 0, none⟩)) none (some (.int .i64 (Lib.nDigits n : Int))) none).run Tryd.prog W = .ok (.slice (some ⟨w.heap.size, 0, none⟩) (Lib.nDigits n) 24) W := fun W => by
      rw [run_sliceAt_array_h W 125 ⟨w.heap.size, 0, none⟩ (by simp [Program.arrayLen, Program.elem, Tryd.underlying125]) .i64 (Lib.nDigits n : Int) (by omega) (by rw [hal]; omega)]
      go_simp
    have hH0 := holds_zero0 w 125 (Lib.nDigits n) (by omega)
    have hfmt := Tryd.internal_strconv_formatBase10 w.heap.size 0 24 n (Array.replicate (Lib.nDigits n) 0) (w.alloc (.cells Lib.zeros24 125)) hH0 (by rw [Array.size_replicate]; exact Lib.lt_pow_nDigits n) hn (by rw [Array.size_replicate]; omega)
    rw [Array.size_replicate] at hfmt
    have HH0 : Hid (Holds (fun (b : UInt8) => Value.int .u8 (b.toNat : Int)) (w.alloc (.cells Lib.zeros24 125)) w.heap.size 0 (Array.replicate (Lib.nDigits n) (0 : UInt8))) := hH0
    have HF : Hid (Calls Tryd.prog 80 #[.slice (some ⟨w.heap.size, 0, none⟩) (Lib.nDigits n) 24, .int .u64 n] (w.alloc (.cells Lib.zeros24 125)) fun e w' => e = .returned (.tuple #[]) ∧ ∃ (m v' : Nat) (dk : Array UInt8), w' = (putRow (fun (b : UInt8) => Value.int .u8 (b.toNat : Int)) (w.alloc (.cells Lib.zeros24 125)) w.heap.size 0 dk).drewN m ∧ Lib.FmtInv (Lib.nDigits n) n 0 v' dk) := hfmt
    have HT : Hid (Lib.TabIs Tryd.prog (w.alloc (.cells Lib.zeros24 125)) "internal/strconv.uint64pow10" .u64 Lib.pow10Tab) := Lib.tabIs_alloc ht.2 _
    clear hH0 hfmt hal ht
    go_enter Tryd.func115, Tryd.ntmps115
    go_wp2_with (go_at_call 79; refine (Tryd.internal_strconv_numDigits n hu1 hn _ HT.out).mono ?_; rintro e w' ⟨rfl, rfl⟩)
    go_at_call 80
    refine HF.out.mono ?_
    rintro e w' ⟨rfl, m, v', dk, rfl, hF⟩
    have hcv : (convert 44 9 (.slice (some ⟨w.heap.size, 0, none⟩) (Lib.nDigits n) 24)).run Tryd.prog ((putRow (fun (b : UInt8) => Value.int .u8 (b.toNat : Int)) (w.alloc (.cells Lib.zeros24 125)) w.heap.size 0 dk).drewN m) = .ok (.string ⟨(Lib.decDigits n).toArray⟩) ((putRow (fun (b : UInt8) => Value.int .u8 (b.toNat : Int)) (w.alloc (.cells Lib.zeros24 125)) w.heap.size 0 dk).drewN m) := by
      have h := run_convert_bytes_back (P := Tryd.prog) ((putRow (fun (b : UInt8) => Value.int .u8 (b.toNat : Int)) (w.alloc (.cells Lib.zeros24 125)) w.heap.size 0 dk).drewN m) 44 9 5 ⟨w.heap.size, 0, none⟩ 24 (Lib.decDigits n) Tryd.underlying44 Tryd.underlying5 Tryd.underlying9 (fun j hj => by
        rw [Lib.add_plain, Lib.row_is_numeral hF j hj, World.cell?_drewN]
        exact cell?_putRow (fun (b : UInt8) => Value.int .u8 (b.toNat : Int)) _ w.heap.size 0 _ dk HH0.out (by rw [hF.size, Array.size_replicate]) j (by rw [hF.size]; rw [Lib.decDigits_length] at hj; exact hj))
      rw [Lib.decDigits_length] at h
      exact h
    have HB : Hid (Below w.heap.size w ((putRow (fun (b : UInt8) => Value.int .u8 (b.toNat : Int)) (w.alloc (.cells Lib.zeros24 125)) w.heap.size 0 dk).drewN m)) := below_put w _ 0 dk m
    clear HF HH0 HT hF
    go_wp2
    go_ret
    exact ⟨rfl, HB.out⟩

theorem decimal_any (T : List Int) (n : Nat) (hn : n < 18446744073709551616) (w : World) (ht : Tb T w) :
    Calls Tryd.prog 112 #[.int .u64 n] w fun e w' => e = .returned (.string (bar (dec T n))) ∧ Below w.heap.size w w' := by
  have HC : Hid (Calls Tryd.prog 115 #[.int .u64 n, .int .i64 10] w fun e w' => e = .returned (.string (bar (dec T n))) ∧ Below w.heap.size w w') := fmtU2_any T n hn w ht
  have HD : Hid (Calls Tryd.prog 114 #[.int .u64 n, .int .i64 10] w fun e w' => e = .returned (.string (bar (dec T n))) ∧ Below w.heap.size w w') := by
    show Calls Tryd.prog 114 #[.int .u64 n, .int .i64 10] w fun e w' => e = .returned (.string (bar (dec T n))) ∧ Below w.heap.size w w'
    go_enter Tryd.func114, Tryd.ntmps114
    go_wp2_with (go_at_call 115; refine HC.out.mono ?_; rintro e w' ⟨rfl, hb⟩)
    go_ret
    exact ⟨rfl, hb⟩
  clear HC ht
  go_enter Tryd.func112, Tryd.ntmps112
  go_wp2_with (go_at_call 114; refine HD.out.mono ?_; rintro e w' ⟨rfl, hb⟩)
  go_ret
  exact ⟨rfl, hb⟩

theorem dec_len (T : List Int) (n : Nat) (hn : n < 18446744073709551616) : (dec T n).length ≤ 100 := by
  unfold dec
  rw [Lib.decDigits_length]
  have := Lib.nDigits_le20 n hn
  omega

theorem dec_one (T : List Int) {n : Nat} (h : n < 10) : dec T n = [UInt8.ofNat (48 + n)] := Lib.decDigits_one h
theorem dec_two (T : List Int) {n : Nat} (h1 : ¬ n < 10) (h2 : n < 100) : dec T n = [UInt8.ofNat (48 + n / 10), UInt8.ofNat (48 + n % 10)] := Lib.decDigits_two h1 h2

end Go.Proofs.YtcllgpbgikidjaaDoor
