/-
  Numbers as texts, whatever the table of powers holds.
-/
import Derived.Test.YtcllgpbgikidjaaSFmt
import Derived.Lib.AppendIntMem
namespace Go.Proofs.Ytcllgpbgikidjaa
open Go.RowKit

theorem fm_new (w : World) : Fm w w.heap.size (w.alloc (Obj.cells Lib.zeros24 98)) (fun _ => 0) := by
  have k := blk_new w Lib.zeros24 98
  refine ⟨fun t ht => ?_, fun t => k.f t, (Below.refl _ _).alloc (Nat.le_refl _) _⟩
  rw [k.cell t, Array.getElem?_toList]
  exact Lib.zeros24_at t ht

/-- the bytes of a row, as a text. -/
theorem fmtG_get {nd u : Nat} (j : Nat) (hj : j < (fmtG nd u).length) : (fmtG nd u)[j] = UInt8.ofNat (gdN nd u j) := by
  have key : ∀ (l : List UInt8), l = (List.range nd).map (fun t => UInt8.ofNat (gdN nd u t)) → ∀ (h : j < l.length), l[j] = UInt8.ofNat (gdN nd u j) := by
    intro l hl h
    subst hl
    rw [List.getElem_map, List.getElem_range]
  exact key _ rfl hj

theorem fm_text {w W : World} {b off nd u : Nat} {g : Nat → Int} (cap : Nat) (h : Fm w b W g) (hoff : off + nd ≤ 24) (hu : u < 10 ^ (nd + 1)) (hn : 1 ≤ nd) (hd : ∀ t, t < nd → g (off + t) = (gdN nd u t : Int)) :
    (convert 41 9 (.slice (some ⟨b, off, none⟩) nd cap)).run Try.prog W = .ok (.string (bar (fmtG nd u))) W := by
  have hl : (fmtG nd u).length = nd := by unfold fmtG; rw [List.length_map, List.length_range]
  have := run_convert_bytes_back (P := Try.prog) W 41 9 5 ⟨b, off, none⟩ cap (fmtG nd u) Try.underlying41 Try.underlying5 Try.underlying9 (fun j hj => by
    have hj' : j < nd := by omega
    rw [Lib.add_plain, h.c _ (by omega), hd j hj']
    have hr := gdN_range (t := j) hu hn
    have e : (fmtG nd u)[j] = UInt8.ofNat (gdN nd u j) := fmtG_get j hj
    rw [e, u8_small (by omega)])
  rw [hl] at this
  exact this

set_option maxRecDepth 100000 in
set_option maxHeartbeats 1000000 in
theorem fmtU2_any (T : List Int) (n : Nat) (hn : n < 18446744073709551616) (w : World) (ht : Tb T w) :
    Calls Try.prog 87 #[.int .u64 n, .int .i64 10] w fun e w' => e = .returned (.string (bar (dec T n))) ∧ Below w.heap.size w w' := by
  by_cases hs : n < 100
  · have hs' : (n : Int) < 100 := by omega
    rw [dec_small hs]
    have HS := Try.internal_strconv_small n hs
    clear hn
    go_enter Try.func87, Try.ntmps87
    go_wp2_with (go_at_call 71; refine (HS _).mono ?_; rintro e w' ⟨rfl, rfl⟩)
    go_ret
    exact ⟨rfl, Below.refl _ _⟩
  · have hs' : ¬ (n : Int) < 100 := by omega
    rw [dec_great hs]
    obtain ⟨d1, d2, d3⟩ := ndT_of (T := T) (n := n) (by omega) hn
    have b1 : Below w.heap.size w (w.alloc (Obj.cells Lib.zeros24 98)) := (Below.refl _ _).alloc (Nat.le_refl _) _
    have HD : Hid (Calls Try.prog 72 #[.int .u64 n] (w.alloc (Obj.cells Lib.zeros24 98)) fun e w' => e = .returned (.int .i64 (ndT T n)) ∧ w' = (w.alloc (Obj.cells Lib.zeros24 98))) := numD_any T n (by omega) hn _ (ht.below b1)
    have HF : Hid (Calls Try.prog 73 #[.slice (some ⟨w.heap.size, 0, none⟩) (ndT T n) 24, .int .u64 n] (w.alloc (Obj.cells Lib.zeros24 98)) fun e w' => e = .returned (.tuple #[]) ∧ ∃ g' : Nat → Int, Fm (w.alloc (Obj.cells Lib.zeros24 98)) w.heap.size w' g' ∧ ∀ t, t < ndT T n → g' (0 + t) = (gdN (ndT T n) n t : Int)) := fmt10_any w.heap.size 0 24 (ndT T n) n _ _ ⟨(fm_new w).c, (fm_new w).f, Below.refl _ _⟩ (by omega) d3 hn
    have HD3 : Hid (n < 10 ^ (ndT T n + 1)) := d3
    have hal : Try.prog.arrayLen 98 = 24 := by kernel_rfl
    have hsl : ∀ W, (Instr.sliceAt 98 (.pointer (some ⟨w.heap.size, 0, none⟩)) none (some (.int .i64 (ndT T n : Int))) none).run Try.prog W = .ok (.slice (some ⟨w.heap.size, 0, none⟩) (ndT T n) 24) W := fun W => by
      rw [run_sliceAt_array_h W 98 ⟨w.heap.size, 0, none⟩ (by simp [Program.arrayLen, Program.elem, Try.underlying98]) .i64 (ndT T n : Int) (by omega) (by rw [hal]; omega)]
      go_simp
    have B1 : Hid (Below w.heap.size w (w.alloc (Obj.cells Lib.zeros24 98))) := b1
    clear hn ht hal d3 b1
    generalize ndT T n = nd at *
    go_enter Try.func87, Try.ntmps87
    go_wp2_with fail
    refine HD.out.mono ?_
    rintro e w1 ⟨rfl, hw1⟩
    subst w1
    go_wp2_with fail
    refine HF.out.mono ?_
    rintro e w2 ⟨rfl, g', f2, hg⟩
    have hcv := fm_text 24 f2 (by omega) HD3.out (by omega) hg
    have B2 : Hid (Below w.heap.size w w2) := B1.out.trans (f2.be)
    clear f2 hg HF HD HD3
    go_wp2
    go_ret
    exact ⟨rfl, B2.out⟩

set_option maxRecDepth 100000 in
set_option maxHeartbeats 1000000 in
theorem fmtI_any (T : List Int) (n : Nat) (hn : n ≤ 65535) (w : World) (ht : Tb T w) :
    Calls Try.prog 70 #[.int .i64 n, .int .i64 10] w fun e w' => e = .returned (.string (bar (dec T n))) ∧ Below w.heap.size w w' := by
  by_cases hs : n < 100
  · have hs' : decide ((n : Int) < 100) = true := decide_eq_true (by omega)
    have h0 : decide (0 ≤ (n : Int)) = true := decide_eq_true (by omega)
    rw [dec_small hs]
    have HS := Try.internal_strconv_small n hs
    go_enter Try.func70, Try.ntmps70
    go_wp2_with (go_at_call 71; refine (HS _).mono ?_; rintro e w' ⟨rfl, rfl⟩)
    go_ret
    exact ⟨rfl, Below.refl _ _⟩
  · have hs' : decide ((n : Int) < 100) = false := decide_eq_false (by omega)
    have h0 : decide (0 ≤ (n : Int)) = true := decide_eq_true (by omega)
    have hneg : ¬ (n : Int) < 0 := by omega
    have hwr : IntKind.u64.wrap (n : Int) = (n : Int) := by rw [IntKind.wrap_u64]; omega
    rw [dec_great hs]
    obtain ⟨d1, d2, d3⟩ := ndT_of (T := T) (n := n) (by omega) (by omega)
    have b1 : Below w.heap.size w (w.alloc (Obj.cells Lib.zeros24 98)) := (Below.refl _ _).alloc (Nat.le_refl _) _
    have HD : Hid (Calls Try.prog 72 #[.int .u64 n] (w.alloc (Obj.cells Lib.zeros24 98)) fun e w' => e = .returned (.int .i64 (ndT T n)) ∧ w' = (w.alloc (Obj.cells Lib.zeros24 98))) := numD_any T n (by omega) (by omega) _ (ht.below b1)
    have HF : Hid (Calls Try.prog 73 #[.slice (some ⟨w.heap.size, 1, none⟩) (ndT T n) 23, .int .u64 n] (w.alloc (Obj.cells Lib.zeros24 98)) fun e w' => e = .returned (.tuple #[]) ∧ ∃ g' : Nat → Int, Fm (w.alloc (Obj.cells Lib.zeros24 98)) w.heap.size w' g' ∧ ∀ t, t < ndT T n → g' (1 + t) = (gdN (ndT T n) n t : Int)) := fmt10_any w.heap.size 1 23 (ndT T n) n _ _ ⟨(fm_new w).c, (fm_new w).f, Below.refl _ _⟩ (by omega) d3 (by omega)
    have HD3 : Hid (n < 10 ^ (ndT T n + 1)) := d3
    have hal : Try.prog.arrayLen 98 = 24 := by kernel_rfl
    have hsl : ∀ W, (Instr.sliceAt 98 (.pointer (some ⟨w.heap.size, 0, none⟩)) (some (.int .i64 1)) (some (.int .i64 (1 + (ndT T n : Int)))) none).run Try.prog W = .ok (.slice (some ⟨w.heap.size, 1, none⟩) (ndT T n) 23) W := fun W => by
      rw [run_sliceAt_array_lh W 98 ⟨w.heap.size, 0, none⟩ (by simp [Program.arrayLen, Program.elem, Try.underlying98]) .i64 .i64 1 (1 + (ndT T n : Int)) (by omega) (by omega) (by rw [hal]; omega)]
      go_simp
      omega
    have B1 : Hid (Below w.heap.size w (w.alloc (Obj.cells Lib.zeros24 98))) := b1
    clear ht hal d3 b1
    generalize ndT T n = nd at *
    go_enter Try.func70, Try.ntmps70
    go_wp2_with fail
    refine HD.out.mono ?_
    rintro e w1 ⟨rfl, hw1⟩
    subst w1
    go_wp2_with fail
    refine HF.out.mono ?_
    rintro e w2 ⟨rfl, g', f2, hg⟩
    have hcv := fm_text 23 f2 (by omega) HD3.out (by omega) hg
    have B2 : Hid (Below w.heap.size w w2) := B1.out.trans (f2.be)
    clear f2 hg HF HD HD3
    go_wp2
    go_ret
    exact ⟨rfl, B2.out⟩

theorem itoa_any (T : List Int) (n : Nat) (hn : n ≤ 65535) (w : World) (ht : Tb T w) :
    Calls Try.prog 68 #[.int .i64 n] w fun e w' => e = .returned (.string (bar (dec T n))) ∧ Below w.heap.size w w' := by
  have HC : Hid (Calls Try.prog 70 #[.int .i64 n, .int .i64 10] w fun e w' => e = .returned (.string (bar (dec T n))) ∧ Below w.heap.size w w') := fmtI_any T n hn w ht
  have HD : Hid (Calls Try.prog 69 #[.int .i64 n] w fun e w' => e = .returned (.string (bar (dec T n))) ∧ Below w.heap.size w w') := by
    show Calls Try.prog 69 #[.int .i64 n] w fun e w' => e = .returned (.string (bar (dec T n))) ∧ Below w.heap.size w w'
    go_enter Try.func69, Try.ntmps69
    go_wp2_with (go_at_call 70; refine HC.out.mono ?_; rintro e w' ⟨rfl, hb⟩)
    go_ret
    exact ⟨rfl, hb⟩
  clear HC ht
  go_enter Try.func68, Try.ntmps68
  go_wp2_with (go_at_call 69; refine HD.out.mono ?_; rintro e w' ⟨rfl, hb⟩)
  go_ret
  exact ⟨rfl, hb⟩

theorem decimal_any (T : List Int) (n : Nat) (hn : n < 18446744073709551616) (w : World) (ht : Tb T w) :
    Calls Try.prog 84 #[.int .u64 n] w fun e w' => e = .returned (.string (bar (dec T n))) ∧ Below w.heap.size w w' := by
  have HC : Hid (Calls Try.prog 87 #[.int .u64 n, .int .i64 10] w fun e w' => e = .returned (.string (bar (dec T n))) ∧ Below w.heap.size w w') := fmtU2_any T n hn w ht
  have HD : Hid (Calls Try.prog 86 #[.int .u64 n, .int .i64 10] w fun e w' => e = .returned (.string (bar (dec T n))) ∧ Below w.heap.size w w') := by
    show Calls Try.prog 86 #[.int .u64 n, .int .i64 10] w fun e w' => e = .returned (.string (bar (dec T n))) ∧ Below w.heap.size w w'
    clear hn
    go_enter Try.func86, Try.ntmps86
    go_wp2_with (go_at_call 87; refine HC.out.mono ?_; rintro e w' ⟨rfl, hb⟩)
    go_ret
    exact ⟨rfl, hb⟩
  clear HC ht hn
  go_enter Try.func84, Try.ntmps84
  go_wp2_with (go_at_call 86; refine HD.out.mono ?_; rintro e w' ⟨rfl, hb⟩)
  go_ret
  exact ⟨rfl, hb⟩

end Go.Proofs.Ytcllgpbgikidjaa
