/-
  A new link; three frames (awake).
-/
import Derived.Test.YtljceoojbppaeaaLkSend
import Derived.Test.YtljceoojbppaeaaLkTake
import Derived.Lib.SlBytesConst
namespace Go.Proofs.Ytljceoojbppaeaa
open Go.RowKit D

section
variable {b : Nat} {s s' : Lk} {up q : Bool} {w : World}
theorem send_to (h : LkV w b s) {a : Option Addr} {len c : Nat} {f : List Int} (hb : Bs w a len f) (hq : maySend (s.sel up) f = q) (hs : s.send up f = s') :
    Calls Try.prog 13 #[.pointer (some ⟨b, 0, none⟩), .bool up, .slice a len c] w fun e w' => e = .returned (.bool q) ∧ LkV w' b s' ∧ Kb b w w' := by subst hq hs; exact send_any b s up a len c f w h hb
theorem twice_to (h : LkV w b s) {n : Int} (hn : n < 9223372036854775808) (hq : s.mayTwice n = q) (hs : s.twice n = s') :
    Calls Try.prog 16 #[.pointer (some ⟨b, 0, none⟩), .int .i64 n] w fun e w' => e = .returned (.bool q) ∧ LkV w' b s' ∧ Kb b w w' := by subst hq hs; exact twice_any b s w h n hn
theorem spoil_to (h : LkV w b s) {n bit : Int} (hn : n < 9223372036854775808) (hq : s.has n = q) (hs : s.spoil n bit = s') :
    Calls Try.prog 17 #[.pointer (some ⟨b, 0, none⟩), .int .i64 n, .int .i64 bit] w fun e w' => e = .returned (.bool q) ∧ LkV w' b s' ∧ Kb b w w' := by subst hq hs; exact spoil_any b s w h n bit hn
theorem take_to (h : LkV w b s) {n : Int} {f : List Int} (hq : hasN (s.sel up) n = q) (hf : s.came up n = f) (hs : s.take up n = s') :
    Calls Try.prog 14 #[.pointer (some ⟨b, 0, none⟩), .bool up, .int .i64 n] w fun e w' => ∃ v, e = .returned (.tuple #[v, .bool q]) ∧ PcV w' v f ∧ New w.heap.size v ∧ LkV w' b s' ∧ Kb b w w' := by subst hq hf hs; exact take_any b s up n w h
theorem len_to (h : LkV w b s) {k : Nat} (hk : (s.sel up).length = k) :
    Calls Try.prog 11 #[.pointer (some ⟨b, 0, none⟩), .bool up] w fun e w' => e = .returned (.int .i64 k) ∧ Below w.heap.size w w' := by subst hk; exact len_any b s up w h
end
theorem bs_one (w : World) (x : Int) (hx : 0 ≤ x ∧ x ≤ 255) (m : Nat × Nat) : Bs (w.alloc (.cells #[.int .u8 x] 5 m)) (some ⟨w.heap.size, 0, none⟩) 1 [x] := by
  refine ⟨rfl, fun z hz => by rw [List.mem_singleton] at hz; subst hz; exact hx, fun _ => ⟨_, _, rfl, fun i hi => ?_⟩⟩
  match i, hi with
  | 0, _ => rw [Nat.zero_add, World.cell?_alloc_mark]; rfl
theorem alloc_below (w : World) (o : Obj) : Below w.heap.size w (w.alloc o) := (Below.refl _ _).alloc (Nat.le_refl _) _
theorem zero_run (W : World) : (zeroValue 30).run Try.prog W = .ok (.agg zeroLk) W := by kernel_rfl

set_option maxRecDepth 20000 in
set_option maxHeartbeats 4000000 in
theorem awake_any (w : World) : Calls Try.prog 8 #[] w fun e w' => e = .returned (.bool true) ∧ Below w.heap.size w w' := by
  have hzv : ∀ W, (zeroValue 30).run Try.prog W = .ok (.agg zeroLk) W := zero_run
  have HN : Hid (LkV (w.alloc (.cells zeroLk 30)) w.heap.size lk0 ∧ Below w.heap.size w (w.alloc (.cells zeroLk 30))) := ⟨lk_new w, alloc_below w _⟩
  generalize zeroLk = Z at *
  go_enter Try.func8, Try.ntmps8
  go_upto_region 2 with fail
  have HB1 : Hid (Below w.heap.size w (w.alloc (.cells Z 30))) := HN.out.2
  have HL1 : Hid (LkV (w.alloc (.cells Z 30)) w.heap.size lk0) := HN.out.1
  clear HN hzv
  have kc := fun (w : World) (C : Array Value) (n c : Nat) => Lib.run_convert_bytes_const (P := Try.prog) w 37 5 C n c Try.underlying37 Try.underlying5
  generalize w.alloc (.cells Z 30) = w1 at *
  have b2 := alloc_below w1 (.cells #[.int .u8 97] 5 (1, 2))
  have HS := send_to (up := true) (q := true) (s' := ⟨[[97]], []⟩) (HL1.out.over b2) (c := 1) (bs_one w1 97 (by decide) (1, 2)) rfl rfl
  have HB2 : Hid (Below w.heap.size w _) := HB1.out.trans (b2.mono HB1.out.size)
  clear b2
  go_upto_region 3 with (go_at_call 13; refine HS.mono ?_; rintro e w2 ⟨rfl, h2, k2⟩)
  have HB3 : Hid (Below w.heap.size w w2) := HB2.out.trans (k2.below HB2.out.size (Nat.le_refl _))
  have HL3 : Hid (LkV w2 w.heap.size ⟨[[97]], []⟩) := h2
  clear HB1 HL1 HS HB2 h2 k2
  have b4 := alloc_below w2 (.cells #[.int .u8 99] 5 (1, 2))
  have HS := send_to (up := false) (q := true) (s' := ⟨[[97]], [[99]]⟩) (HL3.out.over b4) (c := 1) (bs_one w2 99 (by decide) (1, 2)) rfl rfl
  have HB4 : Hid (Below w.heap.size w _) := HB3.out.trans (b4.mono HB3.out.size)
  clear b4
  go_upto_region 4 with (go_at_call 13; refine HS.mono ?_; rintro e w4 ⟨rfl, h4, k4⟩)
  have HB5 : Hid (Below w.heap.size w w4) := HB4.out.trans (k4.below HB4.out.size (Nat.le_refl _))
  clear HL3 HS HB3 HB4 k4 kc
  have HS := spoil_to (n := 1) (bit := 0) (q := true) (s' := ⟨[[97]], [[98]]⟩) h4 (by decide) rfl rfl
  clear h4
  go_upto_region 5 with (go_at_call 17; refine HS.mono ?_; rintro e w5 ⟨rfl, h5, k5⟩)
  have HB6 : Hid (Below w.heap.size w w5) := HB5.out.trans (k5.below HB5.out.size (Nat.le_refl _))
  clear HS HB5 k5
  have HS := take_to (up := false) (n := 0) (q := true) (f := [98]) (s' := ⟨[[97]], []⟩) h5 rfl rfl rfl
  clear h5
  go_upto_region 6 with (go_at_call 14; refine HS.mono ?_; rintro e w6 ⟨v, rfl, ⟨a, c, rfl, hb6, _⟩, _, h6, k6⟩)
  have HB7 : Hid (Below w.heap.size w w6) := HB6.out.trans (k6.below HB6.out.size (Nat.le_refl _))
  have hx : (convert 37 9 (.slice a 1 c)).run Try.prog w6 = .ok (.string ⟨#[98]⟩) w6 := run_text hb6 c
  have HS2 := len_to (up := true) (k := 1) h6 rfl
  clear HS HB6 k6 h6 hb6
  go_wp2_with (go_at_call 11; refine HS2.mono ?_; rintro e w7 ⟨rfl, hb7⟩)
  go_ret
  exact ⟨rfl, HB7.out.trans (hb7.mono HB7.out.size)⟩

end Go.Proofs.Ytljceoojbppaeaa
