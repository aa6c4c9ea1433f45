/-
  The small functions of package frame: the length that is told, whether bytes begin as a frame, a head as bytes, the head of a body.
-/
import Derived.Test.YtfjipaalelkpjaaFrMem
import Derived.Laws.BitsAllLaws
import Derived.RegionTactic
import Derived.ChangeAlike
import Derived.BigRegion
import Derived.BigQuiet
import Derived.Deep.RegionHeld3
import Derived.Deep.DeepCutAuto
namespace Go.Proofs.Ytfjipaalelkpjaa
open Go.RowKit D

theorem or64 (a b : Int) (a0 : 0 ≤ a) (a1 : a ≤ 255) (b0 : 0 ≤ b) (b1 : b ≤ 255) : bits BinOp.or IntKind.i64 (a * 256) b = a * 256 + b := by
  obtain ⟨n, rfl⟩ := Int.eq_ofNat_of_zero_le a0
  obtain ⟨m, rfl⟩ := Int.eq_ofNat_of_zero_le b0
  have e : ((n : Int) * 256) = ((n * 256 : Nat) : Int) := by omega
  rw [e]
  show IntKind.i64.wrap ((BitVec.ofInt 64 ((n * 256 : Nat) : Int) ||| BitVec.ofInt 64 (m : Int)).toNat : Int) = _
  have h1 := ofInt_u64 (n * 256) (by omega)
  have h2 := ofInt_u64 m (by omega)
  rw [BitVec.toNat_or, h1, h2, nat_join 8 (n * 256) m (by omega) (by omega)]
  simp [IntKind.wrap, IntKind.bits, IntKind.signed]
  omega
theorem or32 (a b : Int) (s : Nat) (p : Int) (hp : p = ((2 ^ s : Nat) : Int)) (a0 : 0 ≤ a) (a1 : a * p < 4294967296) (b0 : 0 ≤ b) (b1 : b < p) (hs : p ≤ 4294967296) : bits BinOp.or IntKind.u32 (a * p) b = a * p + b := by
  obtain ⟨n, rfl⟩ := Int.eq_ofNat_of_zero_le a0
  obtain ⟨m, rfl⟩ := Int.eq_ofNat_of_zero_le b0
  subst hp
  have e : ((n : Int) * ((2 ^ s : Nat) : Int)) = ((n * 2 ^ s : Nat) : Int) := by rw [Int.natCast_mul]
  rw [e] at a1 ⊢
  rw [u32_or_nat (n * 2 ^ s) m (by omega) (by omega), nat_join s (n * 2 ^ s) m (Nat.mul_mod_left _ _) (by omega)]
  omega
theorem told_at {l : List Int} (h : ∀ i, 0 ≤ l.getD i 0 ∧ l.getD i 0 ≤ 255) : (told l : Int) = l.getD 2 0 * 256 + l.getD 3 0 := by
  unfold told
  have := h 2
  have := h 3
  omega

set_option maxHeartbeats 1000000 in
theorem length_any (a : Option Addr) (len cap : Nat) (l : List Int) (w : World) (h4 : 4 ≤ len) (hb : Bs w a len l) :
    Calls Try.prog 32 #[.slice a len cap] w fun e w' => e = .returned (.int .i64 (told l)) ∧ Below w.heap.size w w' := by
  have hbb := hb.byte
  have ht := told_at hbb
  obtain ⟨b, off, rfl, hc⟩ := hb.2.2 (by omega)
  have q2 := hc 2 (by omega)
  have q3 := hc 3 (by omega)
  obtain ⟨x0, x1⟩ := hbb 2
  obtain ⟨y0, y1⟩ := hbb 3
  rw [ht]
  clear hc hb hbb ht
  generalize l.getD 2 0 = x at *
  generalize l.getD 3 0 = y at *
  have V : Hid (bits BinOp.or IntKind.i64 (x * 256) y = x * 256 + y) := or64 x y x0 x1 y0 y1
  have i2 : (2 : Int) < (len : Int) := by omega
  have i3 : (3 : Int) < (len : Int) := by omega
  go_enter Try.func32, Try.ntmps32
  go_upto_region 1 with fail
  go_quiet (fail)
  go_wp2_with fail
  go_ret
  exact ⟨ret_int V.out, below_drewN _ _⟩

/-- what is there of the first four bytes is as a frame has it. -/
def Bgn (l : List Int) : Prop := (0 < l.length → l.getD 0 0 = 102) ∧ (1 < l.length → l.getD 1 0 = 76) ∧ (l.length = 3 → l.getD 2 0 ≤ 2) ∧ (3 < l.length → 1 ≤ told l ∧ told l ≤ 512)

def bgB (l : List Int) : Bool := decide ((0 < l.length → l.getD 0 0 = 102) ∧ (1 < l.length → l.getD 1 0 = 76) ∧ (l.length = 3 → l.getD 2 0 ≤ 2) ∧ (3 < l.length → 1 ≤ told l ∧ told l ≤ 512))
theorem bgB_iff {l : List Int} : bgB l = true ↔ Bgn l := decide_eq_true_iff
theorem bg_yes {l : List Int} (h : Bgn l) : bgB l = true := bgB_iff.2 h
theorem bg_no {l : List Int} (h : ¬ Bgn l) : bgB l = false := by
  cases hq : bgB l with
  | false => rfl
  | true => exact absurd (bgB_iff.1 hq) h

set_option maxHeartbeats 2000000 in
theorem begins_any (a : Option Addr) (len cap : Nat) (l : List Int) (w : World) (hb : Bs w a len l) :
    Calls Try.prog 31 #[.slice a len cap] w fun e w' => e = .returned (.bool (bgB l)) ∧ Below w.heap.size w w' := by
  have hbb := hb.byte
  have hll := hb.1
  rcases Nat.eq_zero_or_pos len with h0 | h0
  · have HB : Hid (Bgn l) := ⟨fun h => absurd h (by omega), fun h => absurd h (by omega), fun h => absurd h (by omega), fun h => absurd h (by omega)⟩
    subst h0
    clear hb hbb hll
    go_enter Try.func31, Try.ntmps31
    go_wp2
    go_ret
    exact ⟨ret_bool (bg_yes HB.out).symm, Below.refl _ _⟩
  have HL : 4 ≤ len → Hid (∀ W, Below w.heap.size w W → Calls Try.prog 32 #[.slice a len cap] W fun e w' => e = .returned (.int .i64 (told l)) ∧ Below w.heap.size w w') := fun h4 W hW => (length_any a len cap l W h4 (hb.below hW)).mono fun e w' ⟨h1, h2⟩ => ⟨h1, hW.trans (h2.mono hW.size)⟩
  obtain ⟨b, off, rfl, hc⟩ := hb.2.2 h0
  have q0 := hc 0 h0
  rw [Nat.add_zero] at q0
  by_cases e0 : l.getD 0 0 = 102
  case neg =>
    have HB : Hid (¬ Bgn l) := fun h => e0 (h.1 (by omega))
    clear hb hbb hll hc HL
    generalize l.getD 0 0 = x at *
    go_enter Try.func31, Try.ntmps31
    go_wp2
    go_ret
    exact ⟨ret_bool (bg_no HB.out).symm, Below.refl _ _⟩
  rw [e0] at q0
  rcases Nat.lt_or_ge len 2 with h1 | h1
  · have HB : Hid (Bgn l) := ⟨fun _ => e0, fun h => absurd h (by omega), fun h => absurd h (by omega), fun h => absurd h (by omega)⟩
    clear hb hbb hll hc HL
    go_enter Try.func31, Try.ntmps31
    go_wp2
    go_ret
    exact ⟨ret_bool (bg_yes HB.out).symm, Below.refl _ _⟩
  have q1 := hc 1 (by omega)
  by_cases e1 : l.getD 1 0 = 76
  case neg =>
    have HB : Hid (¬ Bgn l) := fun h => e1 (h.2.1 (by omega))
    clear hb hbb hll hc HL e0
    generalize l.getD 1 0 = x at *
    go_enter Try.func31, Try.ntmps31
    go_wp2
    go_ret
    exact ⟨ret_bool (bg_no HB.out).symm, Below.refl _ _⟩
  rw [e1] at q1
  rcases Nat.lt_or_ge len 3 with h2 | h2
  · have HB : Hid (Bgn l) := ⟨fun _ => e0, fun _ => e1, fun h => absurd h (by omega), fun h => absurd h (by omega)⟩
    clear hb hbb hll hc HL e0 e1
    go_enter Try.func31, Try.ntmps31
    go_wp2
    go_ret
    exact ⟨ret_bool (bg_yes HB.out).symm, Below.refl _ _⟩
  rcases Nat.lt_or_ge len 4 with h3 | h3
  · have q2 := hc 2 (by omega)
    have HB : Hid (Bgn l ↔ l.getD 2 0 ≤ 2) := ⟨fun h => h.2.2.1 (by omega), fun h => ⟨fun _ => e0, fun _ => e1, fun _ => h, fun h => absurd h (by omega)⟩⟩
    clear hb hbb hll hc HL e0 e1
    generalize l.getD 2 0 = x at *
    by_cases e2 : x ≤ 2
    · have HB : Hid (Bgn l) := HB.out.2 e2
      go_enter Try.func31, Try.ntmps31
      go_wp2
      go_ret
      exact ⟨ret_bool (bg_yes HB.out).symm, Below.refl _ _⟩
    · have HB : Hid (¬ Bgn l) := fun h => e2 (HB.out.1 h)
      go_enter Try.func31, Try.ntmps31
      go_wp2
      go_ret
      exact ⟨ret_bool (bg_no HB.out).symm, Below.refl _ _⟩
  have HB : Hid (Bgn l ↔ 1 ≤ told l ∧ told l ≤ 512) := ⟨fun h => h.2.2.2 (by omega), fun h => ⟨fun _ => e0, fun _ => e1, fun h => absurd h (by omega), fun _ => h⟩⟩
  replace HL := HL h3
  clear hb hbb hll hc e0 e1
  generalize told l = n at *
  by_cases e2 : 1 ≤ n
  · by_cases e3 : n ≤ 512
    · go_enter Try.func31, Try.ntmps31
      go_wp2_with (go_at_call 32; refine (HL.out _ (by first | exact Below.refl _ _ | assumption)).mono ?_; rintro e w1 ⟨rfl, hbl⟩)
      go_ret
      exact ⟨ret_bool (by rw [bg_yes (HB.out.2 ⟨e2, e3⟩)]; simp; omega), by assumption⟩
    · go_enter Try.func31, Try.ntmps31
      go_wp2_with (go_at_call 32; refine (HL.out _ (by first | exact Below.refl _ _ | assumption)).mono ?_; rintro e w1 ⟨rfl, hbl⟩)
      go_ret
      exact ⟨ret_bool (by rw [bg_no fun h => e3 (HB.out.1 h).2]; simp; omega), by assumption⟩
  · go_enter Try.func31, Try.ntmps31
    go_wp2_with (go_at_call 32; refine (HL.out _ (by first | exact Below.refl _ _ | assumption)).mono ?_; rintro e w1 ⟨rfl, hbl⟩)
    go_ret
    exact ⟨ret_bool (bg_no fun h => e2 (HB.out.1 h).1).symm, by assumption⟩

end Go.Proofs.Ytfjipaalelkpjaa
