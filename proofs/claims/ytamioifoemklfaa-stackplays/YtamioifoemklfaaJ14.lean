/-
  Texts of this seat, joined: VWrongElse.
-/
import Derived.Test.YtamioifoemklfaaJ13

namespace Go.Proofs.Ytamioifoemklfaa.V
open Go.RowKit

set_option maxHeartbeats 4000000 in
theorem wrong_else (b off len cap k : Nat) (x : In) (w : World) (hlen : len ≤ 100000) (hk : k < len) (hx : x.ok) (hat : x.at w b (off + k * 4)) (h1 : x.c ≠ 32) (h2 : isIn cellL x.c = false) (h3 : x.c ≠ 52) (h4 : isIn shiftL x.c = false) (h5 : x.c ≠ 5) :
    WrongTold b off len cap k x w := by
  have HF : Hid (fault x (len - 1 - k) = _) := fault_else x _ hx h1 h2 h3 h4 h5
  have HK : Hid (∀ W : World, Calls Try.prog 46 #[.int .u16 x.c] W fun e w' => e = .returned (.bool (refKnownB x.c)) ∧ Below W.heap.size W w') := fun W => refKnown_any x.c W hx.1.1 hx.1.2
  have HJ : Hid (∀ W : World, Calls Try.prog 47 #[.int .u16 x.c] W fun e w' => e = .returned (.bool (isIn jumpL x.c)) ∧ w' = W) := fun W => refJumps_any x.c W
  have HE : Hid (∀ W : World, Calls Try.prog 48 #[.int .u16 x.c] W fun e w' => e = .returned (.bool (isIn endL x.c)) ∧ w' = W) := fun W => refEnds_any x.c W
  obtain ⟨c, xt, xf, xk⟩ := x
  obtain ⟨-, ⟨ht0, ht1⟩, ⟨hf0, hf1⟩, -⟩ := hx
  obtain ⟨q1, q2, q3, q4⟩ := hat
  simp only [cellL, shiftL, isIn_cons, isIn_nil, Bool.or_eq_false_iff, beq_eq_false_iff_ne, ne_eq] at h2 h4
  obtain ⟨h21, h22, h23, h24, -⟩ := h2
  obtain ⟨h41, h42, -⟩ := h4
  dsimp only at *
  have B0 : Below w.heap.size w (w.alloc (Obj.cells #[.int .u16 c, .int .u8 xt, .int .u8 xf, .int .u32 xk] 56)) := (Below.refl _ _).alloc (Nat.le_refl _) _
  have A0 : In.at ⟨c, xt, xf, xk⟩ (w.alloc (Obj.cells #[.int .u16 c, .int .u8 xt, .int .u8 xf, .int .u32 xk] 56)) w.heap.size 0 := at_new w ⟨c, xt, xf, xk⟩
  have e1 : IntKind.u64.wrap (k : Int) = k := by rw [IntKind.wrap_u64]; omega
  have e2 : IntKind.u64.wrap (len : Int) = len := by rw [IntKind.wrap_u64]; omega
  have e3 : IntKind.u64.wrap ((k : Int) + 1) = k + 1 := by rw [IntKind.wrap_u64]; omega
  have e4 : IntKind.u64.wrap xt = xt := by rw [IntKind.wrap_u64]; omega
  have e5 : IntKind.u64.wrap ((k : Int) + 1 + xt) = k + 1 + xt := by rw [IntKind.wrap_u64]; omega
  have e6 : IntKind.u64.wrap xf = xf := by rw [IntKind.wrap_u64]; omega
  have e7 : IntKind.u64.wrap ((k : Int) + 1 + xf) = k + 1 + xf := by rw [IntKind.wrap_u64]; omega
  have hi1 : (k : Int) < (len : Int) := by omega
  unfold WrongTold
  generalize fault ⟨c, xt, xf, xk⟩ (len - 1 - k) = fx at *
  generalize refKnownB c = bk at *
  generalize isIn jumpL c = bj at *
  generalize isIn endL c = be at *
  cases bk <;> cases bj <;> cases be
  all_goals
    go_enter Try.func34, Try.ntmps34
    go_wp2_with (first | (go_at_call 46; refine (HK.out _).mono ?_; rintro e w1 ⟨rfl, b1⟩; have B1 := B0.trans (b1.mono B0.size); have A1 := A0.below b1; obtain ⟨p1, r1, s1, t1⟩ := A1.four) | (go_at_call 47; refine (HJ.out _).mono ?_; rintro e w2 ⟨rfl, rfl⟩) | (go_at_call 48; refine (HE.out _).mono ?_; rintro e w2 ⟨rfl, rfl⟩))
    all_goals
      go_ret
      refine ⟨ret_int ?_, B1⟩
      rw [HF.out]
      clear HF HK HJ HE A0 A1 B0 B1 b1 p1 r1 s1 t1 q1 q2 q3 q4
      repeat' split
      all_goals first | rfl | (exfalso; omega) | (exfalso; simp_all; omega) | (exfalso; simp_all)

theorem wrong_any (b off len cap k : Nat) (x : In) (w : World) (hlen : len ≤ 100000) (hk : k < len) (hx : x.ok) (hat : x.at w b (off + k * 4)) : WrongTold b off len cap k x w := by
  by_cases h1 : x.c = 32
  · obtain ⟨c, t, f, m⟩ := x; cases h1; exact wrong_32 b off len cap k t f m w hlen hk hx hat
  by_cases h2 : isIn cellL x.c = true
  · have h3 : x.c = 96 ∨ x.c = 97 ∨ x.c = 2 ∨ x.c = 3 := by simpa [cellL, isIn_cons, isIn_nil] using h2
    obtain ⟨c, t, f, m⟩ := x
    rcases h3 with h3 | h3 | h3 | h3 <;> cases h3
    · exact wrong_96 b off len cap k t f m w hlen hk hx hat
    · exact wrong_97 b off len cap k t f m w hlen hk hx hat
    · exact wrong_2 b off len cap k t f m w hlen hk hx hat
    · exact wrong_3 b off len cap k t f m w hlen hk hx hat
  by_cases h3 : x.c = 52
  · obtain ⟨c, t, f, m⟩ := x; cases h3; exact wrong_52 b off len cap k t f m w hlen hk hx hat
  by_cases h4 : isIn shiftL x.c = true
  · have h5 : x.c = 100 ∨ x.c = 116 := by simpa [shiftL, isIn_cons, isIn_nil] using h4
    obtain ⟨c, t, f, m⟩ := x
    rcases h5 with h5 | h5 <;> cases h5
    · exact wrong_100 b off len cap k t f m w hlen hk hx hat
    · exact wrong_116 b off len cap k t f m w hlen hk hx hat
  by_cases h5 : x.c = 5
  · obtain ⟨c, t, f, m⟩ := x; cases h5; exact wrong_5 b off len cap k t f m w hlen hk hx hat
  exact wrong_else b off len cap k x w hlen hk hx hat h1 (by simpa using h2) h3 (by simpa using h4) h5

end Go.Proofs.Ytamioifoemklfaa.V
