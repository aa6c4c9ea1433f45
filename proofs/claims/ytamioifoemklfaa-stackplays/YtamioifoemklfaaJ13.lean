/-
  Texts of this seat, joined: VWrong.
-/
import Derived.Test.YtamioifoemklfaaJ2

namespace Go.Proofs.Ytamioifoemklfaa.V
open Go.RowKit

/-- what is wrong, in the order of the document's own words. -/
theorem fault_else (x : In) (n : Nat) (hx : x.ok) (h1 : x.c ≠ 32) (h2 : isIn cellL x.c = false) (h3 : x.c ≠ 52) (h4 : isIn shiftL x.c = false) (h5 : x.c ≠ 5) :
    fault x n = if refKnownB x.c = false then 11 else if isIn jumpL x.c = true ∧ ((n : Int) ≤ x.t ∨ (n : Int) ≤ x.f) then 14 else if n = 0 ∧ isIn endL x.c = false then 15 else 0 := by
  obtain ⟨k1, k2, k3, -⟩ := known_same x.c hx.1.1 hx.1.2
  have e1 : loadsB x.c x.k = false := by unfold loadsB; rw [h2, beq_eq_false_iff_ne.2 h1]; rfl
  have e2 : reckB x.c x.k = false := by unfold reckB; rw [h4, beq_eq_false_iff_ne.2 h3]; rfl
  unfold fault
  rw [e1, e2, k1]
  by_cases hk : refKnownB x.c = false
  · rw [if_pos hk, if_pos hk]
  · rw [if_neg hk, if_neg hk, if_neg (by decide), if_neg (by decide)]
    have e3 : (outB x n = true) ↔ (isIn jumpL x.c = true ∧ ((n : Int) ≤ x.t ∨ (n : Int) ≤ x.f)) := by
      unfold outB
      rw [← k2, Bool.and_eq_true]
      by_cases hj : jumpsB x.c = true
      · have he : isIn endL x.c = false := by rw [hj, Bool.true_and] at k3; exact k3
        unfold skipsL
        rw [he, hj, if_neg (by decide), if_neg h5, if_neg (by decide)]
        simp only [true_and]
        unfold insB
        repeat' split
        all_goals (simp; try omega)
      · simp [hj]
    by_cases ho : outB x n = true
    · rw [if_pos ho, if_pos (e3.1 ho)]
    · rw [if_neg ho, if_neg (fun hh => ho (e3.2 hh))]

theorem fault_32 (t f k : Int) (n : Nat) : fault ⟨32, t, f, k⟩ n = if k % 4 = 0 ∧ k < 64 then (if n = 0 then 15 else 0) else 12 := by
  have e1 : knownB 32 = true := rfl
  have e3 : reckB 32 k = false := rfl
  have ej : jumpsB 32 = false := by rw [show (32 : Int) = ((32 : Nat) : Int) from rfl]; unfold jumpsB; rw [kOf_nat 32 (by decide)]; decide +kernel
  have e4 : outB ⟨32, t, f, k⟩ n = false := by unfold outB; rw [ej]; rfl
  have e5 : isIn endL 32 = false := rfl
  have e2 : loadsB 32 k = !decide (k % 4 = 0 ∧ k < 64) := by
    show ((!decide (k % 4 = 0) || decide (64 ≤ k)) || false) = _
    by_cases h1 : k % 4 = 0 <;> by_cases h2 : k < 64 <;> simp [h1, h2] <;> omega
  unfold fault
  rw [e1, e2, e3, e4, e5]
  by_cases h : k % 4 = 0 ∧ k < 64
  · by_cases hn : n = 0 <;> simp [h, hn]
  · simp [h]

theorem fault_cell (c t f k : Int) (n : Nat) (hc : c = 96 ∨ c = 97 ∨ c = 2 ∨ c = 3) : fault ⟨c, t, f, k⟩ n = if k < 16 then (if n = 0 then 15 else 0) else 12 := by
  have e1 : knownB c = true := by rcases hc with rfl | rfl | rfl | rfl <;> rfl
  have e3 : reckB c k = false := by rcases hc with rfl | rfl | rfl | rfl <;> rfl
  have ej : jumpsB c = false := by
    rcases hc with rfl | rfl | rfl | rfl
    · rw [show (96 : Int) = ((96 : Nat) : Int) from rfl]; unfold jumpsB; rw [kOf_nat 96 (by decide)]; decide +kernel
    · rw [show (97 : Int) = ((97 : Nat) : Int) from rfl]; unfold jumpsB; rw [kOf_nat 97 (by decide)]; decide +kernel
    · rw [show (2 : Int) = ((2 : Nat) : Int) from rfl]; unfold jumpsB; rw [kOf_nat 2 (by decide)]; decide +kernel
    · rw [show (3 : Int) = ((3 : Nat) : Int) from rfl]; unfold jumpsB; rw [kOf_nat 3 (by decide)]; decide +kernel
  have e4 : outB ⟨c, t, f, k⟩ n = false := by unfold outB; rw [ej]; rfl
  have e5 : isIn endL c = false := by rcases hc with rfl | rfl | rfl | rfl <;> rfl
  have e2 : loadsB c k = !decide (k < 16) := by
    have : loadsB c k = decide (16 ≤ k) := by rcases hc with rfl | rfl | rfl | rfl <;> rfl
    rw [this]
    by_cases h2 : k < 16 <;> simp [h2] <;> omega
  unfold fault
  rw [e1, e2, e3, e4, e5]
  by_cases h : k < 16
  · by_cases hn : n = 0 <;> simp [h, hn]
  · simp [h]

theorem known_at (n : Nat) (h : (isIn aloneL (n : Int) || isIn compL (kNat n : Int) || isIn cmpL (kNat n : Int)) = true) (hn : n < 65536) : knownB n = true := by
  unfold knownB
  rw [kOf_nat n hn]
  exact h

theorem nojump_at (n : Nat) (h : ((n : Int) == 5 || isIn cmpL (kNat n : Int)) = false) (hn : n < 65536) : jumpsB n = false := by
  unfold jumpsB
  rw [kOf_nat n hn]
  exact h

theorem fault_52 (t f k : Int) (n : Nat) : fault ⟨52, t, f, k⟩ n = if k = 0 then 13 else if n = 0 then 15 else 0 := by
  have e1 : knownB 52 = true := known_at 52 (by decide +kernel) (by decide)
  have e2 : loadsB 52 k = false := rfl
  have ej : jumpsB 52 = false := nojump_at 52 (by decide +kernel) (by decide)
  have e4 : outB ⟨52, t, f, k⟩ n = false := by unfold outB; rw [ej]; rfl
  have e5 : isIn endL 52 = false := rfl
  have e3 : reckB 52 k = decide (k = 0) := by
    show (k == 0 || false) = _
    rw [Bool.or_false]; rfl
  unfold fault
  rw [e1, e2, e3, e4, e5]
  by_cases h : k = 0
  · simp [h]
  · by_cases hn : n = 0 <;> simp [h, hn]

theorem fault_shift (c t f k : Int) (n : Nat) (hc : c = 100 ∨ c = 116) : fault ⟨c, t, f, k⟩ n = if 31 < k then 13 else if n = 0 then 15 else 0 := by
  have e1 : knownB c = true := by
    rcases hc with rfl | rfl
    · exact known_at 100 (by decide +kernel) (by decide)
    · exact known_at 116 (by decide +kernel) (by decide)
  have e2 : loadsB c k = false := by rcases hc with rfl | rfl <;> rfl
  have ej : jumpsB c = false := by
    rcases hc with rfl | rfl
    · exact nojump_at 100 (by decide +kernel) (by decide)
    · exact nojump_at 116 (by decide +kernel) (by decide)
  have e4 : outB ⟨c, t, f, k⟩ n = false := by unfold outB; rw [ej]; rfl
  have e5 : isIn endL c = false := by rcases hc with rfl | rfl <;> rfl
  have e3 : reckB c k = decide (31 < k) := by rcases hc with rfl | rfl <;> rfl
  unfold fault
  rw [e1, e2, e3, e4, e5]
  by_cases h : 31 < k
  · simp [h]
  · by_cases hn : n = 0 <;> simp [h, hn]

theorem fault_5 (t f k : Int) (n : Nat) (h0 : 0 ≤ k) : fault ⟨5, t, f, k⟩ n = if (n : Int) ≤ k then 14 else 0 := by
  have e1 : knownB 5 = true := rfl
  have e2 : loadsB 5 k = false := rfl
  have e3 : reckB 5 k = false := rfl
  have e5 : isIn endL 5 = false := rfl
  have e4 : outB ⟨5, t, f, k⟩ n = decide ((n : Int) ≤ k) := by
    show ([k].any fun s => !insB s n) = _
    rw [List.any_cons, List.any_nil, Bool.or_false]
    unfold insB
    by_cases h : k < n <;> simp [h] <;> omega
  unfold fault
  rw [e1, e2, e3, e4, e5]
  by_cases h : (n : Int) ≤ k
  · simp [h]
  · have : n ≠ 0 := by omega
    simp [h, this]

/-- what is told of a call of the document's 'wrong'. -/
def WrongTold (b off len cap k : Nat) (x : In) (w : World) : Prop :=
  Calls Try.prog 34 #[.slice (some ⟨b, off, none⟩) len cap, .int .i64 k] w fun e w' => e = .returned (.int .i64 (fault x (len - 1 - k))) ∧ Below w.heap.size w w'

set_option maxHeartbeats 2000000 in
theorem wrong_32 (b off len cap k : Nat) (xt xf xk : Int) (w : World) (hlen : len ≤ 100000) (hk : k < len) (hx : In.ok ⟨32, xt, xf, xk⟩) (hat : In.at ⟨32, xt, xf, xk⟩ w b (off + k * 4)) :
    WrongTold b off len cap k ⟨32, xt, xf, xk⟩ w := by
  have HF : Hid (fault ⟨32, xt, xf, xk⟩ (len - 1 - k) = _) := fault_32 xt xf xk _
  obtain ⟨-, -, -, hk0, hk1⟩ := hx
  obtain ⟨q1, q2, q3, q4⟩ := hat
  dsimp only at hk0 hk1 q1 q2 q3 q4
  have HK : Hid (∀ W : World, Calls Try.prog 46 #[.int .u16 32] W fun e w' => e = .returned (.bool true) ∧ Below W.heap.size W w') := fun W => refKnown_any 32 W (by decide) (by decide)
  have HJ : Hid (∀ W : World, Calls Try.prog 47 #[.int .u16 32] W fun e w' => e = .returned (.bool false) ∧ w' = W) := fun W => refJumps_any 32 W
  have HE : Hid (∀ W : World, Calls Try.prog 48 #[.int .u16 32] W fun e w' => e = .returned (.bool false) ∧ w' = W) := fun W => refEnds_any 32 W
  have B0 : Below w.heap.size w (w.alloc (Obj.cells #[.int .u16 32, .int .u8 xt, .int .u8 xf, .int .u32 xk] 56)) := (Below.refl _ _).alloc (Nat.le_refl _) _
  have A0 : In.at ⟨32, xt, xf, xk⟩ (w.alloc (Obj.cells #[.int .u16 32, .int .u8 xt, .int .u8 xf, .int .u32 xk] 56)) w.heap.size 0 := at_new w ⟨32, xt, xf, xk⟩
  have e1 : IntKind.u64.wrap (k : Int) = k := by rw [IntKind.wrap_u64]; omega
  have e2 : IntKind.u64.wrap (len : Int) = len := by rw [IntKind.wrap_u64]; omega
  have e3 : IntKind.u64.wrap ((k : Int) + 1) = k + 1 := by rw [IntKind.wrap_u64]; omega
  have e4 : IntKind.u64.wrap xk = xk := by rw [IntKind.wrap_u64]; omega
  have e5 : IntKind.u64.wrap ((k : Int) + 1 + xk) = k + 1 + xk := by rw [IntKind.wrap_u64]; omega
  have hi1 : (k : Int) < (len : Int) := by omega
  unfold WrongTold
  generalize fault ⟨32, xt, xf, xk⟩ (len - 1 - k) = fx at *
  go_enter Try.func34, Try.ntmps34
  go_wp2_with (first | (go_at_call 46; refine (HK.out _).mono ?_; rintro e w1 ⟨rfl, b1⟩; have B1 := B0.trans (b1.mono B0.size); have A1 := A0.below b1; obtain ⟨p1, r1, s1, t1⟩ := A1.four) | (go_at_call 47; refine (HJ.out _).mono ?_; rintro e w2 ⟨rfl, rfl⟩) | (go_at_call 48; refine (HE.out _).mono ?_; rintro e w2 ⟨rfl, rfl⟩))
  all_goals
    go_ret
    refine ⟨ret_int ?_, B1⟩
    rw [HF.out]
    clear HF HK HJ HE A0 A1 B0 B1 b1 p1 r1 s1 t1 q1 q2 q3 q4
    try simp only [beq_eq_false_iff_ne, ne_eq] at *
    repeat' split
    all_goals first | rfl | (exfalso; omega)

set_option maxHeartbeats 2000000 in
theorem wrong_96 (b off len cap k : Nat) (xt xf xk : Int) (w : World) (hlen : len ≤ 100000) (hk : k < len) (hx : In.ok ⟨96, xt, xf, xk⟩) (hat : In.at ⟨96, xt, xf, xk⟩ w b (off + k * 4)) :
    WrongTold b off len cap k ⟨96, xt, xf, xk⟩ w := by
  have HF : Hid (fault ⟨96, xt, xf, xk⟩ (len - 1 - k) = _) := fault_cell 96 xt xf xk _ (by decide)
  obtain ⟨-, -, -, hk0, hk1⟩ := hx
  obtain ⟨q1, q2, q3, q4⟩ := hat
  dsimp only at hk0 hk1 q1 q2 q3 q4
  have HK : Hid (∀ W : World, Calls Try.prog 46 #[.int .u16 96] W fun e w' => e = .returned (.bool true) ∧ Below W.heap.size W w') := fun W => refKnown_any 96 W (by decide) (by decide)
  have HJ : Hid (∀ W : World, Calls Try.prog 47 #[.int .u16 96] W fun e w' => e = .returned (.bool false) ∧ w' = W) := fun W => refJumps_any 96 W
  have HE : Hid (∀ W : World, Calls Try.prog 48 #[.int .u16 96] W fun e w' => e = .returned (.bool false) ∧ w' = W) := fun W => refEnds_any 96 W
  have B0 : Below w.heap.size w (w.alloc (Obj.cells #[.int .u16 96, .int .u8 xt, .int .u8 xf, .int .u32 xk] 56)) := (Below.refl _ _).alloc (Nat.le_refl _) _
  have A0 : In.at ⟨96, xt, xf, xk⟩ (w.alloc (Obj.cells #[.int .u16 96, .int .u8 xt, .int .u8 xf, .int .u32 xk] 56)) w.heap.size 0 := at_new w ⟨96, xt, xf, xk⟩
  have e1 : IntKind.u64.wrap (k : Int) = k := by rw [IntKind.wrap_u64]; omega
  have e2 : IntKind.u64.wrap (len : Int) = len := by rw [IntKind.wrap_u64]; omega
  have e3 : IntKind.u64.wrap ((k : Int) + 1) = k + 1 := by rw [IntKind.wrap_u64]; omega
  have e4 : IntKind.u64.wrap xk = xk := by rw [IntKind.wrap_u64]; omega
  have e5 : IntKind.u64.wrap ((k : Int) + 1 + xk) = k + 1 + xk := by rw [IntKind.wrap_u64]; omega
  have hi1 : (k : Int) < (len : Int) := by omega
  unfold WrongTold
  generalize fault ⟨96, xt, xf, xk⟩ (len - 1 - k) = fx at *
  go_enter Try.func34, Try.ntmps34
  go_wp2_with (first | (go_at_call 46; refine (HK.out _).mono ?_; rintro e w1 ⟨rfl, b1⟩; have B1 := B0.trans (b1.mono B0.size); have A1 := A0.below b1; obtain ⟨p1, r1, s1, t1⟩ := A1.four) | (go_at_call 47; refine (HJ.out _).mono ?_; rintro e w2 ⟨rfl, rfl⟩) | (go_at_call 48; refine (HE.out _).mono ?_; rintro e w2 ⟨rfl, rfl⟩))
  all_goals
    go_ret
    refine ⟨ret_int ?_, B1⟩
    rw [HF.out]
    clear HF HK HJ HE A0 A1 B0 B1 b1 p1 r1 s1 t1 q1 q2 q3 q4
    try simp only [beq_eq_false_iff_ne, ne_eq] at *
    repeat' split
    all_goals first | rfl | (exfalso; omega)

set_option maxHeartbeats 2000000 in
theorem wrong_97 (b off len cap k : Nat) (xt xf xk : Int) (w : World) (hlen : len ≤ 100000) (hk : k < len) (hx : In.ok ⟨97, xt, xf, xk⟩) (hat : In.at ⟨97, xt, xf, xk⟩ w b (off + k * 4)) :
    WrongTold b off len cap k ⟨97, xt, xf, xk⟩ w := by
  have HF : Hid (fault ⟨97, xt, xf, xk⟩ (len - 1 - k) = _) := fault_cell 97 xt xf xk _ (by decide)
  obtain ⟨-, -, -, hk0, hk1⟩ := hx
  obtain ⟨q1, q2, q3, q4⟩ := hat
  dsimp only at hk0 hk1 q1 q2 q3 q4
  have HK : Hid (∀ W : World, Calls Try.prog 46 #[.int .u16 97] W fun e w' => e = .returned (.bool true) ∧ Below W.heap.size W w') := fun W => refKnown_any 97 W (by decide) (by decide)
  have HJ : Hid (∀ W : World, Calls Try.prog 47 #[.int .u16 97] W fun e w' => e = .returned (.bool false) ∧ w' = W) := fun W => refJumps_any 97 W
  have HE : Hid (∀ W : World, Calls Try.prog 48 #[.int .u16 97] W fun e w' => e = .returned (.bool false) ∧ w' = W) := fun W => refEnds_any 97 W
  have B0 : Below w.heap.size w (w.alloc (Obj.cells #[.int .u16 97, .int .u8 xt, .int .u8 xf, .int .u32 xk] 56)) := (Below.refl _ _).alloc (Nat.le_refl _) _
  have A0 : In.at ⟨97, xt, xf, xk⟩ (w.alloc (Obj.cells #[.int .u16 97, .int .u8 xt, .int .u8 xf, .int .u32 xk] 56)) w.heap.size 0 := at_new w ⟨97, xt, xf, xk⟩
  have e1 : IntKind.u64.wrap (k : Int) = k := by rw [IntKind.wrap_u64]; omega
  have e2 : IntKind.u64.wrap (len : Int) = len := by rw [IntKind.wrap_u64]; omega
  have e3 : IntKind.u64.wrap ((k : Int) + 1) = k + 1 := by rw [IntKind.wrap_u64]; omega
  have e4 : IntKind.u64.wrap xk = xk := by rw [IntKind.wrap_u64]; omega
  have e5 : IntKind.u64.wrap ((k : Int) + 1 + xk) = k + 1 + xk := by rw [IntKind.wrap_u64]; omega
  have hi1 : (k : Int) < (len : Int) := by omega
  unfold WrongTold
  generalize fault ⟨97, xt, xf, xk⟩ (len - 1 - k) = fx at *
  go_enter Try.func34, Try.ntmps34
  go_wp2_with (first | (go_at_call 46; refine (HK.out _).mono ?_; rintro e w1 ⟨rfl, b1⟩; have B1 := B0.trans (b1.mono B0.size); have A1 := A0.below b1; obtain ⟨p1, r1, s1, t1⟩ := A1.four) | (go_at_call 47; refine (HJ.out _).mono ?_; rintro e w2 ⟨rfl, rfl⟩) | (go_at_call 48; refine (HE.out _).mono ?_; rintro e w2 ⟨rfl, rfl⟩))
  all_goals
    go_ret
    refine ⟨ret_int ?_, B1⟩
    rw [HF.out]
    clear HF HK HJ HE A0 A1 B0 B1 b1 p1 r1 s1 t1 q1 q2 q3 q4
    try simp only [beq_eq_false_iff_ne, ne_eq] at *
    repeat' split
    all_goals first | rfl | (exfalso; omega)

set_option maxHeartbeats 2000000 in
theorem wrong_2 (b off len cap k : Nat) (xt xf xk : Int) (w : World) (hlen : len ≤ 100000) (hk : k < len) (hx : In.ok ⟨2, xt, xf, xk⟩) (hat : In.at ⟨2, xt, xf, xk⟩ w b (off + k * 4)) :
    WrongTold b off len cap k ⟨2, xt, xf, xk⟩ w := by
  have HF : Hid (fault ⟨2, xt, xf, xk⟩ (len - 1 - k) = _) := fault_cell 2 xt xf xk _ (by decide)
  obtain ⟨-, -, -, hk0, hk1⟩ := hx
  obtain ⟨q1, q2, q3, q4⟩ := hat
  dsimp only at hk0 hk1 q1 q2 q3 q4
  have HK : Hid (∀ W : World, Calls Try.prog 46 #[.int .u16 2] W fun e w' => e = .returned (.bool true) ∧ Below W.heap.size W w') := fun W => refKnown_any 2 W (by decide) (by decide)
  have HJ : Hid (∀ W : World, Calls Try.prog 47 #[.int .u16 2] W fun e w' => e = .returned (.bool false) ∧ w' = W) := fun W => refJumps_any 2 W
  have HE : Hid (∀ W : World, Calls Try.prog 48 #[.int .u16 2] W fun e w' => e = .returned (.bool false) ∧ w' = W) := fun W => refEnds_any 2 W
  have B0 : Below w.heap.size w (w.alloc (Obj.cells #[.int .u16 2, .int .u8 xt, .int .u8 xf, .int .u32 xk] 56)) := (Below.refl _ _).alloc (Nat.le_refl _) _
  have A0 : In.at ⟨2, xt, xf, xk⟩ (w.alloc (Obj.cells #[.int .u16 2, .int .u8 xt, .int .u8 xf, .int .u32 xk] 56)) w.heap.size 0 := at_new w ⟨2, xt, xf, xk⟩
  have e1 : IntKind.u64.wrap (k : Int) = k := by rw [IntKind.wrap_u64]; omega
  have e2 : IntKind.u64.wrap (len : Int) = len := by rw [IntKind.wrap_u64]; omega
  have e3 : IntKind.u64.wrap ((k : Int) + 1) = k + 1 := by rw [IntKind.wrap_u64]; omega
  have e4 : IntKind.u64.wrap xk = xk := by rw [IntKind.wrap_u64]; omega
  have e5 : IntKind.u64.wrap ((k : Int) + 1 + xk) = k + 1 + xk := by rw [IntKind.wrap_u64]; omega
  have hi1 : (k : Int) < (len : Int) := by omega
  unfold WrongTold
  generalize fault ⟨2, xt, xf, xk⟩ (len - 1 - k) = fx at *
  go_enter Try.func34, Try.ntmps34
  go_wp2_with (first | (go_at_call 46; refine (HK.out _).mono ?_; rintro e w1 ⟨rfl, b1⟩; have B1 := B0.trans (b1.mono B0.size); have A1 := A0.below b1; obtain ⟨p1, r1, s1, t1⟩ := A1.four) | (go_at_call 47; refine (HJ.out _).mono ?_; rintro e w2 ⟨rfl, rfl⟩) | (go_at_call 48; refine (HE.out _).mono ?_; rintro e w2 ⟨rfl, rfl⟩))
  all_goals
    go_ret
    refine ⟨ret_int ?_, B1⟩
    rw [HF.out]
    clear HF HK HJ HE A0 A1 B0 B1 b1 p1 r1 s1 t1 q1 q2 q3 q4
    try simp only [beq_eq_false_iff_ne, ne_eq] at *
    repeat' split
    all_goals first | rfl | (exfalso; omega)

set_option maxHeartbeats 2000000 in
theorem wrong_3 (b off len cap k : Nat) (xt xf xk : Int) (w : World) (hlen : len ≤ 100000) (hk : k < len) (hx : In.ok ⟨3, xt, xf, xk⟩) (hat : In.at ⟨3, xt, xf, xk⟩ w b (off + k * 4)) :
    WrongTold b off len cap k ⟨3, xt, xf, xk⟩ w := by
  have HF : Hid (fault ⟨3, xt, xf, xk⟩ (len - 1 - k) = _) := fault_cell 3 xt xf xk _ (by decide)
  obtain ⟨-, -, -, hk0, hk1⟩ := hx
  obtain ⟨q1, q2, q3, q4⟩ := hat
  dsimp only at hk0 hk1 q1 q2 q3 q4
  have HK : Hid (∀ W : World, Calls Try.prog 46 #[.int .u16 3] W fun e w' => e = .returned (.bool true) ∧ Below W.heap.size W w') := fun W => refKnown_any 3 W (by decide) (by decide)
  have HJ : Hid (∀ W : World, Calls Try.prog 47 #[.int .u16 3] W fun e w' => e = .returned (.bool false) ∧ w' = W) := fun W => refJumps_any 3 W
  have HE : Hid (∀ W : World, Calls Try.prog 48 #[.int .u16 3] W fun e w' => e = .returned (.bool false) ∧ w' = W) := fun W => refEnds_any 3 W
  have B0 : Below w.heap.size w (w.alloc (Obj.cells #[.int .u16 3, .int .u8 xt, .int .u8 xf, .int .u32 xk] 56)) := (Below.refl _ _).alloc (Nat.le_refl _) _
  have A0 : In.at ⟨3, xt, xf, xk⟩ (w.alloc (Obj.cells #[.int .u16 3, .int .u8 xt, .int .u8 xf, .int .u32 xk] 56)) w.heap.size 0 := at_new w ⟨3, xt, xf, xk⟩
  have e1 : IntKind.u64.wrap (k : Int) = k := by rw [IntKind.wrap_u64]; omega
  have e2 : IntKind.u64.wrap (len : Int) = len := by rw [IntKind.wrap_u64]; omega
  have e3 : IntKind.u64.wrap ((k : Int) + 1) = k + 1 := by rw [IntKind.wrap_u64]; omega
  have e4 : IntKind.u64.wrap xk = xk := by rw [IntKind.wrap_u64]; omega
  have e5 : IntKind.u64.wrap ((k : Int) + 1 + xk) = k + 1 + xk := by rw [IntKind.wrap_u64]; omega
  have hi1 : (k : Int) < (len : Int) := by omega
  unfold WrongTold
  generalize fault ⟨3, xt, xf, xk⟩ (len - 1 - k) = fx at *
  go_enter Try.func34, Try.ntmps34
  go_wp2_with (first | (go_at_call 46; refine (HK.out _).mono ?_; rintro e w1 ⟨rfl, b1⟩; have B1 := B0.trans (b1.mono B0.size); have A1 := A0.below b1; obtain ⟨p1, r1, s1, t1⟩ := A1.four) | (go_at_call 47; refine (HJ.out _).mono ?_; rintro e w2 ⟨rfl, rfl⟩) | (go_at_call 48; refine (HE.out _).mono ?_; rintro e w2 ⟨rfl, rfl⟩))
  all_goals
    go_ret
    refine ⟨ret_int ?_, B1⟩
    rw [HF.out]
    clear HF HK HJ HE A0 A1 B0 B1 b1 p1 r1 s1 t1 q1 q2 q3 q4
    try simp only [beq_eq_false_iff_ne, ne_eq] at *
    repeat' split
    all_goals first | rfl | (exfalso; omega)

set_option maxHeartbeats 2000000 in
theorem wrong_52 (b off len cap k : Nat) (xt xf xk : Int) (w : World) (hlen : len ≤ 100000) (hk : k < len) (hx : In.ok ⟨52, xt, xf, xk⟩) (hat : In.at ⟨52, xt, xf, xk⟩ w b (off + k * 4)) :
    WrongTold b off len cap k ⟨52, xt, xf, xk⟩ w := by
  have HF : Hid (fault ⟨52, xt, xf, xk⟩ (len - 1 - k) = _) := fault_52 xt xf xk _
  obtain ⟨-, -, -, hk0, hk1⟩ := hx
  obtain ⟨q1, q2, q3, q4⟩ := hat
  dsimp only at hk0 hk1 q1 q2 q3 q4
  have HK : Hid (∀ W : World, Calls Try.prog 46 #[.int .u16 52] W fun e w' => e = .returned (.bool true) ∧ Below W.heap.size W w') := fun W => refKnown_any 52 W (by decide) (by decide)
  have HJ : Hid (∀ W : World, Calls Try.prog 47 #[.int .u16 52] W fun e w' => e = .returned (.bool false) ∧ w' = W) := fun W => refJumps_any 52 W
  have HE : Hid (∀ W : World, Calls Try.prog 48 #[.int .u16 52] W fun e w' => e = .returned (.bool false) ∧ w' = W) := fun W => refEnds_any 52 W
  have B0 : Below w.heap.size w (w.alloc (Obj.cells #[.int .u16 52, .int .u8 xt, .int .u8 xf, .int .u32 xk] 56)) := (Below.refl _ _).alloc (Nat.le_refl _) _
  have A0 : In.at ⟨52, xt, xf, xk⟩ (w.alloc (Obj.cells #[.int .u16 52, .int .u8 xt, .int .u8 xf, .int .u32 xk] 56)) w.heap.size 0 := at_new w ⟨52, xt, xf, xk⟩
  have e1 : IntKind.u64.wrap (k : Int) = k := by rw [IntKind.wrap_u64]; omega
  have e2 : IntKind.u64.wrap (len : Int) = len := by rw [IntKind.wrap_u64]; omega
  have e3 : IntKind.u64.wrap ((k : Int) + 1) = k + 1 := by rw [IntKind.wrap_u64]; omega
  have e4 : IntKind.u64.wrap xk = xk := by rw [IntKind.wrap_u64]; omega
  have e5 : IntKind.u64.wrap ((k : Int) + 1 + xk) = k + 1 + xk := by rw [IntKind.wrap_u64]; omega
  have hi1 : (k : Int) < (len : Int) := by omega
  unfold WrongTold
  generalize fault ⟨52, xt, xf, xk⟩ (len - 1 - k) = fx at *
  go_enter Try.func34, Try.ntmps34
  go_wp2_with (first | (go_at_call 46; refine (HK.out _).mono ?_; rintro e w1 ⟨rfl, b1⟩; have B1 := B0.trans (b1.mono B0.size); have A1 := A0.below b1; obtain ⟨p1, r1, s1, t1⟩ := A1.four) | (go_at_call 47; refine (HJ.out _).mono ?_; rintro e w2 ⟨rfl, rfl⟩) | (go_at_call 48; refine (HE.out _).mono ?_; rintro e w2 ⟨rfl, rfl⟩))
  all_goals
    go_ret
    refine ⟨ret_int ?_, B1⟩
    rw [HF.out]
    clear HF HK HJ HE A0 A1 B0 B1 b1 p1 r1 s1 t1 q1 q2 q3 q4
    try simp only [beq_eq_false_iff_ne, ne_eq] at *
    repeat' split
    all_goals first | rfl | (exfalso; omega)

set_option maxHeartbeats 2000000 in
theorem wrong_100 (b off len cap k : Nat) (xt xf xk : Int) (w : World) (hlen : len ≤ 100000) (hk : k < len) (hx : In.ok ⟨100, xt, xf, xk⟩) (hat : In.at ⟨100, xt, xf, xk⟩ w b (off + k * 4)) :
    WrongTold b off len cap k ⟨100, xt, xf, xk⟩ w := by
  have HF : Hid (fault ⟨100, xt, xf, xk⟩ (len - 1 - k) = _) := fault_shift 100 xt xf xk _ (by decide)
  obtain ⟨-, -, -, hk0, hk1⟩ := hx
  obtain ⟨q1, q2, q3, q4⟩ := hat
  dsimp only at hk0 hk1 q1 q2 q3 q4
  have HK : Hid (∀ W : World, Calls Try.prog 46 #[.int .u16 100] W fun e w' => e = .returned (.bool true) ∧ Below W.heap.size W w') := fun W => refKnown_any 100 W (by decide) (by decide)
  have HJ : Hid (∀ W : World, Calls Try.prog 47 #[.int .u16 100] W fun e w' => e = .returned (.bool false) ∧ w' = W) := fun W => refJumps_any 100 W
  have HE : Hid (∀ W : World, Calls Try.prog 48 #[.int .u16 100] W fun e w' => e = .returned (.bool false) ∧ w' = W) := fun W => refEnds_any 100 W
  have B0 : Below w.heap.size w (w.alloc (Obj.cells #[.int .u16 100, .int .u8 xt, .int .u8 xf, .int .u32 xk] 56)) := (Below.refl _ _).alloc (Nat.le_refl _) _
  have A0 : In.at ⟨100, xt, xf, xk⟩ (w.alloc (Obj.cells #[.int .u16 100, .int .u8 xt, .int .u8 xf, .int .u32 xk] 56)) w.heap.size 0 := at_new w ⟨100, xt, xf, xk⟩
  have e1 : IntKind.u64.wrap (k : Int) = k := by rw [IntKind.wrap_u64]; omega
  have e2 : IntKind.u64.wrap (len : Int) = len := by rw [IntKind.wrap_u64]; omega
  have e3 : IntKind.u64.wrap ((k : Int) + 1) = k + 1 := by rw [IntKind.wrap_u64]; omega
  have e4 : IntKind.u64.wrap xk = xk := by rw [IntKind.wrap_u64]; omega
  have e5 : IntKind.u64.wrap ((k : Int) + 1 + xk) = k + 1 + xk := by rw [IntKind.wrap_u64]; omega
  have hi1 : (k : Int) < (len : Int) := by omega
  unfold WrongTold
  generalize fault ⟨100, xt, xf, xk⟩ (len - 1 - k) = fx at *
  go_enter Try.func34, Try.ntmps34
  go_wp2_with (first | (go_at_call 46; refine (HK.out _).mono ?_; rintro e w1 ⟨rfl, b1⟩; have B1 := B0.trans (b1.mono B0.size); have A1 := A0.below b1; obtain ⟨p1, r1, s1, t1⟩ := A1.four) | (go_at_call 47; refine (HJ.out _).mono ?_; rintro e w2 ⟨rfl, rfl⟩) | (go_at_call 48; refine (HE.out _).mono ?_; rintro e w2 ⟨rfl, rfl⟩))
  all_goals
    go_ret
    refine ⟨ret_int ?_, B1⟩
    rw [HF.out]
    clear HF HK HJ HE A0 A1 B0 B1 b1 p1 r1 s1 t1 q1 q2 q3 q4
    try simp only [beq_eq_false_iff_ne, ne_eq] at *
    repeat' split
    all_goals first | rfl | (exfalso; omega)

set_option maxHeartbeats 2000000 in
theorem wrong_116 (b off len cap k : Nat) (xt xf xk : Int) (w : World) (hlen : len ≤ 100000) (hk : k < len) (hx : In.ok ⟨116, xt, xf, xk⟩) (hat : In.at ⟨116, xt, xf, xk⟩ w b (off + k * 4)) :
    WrongTold b off len cap k ⟨116, xt, xf, xk⟩ w := by
  have HF : Hid (fault ⟨116, xt, xf, xk⟩ (len - 1 - k) = _) := fault_shift 116 xt xf xk _ (by decide)
  obtain ⟨-, -, -, hk0, hk1⟩ := hx
  obtain ⟨q1, q2, q3, q4⟩ := hat
  dsimp only at hk0 hk1 q1 q2 q3 q4
  have HK : Hid (∀ W : World, Calls Try.prog 46 #[.int .u16 116] W fun e w' => e = .returned (.bool true) ∧ Below W.heap.size W w') := fun W => refKnown_any 116 W (by decide) (by decide)
  have HJ : Hid (∀ W : World, Calls Try.prog 47 #[.int .u16 116] W fun e w' => e = .returned (.bool false) ∧ w' = W) := fun W => refJumps_any 116 W
  have HE : Hid (∀ W : World, Calls Try.prog 48 #[.int .u16 116] W fun e w' => e = .returned (.bool false) ∧ w' = W) := fun W => refEnds_any 116 W
  have B0 : Below w.heap.size w (w.alloc (Obj.cells #[.int .u16 116, .int .u8 xt, .int .u8 xf, .int .u32 xk] 56)) := (Below.refl _ _).alloc (Nat.le_refl _) _
  have A0 : In.at ⟨116, xt, xf, xk⟩ (w.alloc (Obj.cells #[.int .u16 116, .int .u8 xt, .int .u8 xf, .int .u32 xk] 56)) w.heap.size 0 := at_new w ⟨116, xt, xf, xk⟩
  have e1 : IntKind.u64.wrap (k : Int) = k := by rw [IntKind.wrap_u64]; omega
  have e2 : IntKind.u64.wrap (len : Int) = len := by rw [IntKind.wrap_u64]; omega
  have e3 : IntKind.u64.wrap ((k : Int) + 1) = k + 1 := by rw [IntKind.wrap_u64]; omega
  have e4 : IntKind.u64.wrap xk = xk := by rw [IntKind.wrap_u64]; omega
  have e5 : IntKind.u64.wrap ((k : Int) + 1 + xk) = k + 1 + xk := by rw [IntKind.wrap_u64]; omega
  have hi1 : (k : Int) < (len : Int) := by omega
  unfold WrongTold
  generalize fault ⟨116, xt, xf, xk⟩ (len - 1 - k) = fx at *
  go_enter Try.func34, Try.ntmps34
  go_wp2_with (first | (go_at_call 46; refine (HK.out _).mono ?_; rintro e w1 ⟨rfl, b1⟩; have B1 := B0.trans (b1.mono B0.size); have A1 := A0.below b1; obtain ⟨p1, r1, s1, t1⟩ := A1.four) | (go_at_call 47; refine (HJ.out _).mono ?_; rintro e w2 ⟨rfl, rfl⟩) | (go_at_call 48; refine (HE.out _).mono ?_; rintro e w2 ⟨rfl, rfl⟩))
  all_goals
    go_ret
    refine ⟨ret_int ?_, B1⟩
    rw [HF.out]
    clear HF HK HJ HE A0 A1 B0 B1 b1 p1 r1 s1 t1 q1 q2 q3 q4
    try simp only [beq_eq_false_iff_ne, ne_eq] at *
    repeat' split
    all_goals first | rfl | (exfalso; omega)

set_option maxHeartbeats 2000000 in
theorem wrong_5 (b off len cap k : Nat) (xt xf xk : Int) (w : World) (hlen : len ≤ 100000) (hk : k < len) (hx : In.ok ⟨5, xt, xf, xk⟩) (hat : In.at ⟨5, xt, xf, xk⟩ w b (off + k * 4)) :
    WrongTold b off len cap k ⟨5, xt, xf, xk⟩ w := by
  have HF : Hid (fault ⟨5, xt, xf, xk⟩ (len - 1 - k) = _) := fault_5 xt xf xk _ hx.2.2.2.1
  obtain ⟨-, -, -, hk0, hk1⟩ := hx
  obtain ⟨q1, q2, q3, q4⟩ := hat
  dsimp only at hk0 hk1 q1 q2 q3 q4
  have HK : Hid (∀ W : World, Calls Try.prog 46 #[.int .u16 5] W fun e w' => e = .returned (.bool true) ∧ Below W.heap.size W w') := fun W => refKnown_any 5 W (by decide) (by decide)
  have HJ : Hid (∀ W : World, Calls Try.prog 47 #[.int .u16 5] W fun e w' => e = .returned (.bool true) ∧ w' = W) := fun W => refJumps_any 5 W
  have HE : Hid (∀ W : World, Calls Try.prog 48 #[.int .u16 5] W fun e w' => e = .returned (.bool false) ∧ w' = W) := fun W => refEnds_any 5 W
  have B0 : Below w.heap.size w (w.alloc (Obj.cells #[.int .u16 5, .int .u8 xt, .int .u8 xf, .int .u32 xk] 56)) := (Below.refl _ _).alloc (Nat.le_refl _) _
  have A0 : In.at ⟨5, xt, xf, xk⟩ (w.alloc (Obj.cells #[.int .u16 5, .int .u8 xt, .int .u8 xf, .int .u32 xk] 56)) w.heap.size 0 := at_new w ⟨5, xt, xf, xk⟩
  have e1 : IntKind.u64.wrap (k : Int) = k := by rw [IntKind.wrap_u64]; omega
  have e2 : IntKind.u64.wrap (len : Int) = len := by rw [IntKind.wrap_u64]; omega
  have e3 : IntKind.u64.wrap ((k : Int) + 1) = k + 1 := by rw [IntKind.wrap_u64]; omega
  have e4 : IntKind.u64.wrap xk = xk := by rw [IntKind.wrap_u64]; omega
  have e5 : IntKind.u64.wrap ((k : Int) + 1 + xk) = k + 1 + xk := by rw [IntKind.wrap_u64]; omega
  have hi1 : (k : Int) < (len : Int) := by omega
  unfold WrongTold
  generalize fault ⟨5, xt, xf, xk⟩ (len - 1 - k) = fx at *
  go_enter Try.func34, Try.ntmps34
  go_wp2_with (first | (go_at_call 46; refine (HK.out _).mono ?_; rintro e w1 ⟨rfl, b1⟩; have B1 := B0.trans (b1.mono B0.size); have A1 := A0.below b1; obtain ⟨p1, r1, s1, t1⟩ := A1.four) | (go_at_call 47; refine (HJ.out _).mono ?_; rintro e w2 ⟨rfl, rfl⟩) | (go_at_call 48; refine (HE.out _).mono ?_; rintro e w2 ⟨rfl, rfl⟩))
  all_goals
    go_ret
    refine ⟨ret_int ?_, B1⟩
    rw [HF.out]
    clear HF HK HJ HE A0 A1 B0 B1 b1 p1 r1 s1 t1 q1 q2 q3 q4
    try simp only [beq_eq_false_iff_ne, ne_eq] at *
    repeat' split
    all_goals first | rfl | (exfalso; omega)

end Go.Proofs.Ytamioifoemklfaa.V
