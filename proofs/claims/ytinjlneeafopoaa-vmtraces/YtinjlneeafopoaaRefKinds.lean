/-
  The document's own answer to which codes are known, proved of every code; and that both answers are one.
-/
import Derived.Test.YtinjlneeafopoaaKinds
import Derived.Laws.BitsAllLaws
namespace Go.Proofs.Ytinjlneeafopoaa
open Go.RowKit

theorem us_plain (w : World) : Us (w.alloc (.cells #[.int .u16 32, .int .u16 0, .int .u16 1, .int .u16 96, .int .u16 97, .int .u16 2, .int .u16 3, .int .u16 4, .int .u16 20, .int .u16 36, .int .u16 52, .int .u16 68, .int .u16 84, .int .u16 100, .int .u16 116, .int .u16 132, .int .u16 164, .int .u16 5, .int .u16 21, .int .u16 37, .int .u16 53, .int .u16 69, .int .u16 6, .int .u16 22, .int .u16 7, .int .u16 135] 40)) (some ⟨w.heap.size, 0, none⟩) 26 plainL := by
  refine ⟨rfl, _, _, rfl, fun i hi => ?_⟩
  have h13 : i < 13 ∨ (13 ≤ i ∧ i - 13 < 13) := by omega
  rcases h13 with h | ⟨h, h2⟩
  · match i, h with
    | 0, _ | 1, _ | 2, _ | 3, _ | 4, _ | 5, _ | 6, _ | 7, _ | 8, _ | 9, _ | 10, _ | 11, _ | 12, _ => simp [plainL]
  · obtain ⟨j, rfl⟩ : ∃ j, i = j + 13 := ⟨i - 13, by omega⟩
    have hj : j < 13 := by omega
    clear h h2 hi
    match j, hj with
    | 0, _ | 1, _ | 2, _ | 3, _ | 4, _ | 5, _ | 6, _ | 7, _ | 8, _ | 9, _ | 10, _ | 11, _ | 12, _ => simp [plainL]

theorem us_with (w : World) : Us (w.alloc (.cells #[.int .u16 4, .int .u16 20, .int .u16 36, .int .u16 52, .int .u16 68, .int .u16 84, .int .u16 100, .int .u16 116, .int .u16 164, .int .u16 21, .int .u16 37, .int .u16 53, .int .u16 69] 40)) (some ⟨w.heap.size, 0, none⟩) 13 withL := by
  refine ⟨rfl, _, _, rfl, fun i hi => ?_⟩
  match i, hi with
  | 0, _ | 1, _ | 2, _ | 3, _ | 4, _ | 5, _ | 6, _ | 7, _ | 8, _ | 9, _ | 10, _ | 11, _ | 12, _ => simp [withL]

theorem plain_any (w : World) :
    Calls Try.prog 55 #[] w fun e w' => (∃ a, e = .returned (.slice a 26 26) ∧ Us w' a 26 plainL) ∧ Below w.heap.size w w' := by
  have e1 : ∀ o, Below w.heap.size w (w.alloc o) := fun o => (Below.refl _ _).alloc (Nat.le_refl _) _
  have hu := us_plain w
  go_enter Try.func55, Try.ntmps55
  go_wp2
  go_ret
  exact ⟨⟨_, rfl, hu⟩, e1 _⟩

theorem with_any (w : World) :
    Calls Try.prog 56 #[] w fun e w' => (∃ a, e = .returned (.slice a 13 13) ∧ Us w' a 13 withL) ∧ Below w.heap.size w w' := by
  have e1 : ∀ o, Below w.heap.size w (w.alloc o) := fun o => (Below.refl _ _).alloc (Nat.le_refl _) _
  have hu := us_with w
  go_enter Try.func56, Try.ntmps56
  go_wp2
  go_ret
  exact ⟨⟨_, rfl, hu⟩, e1 _⟩

set_option maxHeartbeats 400000 in
theorem refKnown_any (c : Int) (w : World) (h0 : 0 ≤ c) (h1 : c ≤ 65535) :
    Calls Try.prog 39 #[.int .u16 c] w fun e w' => e = .returned (.bool (refKnownB c)) ∧ Below w.heap.size w w' := by
  go_enter Try.func39, Try.ntmps39
  go_wp2_with fail
  refine (plain_any _).mono ?_
  rintro e w1 ⟨⟨a1, rfl, u1⟩, b1⟩
  go_wp2_with fail
  refine (has_any a1 26 26 plainL c _ (by decide) u1).mono ?_
  rintro e w2 ⟨rfl, rfl⟩
  have HE : Hid (refKnownB c = (isIn plainL c || (decide (8 ≤ c) && isIn withL (c - 8)))) := rfl
  generalize isIn plainL c = p at *
  cases p with
  | true =>
    go_wp2
    go_ret
    exact ⟨ret_bool (by rw [HE.out]; rfl), b1⟩
  | false =>
    by_cases h8 : 8 ≤ c
    · have hs : IntKind.u16.wrap (c - 8) = c - 8 := by rw [IntKind.wrap_u16]; omega
      go_wp2_with (first | (go_at_call 56; refine (with_any _).mono ?_; rintro e w3 ⟨⟨a3, rfl, u3⟩, b3⟩) | (go_at_call 54; refine (has_any a3 13 13 withL (c - 8) _ (by decide) u3).mono ?_; rintro e w4 ⟨rfl, rfl⟩))
      go_ret
      exact ⟨ret_bool (by rw [HE.out, decide_eq_true h8]; rfl), b1.trans (b3.mono b1.size)⟩
    · have HD : Hid (decide (8 ≤ c) = false) := decide_eq_false h8
      go_wp2
      go_ret
      exact ⟨ret_bool (by rw [HE.out, HD.out]; rfl), b1⟩

/-- the code by K, of a code that is a Nat. -/
def kNat (n : Nat) : Nat := n &&& 65527

theorem kOf_nat (n : Nat) (h : n < 65536) : kOf (n : Int) = (kNat n : Int) := u16_andNot_nat n 8 h (by decide)

theorem kNat_big (n : Nat) (h : n < 65536) (h2 : 256 ≤ n) : 256 ≤ kNat n := by
  have e : kNat n >>> 8 = n / 256 := by
    unfold kNat
    rw [Nat.shiftRight_and_distrib, show 65527 >>> 8 = 2 ^ 8 - 1 from rfl, Nat.and_two_pow_sub_one_eq_mod, Nat.shiftRight_eq_div_pow]
    exact Nat.mod_eq_of_lt (by omega)
  rw [Nat.shiftRight_eq_div_pow] at e
  have e2 : kNat n / 256 = n / 256 := e
  omega

theorem isIn_big (l : List Int) (c : Int) (h : ∀ z ∈ l, z < c) : isIn l c = false := by
  induction l with
  | nil => rfl
  | cons a l ih =>
    have ha := h a (by simp)
    rw [isIn_cons, ih (fun z hz => h z (by simp [hz]))]
    simp
    omega

/-- what is to be known of a code: the two ways to know it, to jump and to end agree; what jumps or ends is known, and none does both. -/
def fine (c k : Int) : Bool :=
  (isIn aloneL c || isIn compL k || isIn cmpL k) == (isIn plainL c || (decide (8 ≤ c) && isIn withL (c - 8))) &&
  (c == 5 || isIn cmpL k) == isIn jumpL c &&
  !((c == 5 || isIn cmpL k) && isIn endL c) && (!((c == 5 || isIn cmpL k) || isIn endL c) || (isIn aloneL c || isIn compL k || isIn cmpL k))

theorem fine_small : ∀ n : Fin 256, fine (n.val : Int) (kNat n.val : Int) = true := by decide +kernel

theorem unknown_big (n : Nat) (h : n < 65536) (h2 : 256 ≤ n) : isIn aloneL (n : Int) = false ∧ isIn compL (kNat n : Int) = false ∧ isIn cmpL (kNat n : Int) = false := by
  have hk := kNat_big n h h2
  refine ⟨isIn_big _ _ ?_, isIn_big _ _ ?_, isIn_big _ _ ?_⟩
  · intro z hz
    have : z < 256 := by revert z; decide
    omega
  · intro z hz
    have : z < 256 := by revert z; decide
    omega
  · intro z hz
    have : z < 256 := by revert z; decide
    omega

theorem fine_all (n : Nat) (h : n < 65536) : fine (n : Int) (kOf (n : Int)) = true := by
  rw [kOf_nat n h]
  by_cases h2 : n < 256
  · exact fine_small ⟨n, h2⟩
  · obtain ⟨e1, e2, e3⟩ := unknown_big n h (by omega)
    have e4 : isIn plainL (n : Int) = false := isIn_big _ _ (fun z hz => by have : z < 200 := by { revert z; decide }; omega)
    have e5 : isIn withL ((n : Int) - 8) = false := isIn_big _ _ (fun z hz => by have : z < 200 := by { revert z; decide }; omega)
    have e6 : isIn jumpL (n : Int) = false := isIn_big _ _ (fun z hz => by have : z < 200 := by { revert z; decide }; omega)
    have e7 : isIn endL (n : Int) = false := isIn_big _ _ (fun z hz => by have : z < 200 := by { revert z; decide }; omega)
    have e8 : ((n : Int) == 5) = false := by simp; omega
    unfold fine
    rw [e1, e2, e3, e4, e5, e6, e7, e8]
    simp

theorem known_same (c : Int) (h0 : 0 ≤ c) (h1 : c ≤ 65535) : knownB c = refKnownB c ∧ jumpsB c = isIn jumpL c ∧ (jumpsB c && isIn endL c) = false ∧ ((jumpsB c || isIn endL c) = true → knownB c = true) := by
  obtain ⟨n, rfl⟩ := Int.eq_ofNat_of_zero_le h0
  have h := fine_all n (by omega)
  unfold fine at h
  simp only [Bool.and_eq_true, beq_iff_eq] at h
  obtain ⟨⟨⟨e1, e2⟩, e3⟩, e4⟩ := h
  rw [Bool.not_eq_true'] at e3
  refine ⟨e1, e2, e3, fun hx => ?_⟩
  show (isIn aloneL (n : Int) || isIn compL (kOf n) || isIn cmpL (kOf n)) = true
  have hx' : ((n : Int) == 5 || isIn cmpL (kOf n) || isIn endL (n : Int)) = true := hx
  rw [hx', Bool.not_true, Bool.false_or] at e4
  exact e4

theorem known_high (c : Int) (h0 : 256 ≤ c) (h1 : c ≤ 65535) : knownB c = false := by
  obtain ⟨n, rfl⟩ := Int.eq_ofNat_of_zero_le (show 0 ≤ c by omega)
  obtain ⟨e1, e2, e3⟩ := unknown_big n (by omega) (by omega)
  unfold knownB
  rw [kOf_nat n (by omega), e1, e2, e3]
  rfl

end Go.Proofs.Ytinjlneeafopoaa
