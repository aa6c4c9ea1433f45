/-
  A number's digits, one by one ahead, and the tokens of a number as decimal digits and by sixteen.
-/
import Derived.Test.YtbdhlbigcepglaaDoorLies
namespace Go.Proofs.YtbdhlbigcepglaaDoor
open Go

/-- the sign of a digit. -/
def hexc (d : Nat) : UInt8 := if d < 10 then UInt8.ofNat (48 + d) else UInt8.ofNat (87 + d)

theorem hexc_all : ∀ d ∈ List.range 16, dv (hexc d) = d ∧ ofW (hexc d) = true ∧ (hexc d).toNat < 256 ∧ (d < 10 → dgN (hexc d).toNat = true ∧ (hexc d).toNat = 48 + d) ∧ (¬ d = 0 → ¬ hexc d = 48) := by decide +kernel

theorem hexc_at {d : Nat} (h : d < 16) : dv (hexc d) = d ∧ ofW (hexc d) = true ∧ (hexc d).toNat < 256 ∧ (d < 10 → dgN (hexc d).toNat = true ∧ (hexc d).toNat = 48 + d) ∧ (¬ d = 0 → ¬ hexc d = 48) := hexc_all d (List.mem_range.2 h)

/-- a number's digits so far: what is left, and the digits. -/
structure Dg (b N M : Nat) (T : List UInt8) : Prop where
  ex : ∃ v, N = M * b ^ T.length + v ∧ ∀ a, a * b ^ T.length + v < 18446744073709551616 → parse b a T = some (a * b ^ T.length + v)
  dig : ∀ c ∈ T, ofW c = true ∧ (b = 10 → dgN c.toNat = true)
  lead : T = [] ∧ M = N ∨ ¬ T = [] ∧ (¬ M = 0 ∨ T = [48] ∨ ∃ c r, T = c :: r ∧ ¬ c = 48)
  len : T = [] ∨ b ^ (T.length - 1) ≤ N ∨ T.length = 1

theorem dg_new (b N : Nat) : Dg b N N [] := ⟨⟨0, by simp, fun a _ => by simp [parse]⟩, by simp, .inl ⟨rfl, rfl⟩, .inl rfl⟩

theorem Dg.step {b N M : Nat} {T : List UInt8} (h : Dg b N M T) (hb : b = 10 ∨ b = 16) (hm : ¬ M = 0 ∨ T = []) : Dg b N (M / b) (hexc (M % b) :: T) := by
  have hb0 : 0 < b := by omega
  have hd : M % b < b := Nat.mod_lt _ hb0
  obtain ⟨d1, d2, _, d4, d5⟩ := hexc_at (show M % b < 16 by omega)
  have hM := Nat.div_add_mod M b
  refine ⟨?_, ?_, .inr ⟨by simp, ?_⟩, .inr ?_⟩
  · obtain ⟨v, h1, h2⟩ := h.ex
    refine ⟨M % b * b ^ T.length + v, ?_, fun a ha => ?_⟩
    · rw [h1]
      conv => lhs; rw [← hM]
      rw [List.length_cons, Nat.pow_succ, Nat.add_mul, Nat.mul_comm b (M / b), Nat.mul_assoc, Nat.mul_comm b (b ^ T.length), Nat.add_assoc]
    · have e : a * b ^ (hexc (M % b) :: T).length + (M % b * b ^ T.length + v) = (a * b + M % b) * b ^ T.length + v := by
        rw [List.length_cons, Nat.pow_succ, Nat.add_mul, Nat.mul_assoc, Nat.mul_comm b (b ^ T.length), Nat.add_assoc]
      rw [e] at ha ⊢
      have hp : 0 < b ^ T.length := Nat.pow_pos hb0
      have hle : (a * b + M % b) * 1 ≤ (a * b + M % b) * b ^ T.length := Nat.mul_le_mul_left _ hp
      have hc : dv (hexc (M % b)) < b ∧ a * b + dv (hexc (M % b)) < 18446744073709551616 := by rw [d1]; omega
      show (if dv (hexc (M % b)) < b ∧ a * b + dv (hexc (M % b)) < 18446744073709551616 then parse b (a * b + dv (hexc (M % b))) T else none) = _
      rw [if_pos hc, d1]
      exact h2 _ ha
  · intro c hc
    rcases List.mem_cons.1 hc with rfl | hc
    · exact ⟨d2, fun e => (d4 (by omega)).1⟩
    · exact h.dig c hc
  · by_cases h0 : M / b = 0
    · right
      have hMd : M = M % b := by rw [h0] at hM; omega
      by_cases hz : M = 0
      · rcases hm with hm | hm
        · exact absurd hz hm
        · left
          rw [hm, hz]
          rcases hb with rfl | rfl <;> rfl
      · exact .inr ⟨_, _, rfl, d5 (by omega)⟩
    · exact .inl h0
  · rcases hm with hm | hm
    · left
      obtain ⟨v, h1, _⟩ := h.ex
      have : 1 * b ^ T.length ≤ M * b ^ T.length := Nat.mul_le_mul_right _ (by omega)
      simp
      omega
    · right
      rw [hm]
      rfl

theorem Dg.le10 {N M : Nat} {T : List UInt8} (h : Dg 10 N M T) (hN : N < 18446744073709551616) : T.length ≤ 20 := by
  rcases h.len with h1 | h1 | h1
  · rw [h1]; simp
  · have h2 : 10 ^ (T.length - 1) < 10 ^ 20 := by
      have : (18446744073709551616 : Nat) ≤ 10 ^ 20 := by decide
      omega
    have := (Nat.pow_lt_pow_iff_right (by decide)).1 h2
    omega
  · omega
theorem Dg.le16 {N M : Nat} {T : List UInt8} (h : Dg 16 N M T) (hN : N < 18446744073709551616) : T.length ≤ 16 := by
  rcases h.len with h1 | h1 | h1
  · rw [h1]; simp
  · have h2 : 16 ^ (T.length - 1) < 16 ^ 16 := by
      have : (18446744073709551616 : Nat) = 16 ^ 16 := by decide
      omega
    have := (Nat.pow_lt_pow_iff_right (by decide)).1 h2
    omega
  · omega

theorem Dg.num {b N : Nat} {T : List UInt8} (h : Dg b N 0 T) (hN : N < 18446744073709551616) : parse b 0 T = some N := by
  obtain ⟨v, h1, h2⟩ := h.ex
  have := h2 0 (by omega)
  rw [this, h1]

theorem Dg.num10 {N : Nat} {T : List UInt8} (h : Dg 10 N 0 T) (hT : ¬ T = []) (hN : N < 18446744073709551616) : numV T = some N := by
  have hp := h.num hN
  have hdig := h.dig
  have hl := h.lead
  have h2 : ¬ T.take 2 = [48, 120] := by
    intro e
    have hm : (120 : UInt8) ∈ T := List.mem_of_mem_take (i := 2) (by rw [e]; simp)
    have := (hdig _ hm).2 rfl
    exact absurd this (by decide)
  unfold numV
  rw [if_neg h2]
  by_cases h1 : T.take 1 = [48]
  · rw [if_pos h1]
    rcases hl with ⟨e, _⟩ | ⟨_, hl⟩
    · exact absurd e hT
    · rcases hl with hl | hl | ⟨c, r, e, hc⟩
      · exact absurd rfl hl
      · rw [if_pos hl]
        rw [hl] at hp
        rw [← hp]
        rfl
      · rw [e] at h1
        simp at h1
        exact absurd h1 hc
  · rw [if_neg h1]
    exact hp

theorem while_all (p : UInt8 → Bool) (l : List UInt8) (h : ∀ c ∈ l, p c = true) : l.takeWhile p = l := by
  induction l with
  | nil => rfl
  | cons c r ih => rw [List.takeWhile_cons, if_pos (h c List.mem_cons_self), ih (fun d hd => h d (List.mem_cons_of_mem _ hd))]

theorem dg_lo {n : Nat} (h : dgN n = true) : loN n = false ∧ blN n = false ∧ ¬ n = 35 := by
  unfold dgN at h
  unfold loN blN
  simp at h ⊢
  omega

/-- the two numbers' tokens. -/
theorem all_worth {N : Nat} {T X : List UInt8} (hT : Dg 10 N 0 T) (hX : Dg 16 N 0 X) (hT0 : ¬ T = []) (hX0 : ¬ X = []) (hN : N < 18446744073709551616) :
    all (T ++ ([32, 48, 120] ++ X)) = .ok [⟨2, 0, T, N⟩, ⟨2, T.length + 1, 48 :: 120 :: X, N⟩, ⟨4, T.length + 1 + (X.length + 2), [], 0⟩] := by
  have l1 := hT.le10 hN
  have l2 := hX.le16 hN
  have n1 := hT.num10 hT0 hN
  have hX1 : 1 ≤ X.length := by
    cases X with
    | nil => exact absurd rfl hX0
    | cons c r => simp
  have n2 : numV (48 :: 120 :: X) = some N := by
    unfold numV
    rw [if_pos (show (48 :: 120 :: X : List UInt8).take 2 = [48, 120] from rfl), if_pos (by simp; omega)]
    exact hX.num hN
  have hallX : ∀ c ∈ (48 :: 120 :: X : List UInt8), ofW c = true := by
    intro c hc
    rcases List.mem_cons.1 hc with rfl | hc
    · decide
    · rcases List.mem_cons.1 hc with rfl | hc
      · decide
      · exact (hX.dig c hc).1
  unfold all
  rw [if_neg (by simp; omega)]
  match T, hT0, hT.dig, n1 with
  | c :: r, _, hdig, n1 =>
    obtain ⟨g1, g2, g3⟩ := dg_lo ((hdig c List.mem_cons_self).2 rfl)
    have g4 := (hdig c List.mem_cons_self).2 rfl
    rw [List.cons_append, go_one g2 g3, one_dg' g1 g4, ← List.cons_append]
    have hw : (c :: r ++ ([32, 48, 120] ++ X)).takeWhile ofW = c :: r := while_cut ofW (c :: r) 32 (48 :: 120 :: X) (fun d hd => (hdig d hd).1) (by decide)
    rw [hw]
    unfold numR
    rw [n1]
    simp only
    rw [show (c :: r).length - 1 = r.length + 0 from by simp, go_skip _ _ _ _ (by simp), List.drop_left]
    show glue _ (go 0 (0 + 1 + r.length) (32 :: 48 :: 120 :: X)) = _
    rw [go_blank (by decide), go_one (by decide) (by decide), one_dg' (by decide) (by decide), while_all ofW _ hallX]
    unfold numR
    rw [n2]
    simp only
    rw [show (48 :: 120 :: X : List UInt8).length - 1 = (120 :: X : List UInt8).length + 0 from by simp, go_skip _ _ _ _ (Nat.le_refl _), List.drop_length]
    simp [go, glue]
    omega

end Go.Proofs.YtbdhlbigcepglaaDoor
