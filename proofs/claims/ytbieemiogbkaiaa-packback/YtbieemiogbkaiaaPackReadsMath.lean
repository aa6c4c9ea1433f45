/-
  A reader answers what the document's own readers do.
-/
import Derived.Test.YtbieemiogbkaiaaArgs
namespace Go.Proofs.Ytbieemiogbkaiaa
open Go.RowKit

/-- the number that bytes begin with, and what is wrong. -/
def takeF (m : List Int) (size : Int) : Int × Int :=
  if 1 ≤ size ∧ size ≤ 8 then (if (m.length : Int) < size then (0, 2) else (numOf (m.take size.toNat), 0)) else (0, 1)

theorem take_all (a : Option Addr) (len cap : Nat) (m : List Int) (size : Int) (w : World) (hb : Bs w a len m) :
    Calls Try.prog 18 #[.slice a len cap, .int .i64 size] w fun e w' => e = .returned (.tuple #[.int .u64 (takeF m size).1, .int .i64 (takeF m size).2]) ∧ w' = w := by
  have hl := hb.1
  by_cases hs : 1 ≤ size ∧ size ≤ 8
  · obtain ⟨k, rfl⟩ : ∃ k : Nat, size = (k : Int) := ⟨size.toNat, by omega⟩
    by_cases hk : len < k
    · have e : takeF m k = (0, 2) := by unfold takeF; rw [if_pos hs, if_pos (by omega)]
      rw [e]
      exact take_short a len cap k w (by omega) (by omega) hk
    · have e : takeF m k = (numOf (m.take k), 0) := by unfold takeF; rw [if_pos hs, if_neg (by omega)]; rfl
      rw [e]
      exact take_any a len cap k m w (by omega) (by omega) (by omega) hb
  · have e : takeF m size = (0, 1) := by unfold takeF; rw [if_neg hs]
    rw [e]
    exact take_wrong a len cap size w hs

/-- a reader of bytes, so far gone. -/
def stOf (l : List Int) (p : Nat) (q : Int) : List Int × Int := (if q = 0 then l.drop p else [], q)

theorem stOf_ok (l : List Int) (p : Nat) : stOf l p 0 = (l.drop p, 0) := rfl
theorem stOf_wrong (l : List Int) (p : Nat) (q : Int) (h : q ≠ 0) : stOf l p q = ([], q) := by unfold stOf; rw [if_neg h]

theorem takeR_bad (q : Int) (h : q ≠ 0) (s : Nat) : takeR ([], q) s = ([], ([], q)) := by unfold takeR; rw [if_pos h]
theorem failW_bad (l : List Int) (q c : Int) (h : q ≠ 0) : failW (l, q) c = (l, q) := by unfold failW; rw [if_neg h]
theorem numOf_nil : numOf [] = 0 := rfl

theorem numR_bad (l : List Int) (p : Nat) (q : Int) (h : q ≠ 0) (s : Int) : numR (stOf l p q) s = (0, stOf l p q) := by
  rw [stOf_wrong l p q h]
  unfold numR
  rw [takeR_bad q h, failW_bad _ _ _ h]
  split <;> rfl

theorem textR_bad (l : List Int) (p : Nat) (q : Int) (h : q ≠ 0) : textR (stOf l p q) = ([], stOf l p q) := by
  rw [stOf_wrong l p q h]
  unfold textR
  rw [takeR_bad q h, takeR_bad q h]

theorem takeR_short (m : List Int) (s : Nat) (h : m.length < s) : takeR (m, 0) s = ([], ([], 2)) := by unfold takeR; rw [if_neg (by simp), if_pos h]
theorem takeR_ok (m : List Int) (s : Nat) (h : ¬ m.length < s) : takeR (m, 0) s = (m.take s, (m.drop s, 0)) := by unfold takeR; rw [if_neg (by simp), if_neg h]

/-- behind a number that is there. -/
theorem numR_good (l : List Int) (p : Nat) (s : Int) (h : (takeF (l.drop p) s).2 = 0) : numR (stOf l p 0) s = ((takeF (l.drop p) s).1, stOf l (p + s.toNat) 0) ∧ 0 ≤ s ∧ p + s.toNat ≤ p + (l.drop p).length := by
  rw [stOf_ok, stOf_ok]
  unfold takeF at *
  unfold numR
  by_cases hs : 1 ≤ s ∧ s ≤ 8
  · rw [if_pos hs] at *
    by_cases hk : ((l.drop p).length : Int) < s
    · rw [if_pos hk] at h; exact absurd h (by decide)
    · rw [if_neg hk]
      rw [if_pos hs, takeR_ok _ _ (by omega), List.drop_drop]
      exact ⟨rfl, by omega, by omega⟩
  · rw [if_neg hs] at h; exact absurd h (by decide)

/-- behind a number that is not. -/
theorem numR_gone (l : List Int) (p : Nat) (s : Int) (h : (takeF (l.drop p) s).2 ≠ 0) : numR (stOf l p 0) s = ((takeF (l.drop p) s).1, stOf l p (takeF (l.drop p) s).2) := by
  rw [stOf_wrong _ _ _ h, stOf_ok]
  unfold takeF at *
  unfold numR
  by_cases hs : 1 ≤ s ∧ s ≤ 8
  · rw [if_pos hs] at *
    by_cases hk : ((l.drop p).length : Int) < s
    · rw [if_pos hk, if_pos hs, takeR_short _ _ (by omega)]; rfl
    · rw [if_neg hk] at h; exact absurd rfl h
  · rw [if_neg hs, if_neg hs]; rfl

/-- a text. -/
theorem textR_ok (l : List Int) (p : Nat) (hl : ∀ z ∈ l, 0 ≤ z ∧ z ≤ 255) : textR (stOf l p 0) = ((textF (l.drop p)).1, stOf l (p + (textF (l.drop p)).2.1) (textF (l.drop p)).2.2) ∧ (textF (l.drop p)).2.1 ≤ (l.drop p).length := by
  rw [stOf_ok]
  unfold textR
  by_cases h2 : (l.drop p).length < 2
  · rw [takeR_short _ _ h2]
    have ht : textF (l.drop p) = ([], 0, 2) := by unfold textF; rw [if_pos h2]
    rw [ht, takeR_bad 2 (by decide), stOf_wrong _ _ _ (show (2 : Int) ≠ 0 by decide)]
    exact ⟨rfl, Nat.zero_le _⟩
  · rw [takeR_ok _ _ h2]
    have hb := numOf_bd ((l.drop p).take 2) (fun z hz => hl z (List.mem_of_mem_drop (List.mem_of_mem_take hz)))
    by_cases h3 : ((l.drop p).length : Int) - 2 < numOf ((l.drop p).take 2)
    · have ht : textF (l.drop p) = ([], 0, 2) := by unfold textF; rw [if_neg h2, if_pos h3]
      rw [ht, takeR_short _ _ (by rw [List.length_drop]; simp only; omega), stOf_wrong _ _ _ (show (2 : Int) ≠ 0 by decide)]
      exact ⟨rfl, Nat.zero_le _⟩
    · have ht : textF (l.drop p) = (((l.drop p).drop 2).take (numOf ((l.drop p).take 2)).toNat, 2 + (numOf ((l.drop p).take 2)).toNat, 0) := by unfold textF; rw [if_neg h2, if_neg h3]
      rw [ht, takeR_ok _ _ (by rw [List.length_drop]; simp only; omega), stOf_ok, List.drop_drop, List.drop_drop]
      exact ⟨by rw [Nat.add_assoc], by simp only; omega⟩

theorem endR_of (l : List Int) (p : Nat) (q : Int) : endR (stOf l p q) = if q = 0 then (if p < l.length then 3 else 0) else q := by
  by_cases h : q = 0
  · subst h
    rw [stOf_ok, if_pos rfl]
    unfold endR
    rw [if_neg (by simp), List.length_drop]
    by_cases hp : p < l.length
    · rw [if_pos (by omega), if_pos hp]
    · rw [if_neg (by omega), if_neg hp]
  · rw [stOf_wrong _ _ _ h, if_neg h]
    unfold endR
    rw [if_pos h]

theorem Bs.dropped {w : World} {a : Option Addr} {len : Nat} {l : List Int} (h : Bs w a len l) (p : Nat) (hp : len ≤ p) (a' : Option Addr) : Bs w a' (len - p) (l.drop p) := by
  rw [Nat.sub_eq_zero_of_le hp, List.drop_of_length_le (by rw [h.1]; exact hp)]
  exact bs_none

theorem Bs.rest {w : World} {b off len : Nat} {l : List Int} (h : Bs w (some ⟨b, off, none⟩) len l) (p : Nat) (hp : p ≤ len) : Bs w (some ⟨b, off + p, none⟩) (len - p) (l.drop p) := by
  have := h.sub p (len - p) (by omega)
  rwa [List.take_of_length_le (by rw [List.length_drop, h.1]; omega)] at this

end Go.Proofs.Ytbieemiogbkaiaa
