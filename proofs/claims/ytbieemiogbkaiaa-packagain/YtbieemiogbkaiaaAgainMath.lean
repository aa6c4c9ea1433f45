/-
  Plain lists: what was read so far, laid again, is the bytes that are gone.
-/
import Derived.Test.YtbieemiogbkaiaaBackMath
import Derived.Test.YtbieemiogbkaiaaOwnItems
namespace Go.Proofs.Ytbieemiogbkaiaa
open Go.RowKit

/-- items that were read of bytes, as far as the reader is gone. -/
def Agn (l : List Int) (its : List It) (st : List Int × Int) : Prop :=
  (∀ x ∈ its, x.ok) ∧ (∀ z ∈ st.1, 0 ≤ z ∧ z ≤ 255) ∧ (st.2 = 0 → ∃ p, layAll its = (p, 0) ∧ p ++ st.1 = l)

theorem layAll_go {its : List It} {p k : List Int} {x : It} (h : layAll its = (p, 0)) (hx : encI x = some k) : layAll (its ++ [x]) = (p ++ k, 0) := by
  rw [layAll_snoc, h]
  rcases stepW_enc p x with ⟨k', hk, hs⟩ | ⟨hk, _⟩
  · rw [hx] at hk; cases hk; exact hs
  · rw [hx] at hk; cases hk

theorem takeR_stays (st : List Int × Int) (s : Nat) (h : (takeR st s).2.2 = 0) : st.2 = 0 ∧ ¬ st.1.length < s ∧ takeR st s = (st.1.take s, (st.1.drop s, 0)) := by
  unfold takeR at *
  by_cases h0 : st.2 ≠ 0
  · rw [if_pos h0] at h; exact absurd h h0
  · rw [if_neg h0] at *
    by_cases h1 : st.1.length < s
    · rw [if_pos h1] at h; exact absurd h (by decide)
    · rw [if_neg h1]; exact ⟨by omega, h1, rfl⟩

theorem takeR_bd (st : List Int × Int) (s : Nat) (h : ∀ z ∈ st.1, 0 ≤ z ∧ z ≤ 255) : (∀ z ∈ (takeR st s).1, 0 ≤ z ∧ z ≤ 255) ∧ (∀ z ∈ (takeR st s).2.1, 0 ≤ z ∧ z ≤ 255) := by
  unfold takeR
  split
  · exact ⟨by simp, h⟩
  · split
    · exact ⟨by simp, by simp⟩
    · exact ⟨fun z hz => h z (List.mem_of_mem_take hz), fun z hz => h z (List.mem_of_mem_drop hz)⟩

theorem failW_ne (st : List Int × Int) (h : (failW st 1).2 = 0) : False := by
  unfold failW at h
  split at h
  · exact absurd h (by decide)
  · next h0 => exact h0 h

theorem num_small (l : List Int) (h : ∀ z ∈ l, 0 ≤ z ∧ z ≤ 255) (hl : l.length ≤ 8) : 0 ≤ numOf l ∧ numOf l ≤ 18446744073709551615 := by
  have h1 := numOf_bd l h
  have h2 := pow256_mono hl
  rw [pow256_8] at h2
  omega

theorem agn_num (l : List Int) (its : List It) (st : List Int × Int) (x : Int) (h : Agn l its st) : Agn l (its ++ [⟨(numR st x).1, x, false, ⟨#[]⟩⟩]) (numR st x).2 := by
  obtain ⟨h1, h2, h3⟩ := h
  have hb := takeR_bd st x.toNat h2
  have hlen := takeR_len st x.toNat
  unfold numR
  by_cases hs : 1 ≤ x ∧ x ≤ 8
  · rw [if_pos hs]
    refine ⟨fun y hy => ?_, hb.2, fun h0 => ?_⟩
    · rcases List.mem_append.1 hy with hy | hy
      · exact h1 y hy
      · simp at hy
        subst hy
        exact num_small _ hb.1 (by omega)
    · obtain ⟨e0, e1, e2⟩ := takeR_stays st x.toNat h0
      obtain ⟨p, hp, hl⟩ := h3 e0
      rw [e2]
      have ht : (st.1.take x.toNat).length = x.toNat := by rw [List.length_take]; omega
      have hbt : ∀ z ∈ st.1.take x.toNat, 0 ≤ z ∧ z ≤ 255 := fun z hz => h2 z (List.mem_of_mem_take hz)
      have hd := digs_numOf _ hbt
      have hn := numOf_bd _ hbt
      rw [ht] at hd hn
      refine ⟨p ++ st.1.take x.toNat, layAll_go hp ?_, ?_⟩
      · unfold encI
        simp only [Bool.false_eq_true, if_false]
        rw [if_pos ⟨hs.1, hs.2, by omega⟩, hd]
      · rw [List.append_assoc]
        show p ++ (st.1.take x.toNat ++ st.1.drop x.toNat) = l
        rw [List.take_append_drop, hl]
  · rw [if_neg hs]
    refine ⟨fun y hy => ?_, ?_, fun h0 => (failW_ne st h0).elim⟩
    · rcases List.mem_append.1 hy with hy | hy
      · exact h1 y hy
      · simp at hy
        subst hy
        exact ⟨by simp, by simp⟩
    · unfold failW
      split
      · simp
      · exact h2

theorem agn_text (l : List Int) (its : List It) (st : List Int × Int) (h : Agn l its st) : Agn l (its ++ [⟨0, 0, true, strOfNums (textR st).1⟩]) (textR st).2 := by
  obtain ⟨h1, h2, h3⟩ := h
  have hb := takeR_bd st 2 h2
  have hb2 := takeR_bd (takeR st 2).2 (numOf (takeR st 2).1).toNat hb.2
  unfold textR
  refine ⟨fun y hy => ?_, hb2.2, fun h0 => ?_⟩
  · rcases List.mem_append.1 hy with hy | hy
    · exact h1 y hy
    · simp at hy
      subst hy
      exact ⟨by simp, by simp⟩
  · obtain ⟨d0, d1, d2⟩ := takeR_stays _ _ h0
    obtain ⟨e0, e1, e2⟩ := takeR_stays st 2 d0
    obtain ⟨p, hp, hl⟩ := h3 e0
    rw [e2] at d1 d2 ⊢
    simp only at d1 d2 ⊢
    rw [d2]
    simp only
    have ht : (st.1.take 2).length = 2 := by rw [List.length_take]; omega
    have hbt : ∀ z ∈ st.1.take 2, 0 ≤ z ∧ z ≤ 255 := fun z hz => h2 z (List.mem_of_mem_take hz)
    have hd := digs_numOf _ hbt
    have hn := numOf_bd _ hbt
    rw [ht] at hd hn
    rw [pow256_2] at hn
    have hz : ((st.1.drop 2).take (numOf (st.1.take 2)).toNat).length = (numOf (st.1.take 2)).toNat := by rw [List.length_take]; omega
    have hss : (strOfNums ((st.1.drop 2).take (numOf (st.1.take 2)).toNat)).size = (numOf (st.1.take 2)).toNat := by rw [strOfNums_size, hz]
    refine ⟨p ++ (st.1.take 2 ++ (st.1.drop 2).take (numOf (st.1.take 2)).toNat), layAll_go hp ?_, ?_⟩
    · unfold encI
      simp only [if_true]
      rw [if_neg (by rw [hss]; omega), hss, bytes_str _ (fun z hz => h2 z (List.mem_of_mem_drop (List.mem_of_mem_take hz))), Int.toNat_of_nonneg hn.1, hd]
    · rw [List.append_assoc, List.append_assoc, List.take_append_drop, List.take_append_drop, hl]

/-- read to its end. -/
theorem agn_end (l : List Int) (its : List It) (st : List Int × Int) (h : Agn l its st) (he : endR st = 0) : layAll its = (l, 0) := by
  unfold endR at he
  by_cases h0 : st.2 ≠ 0
  · rw [if_pos h0] at he; exact absurd he h0
  · rw [if_neg h0] at he
    by_cases h1 : 0 < st.1.length
    · rw [if_pos h1] at he; exact absurd he (by decide)
    · obtain ⟨p, hp, hl⟩ := h.2.2 (by omega)
      have : st.1 = [] := List.eq_nil_of_length_eq_zero (by omega)
      rw [this, List.append_nil] at hl
      rw [hp, hl]

end Go.Proofs.Ytbieemiogbkaiaa
