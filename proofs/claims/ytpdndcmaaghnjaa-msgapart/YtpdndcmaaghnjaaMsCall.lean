/-
  The call whose bytes stand next in a reader: proved of every reader.
-/
import Derived.Test.YtpdndcmaaghnjaaMsRdr
import Derived.Test.YtpdndcmaaghnjaaDOf
import Derived.Test.YtpdndcmaaghnjaaMsMath
namespace Go.Proofs.Ytpdndcmaaghnjaa
open Go.RowKit
open D (Da Blk)
open K (numR takeR failW numOf)

/-- so many bytes of a reader, one by one. -/
def byteR (st : List Int × Int) : Nat → List Int × (List Int × Int)
  | 0 => ([], st)
  | n + 1 => ((byteR st n).1 ++ [(numR (byteR st n).2 1).1], (numR (byteR st n).2 1).2)
theorem byteR_len (st : List Int × Int) (n : Nat) : (byteR st n).1.length = n := by
  induction n with
  | zero => rfl
  | succ n ih => simp [byteR, ih]
theorem numR_one (m : List Int) (h : 0 < m.length) : numR (m, 0) 1 = (m.getD 0 0, (m.drop 1, 0)) := by
  unfold numR takeR
  cases m with
  | nil => exact absurd h (Nat.lt_irrefl _)
  | cons x r =>
    rw [if_pos ⟨by decide, by decide⟩, if_neg (by simp), if_neg (by simp)]
    simp [numOf]
theorem numR_none (st : List Int × Int) (hn : st.2 ≠ 0 → st.1 = []) (h : st.1.length = 0) : (numR st 1).1 = 0 ∧ (numR st 1).2 = ([], if st.2 ≠ 0 then st.2 else 2) := by
  obtain ⟨m, e⟩ := st
  obtain rfl : m = [] := List.eq_nil_of_length_eq_zero h
  unfold numR takeR
  rw [if_pos ⟨by decide, by decide⟩]
  by_cases he : e = 0
  · subst he
    exact ⟨rfl, rfl⟩
  · rw [if_pos (by simpa using he), if_pos (by simpa using he)]
    exact ⟨rfl, rfl⟩
theorem byteR_ok (m : List Int) (n : Nat) (h : n ≤ m.length) : byteR (m, 0) n = (m.take n, (m.drop n, 0)) := by
  induction n with
  | zero => rfl
  | succ n ih =>
    have hx := ih (by omega)
    unfold byteR
    rw [hx, numR_one _ (by rw [List.length_drop]; omega)]
    simp only [List.drop_drop]
    rw [K.take_snoc m n (by omega), List.getD_eq_getElem?_getD, List.getElem?_drop, Nat.add_zero, ← List.getD_eq_getElem?_getD]
theorem byteR_no (st : List Int × Int) (hn : st.2 ≠ 0 → st.1 = []) (n : Nat) : (byteR st n).2.2 ≠ 0 → (byteR st n).2.1 = [] := by
  induction n with
  | zero => exact hn
  | succ n ih =>
    intro _
    show (numR (byteR st n).2 1).2.1 = []
    by_cases h : (byteR st n).2.1.length = 0
    · rw [(numR_none _ ih h).2]
    · exfalso
      rename_i hx
      apply hx
      show (numR (byteR st n).2 1).2.2 = 0
      rcases hb : (byteR st n).2 with ⟨m, e⟩
      rw [hb] at h ih
      by_cases he : e = 0
      · subst he
        rw [numR_one _ (Nat.pos_of_ne_zero h)]
      · exact absurd (by rw [ih he]; rfl) h
theorem byteR_bad (e : Int) (he : e ≠ 0) (n : Nat) : (byteR ([], e) n).2 = ([], e) := by
  induction n with
  | zero => rfl
  | succ n ih =>
    show (numR (byteR ([], e) n).2 1).2 = _
    rw [ih, (numR_none ([], e) (fun _ => rfl) rfl).2, if_pos he]
theorem byteR_short (m : List Int) (n : Nat) (h : m.length < n) : (byteR (m, 0) n).2 = ([], 2) := by
  induction n with
  | zero => omega
  | succ n ih =>
    show (numR (byteR (m, 0) n).2 1).2 = _
    by_cases hx : m.length < n
    · rw [ih hx, (numR_none ([], 2) (fun _ => rfl) rfl).2]
      rfl
    · rw [byteR_ok m n (by omega), (numR_none (m.drop n, 0) (fun hq => absurd rfl hq) (by rw [List.length_drop]; omega)).2]
      rfl

end Go.Proofs.Ytpdndcmaaghnjaa
