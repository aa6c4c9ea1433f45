/-
  What a reader tells of a message's bytes, number by number, is what the bytes decode to: in plain words.
-/
import Derived.Test.YtpdndcmaaghnjaaMsCall
import Derived.Test.YtpdndcmaaghnjaaMsRight
namespace Go.Proofs.Ytpdndcmaaghnjaa
open Go.RowKit
open D (Da Blk)
open K (numR takeR failW numOf textR endR)

/-- a reader of bytes at a place. -/
def stA (l : List Int) (p : Nat) : List Int × Int := if p ≤ l.length then (l.drop p, 0) else ([], 2)
theorem stA_zero (l : List Int) : stA l 0 = (l, 0) := if_pos (Nat.zero_le _)
theorem stA_no (l : List Int) (p : Nat) : (stA l p).2 ≠ 0 → (stA l p).1 = [] := by
  unfold stA
  split
  · exact fun h => absurd rfl h
  · exact fun _ => rfl
theorem take_stA (l : List Int) (p s : Nat) : takeR (stA l p) s = ((if p + s ≤ l.length then (l.drop p).take s else []), stA l (p + s)) := by
  unfold takeR stA
  by_cases h : p ≤ l.length
  · rw [if_pos h, if_neg (by simp)]
    dsimp only
    rw [List.length_drop]
    by_cases h2 : p + s ≤ l.length
    · rw [if_neg (by omega), if_pos h2, if_pos h2, List.drop_drop]
    · rw [if_pos (by omega), if_neg h2, if_neg h2]
  · rw [if_neg h, if_pos (by simp), if_neg (by omega), if_neg (by omega)]
theorem num_stA (l : List Int) (p s : Nat) (h1 : 1 ≤ s) (h8 : s ≤ 8) : numR (stA l p) (s : Int) = ((if p + s ≤ l.length then numOf ((l.drop p).take s) else 0), stA l (p + s)) := by
  unfold numR
  rw [if_pos ⟨by omega, by omega⟩, Int.toNat_natCast, take_stA l p s]
  dsimp only
  split <;> rfl
theorem end_stA (l : List Int) (p : Nat) : endR (stA l p) = if l.length < p then 2 else if p < l.length then 3 else 0 := by
  unfold endR stA
  by_cases h : p ≤ l.length
  · rw [if_pos h, if_neg (show ¬ ((l.drop p, (0 : Int)).2 ≠ 0) by simp), if_neg (show ¬ l.length < p by omega)]
    dsimp only
    rw [List.length_drop]
    by_cases h2 : p < l.length
    · rw [if_pos (by omega), if_pos h2]
    · rw [if_neg (by omega), if_neg h2]
  · rw [if_neg h, if_pos (by simp), if_pos (by omega)]
theorem byte_stA (l : List Int) (p : Nat) : (byteR (stA l p) 64).2 = stA l (p + 64) ∧ (p + 64 ≤ l.length → (byteR (stA l p) 64).1 = (l.drop p).take 64) := by
  by_cases h : p ≤ l.length
  · have e : stA l p = (l.drop p, 0) := if_pos h
    rw [e]
    by_cases h2 : p + 64 ≤ l.length
    · rw [byteR_ok _ _ (by rw [List.length_drop]; omega)]
      refine ⟨?_, fun _ => rfl⟩
      unfold stA
      rw [if_pos h2, List.drop_drop]
    · rw [byteR_short _ _ (by rw [List.length_drop]; omega)]
      refine ⟨?_, fun h3 => absurd h3 h2⟩
      unfold stA
      rw [if_neg h2]
  · have e : stA l p = ([], 2) := if_neg h
    rw [e, byteR_bad 2 (by decide)]
    refine ⟨?_, fun h3 => by omega⟩
    unfold stA
    rw [if_neg (by omega)]
theorem text_stA (l : List Int) (p : Nat) : (p + 2 ≤ l.length → textR (stA l p) = ((if p + 2 + (numOf ((l.drop p).take 2)).toNat ≤ l.length then (l.drop (p + 2)).take (numOf ((l.drop p).take 2)).toNat else []), stA l (p + 2 + (numOf ((l.drop p).take 2)).toNat))) ∧ (l.length < p + 2 → textR (stA l p) = ([], ([], 2))) := by
  have ht := take_stA l p 2
  constructor
  · intro h
    unfold textR
    rw [ht, if_pos h]
    dsimp only
    rw [take_stA l (p + 2) _]
  · intro h
    unfold textR
    rw [ht, if_neg (by omega)]
    dsimp only
    have e : stA l (p + 2) = ([], 2) := if_neg (by omega)
    rw [e]
    rfl

theorem rdB_right {k : Int} {b : List Int} (hk : 1 ≤ k ∧ k ≤ 7) (hb : D.Byt b) : rdB k b = rightB (rd k b) := by
  rw [Bool.eq_iff_iff, rdB_iff, rd_right hk hb, rightB_iff]
/-- what is told of what was read, and how it ended. -/
def tellM (m : Mg) (e : Int) : Mg × Int := if e ≠ 0 then (Mg.zero, e) else if rightB m = true then (m, 0) else (Mg.zero, 1)
/-- how it ends. -/
def endM (k : Int) (l : List Int) : Int := if l.length < need k ∨ l.length < size k l then 2 else if size k l < l.length then 3 else 0
theorem dec_tell {k : Int} {l : List Int} {m : Mg} (hh : l.head? = some k) (hk : 1 ≤ k ∧ k ≤ 7) (hb : D.Byt l) (hm : need k ≤ l.length → size k l ≤ l.length → m = rd k l) : decM l = tellM m (endM k l) := by
  rw [dec_at hh, if_neg (not_not_intro hk)]
  unfold tellM endM
  by_cases h1 : l.length < need k ∨ l.length < size k l
  · rw [if_pos h1, if_pos h1, if_pos (by decide)]
  · rw [if_neg h1, if_neg h1]
    by_cases h2 : size k l < l.length
    · rw [if_pos h2, if_pos h2, if_pos (by decide)]
    · rw [if_neg h2, if_neg h2, hm (by omega) (by omega), rdB_right hk hb, if_neg (show ¬ ((0 : Int) ≠ 0) by decide)]

theorem tell_ok {m : Mg} {e : Int} (h : m.ok) : (tellM m e).1.ok := by
  have hz : Mg.zero.ok := ⟨⟨by decide, by decide⟩, ⟨by decide, by decide⟩, D.zero_ok, fun z hz => by cases hz⟩
  unfold tellM
  split
  · exact hz
  · split
    · exact h
    · exact hz

/-- a number that is read of a place. -/
def nAt (l : List Int) (p s : Nat) : Int := if p + s ≤ l.length then numOf ((l.drop p).take s) else 0
theorem nAt_8 {l : List Int} (h : D.Byt l) (p : Nat) : D.U64 (nAt l p 8) := by
  unfold nAt
  split
  · exact num_u8 (byt_sub h p 8) (by rw [List.length_take]; exact Nat.min_le_left _ _)
  · exact ⟨by decide, by decide⟩
theorem nAt_2 {l : List Int} (h : D.Byt l) (p s : Nat) (hs : s ≤ 2) : 0 ≤ nAt l p s ∧ nAt l p s ≤ 65535 := by
  unfold nAt
  split
  · exact num_2 (byt_sub h p s) (by rw [List.length_take]; exact Nat.le_trans (Nat.min_le_left _ _) hs)
  · exact ⟨by decide, by decide⟩
theorem nAt_1 (l : List Int) (p : Nat) (h : p < l.length) : nAt l p 1 = l.getD p 0 := by
  unfold nAt
  rw [if_pos (by omega), List.drop_eq_getElem_cons h, List.take_succ_cons, List.take_zero, List.getD_eq_getElem?_getD, List.getElem?_eq_getElem h]
  simp [numOf]

end Go.Proofs.Ytpdndcmaaghnjaa
