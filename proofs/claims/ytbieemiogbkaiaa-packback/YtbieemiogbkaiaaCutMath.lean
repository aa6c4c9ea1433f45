/-
  Plain lists: a reader of what was laid, whole or cut off, item by item.
-/
import Derived.Test.YtbieemiogbkaiaaBackMath
namespace Go.Proofs.Ytbieemiogbkaiaa
open Go.RowKit

/-- a reader of laid items that were cut off. -/
def CutL (l : List It) (st : List Int × Int) : Prop :=
  st = ([], 2) ∨ ∃ r c, encAll l = some r ∧ c < r.length ∧ st = (r.take c, 0)

theorem cut_text {x : It} {l : List It} {st : List Int × Int} (hx : x.isText = true) (h : CutL (x :: l) st) : CutL l (textR st).2 := by
  rcases h with rfl | ⟨r, c, hr, hc, rfl⟩
  · left
    unfold textR
    rw [takeR_bad 2 (by decide), takeR_bad 2 (by decide)]
  · obtain ⟨a, b, ha, hb, rfl⟩ := encAll_cons hr
    obtain ⟨hs, rfl⟩ := encI_text hx ha
    rw [List.length_append, List.length_append, digs_length, bytesOf_length] at hc
    by_cases h2 : c < 2 + x.text.size
    · left
      rw [textR_cut x.text b c hs h2]
    · right
      have e : (digs 2 x.text.size ++ bytesOf x.text ++ b).take c = digs 2 x.text.size ++ bytesOf x.text ++ b.take (c - (2 + x.text.size)) := by
        rw [List.take_append, List.length_append, digs_length, bytesOf_length, List.take_of_length_le (by rw [List.length_append, digs_length, bytesOf_length]; omega)]
      rw [e, textR_enc x.text _ hs]
      exact ⟨b, _, hb, by omega, rfl⟩

theorem cut_num {x : It} {l : List It} {st : List Int × Int} (hx : x.isText = false) (hok : x.ok) (h : CutL (x :: l) st) : CutL l (numR st x.size).2 := by
  rcases h with rfl | ⟨r, c, hr, hc, rfl⟩
  · left
    unfold numR
    rw [takeR_bad 2 (by decide)]
    split <;> rfl
  · obtain ⟨a, b, ha, hb, rfl⟩ := encAll_cons hr
    obtain ⟨h1, h8, hn, rfl⟩ := encI_num hx ha
    rw [List.length_append, digs_length] at hc
    by_cases h2 : c < x.size.toNat
    · left
      rw [numR_cut _ _ h1 h8 (by rw [List.length_take, List.length_append, digs_length]; omega)]
    · right
      have e : (digs x.size.toNat x.n ++ b).take c = digs x.size.toNat x.n ++ b.take (c - x.size.toNat) := by
        rw [List.take_append, digs_length, List.take_of_length_le (by rw [digs_length]; omega)]
      rw [e, numR_enc x.n x.size _ h1 h8 hok.1 hn]
      exact ⟨b, _, hb, by omega, rfl⟩

theorem cut_end {st : List Int × Int} (h : CutL [] st) : endR st = 2 := by
  rcases h with rfl | ⟨r, c, hr, hc, rfl⟩
  · decide
  · simp only [encAll] at hr
    cases hr
    exact absurd hc (by simp)

/-- a reader of laid items, whole. -/
theorem back_text {x : It} {l : List It} {r : List Int} (hx : x.isText = true) (h : encAll (x :: l) = some r) : ∃ b, encAll l = some b ∧ textR (r, 0) = (bytesOf x.text, (b, 0)) := by
  obtain ⟨a, b, ha, hb, rfl⟩ := encAll_cons h
  obtain ⟨hs, rfl⟩ := encI_text hx ha
  exact ⟨b, hb, textR_enc x.text b hs⟩

theorem back_num {x : It} {l : List It} {r : List Int} (hx : x.isText = false) (hok : x.ok) (h : encAll (x :: l) = some r) : ∃ b, encAll l = some b ∧ numR (r, 0) x.size = (x.n, (b, 0)) := by
  obtain ⟨a, b, ha, hb, rfl⟩ := encAll_cons h
  obtain ⟨h1, h8, hn, rfl⟩ := encI_num hx ha
  exact ⟨b, hb, numR_enc x.n x.size b h1 h8 hok.1 hn⟩

theorem back_end {r : List Int} (h : encAll [] = some r) : endR (r, 0) = 0 := by
  simp only [encAll] at h
  cases h
  decide

end Go.Proofs.Ytbieemiogbkaiaa
