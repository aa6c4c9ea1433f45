/-
  Plain lists: what was laid is read as it was; what was read to its end, laid again, is the bytes; cut off, it is too short.
-/
import Derived.Test.YtbieemiogbkaiaaPackReadsMath
namespace Go.Proofs.Ytbieemiogbkaiaa
open Go.RowKit

theorem str_bytes (s : ByteArray) : strOfNums (bytesOf s) = s := by
  unfold strOfNums bytesOf
  rw [List.map_map]
  have : ((fun n : Int => UInt8.ofNat n.toNat) ∘ fun b : UInt8 => (b.toNat : Int)) = id := by
    funext b
    simp
  rw [this, List.map_id]

theorem bytes_str (l : List Int) (h : ∀ z ∈ l, 0 ≤ z ∧ z ≤ 255) : bytesOf (strOfNums l) = l := by
  unfold bytesOf
  rw [strOfNums_data, List.map_map]
  conv => rhs; rw [← List.map_id l]
  apply List.map_congr_left
  intro z hz
  obtain ⟨h0, h1⟩ := h z hz
  obtain ⟨n, rfl⟩ := Int.eq_ofNat_of_zero_le h0
  have : n < 256 := by omega
  simp [UInt8.toNat_ofNat', Nat.mod_eq_of_lt this]

/-- an item's bytes, if it can be laid. -/
def encI (x : It) : Option (List Int) :=
  if x.isText then (if 65535 < x.text.size then none else some (digs 2 x.text.size ++ bytesOf x.text))
  else if 1 ≤ x.size ∧ x.size ≤ 8 ∧ x.n < pow256 x.size.toNat then some (digs x.size.toNat x.n) else none

theorem pow256_2 : pow256 2 = 65536 := by decide

theorem stepW_enc (l : List Int) (x : It) : (∃ k, encI x = some k ∧ stepW (l, 0) x = (l ++ k, 0)) ∨ (encI x = none ∧ (stepW (l, 0) x).2 ≠ 0) := by
  obtain ⟨n, s, t, y⟩ := x
  cases t with
  | true =>
    rw [stepW_text]
    unfold encI textW
    simp only [if_true]
    by_cases h : 65535 < y.size
    · rw [if_pos h, if_pos h]
      exact .inr ⟨rfl, by unfold failW; simp⟩
    · rw [if_neg h, if_neg h]
      refine .inl ⟨_, rfl, ?_⟩
      have e : numW (l, 0) y.size 2 = (l ++ digs 2 y.size, 0) := by
        unfold numW
        rw [if_pos ⟨by decide, by decide, by rw [show (2 : Int).toNat = 2 from rfl, pow256_2]; omega⟩]
        rfl
      rw [e]
      show (l ++ digs 2 y.size ++ bytesOf y, (0 : Int)) = _
      rw [List.append_assoc]
  | false =>
    rw [stepW_num]
    unfold encI numW
    simp only [Bool.false_eq_true, if_false]
    by_cases h : 1 ≤ s ∧ s ≤ 8 ∧ n < pow256 s.toNat
    · rw [if_pos h, if_pos h]
      exact .inl ⟨_, rfl, rfl⟩
    · rw [if_neg h, if_neg h]
      exact .inr ⟨rfl, by unfold failW; simp⟩

theorem stepW_stays (st : List Int × Int) (x : It) (h : st.2 ≠ 0) : (stepW st x).2 ≠ 0 := by
  have hf : ∀ c, failW st c = st := fun c => by unfold failW; rw [if_neg h]
  have hl : ∀ k, layW st k = st := fun k => by unfold layW; rw [if_neg h]
  have hn : ∀ n s, numW st n s = st := fun n s => by unfold numW; split <;> simp [hf, hl]
  unfold stepW
  split
  · unfold textW
    split
    · rw [hf]; exact h
    · rw [hn, hl]; exact h
  · rw [hn]; exact h

/-- items' bytes, one behind the other, if all can be laid. -/
def encAll : List It → Option (List Int)
  | [] => some []
  | x :: l => match encI x, encAll l with
    | some a, some b => some (a ++ b)
    | _, _ => none

theorem foldW_stays (l : List It) : ∀ st : List Int × Int, st.2 ≠ 0 → (l.foldl stepW st).2 ≠ 0 := by
  induction l with
  | nil => intro st h; exact h
  | cons x l ih => intro st h; exact ih _ (stepW_stays st x h)

theorem foldW_enc (l : List It) : ∀ b : List Int, (l.foldl stepW (b, 0)).2 = 0 → ∃ k, encAll l = some k ∧ l.foldl stepW (b, 0) = (b ++ k, 0) := by
  induction l with
  | nil => intro b _; exact ⟨[], rfl, by simp⟩
  | cons x l ih =>
    intro b h
    rw [List.foldl_cons] at h ⊢
    rcases stepW_enc b x with ⟨k, hk, hs⟩ | ⟨_, hs⟩
    · rw [hs] at h ⊢
      obtain ⟨k2, h2, h3⟩ := ih _ h
      exact ⟨k ++ k2, by simp only [encAll, hk, h2], by rw [h3, List.append_assoc]⟩
    · exact absurd h (foldW_stays l _ hs)

theorem layAll_enc (l : List It) (h : (layAll l).2 = 0) : encAll l = some (layAll l).1 := by
  obtain ⟨k, hk, he⟩ := foldW_enc l [] h
  unfold layAll
  rw [he, hk]
  rfl

theorem encAll_cons {x : It} {l : List It} {r : List Int} (h : encAll (x :: l) = some r) : ∃ a b, encI x = some a ∧ encAll l = some b ∧ r = a ++ b := by
  simp only [encAll] at h
  split at h
  · next a b ha hb => cases h; exact ⟨a, b, ha, hb, rfl⟩
  · cases h

theorem encI_num {x : It} {a : List Int} (hx : x.isText = false) (h : encI x = some a) : 1 ≤ x.size ∧ x.size ≤ 8 ∧ x.n < pow256 x.size.toNat ∧ a = digs x.size.toNat x.n := by
  unfold encI at h
  rw [hx] at h
  simp only [Bool.false_eq_true, if_false] at h
  split at h
  · next h1 => cases h; exact ⟨h1.1, h1.2.1, h1.2.2, rfl⟩
  · cases h

theorem encI_text {x : It} {a : List Int} (hx : x.isText = true) (h : encI x = some a) : x.text.size ≤ 65535 ∧ a = digs 2 x.text.size ++ bytesOf x.text := by
  unfold encI at h
  rw [hx] at h
  simp only [if_true] at h
  split at h
  · cases h
  · cases h; exact ⟨by omega, rfl⟩

/-- a number that was laid is read. -/
theorem numR_enc (n size : Int) (r : List Int) (h1 : 1 ≤ size) (h8 : size ≤ 8) (n0 : 0 ≤ n) (hn : n < pow256 size.toNat) : numR (digs size.toNat n ++ r, 0) size = (n, (r, 0)) := by
  unfold numR
  rw [if_pos ⟨h1, h8⟩, takeR_ok _ _ (by rw [List.length_append, digs_length]; omega), List.take_left' (digs_length _ _), List.drop_left' (digs_length _ _), numOf_digs _ _ n0 hn]

/-- a text that was laid is read. -/
theorem textR_enc (s : ByteArray) (r : List Int) (h : s.size ≤ 65535) : textR (digs 2 s.size ++ bytesOf s ++ r, 0) = (bytesOf s, (r, 0)) := by
  unfold textR
  rw [List.append_assoc, takeR_ok _ _ (by rw [List.length_append, digs_length]; omega), List.take_left' (digs_length _ _), List.drop_left' (digs_length _ _), numOf_digs _ _ (by omega) (by rw [pow256_2]; omega), Int.toNat_natCast]
  rw [takeR_ok _ _ (by rw [List.length_append, bytesOf_length]; omega), List.take_left' (bytesOf_length s), List.drop_left' (bytesOf_length s)]

/-- a number of which too little is left. -/
theorem numR_cut (m : List Int) (size : Int) (h1 : 1 ≤ size) (h8 : size ≤ 8) (h : (m.length : Int) < size) : numR (m, 0) size = (0, ([], 2)) := by
  unfold numR
  rw [if_pos ⟨h1, h8⟩, takeR_short _ _ (by omega)]
  rfl

/-- a text of which too little is left. -/
theorem textR_cut (s : ByteArray) (r : List Int) (c : Nat) (h : s.size ≤ 65535) (hc : c < 2 + s.size) : textR ((digs 2 s.size ++ bytesOf s ++ r).take c, 0) = ([], ([], 2)) := by
  unfold textR
  have hl : ((digs 2 s.size ++ bytesOf s ++ r).take c).length = c := by
    rw [List.length_take, List.length_append, List.length_append, digs_length, bytesOf_length]
    omega
  by_cases h2 : c < 2
  · rw [takeR_short _ _ (by omega), takeR_bad 2 (by decide)]
  · rw [takeR_ok _ _ (by omega), List.take_take, show min 2 c = 2 from by omega, List.append_assoc, List.take_left' (digs_length _ _), numOf_digs _ _ (by omega) (by rw [pow256_2]; omega), Int.toNat_natCast]
    rw [List.append_assoc] at hl
    rw [takeR_short _ _ (by rw [List.length_drop, hl]; omega)]

end Go.Proofs.Ytbieemiogbkaiaa
