/-
  Rising lists, halved again and again, in plain words.
-/
import Derived.Test.YtcckipimfgmmdaaGreatDoorChecked
import Derived.WalkKit
namespace Go.Proofs.YtcckipimfgmmdaaGreatDoor.T

/-- the middle of a part. -/
def mid (a b : Nat) : Nat := a + (b - a) / 2

theorem mid_lt {a b : Nat} (h : 2 ≤ b - a) : a < mid a b ∧ mid a b < b := by unfold mid; omega

/-- a part, and all that is within it, in order; so many halvings are enough. -/
def partsF : Nat → Nat → Nat → List (Nat × Nat)
  | 0, _, _ => []
  | k + 1, a, b => if b ≤ a then [] else if b - a < 2 then [(a, b)] else (a, b) :: (partsF k a (mid a b) ++ partsF k (mid a b) b)
theorem partsF_more (k : Nat) : ∀ j a b, b - a ≤ k → b - a ≤ j → partsF k a b = partsF j a b := by
  induction k with
  | zero =>
    intro j a b h _
    cases j with
    | zero => rfl
    | succ j =>
      show [] = if b ≤ a then [] else _
      rw [if_pos (by omega)]
  | succ k ih =>
    intro j a b h hj
    cases j with
    | zero =>
      show (if b ≤ a then [] else _) = []
      rw [if_pos (by omega)]
    | succ j =>
      show (if b ≤ a then [] else if b - a < 2 then [(a, b)] else (a, b) :: (partsF k a (mid a b) ++ partsF k (mid a b) b)) = if b ≤ a then [] else if b - a < 2 then [(a, b)] else (a, b) :: (partsF j a (mid a b) ++ partsF j (mid a b) b)
      by_cases h0 : b ≤ a
      · rw [if_pos h0, if_pos h0]
      by_cases h1 : b - a < 2
      · rw [if_neg h0, if_neg h0, if_pos h1, if_pos h1]
      · have hm := mid_lt (a := a) (b := b) (by omega)
        rw [if_neg h0, if_neg h0, if_neg h1, if_neg h1, ih j a (mid a b) (by omega) (by omega), ih j (mid a b) b (by omega) (by omega)]
def parts (a b : Nat) : List (Nat × Nat) := partsF (b - a) a b

theorem parts_none {a b : Nat} (h : b ≤ a) : parts a b = [] := by
  unfold parts
  rw [show b - a = 0 from by omega]
  rfl
theorem parts_one {a b : Nat} (h : a < b) (h2 : b - a < 2) : parts a b = [(a, b)] := by
  unfold parts
  rw [show b - a = 0 + 1 from by omega]
  show (if b ≤ a then [] else if b - a < 2 then [(a, b)] else _) = _
  rw [if_neg (by omega), if_pos h2]
theorem parts_two {a b : Nat} (h : 2 ≤ b - a) : parts a b = (a, b) :: (parts a (mid a b) ++ parts (mid a b) b) := by
  have hm := mid_lt h
  have e : partsF (b - a) a b = partsF ((b - a - 1) + 1) a b := by rw [show b - a - 1 + 1 = b - a from by omega]
  show partsF (b - a) a b = _
  rw [e]
  show (if b ≤ a then [] else if b - a < 2 then [(a, b)] else (a, b) :: (partsF (b - a - 1) a (mid a b) ++ partsF (b - a - 1) (mid a b) b)) = _
  rw [if_neg (by omega), if_neg (by omega), partsF_more (b - a - 1) (mid a b - a) a (mid a b) (by omega) (by omega), partsF_more (b - a - 1) (b - mid a b) (mid a b) b (by omega) (by omega)]
  rfl

theorem parts_len' (k : Nat) : ∀ a b, b - a ≤ k → a < b → (parts a b).length = 2 * (b - a) - 1 := by
  induction k with
  | zero => intro a b h1 h2; omega
  | succ k ih =>
    intro a b h1 h2
    by_cases h : b - a < 2
    · rw [parts_one h2 h, List.length_singleton]
      omega
    · have hm := mid_lt (a := a) (b := b) (by omega)
      rw [parts_two (by omega), List.length_cons, List.length_append, ih a (mid a b) (by omega) hm.1, ih (mid a b) b (by omega) hm.2]
      omega
theorem parts_len {a b : Nat} (h : a < b) : (parts a b).length = 2 * (b - a) - 1 := parts_len' _ a b (Nat.le_refl _) h
theorem parts_le (a b : Nat) : (parts a b).length ≤ 2 * (b - a) := by
  by_cases h : a < b
  · rw [parts_len h]; omega
  · rw [parts_none (by omega)]; simp

theorem parts_in' (k : Nat) : ∀ a b, b - a ≤ k → ∀ p ∈ parts a b, a ≤ p.1 ∧ p.1 < p.2 ∧ p.2 ≤ b := by
  induction k with
  | zero => intro a b h1 p hp; rw [parts_none (by omega)] at hp; cases hp
  | succ k ih =>
    intro a b h1 p hp
    by_cases h0 : b ≤ a
    · rw [parts_none h0] at hp; cases hp
    by_cases h : b - a < 2
    · rw [parts_one (by omega) h, List.mem_singleton] at hp
      subst hp
      exact ⟨Nat.le_refl _, by show a < b; omega, Nat.le_refl _⟩
    · have hm := mid_lt (a := a) (b := b) (by omega)
      rw [parts_two (by omega), List.mem_cons, List.mem_append] at hp
      rcases hp with rfl | hp | hp
      · exact ⟨Nat.le_refl _, by show a < b; omega, Nat.le_refl _⟩
      · have := ih a (mid a b) (by omega) p hp; omega
      · have := ih (mid a b) b (by omega) p hp; omega
theorem parts_in {a b : Nat} {p : Nat × Nat} (h : p ∈ parts a b) : a ≤ p.1 ∧ p.1 < p.2 ∧ p.2 ≤ b := parts_in' _ a b (Nat.le_refl _) p h

/-- the middle of a part of two places or more. -/
def midOf (p : Nat × Nat) : Option Nat := if 2 ≤ p.2 - p.1 then some (mid p.1 p.2) else none
def midsOf (l : List (Nat × Nat)) : List Nat := l.filterMap midOf
theorem midsOf_snoc (l : List (Nat × Nat)) (p : Nat × Nat) : midsOf (l ++ [p]) = midsOf l ++ (if 2 ≤ p.2 - p.1 then [mid p.1 p.2] else []) := by
  unfold midsOf
  rw [List.filterMap_append]
  congr 1
  unfold midOf
  split <;> simp_all
theorem midsOf_le (l : List (Nat × Nat)) : (midsOf l).length ≤ l.length := List.length_filterMap_le _ _

/-- the middles of all parts. -/
def mids (a b : Nat) : List Nat := midsOf (parts a b)
theorem mids_two {a b : Nat} (h : 2 ≤ b - a) : mids a b = mid a b :: (mids a (mid a b) ++ mids (mid a b) b) := by
  unfold mids
  rw [parts_two h]
  unfold midsOf
  rw [List.filterMap_cons, List.filterMap_append]
  simp [midOf, h]
theorem mids_one {a b : Nat} (h : b - a < 2) : mids a b = [] := by
  unfold mids
  by_cases h0 : b ≤ a
  · rw [parts_none h0]; rfl
  · rw [parts_one (by omega) h]
    unfold midsOf
    rw [List.filterMap_cons]
    simp [midOf, show ¬ 2 ≤ b - a from by omega]

theorem mids_in' (k : Nat) : ∀ a b, b - a ≤ k → ∀ x ∈ mids a b, a < x ∧ x < b := by
  induction k with
  | zero => intro a b h1 x hx; rw [mids_one (by omega)] at hx; cases hx
  | succ k ih =>
    intro a b h1 x hx
    by_cases h : b - a < 2
    · rw [mids_one h] at hx; cases hx
    · have hm := mid_lt (a := a) (b := b) (by omega)
      rw [mids_two (by omega), List.mem_cons, List.mem_append] at hx
      rcases hx with rfl | hx | hx
      · exact hm
      · have := ih a (mid a b) (by omega) x hx; omega
      · have := ih (mid a b) b (by omega) x hx; omega
theorem mids_in {a b x : Nat} (h : x ∈ mids a b) : a < x ∧ x < b := mids_in' _ a b (Nat.le_refl _) x h
theorem mids_nodup' (k : Nat) : ∀ a b, b - a ≤ k → (mids a b).Nodup := by
  induction k with
  | zero => intro a b h1; rw [mids_one (by omega)]; exact List.nodup_nil
  | succ k ih =>
    intro a b h1
    by_cases h : b - a < 2
    · rw [mids_one h]; exact List.nodup_nil
    · have hm := mid_lt (a := a) (b := b) (by omega)
      rw [mids_two (by omega), List.nodup_cons, List.mem_append, List.nodup_append]
      refine ⟨fun hx => ?_, ih a (mid a b) (by omega), ih (mid a b) b (by omega), fun x hx y hy e => ?_⟩
      · rcases hx with hx | hx
        · have := mids_in hx; omega
        · have := mids_in hx; omega
      · have h3 := mids_in hx
        have h4 := mids_in hy
        omega
theorem mids_nodup (a b : Nat) : (mids a b).Nodup := mids_nodup' _ a b (Nat.le_refl _)
theorem mids_len' (k : Nat) : ∀ a b, b - a ≤ k → (mids a b).length = b - a - 1 := by
  induction k with
  | zero => intro a b h1; rw [mids_one (by omega)]; show 0 = _; omega
  | succ k ih =>
    intro a b h1
    by_cases h : b - a < 2
    · rw [mids_one h]; show 0 = _; omega
    · have hm := mid_lt (a := a) (b := b) (by omega)
      rw [mids_two (by omega), List.length_cons, List.length_append, ih a (mid a b) (by omega), ih (mid a b) b (by omega)]
      omega
theorem mids_len (a b : Nat) : (mids a b).length = b - a - 1 := mids_len' _ a b (Nat.le_refl _)

/-- the places that are passed, when a number is looked for; so many halvings are enough. -/
def pathG (l : List Int) (n : Int) : Nat → Nat → Nat → List Nat
  | 0, a, _ => [a]
  | k + 1, a, b => if b - a < 2 then [a] else mid a b :: (if l.getD (mid a b) 0 ≤ n then pathG l n k (mid a b) b else pathG l n k a (mid a b))
theorem pathG_more (l : List Int) (n : Int) (k : Nat) : ∀ j a b, b - a ≤ k → b - a ≤ j → pathG l n k a b = pathG l n j a b := by
  induction k with
  | zero =>
    intro j a b h _
    cases j with
    | zero => rfl
    | succ j =>
      show [a] = if b - a < 2 then [a] else _
      rw [if_pos (by omega)]
  | succ k ih =>
    intro j a b h hj
    cases j with
    | zero =>
      show (if b - a < 2 then [a] else _) = [a]
      rw [if_pos (by omega)]
    | succ j =>
      show (if b - a < 2 then [a] else mid a b :: (if l.getD (mid a b) 0 ≤ n then pathG l n k (mid a b) b else pathG l n k a (mid a b))) = if b - a < 2 then [a] else mid a b :: (if l.getD (mid a b) 0 ≤ n then pathG l n j (mid a b) b else pathG l n j a (mid a b))
      by_cases h1 : b - a < 2
      · rw [if_pos h1, if_pos h1]
      · have hm := mid_lt (a := a) (b := b) (by omega)
        rw [if_neg h1, if_neg h1, ih j a (mid a b) (by omega) (by omega), ih j (mid a b) b (by omega) (by omega)]
def pathF (l : List Int) (n : Int) (a b : Nat) : List Nat := pathG l n (b - a) a b
theorem pathF_one {l : List Int} {n : Int} {a b : Nat} (h : b - a < 2) : pathF l n a b = [a] := by
  unfold pathF
  rw [pathG_more l n (b - a) 1 a b (by omega) (by omega)]
  show (if b - a < 2 then [a] else _) = [a]
  rw [if_pos h]
theorem pathF_two {l : List Int} {n : Int} {a b : Nat} (h : 2 ≤ b - a) : pathF l n a b = mid a b :: (if l.getD (mid a b) 0 ≤ n then pathF l n (mid a b) b else pathF l n a (mid a b)) := by
  have hm := mid_lt h
  unfold pathF
  rw [pathG_more l n (b - a) (b - a - 1 + 1) a b (by omega) (by omega)]
  show (if b - a < 2 then [a] else mid a b :: (if l.getD (mid a b) 0 ≤ n then pathG l n (b - a - 1) (mid a b) b else pathG l n (b - a - 1) a (mid a b))) = _
  rw [if_neg (by omega), pathG_more l n (b - a - 1) (mid a b - a) a (mid a b) (by omega) (by omega), pathG_more l n (b - a - 1) (b - mid a b) (mid a b) b (by omega) (by omega)]
theorem pathF_up {l : List Int} {n : Int} {a b : Nat} (h : 2 ≤ b - a) (hl : l.getD (mid a b) 0 ≤ n) : pathF l n a b = mid a b :: pathF l n (mid a b) b := by rw [pathF_two h, if_pos hl]
theorem pathF_down {l : List Int} {n : Int} {a b : Nat} (h : 2 ≤ b - a) (hl : ¬ l.getD (mid a b) 0 ≤ n) : pathF l n a b = mid a b :: pathF l n a (mid a b) := by rw [pathF_two h, if_neg hl]

/-- the search is as short as the list is deep. -/
theorem pathF_len (l : List Int) (n : Int) (k : Nat) : ∀ a b, b - a ≤ 2 ^ k → (pathF l n a b).length ≤ k + 1 := by
  induction k with
  | zero => intro a b h; rw [pathF_one (by simp at h; omega)]; exact Nat.le_refl _
  | succ k ih =>
    intro a b h
    rw [Nat.pow_succ] at h
    by_cases h2 : b - a < 2
    · rw [pathF_one h2]; simp
    · by_cases hl : l.getD (mid a b) 0 ≤ n
      · rw [pathF_up (by omega) hl, List.length_cons]
        exact Nat.succ_le_succ (ih _ _ (by unfold mid; omega))
      · rw [pathF_down (by omega) hl, List.length_cons]
        exact Nat.succ_le_succ (ih _ _ (by unfold mid; omega))
theorem pathF_le' (l : List Int) (n : Int) (k : Nat) : ∀ a b, b - a ≤ k → (pathF l n a b).length ≤ k + 1 := by
  induction k with
  | zero => intro a b h; rw [pathF_one (by omega)]; exact Nat.le_refl _
  | succ k ih =>
    intro a b h
    by_cases h2 : b - a < 2
    · rw [pathF_one h2]; simp
    · have hm := mid_lt (a := a) (b := b) (by omega)
      by_cases hl : l.getD (mid a b) 0 ≤ n
      · rw [pathF_up (by omega) hl, List.length_cons]
        exact Nat.succ_le_succ (ih _ _ (by omega))
      · rw [pathF_down (by omega) hl, List.length_cons]
        exact Nat.succ_le_succ (ih _ _ (by omega))

/-- does a list rise? -/
def rises (l : List Int) : Bool := decide (∀ i, i < l.length - 1 → l.getD i 0 < l.getD (i + 1) 0)
theorem rises_lt {l : List Int} (h : rises l = true) : ∀ d i, i + d + 1 < l.length → l.getD i 0 < l.getD (i + d + 1) 0 := by
  have h1 := of_decide_eq_true h
  intro d
  induction d with
  | zero => intro i hi; exact h1 i (by omega)
  | succ d ih =>
    intro i hi
    have h2 := ih i (by omega)
    have h3 := h1 (i + d + 1) (by omega)
    show _ < l.getD (i + d + 1 + 1) 0
    omega

/-- where the search ends. -/
def Ends (l : List Int) (n : Int) (p : Nat) : Prop := p < l.length ∧ (l.getD p 0 ≤ n ∨ p = 0) ∧ (p + 1 = l.length ∨ n < l.getD (p + 1) 0)
theorem pathF_last (l : List Int) (n : Int) (k : Nat) : ∀ a b, b - a ≤ k → a < b → b ≤ l.length → (l.getD a 0 ≤ n ∨ a = 0) → (b = l.length ∨ n < l.getD b 0) →
    ∃ q p, pathF l n a b = q ++ [p] ∧ Ends l n p := by
  induction k with
  | zero => intro a b h h0; omega
  | succ k ih =>
    intro a b h h0 hb ha hn
    by_cases h2 : b - a < 2
    · obtain rfl : b = a + 1 := by omega
      exact ⟨[], a, by rw [pathF_one h2]; rfl, by omega, ha, hn⟩
    · have hm := mid_lt (a := a) (b := b) (by omega)
      by_cases hl : l.getD (mid a b) 0 ≤ n
      · obtain ⟨q, p, e, hp⟩ := ih (mid a b) b (by omega) hm.2 hb (.inl hl) hn
        exact ⟨mid a b :: q, p, by rw [pathF_up (by omega) hl, e]; rfl, hp⟩
      · obtain ⟨q, p, e, hp⟩ := ih a (mid a b) (by omega) hm.1 (by omega) ha (.inr (by omega))
        exact ⟨mid a b :: q, p, by rw [pathF_down (by omega) hl, e]; rfl, hp⟩

/-- the greatest place so far whose number is at most the one that is looked for. -/
def wantF (l : List Int) (n : Int) : Nat → Nat
  | 0 => 0
  | k + 1 => if l.getD k 0 ≤ n then k else wantF l n k
theorem wantF_le (l : List Int) (n : Int) (k : Nat) : wantF l n k ≤ k := by
  induction k with
  | zero => exact Nat.le_refl _
  | succ k ih =>
    show (if _ then k else wantF l n k) ≤ _
    split
    · omega
    · omega
theorem wantF_end {l : List Int} {n : Int} {p : Nat} (hr : rises l = true) (h : Ends l n p) : wantF l n l.length = p := by
  obtain ⟨h1, h2, h3⟩ := h
  have key : ∀ d, p + 1 + d ≤ l.length → wantF l n (p + 1 + d) = p := by
    intro d
    induction d with
    | zero =>
      intro _
      show (if _ then p else wantF l n p) = p
      rcases h2 with h2 | rfl
      · rw [if_pos h2]
      · split <;> rfl
    | succ d ih =>
      intro hd
      show (if l.getD (p + 1 + d) 0 ≤ n then p + 1 + d else wantF l n (p + 1 + d)) = p
      have hlt : n < l.getD (p + 1 + d) 0 := by
        have h4 : n < l.getD (p + 1) 0 := by
          rcases h3 with h3 | h3
          · omega
          · exact h3
        cases d with
        | zero => exact h4
        | succ d =>
          have := rises_lt hr d (p + 1) (by omega)
          show n < l.getD (p + 1 + d + 1) 0
          omega
      rw [if_neg (by omega)]
      exact ih (by omega)
  have := key (l.length - (p + 1)) (by omega)
  rwa [show p + 1 + (l.length - (p + 1)) = l.length from by omega] at this
theorem path_ends {l : List Int} {n : Int} (hr : rises l = true) (h0 : 0 < l.length) : ∃ q p, pathF l n 0 l.length = q ++ [p] ∧ wantF l n l.length = p := by
  obtain ⟨q, p, e, hp⟩ := pathF_last l n l.length 0 l.length (by omega) h0 (Nat.le_refl _) (.inr rfl) (.inl rfl)
  exact ⟨q, p, e, wantF_end hr hp⟩

/-- what Build tells of a list. -/
def bErr (l : List Int) : Int := if 4096 < l.length then 4 else if rises l = true then 0 else 1
def bMids (l : List Int) : List Nat := if 4096 < l.length then [] else if rises l = true then mids 0 l.length else []
def pMids (l : List Int) (n : Int) : List Nat := if l.length = 0 then [] else if bErr l = 0 then pathF l n 0 l.length else []
theorem bErr_zero {l : List Int} (h : bErr l = 0) : l.length ≤ 4096 ∧ rises l = true := by
  unfold bErr at h
  split at h
  · omega
  · split at h
    · exact ⟨by omega, by assumption⟩
    · omega

/-- parts of one place, one behind the other. -/
def stepH (s : Option Nat) (p : Nat × Nat) : Option Nat := s.bind fun s => if p.2 - p.1 = 1 then (if p.1 = s then some p.2 else none) else some s
def runH (l : List (Nat × Nat)) (s : Option Nat) : Option Nat := l.foldl stepH s
theorem runH_app (l m : List (Nat × Nat)) (s : Option Nat) : runH (l ++ m) s = runH m (runH l s) := List.foldl_append ..
theorem runH_none (l : List (Nat × Nat)) : runH l none = none := by
  induction l with
  | nil => rfl
  | cons p l ih => exact ih
theorem runH_parts' (k : Nat) : ∀ a b, b - a ≤ k → a < b → runH (parts a b) (some a) = some b := by
  induction k with
  | zero => intro a b h1 h2; omega
  | succ k ih =>
    intro a b h1 h2
    by_cases h : b - a < 2
    · rw [parts_one h2 h]
      show stepH (some a) (a, b) = _
      unfold stepH
      simp [show b - a = 1 from by omega]
    · have hm := mid_lt (a := a) (b := b) (by omega)
      rw [parts_two (by omega)]
      show runH (parts a (mid a b) ++ parts (mid a b) b) (stepH (some a) (a, b)) = _
      have e : stepH (some a) (a, b) = some a := by
        unfold stepH
        simp [show ¬ b - a = 1 from by omega]
      rw [e, runH_app, ih a (mid a b) (by omega) hm.1, ih (mid a b) b (by omega) hm.2]
theorem runH_parts {a b : Nat} (h : a < b) : runH (parts a b) (some a) = some b := runH_parts' _ a b (Nat.le_refl _) h

end Go.Proofs.YtcckipimfgmmdaaGreatDoor.T
