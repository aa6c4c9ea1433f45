/-
  What the laws say, in plain words.
-/
import Derived.Test.YtilemgpopjlchaaDoorMath
namespace Go.Proofs.YtilemgpopjlchaaDoor

theorem within_iff {a b : List UInt8} : withinP a b = true ↔ rightP a = true ∧ rightP b = true ∧ leftP b <+: leftP a := by
  unfold withinP
  rw [Bool.and_eq_true, Bool.and_eq_true, List.isPrefixOf_iff_prefix]
  exact ⟨fun ⟨⟨h1, h2⟩, h3⟩ => ⟨h1, h2, h3⟩, fun ⟨h1, h2, h3⟩ => ⟨⟨h1, h2⟩, h3⟩⟩
theorem within_self {s : List UInt8} (h : rightP s = true) : withinP s s = true := within_iff.2 ⟨h, h, List.prefix_refl _⟩
theorem within_up {s : List UInt8} (h : rightP s = true) : withinP s (upP s) = true := by
  obtain ⟨h1, h2⟩ := up_again h
  refine within_iff.2 ⟨h, h1, ?_⟩
  rw [h2]
  exact List.dropLast_prefix _
theorem within_root {s : List UInt8} (h : rightP s = true) : withinP s [47] = true := within_iff.2 ⟨h, by decide, List.nil_prefix⟩
theorem within_far {t u : List UInt8} (h : withinP t u = true) : withinP t (upP u) = true := by
  obtain ⟨h1, h2, h3⟩ := within_iff.1 h
  obtain ⟨h4, h5⟩ := up_again h2
  refine within_iff.2 ⟨h1, h4, ?_⟩
  rw [h5]
  exact (List.dropLast_prefix _).trans h3

/-- a name more. -/
structure More (s n : List UInt8) : Prop where
  hs : rightP s = true
  ls : s.length ≤ 100
  ln : n.length ≤ 100
  ne : n ≠ []
  dot : n ≠ [46]
  dots : n ≠ [46, 46]
  sl : (47 : UInt8) ∉ n
  nu : (0 : UInt8) ∉ n
section
variable {s n : List UInt8}
theorem More.names (h : More s n) : rightP (s ++ 47 :: n) = true ∧ namesP (s ++ 47 :: n) = namesP s ++ [n] := by
  have h1 := names_more h.hs (by have := h.ls; have := h.ln; simp; omega) h.nu
  rw [names_one h.sl, List.filter_cons_of_pos (by
    unfold goodN
    cases n with
    | nil => exact absurd rfl h.ne
    | cons c r => simpa using h.dot)] at h1
  exact h1
theorem More.left (h : More s n) : leftP (s ++ 47 :: n) = leftP s ++ [n] := by
  unfold leftP leftL
  rw [h.names.2, List.foldl_append]
  show stepL _ n = _
  unfold stepL
  rw [if_neg h.dots]
theorem More.up (h : More s n) : upP (s ++ 47 :: n) = cleanP s := by
  unfold upP cleanP
  rw [if_pos h.names.1, if_pos h.hs, h.left, List.dropLast_concat]
theorem dots_names : namesA [] [46, 46] = [[46, 46]] := by decide
/-- .. behind a path. -/
theorem dots_more (hs : rightP s = true) (hl : s.length ≤ 250) : rightP (s ++ [47, 46, 46]) = true ∧ leftP (s ++ [47, 46, 46]) = (leftP s).dropLast := by
  obtain ⟨h1, h2⟩ := names_more (n := [46, 46]) hs (by simp; omega) (by decide)
  refine ⟨h1, ?_⟩
  unfold leftP leftL
  have e : s ++ [47, 46, 46] = s ++ 47 :: [46, 46] := rfl
  rw [e, h2, dots_names, List.foldl_append]
  rfl
theorem More.dots_clean (h : More s n) : rightP ((s ++ 47 :: n) ++ [47, 46, 46]) = true ∧ cleanP ((s ++ 47 :: n) ++ [47, 46, 46]) = cleanP s := by
  obtain ⟨h1, h2⟩ := dots_more h.names.1 (by have := h.ls; have := h.ln; simp; omega)
  refine ⟨h1, ?_⟩
  unfold cleanP
  rw [if_pos h1, if_pos h.hs, h2, h.left, List.dropLast_concat]
theorem up_dots (hs : rightP s = true) (hl : s.length ≤ 250) : rightP (s ++ [47, 46, 46]) = true ∧ cleanP (s ++ [47, 46, 46]) = upP s := by
  obtain ⟨h1, h2⟩ := dots_more hs hl
  refine ⟨h1, ?_⟩
  unfold cleanP upP
  rw [if_pos h1, if_pos hs, h2]
theorem More.within (h : More s n) : withinP (s ++ 47 :: n) s = true := by
  refine within_iff.2 ⟨h.names.1, h.hs, ?_⟩
  rw [h.left]
  exact List.prefix_append _ _
end

/-- behind each slash of names one behind the other stands what is none. -/
theorem slash_next : ∀ {L : List (List UInt8)}, (∀ n ∈ L, OkN n) → ∀ i : Nat, (joinF L)[i]? = some 47 → ∃ c, (joinF L)[i + 1]? = some c ∧ c ≠ 47
  | [], _, i, h => by
    have : (joinF ([] : List (List UInt8))) = [] := rfl
    rw [this] at h
    cases h
  | n :: L, ho, i, h => by
    have e : joinF (n :: L) = 47 :: (n ++ joinF L) := rfl
    have hn := ho n (List.mem_cons_self ..)
    rw [e] at h ⊢
    cases i with
    | zero =>
      cases n with
      | nil => exact absurd hn.good (by decide)
      | cons c r => exact ⟨c, rfl, fun e2 => hn.sl (by rw [e2]; exact List.mem_cons_self ..)⟩
    | succ k =>
      rw [List.getElem?_cons_succ] at h ⊢
      by_cases hk : k < n.length
      · rw [List.getElem?_append_left hk] at h
        exact absurd (List.mem_of_getElem? h) hn.sl
      · rw [List.getElem?_append_right (by omega)] at h
        obtain ⟨c, h1, h2⟩ := slash_next (fun m hm => ho m (List.mem_cons_of_mem _ hm)) _ h
        refine ⟨c, ?_, h2⟩
        rw [List.getElem?_append_right (by omega), show k + 1 - n.length = k - n.length + 1 by omega]
        exact h1
/-- what a clean path looks like. -/
theorem clean_form {s : List UInt8} (h : rightP s = true) : (cleanP s)[0]? = some 47 ∧ ∀ i : Nat, (cleanP s)[i]? = some 47 → (i = 0 ∧ (cleanP s).length = 1) ∨ ∃ c, (cleanP s)[i + 1]? = some c ∧ c ≠ 47 := by
  have hc := cl_left s
  have e1 : cleanP s = joinP (leftP s) := if_pos h
  rw [e1]
  unfold joinP
  split
  · refine ⟨rfl, fun i hi => .inl ⟨?_, rfl⟩⟩
    cases i with
    | zero => rfl
    | succ i => simp at hi
  · rename_i hne
    refine ⟨?_, fun i hi => .inr (slash_next hc.ok i hi)⟩
    cases hL : leftP s with
    | nil => exact absurd hL hne
    | cons n L => rfl
theorem clean_names {s : List UInt8} (h : rightP s = true) : ∀ n ∈ namesP (cleanP s), n ≠ [] ∧ n ≠ [46] ∧ n ≠ [46, 46] := by
  have hc := cl_left s
  have e1 : cleanP s = joinP (leftP s) := if_pos h
  rw [e1, names_join hc]
  intro n hn
  have h1 := (hc.ok n hn).good
  refine ⟨fun e => ?_, fun e => ?_, hc.dots n hn⟩
  · rw [e] at h1
    exact absurd h1 (by decide)
  · rw [e] at h1
    exact absurd h1 (by decide)

end Go.Proofs.YtilemgpopjlchaaDoor
