/-
  What filters answer together, as plain numbers.
-/
import Derived.Test.YtcckipimfgmmdaaGreatDoorAMostMath
namespace Go.Proofs.YtcckipimfgmmdaaGreatDoor.S

/-- the number of the first of answers, the newest first, that is the one that forbids most. -/
def plN (L : List Int) : Int := match L.findIdx? (fun y => y == A.most L) with | some i => (L.length : Int) - 1 - (i : Int) | none => -1

theorem find_fst {L : List Int} {x : Int} {p : Nat} (h : A.Fst L x p) : L.findIdx? (fun y => y == x) = some p := by
  obtain ⟨h1, h2, h3⟩ := h
  have hp := (List.getElem?_eq_some_iff.1 h1)
  obtain ⟨hp, e⟩ := hp
  rw [List.findIdx?_eq_some_iff_getElem]
  refine ⟨hp, by rw [e]; simp, fun j hj => ?_⟩
  have h4 := h3 j L[j] hj (List.getElem?_eq_getElem (by omega))
  have h5 : L[j] ≠ x := fun e => by rw [e] at h4; omega
  simpa using h5
theorem plN_fst {L : List Int} {p : Nat} (h : A.Fst L (A.most L) p) : plN L = (L.length : Int) - 1 - (p : Int) := by
  unfold plN
  rw [find_fst h]
theorem plN_nil : plN [] = -1 := rfl

/-- of answers as they were attached: the one that is told is one filter's, the newest of its kind, and none forbids more. -/
theorem stack_most (a : List Int) (h : a ≠ []) : ∃ n : Nat, plN a.reverse = n ∧ n < a.length ∧ a[n]? = some (A.most a.reverse) ∧ (∀ (i : Nat) (y : Int), a[i]? = some y → A.ki (A.most a.reverse) ≤ A.ki y) ∧ ∀ (i : Nat) (y : Int), n < i → a[i]? = some y → A.ki (A.most a.reverse) < A.ki y := by
  have hr : a.reverse ≠ [] := by simpa using h
  obtain ⟨p, hp⟩ := A.most_fst a.reverse hr
  have hpl : p < a.length := by have := (List.getElem?_eq_some_iff.1 hp.1).1; simpa using this
  have key : ∀ i, i < a.length → a.reverse[i]? = a[a.length - 1 - i]? := fun i hi => List.getElem?_reverse hi
  refine ⟨a.length - 1 - p, ?_, by omega, ?_, fun i y hy => ?_, fun i y hn hy => ?_⟩
  · rw [plN_fst hp, List.length_reverse]
    omega
  · rw [← key p hpl]
    exact hp.1
  · exact hp.2.1 y (by rw [List.mem_reverse]; exact List.mem_of_getElem? hy)
  · have hi := (List.getElem?_eq_some_iff.1 hy).1
    refine hp.2.2 (a.length - 1 - i) y (by omega) ?_
    rw [key _ (by omega), show a.length - 1 - (a.length - 1 - i) = i from by omega]
    exact hy

/-- a filter more makes no answer forbid less. -/
theorem stack_more (a : List Int) (m : Int) : A.ki (A.most (a ++ [m]).reverse) ≤ A.ki (A.most a.reverse) ∧ ((A.most (a ++ [m]).reverse = A.most a.reverse ∧ plN (a ++ [m]).reverse = plN a.reverse) ∨ plN (a ++ [m]).reverse = (a.length : Int)) := by
  rw [List.reverse_append, List.reverse_singleton, List.singleton_append]
  by_cases h : a = []
  · subst h
    refine ⟨?_, .inr ?_⟩
    · show A.ki m ≤ A.ki 2147418112
      have := A.ki_bd m
      have e : A.ki 2147418112 = 8 := rfl
      omega
    · have hf : A.Fst [m] (A.most [m]) 0 := ⟨rfl, fun y hy => by rw [List.mem_singleton] at hy; subst hy; exact Int.le_refl _, fun j y hj => absurd hj (by omega)⟩
      have := plN_fst hf
      rw [List.reverse_nil, this]
      rfl
  · have hr : a.reverse ≠ [] := by simpa using h
    have e : A.most (m :: a.reverse) = A.pick m (A.most a.reverse) := by
      have := A.most_app [m] a.reverse (by simp) hr
      rw [List.singleton_append] at this
      exact this
    obtain ⟨p, hp⟩ := A.most_fst a.reverse hr
    rw [e]
    by_cases hk : A.ki (A.most a.reverse) < A.ki m
    · have ep : A.pick m (A.most a.reverse) = A.most a.reverse := by unfold A.pick; rw [if_pos hk]
      have hf : A.Fst (m :: a.reverse) (A.most (m :: a.reverse)) (p + 1) := by
        rw [e, ep]
        refine ⟨by rw [List.getElem?_cons_succ]; exact hp.1, fun y hy => ?_, fun j y hj hy => ?_⟩
        · rcases List.mem_cons.1 hy with rfl | hy
          · omega
          · exact hp.2.1 y hy
        · match j, hj, hy with
          | 0, _, hy => simp at hy; subst hy; exact hk
          | j + 1, hj, hy => exact hp.2.2 j y (by omega) (by simpa using hy)
      rw [ep]
      refine ⟨Int.le_refl _, .inl ⟨rfl, ?_⟩⟩
      rw [plN_fst hf, plN_fst hp, List.length_cons]
      omega
    · have ep : A.pick m (A.most a.reverse) = m := by unfold A.pick; rw [if_neg hk]
      have hf : A.Fst (m :: a.reverse) (A.most (m :: a.reverse)) 0 := by
        rw [e, ep]
        refine ⟨rfl, fun y hy => ?_, fun j y hj => absurd hj (by omega)⟩
        rcases List.mem_cons.1 hy with rfl | hy
        · exact Int.le_refl _
        · have := hp.2.1 y hy
          omega
      rw [ep]
      refine ⟨by omega, .inr ?_⟩
      rw [plN_fst hf, List.length_cons, List.length_reverse]
      omega

end Go.Proofs.YtcckipimfgmmdaaGreatDoor.S
