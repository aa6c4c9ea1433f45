/-
  Which codes there are, one by one; and what a program that may be run does at each of its places, as plain numbers.
-/
import Derived.Test.YtamioifoemklfaaVVGo
namespace Go.Proofs.Ytamioifoemklfaa.V
open Go.RowKit

/-- nothing is wrong with an instruction: what that says. -/
theorem fault_parts (x : In) (n : Nat) (h : fault x n = 0) : knownB x.c = true ∧ loadsB x.c x.k = false ∧ reckB x.c x.k = false ∧ outB x n = false ∧ (n = 0 → isIn endL x.c = true) := by
  unfold fault at h
  cases h1 : knownB x.c <;> rw [h1] at h
  · simp at h
  · cases h2 : loadsB x.c x.k <;> rw [h2] at h
    · cases h3 : reckB x.c x.k <;> rw [h3] at h
      · cases h4 : outB x n <;> rw [h4] at h
        · refine ⟨rfl, rfl, rfl, rfl, fun h0 => ?_⟩
          cases h5 : isIn endL x.c with
          | true => rfl
          | false =>
            rw [h5] at h
            simp [h0] at h
        · simp at h
      · simp at h
    · simp at h

theorem isIn_mem (l : List Int) (c : Int) (h : isIn l c = true) : c ∈ l := by
  unfold isIn at h
  simpa using h

/-- the codes that there are. -/
theorem known_cases (c : Int) (h0 : 0 ≤ c) (h1 : c ≤ 65535) (h : knownB c = true) : c ∈ plainL ∨ (c - 8) ∈ withL := by
  have := (known_same c h0 h1).1
  rw [h] at this
  unfold refKnownB at this
  cases hp : isIn plainL c with
  | true => exact .inl (isIn_mem _ _ hp)
  | false =>
    rw [hp] at this
    have h2 : isIn withL (c - 8) = true := by
      cases hw : isIn withL (c - 8) with
      | true => rfl
      | false => rw [hw] at this; simp at this
    exact .inr (isIn_mem _ _ h2)

theorem insB_lt {s : Int} {n : Nat} (h : insB s n = true) : s < n := by
  unfold insB at h
  exact of_decide_eq_true h

/-- where a run goes on that does not end with an instruction: one of the places that it may go on to. -/
theorem skip_goes (x : In) (n : Nat) (s : St) (h : fault x n = 0) (he : isIn endL x.c = false) : skipV x s ∈ skipsL x ∧ ∀ k ∈ skipsL x, insB k n = true := by
  obtain ⟨_, _, _, h4, h5⟩ := fault_parts x n h
  have hn : n ≠ 0 := fun e => by rw [h5 e] at he; cases he
  constructor
  · cases hj : jumpsB x.c with
    | false =>
      have hc : ¬ x.c = 5 := by
        intro e
        rw [e] at hj
        exact absurd hj (by decide +kernel)
      simp [skipV, skipsL, he, hj, hc]
    | true =>
      by_cases hc : x.c = 5
      · rw [hc] at hj he
        simp [skipV, skipsL, he, hj, hc]
      · by_cases h1 : x.t = x.f
        · cases hh : holdsV (kOf x.c) s.a (othV x s) <;> simp [skipV, skipsL, he, hj, hc, h1]
        · by_cases h2 : x.t < x.f
          · cases hh : holdsV (kOf x.c) s.a (othV x s) <;> simp [skipV, skipsL, he, hj, hc, h1, h2, hh]
          · cases hh : holdsV (kOf x.c) s.a (othV x s) <;> simp [skipV, skipsL, he, hj, hc, h1, h2, hh]
  · cases hj : jumpsB x.c with
    | false =>
      have hc : ¬ x.c = 5 := by
        intro e
        rw [e] at hj
        exact absurd hj (by decide +kernel)
      unfold skipsL
      rw [if_neg (by rw [he]; decide), if_neg hc, hj, if_pos rfl]
      intro k hk
      simp at hk
      subst hk
      unfold insB
      simp
      omega
    | true =>
      unfold outB at h4
      rw [hj, Bool.true_and, List.any_eq_false] at h4
      intro k hk
      have := h4 k hk
      simpa using this

/-- where a run goes on from a place of a program that may be run. -/
theorem next_goes (l : List In) (d : Da) (p : Nat) (s : St) (x : In) (hx : l[p]? = some x) (ho : x.ok) (hf : fault x (l.length - 1 - p) = 0) (he : endV x s = false) :
    ∃ q : Nat, (nextV l.length d x p s).1 = q ∧ p < q ∧ q < l.length ∧ (q : Int) ∈ goOn p (l.length - 1 - p) (skipsL x) := by
  have hp : p < l.length := (List.getElem?_eq_some_iff.1 hx).1
  have he2 : isIn endL x.c = false := by
    unfold endV at he
    cases h : isIn endL x.c with
    | false => rfl
    | true => rw [h] at he; simp at he
  obtain ⟨h1, h2⟩ := skip_goes x _ (doV d x s) hf he2
  have h3 := insB_lt (h2 _ h1)
  have h4 := skipV_nn x (doV d x s) ho
  have h5 : (nextV l.length d x p s).1 = p + 1 + skipV x (doV d x s) := by unfold nextV; rw [if_neg (by rw [he]; decide)]
  refine ⟨(p + 1 + skipV x (doV d x s)).toNat, by rw [h5]; omega, by omega, by omega, ?_⟩
  unfold goOn
  rw [List.mem_map]
  refine ⟨skipV x (doV d x s), List.mem_filter.2 ⟨h1, h2 _ h1⟩, by omega⟩

end Go.Proofs.Ytamioifoemklfaa.V
