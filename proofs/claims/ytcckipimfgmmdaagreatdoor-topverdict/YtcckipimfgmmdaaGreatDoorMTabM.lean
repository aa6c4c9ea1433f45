/-
  Names and numbers of the calls belong to one another.
-/
import Derived.Test.YtcckipimfgmmdaaGreatDoorMTab
namespace Go.Proofs.YtcckipimfgmmdaaGreatDoor.M
open Go.RowKit

theorem tab_names : (tab.all fun p => tab.all fun q => !(lst p.1 == lst q.1) || p.2 == q.2) = true := by kernel_rfl
theorem tab_nrs : (tab.all fun p => tab.all fun q => !(p.2 == q.2) || lst p.1 == lst q.1) = true := by kernel_rfl

theorem tab_name {p q : ByteArray × Nat} (hp : p ∈ tab) (hq : q ∈ tab) (h : p.1 = q.1) : p.2 = q.2 := by
  have h1 := List.all_eq_true.1 (List.all_eq_true.1 tab_names p hp) q hq
  rw [h] at h1
  simpa using h1
theorem tab_nr {p q : ByteArray × Nat} (hp : p ∈ tab) (hq : q ∈ tab) (h : p.2 = q.2) : p.1 = q.1 := by
  have h1 := List.all_eq_true.1 (List.all_eq_true.1 tab_nrs p hp) q hq
  rw [h] at h1
  have h2 : lst p.1 = lst q.1 := by simpa using h1
  rw [← bar_lst p.1, h2, bar_lst]

/-- a name has a number, by the table. -/
theorem nr_iff {s : ByteArray} {z : Int} : (knB s && (nrI s == z)) = true ↔ ∃ p ∈ tab, p.1 = s ∧ (p.2 : Int) = z := by
  unfold knB nrI nrOf
  cases h : tab.find? fun p => eqS p.1 s with
  | none =>
    rw [List.find?_eq_none] at h
    constructor
    · intro h1; simp at h1
    · rintro ⟨p, hp, rfl, _⟩
      exact absurd (eqS_self _) (h p hp)
  | some q =>
    have hq := List.mem_of_find?_eq_some h
    have he : q.1 = s := eqS_iff.1 (List.find?_some (p := fun p : ByteArray × Nat => eqS p.1 s) h)
    constructor
    · intro h1
      exact ⟨q, hq, he, by simpa using h1⟩
    · rintro ⟨p, hp, h1, rfl⟩
      have := tab_name hp hq (h1.trans he.symm)
      simp [this]
theorem nm_iff {s : ByteArray} {z : Int} : (isNr z && eqS (nmS z) s) = true ↔ ∃ p ∈ tab, p.1 = s ∧ (p.2 : Int) = z := by
  unfold isNr nmS nameOf
  cases h : tab.find? fun p => ((p.2 : Int) == z) with
  | none =>
    rw [List.find?_eq_none] at h
    constructor
    · intro h1; simp at h1
    · rintro ⟨p, hp, _, rfl⟩
      exact absurd (by simp) (h p hp)
  | some q =>
    have hq := List.mem_of_find?_eq_some h
    have he : (q.2 : Int) = z := by simpa using List.find?_some (p := fun p : ByteArray × Nat => ((p.2 : Int) == z)) h
    constructor
    · intro h1
      exact ⟨q, hq, eqS_iff.1 (by simpa using h1), he⟩
    · rintro ⟨p, hp, rfl, h1⟩
      have : q.1 = p.1 := tab_nr hq hp (by omega)
      simp [this, eqS_self]

theorem spk (z : Int) (s : ByteArray) : (isNr z && eqS (nmS z) s) = (knB s && (nrI s == z)) := by
  rw [Bool.eq_iff_iff, nm_iff, nr_iff]

theorem nr_of_name {z : Int} (h : isNr z = true) : knB (nmS z) = true ∧ nrI (nmS z) = z := by
  have h1 : (isNr z && eqS (nmS z) (nmS z)) = true := by rw [h, eqS_self]; rfl
  rw [spk] at h1
  simpa using h1

end Go.Proofs.YtcckipimfgmmdaaGreatDoor.M
