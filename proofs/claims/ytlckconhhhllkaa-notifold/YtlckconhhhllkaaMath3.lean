/-
  Lists turned at one place: what the document's loops make of them, in plain words.
-/
import Derived.Test.YtlckconhhhllkaaMath2
namespace Go.Proofs.Ytlckconhhhllkaa

theorem findI_first {L : List En} {z : Int} : ∀ {i : Nat} (hi : i < L.length), (∀ (k : Nat) (hk : k < L.length), k < i → (L[k]).id ≠ z) → (L[i]).id = z → findI L z = some L[i] := by
  induction L with
  | nil => intro i hi; cases hi
  | cons x L ih =>
    intro i hi h1 h2
    cases i with
    | zero =>
      show (if x.id = z then some x else findI L z) = some x
      exact if_pos h2
    | succ i =>
      have h0 : x.id ≠ z := h1 0 (Nat.zero_lt_succ _) (Nat.zero_lt_succ _)
      show (if x.id = z then some x else findI L z) = some (L[i]'(Nat.lt_of_succ_lt_succ hi))
      rw [if_neg h0]
      exact ih (Nat.lt_of_succ_lt_succ hi) (fun k hk hki => h1 (k + 1) (Nat.succ_lt_succ hk) (Nat.succ_lt_succ hki)) h2
theorem findI_no {L : List En} {z : Int} (h : ∀ (k : Nat) (hk : k < L.length), (L[k]).id ≠ z) : findI L z = none := findI_none.2 fun x hx => by
  obtain ⟨k, hk, rfl⟩ := List.getElem_of_mem hx
  exact h k hk
theorem map_set {L : List En} {g : En → En} {i : Nat} (hi : i < L.length) (h : ∀ (k : Nat) (hk : k < L.length), k ≠ i → g L[k] = L[k]) : L.map g = L.set i (g L[i]) := by
  apply List.ext_getElem
  · rw [List.length_map, List.length_set]
  · intro k h1 h2
    rw [List.getElem_map, List.getElem_set]
    split
    · rename_i e
      subst e
      rfl
    · rename_i e
      exact h k (by rw [List.length_map] at h1; exact h1) (fun e2 => e e2.symm)
theorem ids_ne {L : List En} (h : L.Pairwise fun x y => x.id < y.id) {i k : Nat} (hi : i < L.length) (hk : k < L.length) (hne : k ≠ i) : (L[k]).id ≠ (L[i]).id := by
  have h1 := List.pairwise_iff_getElem.1 h
  rcases Nat.lt_or_ge k i with hl | hl
  · have := h1 k i hk hi hl
    omega
  · have := h1 i k hi hk (by omega)
    omega
theorem tas_ne {L : List En} (h : L.Pairwise fun x y => x.ta ≠ y.ta) {i k : Nat} (hi : i < L.length) (hk : k < L.length) (hne : k ≠ i) : (L[k]).ta ≠ (L[i]).ta := by
  have h1 := List.pairwise_iff_getElem.1 h
  rcases Nat.lt_or_ge k i with hl | hl
  · exact h1 k i hk hi hl
  · exact fun e => h1 i k hi hk (by omega) e.symm
theorem reply_set {s : Nt} (h : Ok s) {i : Nat} (hi : i < s.L.length) (k v : Int) : (s.L.map fun x => if x.id = (s.L[i]).id then x.told k v else x) = s.L.set i ((s.L[i]).told k v) := by
  rw [map_set hi fun k' hk hne => if_neg (ids_ne h.up hi hk hne)]
  rw [if_pos rfl]
theorem kill_set {s : Nt} (h : Ok s) {i : Nat} (hi : i < s.L.length) {t : Int} (ht : (s.L[i]).ta = t) : (s.L.map fun x => if x.ta = t then goneW 4 x else x) = s.L.set i (goneW 4 s.L[i]) := by
  subst ht
  rw [map_set hi fun k' hk hne => if_neg (tas_ne h.one hi hk hne)]
  rw [if_pos rfl]
theorem kill_none {L : List En} {t : Int} (h : ∀ (k : Nat) (hk : k < L.length), (L[k]).ta ≠ t) : (L.map fun x => if x.ta = t then goneW 4 x else x) = L ∧ (L.any fun x => x.ta == t && x.waits) = false := by
  constructor
  · conv => rhs; rw [← List.map_id L]
    refine List.map_congr_left fun x hx => ?_
    obtain ⟨k, hk, rfl⟩ := List.getElem_of_mem hx
    exact if_neg (h k hk)
  · rw [List.any_eq_false]
    intro x hx
    obtain ⟨k, hk, rfl⟩ := List.getElem_of_mem hx
    simp [h k hk]
theorem kill_any {s : Nt} (h : Ok s) {i : Nat} (hi : i < s.L.length) {t : Int} (ht : (s.L[i]).ta = t) : killB s t = (s.L[i]).waits := by
  unfold killB
  cases hw : (s.L[i]).waits with
  | true =>
    rw [List.any_eq_true]
    exact ⟨s.L[i], List.getElem_mem hi, by rw [hw]; simp [ht]⟩
  | false =>
    rw [List.any_eq_false]
    intro x hx
    obtain ⟨k, hk, rfl⟩ := List.getElem_of_mem hx
    by_cases e : k = i
    · subst e
      rw [hw]
      simp
    · have := tas_ne h.one hi hk e
      rw [ht] at this
      simp [this]
theorem send_first {L : List En} : ∀ {i : Nat} (hi : i < L.length), (∀ (k : Nat) (hk : k < L.length), k < i → (L[k]).st ≠ 1) → (L[i]).st = 1 → sendL L = L.set i (L[i]).sent ∧ sendO L = some (L[i]).sent := by
  induction L with
  | nil => intro i hi; cases hi
  | cons x L ih =>
    intro i hi h1 h2
    unfold sendL sendO
    cases i with
    | zero =>
      have h3 : x.st = 1 := h2
      rw [if_pos h3, if_pos h3]
      exact ⟨rfl, rfl⟩
    | succ i =>
      have h0 : x.st ≠ 1 := h1 0 (Nat.zero_lt_succ _) (Nat.zero_lt_succ _)
      rw [if_neg h0, if_neg h0]
      obtain ⟨q1, q2⟩ := ih (Nat.lt_of_succ_lt_succ hi) (fun k hk hki => h1 (k + 1) (Nat.succ_lt_succ hk) (Nat.succ_lt_succ hki)) h2
      exact ⟨by rw [q1]; rfl, q2⟩
theorem send_none {L : List En} (h : ∀ (k : Nat) (hk : k < L.length), (L[k]).st ≠ 1) : sendL L = L ∧ sendO L = none := by
  induction L with
  | nil => exact ⟨rfl, rfl⟩
  | cons x L ih =>
    have h0 : x.st ≠ 1 := h 0 (Nat.zero_lt_succ _)
    obtain ⟨q1, q2⟩ := ih fun k hk => h (k + 1) (Nat.succ_lt_succ hk)
    unfold sendL sendO
    rw [if_neg h0, if_neg h0]
    exact ⟨by rw [q1], q2⟩
theorem end_first {s : Nt} (h : Ok s) {i : Nat} (hi : i < s.L.length) {t : Int} (ht : (s.L[i]).ta = t) (hw : (s.L[i]).waits = false) : endL s.L t = s.L.take i ++ s.L.drop (i + 1) ∧ endO s.L t = some s.L[i] := by
  constructor
  · have hsp : s.L.take i ++ s.L[i] :: s.L.drop (i + 1) = s.L := by rw [← List.drop_eq_getElem_cons hi, List.take_append_drop]
    unfold endL
    conv => lhs; rw [← hsp]
    rw [List.filter_append, List.filter_cons_of_neg (by rw [hw]; simp [ht])]
    congr 1
    · refine List.filter_eq_self.2 fun x hx => ?_
      obtain ⟨j, hj, rfl⟩ := List.getElem_of_mem hx
      rw [List.length_take] at hj
      rw [List.getElem_take]
      have := tas_ne h.one hi (show j < s.L.length by omega) (by omega)
      rw [ht] at this
      simp [this]
    · refine List.filter_eq_self.2 fun x hx => ?_
      obtain ⟨j, hj, rfl⟩ := List.getElem_of_mem hx
      rw [List.length_drop] at hj
      rw [List.getElem_drop]
      have := tas_ne h.one hi (show i + 1 + j < s.L.length by omega) (by omega)
      rw [ht] at this
      simp [this]
  · rw [← ht]
    exact endO_of h.one (List.getElem_mem hi) hw
theorem end_none {L : List En} {t : Int} (h : ∀ (k : Nat) (hk : k < L.length), ¬ ((L[k]).ta = t ∧ (L[k]).waits = false)) : endL L t = L ∧ endO L t = none := by
  constructor
  · unfold endL
    refine List.filter_eq_self.2 fun x hx => ?_
    obtain ⟨k, hk, rfl⟩ := List.getElem_of_mem hx
    have := h k hk
    by_cases e : (L[k]).ta = t
    · have hw : (L[k]).waits = true := by
        cases hq : (L[k]).waits with
        | true => rfl
        | false => exact absurd ⟨e, hq⟩ this
      rw [hw]
      simp
    · simp [e]
  · cases hq : endO L t with
    | none => rfl
    | some x =>
      obtain ⟨h1, h2, h3⟩ := endO_some hq
      obtain ⟨k, hk, rfl⟩ := List.getElem_of_mem h1
      exact absurd ⟨h2, h3⟩ (h k hk)
/-- so far: the first k turned, the others as they were. -/
def half (f : En → En) (L : List En) (k : Nat) : List En := (L.take k).map f ++ L.drop k
theorem half_len (f : En → En) (L : List En) (k : Nat) : (half f L k).length = L.length := by
  unfold half
  rw [List.length_append, List.length_map, List.length_take, List.length_drop]
  omega
theorem half_at (f : En → En) (L : List En) (k : Nat) (hk : k < L.length) : (half f L k)[k]'(by rw [half_len]; exact hk) = L[k] := by
  unfold half
  rw [List.getElem_append_right (by rw [List.length_map, List.length_take]; omega)]
  simp only [List.length_map, List.length_take, List.getElem_drop]
  congr 1
  omega
theorem half_set (f : En → En) (L : List En) (k : Nat) (hk : k < L.length) : (half f L k).set k (f L[k]) = half f L (k + 1) := by
  unfold half
  have h1 : ((L.take k).map f).length = k := by rw [List.length_map, List.length_take]; omega
  rw [List.set_append_right _ _ (by omega), h1, Nat.sub_self, List.drop_eq_getElem_cons hk, List.set_cons_zero, List.take_succ_eq_append_getElem hk, List.map_append, List.append_assoc]
  rfl
theorem half_zero (f : En → En) (L : List En) : half f L 0 = L := rfl
theorem half_all (f : En → En) (L : List En) : half f L L.length = L.map f := by
  unfold half
  rw [List.take_length, List.drop_length, List.append_nil]
theorem late_more {L : List En} {k : Nat} (hk : k < L.length) : ((L.take (k + 1)).filter late1).map (·.id) = ((L.take k).filter late1).map (·.id) ++ (if late1 L[k] = true then [(L[k]).id] else []) := by
  rw [List.take_succ_eq_append_getElem hk, List.filter_append, List.map_append]
  congr 1
  by_cases h : late1 L[k] = true
  · rw [List.filter_cons_of_pos h, if_pos h]
    rfl
  · rw [List.filter_cons_of_neg h, if_neg h]
    rfl

end Go.Proofs.Ytlckconhhhllkaa
