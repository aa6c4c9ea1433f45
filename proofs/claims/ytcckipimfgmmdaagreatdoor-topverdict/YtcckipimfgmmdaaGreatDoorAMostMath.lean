/-
  What forbids most of numbers, plainly.
-/
import Derived.Test.YtcckipimfgmmdaaGreatDoorAMath
namespace Go.Proofs.YtcckipimfgmmdaaGreatDoor.A

/-- of two answers, the one that forbids more, or the first. -/
def pick (m v : Int) : Int := if ki v < ki m then v else m

/-- of answers, the first one of those that forbid most. -/
def fom (m : Int) (l : List Int) : Int := l.foldl pick m
def most : List Int → Int
  | [] => 2147418112
  | m :: l => fom m l

theorem pick_assoc (x y z : Int) : pick (pick x y) z = pick x (pick y z) := by
  unfold pick
  by_cases h1 : ki y < ki x <;> by_cases h2 : ki z < ki y <;> by_cases h3 : ki z < ki x <;> simp [h1, h2, h3] <;> omega

theorem fom_pick (l : List Int) : ∀ x v, fom (pick x v) l = pick x (fom v l) := by
  induction l with
  | nil => intro x v; rfl
  | cons y l ih =>
    intro x v
    show fom (pick (pick x v) y) l = pick x (fom (pick v y) l)
    rw [pick_assoc, ih]

theorem fom_app (m : Int) (l k : List Int) : fom m (l ++ k) = fom (fom m l) k := by
  unfold fom
  rw [List.foldl_append]

theorem most_two (x y : Int) : most [x, y] = pick x y := rfl

theorem most_app (a b : List Int) (ha : a ≠ []) (hb : b ≠ []) : most (a ++ b) = most [most a, most b] := by
  match a, ha with
  | m :: a, _ =>
    match b, hb with
    | v :: b, _ =>
      rw [most_two]
      show fom m (a ++ v :: b) = pick (fom m a) (fom v b)
      rw [fom_app]
      exact fom_pick b _ _

/-- x is the first one of those in L that forbid most, and stands at p. -/
def Fst (L : List Int) (x : Int) (p : Nat) : Prop := L[p]? = some x ∧ (∀ y ∈ L, ki x ≤ ki y) ∧ ∀ j y, j < p → L[j]? = some y → ki x < ki y

theorem Fst.one {L : List Int} {x y : Int} {p q : Nat} (h : Fst L x p) (h' : Fst L y q) : x = y := by
  obtain ⟨h1, h2, h3⟩ := h
  obtain ⟨k1, k2, k3⟩ := h'
  have mx := List.mem_of_getElem? h1
  have my := List.mem_of_getElem? k1
  rcases Nat.lt_trichotomy p q with e | e | e
  · have := k3 p x e h1
    have := h2 y my
    omega
  · subst e
    rw [h1] at k1
    exact Option.some.inj k1
  · have := h3 q y e k1
    have := k2 x mx
    omega

theorem fom_fst (l : List Int) : ∀ m, ∃ p, Fst (m :: l) (fom m l) p := by
  induction l with
  | nil =>
    intro m
    refine ⟨0, rfl, ?_, fun j y h => absurd h (by omega)⟩
    intro y hy
    simp at hy
    subst hy
    exact Int.le_refl _
  | cons v l ih =>
    intro m
    obtain ⟨p, h1, h2, h3⟩ := ih (pick m v)
    have e : fom m (v :: l) = fom (pick m v) l := rfl
    rw [e]
    by_cases hv : ki v < ki m
    · have ep : pick m v = v := by unfold pick; rw [if_pos hv]
      rw [ep] at h1 h2 h3 ⊢
      have hx := h2 v (by simp)
      refine ⟨p + 1, by simpa using h1, ?_, ?_⟩
      · intro y hy
        rcases List.mem_cons.1 hy with rfl | hy
        · omega
        · exact h2 y hy
      · intro j y hj hy
        match j, hj, hy with
        | 0, _, hy => simp at hy; subst hy; omega
        | j + 1, hj, hy => exact h3 j y (by omega) (by simpa using hy)
    · have ep : pick m v = m := by unfold pick; rw [if_neg hv]
      rw [ep] at h1 h2 h3 ⊢
      have hm := h2 m (by simp)
      match p, h1, h3 with
      | 0, h1, h3 =>
        simp at h1
        refine ⟨0, by simpa using h1, ?_, fun j y h => absurd h (by omega)⟩
        intro y hy
        rcases List.mem_cons.1 hy with rfl | hy
        · exact hm
        · rcases List.mem_cons.1 hy with rfl | hy
          · omega
          · exact h2 y (by simp [hy])
      | p + 1, h1, h3 =>
        have hlt := h3 0 m (by omega) rfl
        refine ⟨p + 2, by simpa using h1, ?_, ?_⟩
        · intro y hy
          rcases List.mem_cons.1 hy with rfl | hy
          · exact hm
          · rcases List.mem_cons.1 hy with rfl | hy
            · omega
            · exact h2 y (by simp [hy])
        · intro j y hj hy
          match j, hj, hy with
          | 0, _, hy => simp at hy; subst hy; exact hlt
          | 1, _, hy => simp at hy; subst hy; omega
          | j + 2, hj, hy => exact h3 (j + 1) y (by omega) (by simpa using hy)

theorem most_fst (l : List Int) (h : l ≠ []) : ∃ p, Fst l (most l) p := by
  match l, h with
  | m :: l, _ => exact fom_fst l m

theorem most_least (l : List Int) (h : l ≠ []) (y : Int) (hy : y ∈ l) : ki (most l) ≤ ki y := by
  obtain ⟨p, _, h2, _⟩ := most_fst l h
  exact h2 y hy

theorem most_in (l : List Int) (h : l ≠ []) : most l ∈ l := by
  obtain ⟨p, h1, _, _⟩ := most_fst l h
  exact List.mem_of_getElem? h1

theorem fom_u (l : List Int) : ∀ m, U32 m → (∀ z ∈ l, U32 z) → U32 (fom m l) := by
  induction l with
  | nil => intro m h _; exact h
  | cons v l ih =>
    intro m h hl
    refine ih (pick m v) ?_ (fun z hz => hl z (by simp [hz]))
    unfold pick
    split
    · exact hl v (by simp)
    · exact h

theorem most_u (l : List Int) (hl : ∀ z ∈ l, U32 z) : U32 (most l) := by
  match l, hl with
  | [], _ => unfold most U32; decide
  | m :: l, hl => exact fom_u l m (hl m (by simp)) (fun z hz => hl z (by simp [hz]))

theorem fom_take (m : Int) (l : List Int) (k : Nat) (hk : k < l.length) : fom m (l.take (k + 1)) = pick (fom m (l.take k)) (l.getD k 0) := by
  have e1 : l.take (k + 1) = l.take k ++ [l[k]] := by rw [List.take_add_one, List.getElem?_eq_getElem hk]; rfl
  have e2 : l.getD k 0 = l[k] := by simp [hk]
  rw [e1, e2, fom_app]
  rfl

/-- is there a number of the first k that forbids more? -/
def moreB (l : List Int) (x : Int) : Bool := l.any (fun y => decide (ki y < ki x))

theorem moreB_take (l : List Int) (x : Int) (k : Nat) (hk : k < l.length) : moreB (l.take (k + 1)) x = (moreB (l.take k) x || decide (ki (l.getD k 0) < ki x)) := by
  have e1 : l.take (k + 1) = l.take k ++ [l[k]] := by rw [List.take_add_one, List.getElem?_eq_getElem hk]; rfl
  have e2 : l.getD k 0 = l[k] := by simp [hk]
  rw [e1, e2]
  unfold moreB
  rw [List.any_append]
  simp

theorem moreB_false {l : List Int} {x : Int} (h : moreB l x = false) : ∀ y ∈ l, ki x ≤ ki y := by
  intro y hy
  unfold moreB at h
  rw [List.any_eq_false] at h
  have := h y hy
  simp at this
  exact this

theorem moreB_true {l : List Int} {x : Int} (h : moreB l x = true) : ∃ y ∈ l, ki y < ki x := by
  unfold moreB at h
  rw [List.any_eq_true] at h
  obtain ⟨y, hy, h⟩ := h
  exact ⟨y, hy, by simpa using h⟩

/-- the first one that none forbids more than is what Most tells. -/
theorem most_at (l : List Int) (i : Nat) (hi : i < l.length) (hno : moreB l (l.getD i 0) = false) (hyes : ∀ j, j < i → moreB l (l.getD j 0) = true) : most l = l.getD i 0 := by
  have e2 : l.getD i 0 = l[i] := by simp [hi]
  have hne : l ≠ [] := by intro e; subst e; simp at hi
  obtain ⟨p, hp⟩ := most_fst l hne
  have hmin := moreB_false hno
  refine hp.one (q := i) ⟨by rw [e2]; exact List.getElem?_eq_getElem hi, hmin, ?_⟩
  intro j y hj hy
  have hjl : j < l.length := by omega
  have : l.getD j 0 = y := by simp [hy]
  obtain ⟨z, hz, hlt⟩ := moreB_true (hyes j hj)
  rw [this] at hlt
  have := hmin z hz
  omega

/-- among numbers that are not none, one forbids most. -/
theorem most_some (l : List Int) (h : l ≠ []) : ∃ i, i < l.length ∧ moreB l (l.getD i 0) = false := by
  obtain ⟨p, h1, h2, _⟩ := most_fst l h
  obtain ⟨hp, e⟩ := List.getElem?_eq_some_iff.1 h1
  refine ⟨p, hp, ?_⟩
  have e2 : l.getD p 0 = most l := by simp [hp, e]
  rw [e2]
  unfold moreB
  rw [List.any_eq_false]
  intro y hy
  have := h2 y hy
  simp
  omega

/-- is a number in a list? -/
def isIn (l : List Int) (c : Int) : Bool := l.contains c

theorem isIn_take (l : List Int) (c : Int) (k : Nat) (hk : k < l.length) : isIn (l.take (k + 1)) c = (isIn (l.take k) c || l.getD k 0 == c) := by
  have e1 : l.take (k + 1) = l.take k ++ [l[k]] := by rw [List.take_add_one, List.getElem?_eq_getElem hk]; rfl
  have e2 : l.getD k 0 = l[k] := by simp [hk]
  have e3 : (c == l[k]) = (l[k] == c) := Bool.beq_comm
  rw [e1, e2]
  unfold isIn
  rw [List.contains_eq_any_beq, List.contains_eq_any_beq, List.any_append, List.any_cons, List.any_nil, Bool.or_false, e3]

theorem isIn_mem {l : List Int} {c : Int} (h : c ∈ l) : isIn l c = true := by
  unfold isIn
  simpa using h

end Go.Proofs.YtcckipimfgmmdaaGreatDoor.A
