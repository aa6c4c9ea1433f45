/-
  Where an instruction goes on, as plain numbers: the program's answer is the document's; and what P5.3 says of it.
-/
import Derived.Test.YtcckipimfgmmdaaGreatDoorVOut
namespace Go.Proofs.YtcckipimfgmmdaaGreatDoor.V

/-- the places to which the instruction at i may go on, of those that are left. -/
def goOn (i : Nat) (n : Nat) (l : List Int) : List Int := (l.filter (fun s => insB s n)).map (fun s => (i : Int) + 1 + s)

theorem goOn_snoc (i n : Nat) (l : List Int) (s : Int) : goOn i n (l ++ [s]) = goOn i n l ++ (if insB s n = true then [(i : Int) + 1 + s] else []) := by
  unfold goOn
  rw [List.filter_append, List.map_append]
  by_cases h : insB s n = true
  · rw [if_pos h]; simp [h]
  · rw [if_neg h]; simp [h]

theorem goOn_take (i n : Nat) (l : List Int) (k : Nat) (hk : k < l.length) : goOn i n (l.take (k + 1)) = goOn i n (l.take k) ++ (if insB (l.getD k 0) n = true then [(i : Int) + 1 + l.getD k 0] else []) := by
  have e1 : l.take (k + 1) = l.take k ++ [l[k]] := by rw [List.take_add_one, List.getElem?_eq_getElem hk]; rfl
  have e2 : l.getD k 0 = l[k] := by simp [hk]
  rw [e1, e2, goOn_snoc]

theorem goOn_len (i n : Nat) (l : List Int) : (goOn i n l).length ≤ l.length := by
  unfold goOn
  rw [List.length_map]
  exact List.length_filter_le _ _

/-- does the instruction lead so far on, by the document's own words? -/
def leads (x : In) (far : Int) : Bool :=
  if x.c = 5 then far == x.k else if isIn jumpL x.c = true then (far == x.t || far == x.f) else if isIn endL x.c = true then false else far == 0

/-- the document's list: of all that are left, up to a bound, those that are led to. -/
def led (x : In) (i : Nat) : Nat → List Int
  | 0 => []
  | m + 1 => led x i m ++ (if leads x m = true then [(i : Int) + 1 + m] else [])

theorem led_len (x : In) (i m : Nat) : (led x i m).length ≤ m := by
  induction m with
  | zero => exact Nat.le_refl _
  | succ m ih =>
    unfold led
    rw [List.length_append]
    split <;> simp <;> omega

theorem goOn_zero (i : Nat) (l : List Int) (h : ∀ s ∈ l, 0 ≤ s) : goOn i 0 l = [] := by
  unfold goOn
  rw [List.filter_eq_nil_iff.2]
  · rfl
  · intro s hs
    have := h s hs
    unfold insB
    simp
    omega

theorem one_led (i m : Nat) (a : Int) : goOn i (m + 1) [a] = goOn i m [a] ++ (if ((m : Int) == a) = true then [(i : Int) + 1 + m] else []) := by
  unfold goOn insB
  by_cases h1 : a < (m : Int)
  · have h3 : ¬ (m : Int) = a := by omega
    simp [h1, h3]
    omega
  · by_cases h3 : (m : Int) = a
    · subst h3
      simp
      omega
    · simp [h1, h3]
      omega

theorem two_led (i m : Nat) (a b : Int) (hab : a < b) : goOn i (m + 1) [a, b] = goOn i m [a, b] ++ (if ((m : Int) == a || (m : Int) == b) = true then [(i : Int) + 1 + m] else []) := by
  have c : ∀ n, goOn i n [a, b] = goOn i n [a] ++ goOn i n [b] := by
    intro n
    unfold goOn
    rw [show [a, b] = [a] ++ [b] from rfl, List.filter_append, List.map_append]
  rw [c, c, one_led, one_led]
  by_cases h1 : (m : Int) = a
  · subst h1
    have e : goOn i m [b] = [] := by
      unfold goOn insB
      have : ¬ b < (m : Int) := by omega
      simp [this]
    have h2 : ¬ (m : Int) = b := by omega
    simp [e, h2]
  · simp [h1]

theorem skips_led (x : In) (hx : x.ok) (i m : Nat) : goOn i (m + 1) (skipsL x) = goOn i m (skipsL x) ++ (if leads x m = true then [(i : Int) + 1 + m] else []) := by
  obtain ⟨-, k2, k3, -⟩ := known_same x.c hx.1.1 hx.1.2
  unfold skipsL leads
  rw [← k2]
  by_cases h5 : x.c = 5
  · have he : isIn endL x.c = false := by rw [h5]; rfl
    rw [he, if_pos h5, if_neg (by decide), if_pos h5]
    exact one_led i m x.k
  · rw [if_neg h5, if_neg h5]
    by_cases hj : jumpsB x.c = true
    · have he : isIn endL x.c = false := by rw [hj, Bool.true_and] at k3; exact k3
      rw [he, hj, if_neg (by decide), if_neg (by decide), if_pos rfl]
      by_cases htf : x.t = x.f
      · rw [if_pos htf, htf, Bool.or_self]
        exact one_led i m x.f
      · rw [if_neg htf]
        by_cases hl : x.t < x.f
        · rw [if_pos hl]; exact two_led i m _ _ hl
        · rw [if_neg hl, Bool.or_comm]; exact two_led i m _ _ (by omega)
    · rw [Bool.not_eq_true] at hj
      rw [hj, if_neg (show ¬ false = true by decide)]
      by_cases he : isIn endL x.c = true
      · rw [if_pos he, if_pos he]; rfl
      · rw [if_neg he, if_neg he, if_pos rfl]
        exact one_led i m 0

theorem led_same (x : In) (hx : x.ok) (i m : Nat) : led x i m = goOn i m (skipsL x) := by
  induction m with
  | zero => rw [goOn_zero i _ (fun s hs => ((skips_bd x hx).2 s hs).1)]; rfl
  | succ m ih => rw [skips_led x hx, ← ih]; rfl

/-- what P5.3 says of where an instruction goes on. -/
structure Ahead (i len : Nat) (ends : Bool) (l : List Int) : Prop where
  few : l.length ≤ 2
  none : decide (l.length = 0) = ends
  ahead : ∀ k, k < l.length → (i : Int) < l.getD k 0 ∧ l.getD k 0 < len
  rise : ∀ k, 0 < k → k < l.length → l.getD (k - 1) 0 < l.getD k 0

theorem ahead_nil (i len : Nat) : Ahead i len true [] :=
  ⟨by decide, rfl, fun k h => absurd h (Nat.not_lt_zero k), fun k _ h => absurd h (Nat.not_lt_zero k)⟩

theorem ahead_one (i len : Nat) (a : Int) (h1 : (i : Int) < a) (h2 : a < len) : Ahead i len false [a] := by
  refine ⟨by simp, rfl, fun k h => ?_, fun k h0 h => ?_⟩
  · match k, h with
    | 0, _ => exact ⟨h1, h2⟩
  · simp at h; omega

theorem ahead_two (i len : Nat) (a b : Int) (h1 : (i : Int) < a) (hab : a < b) (h2 : b < len) : Ahead i len false [a, b] := by
  refine ⟨by simp, rfl, fun k h => ?_, fun k h0 h => ?_⟩
  · match k, h with
    | 0, _ => exact ⟨h1, by show a < (len : Int); omega⟩
    | 1, _ => exact ⟨by show (i : Int) < b; omega, h2⟩
  · match k, h0, h with
    | 1, _, _ => exact hab

theorem goOn_all (i n : Nat) (l : List Int) (h : anyOut l n = false) : goOn i n l = l.map (fun s => (i : Int) + 1 + s) := by
  unfold goOn
  rw [List.filter_eq_self.2]
  intro s hs
  unfold anyOut at h
  rw [List.any_eq_false] at h
  simpa using h s hs

theorem goOn_ahead (x : In) (hx : x.ok) (i len : Nat) (hi : i < len) (hf : fault x (len - 1 - i) = 0) : Ahead i len (isIn endL x.c) (goOn i (len - 1 - i) (skipsL x)) := by
  obtain ⟨-, -, k3, -⟩ := known_same x.c hx.1.1 hx.1.2
  have hout : outB x (len - 1 - i) = false := by
    unfold fault at hf
    repeat' split at hf
    all_goals first | (exact absurd hf (by decide)) | (simpa using ‹¬ outB x _ = true›)
  have hend : ¬ (len - 1 - i = 0 ∧ isIn endL x.c = false) := by
    unfold fault at hf
    repeat' split at hf
    all_goals first | (exact absurd hf (by decide)) | assumption
  obtain ⟨⟨c1, c2⟩, ⟨t1, t2⟩, ⟨f1, f2⟩, ⟨m1, m2⟩⟩ := hx
  by_cases hj : jumpsB x.c = true
  · have he : isIn endL x.c = false := by rw [hj, Bool.true_and] at k3; exact k3
    have ha : anyOut (skipsL x) (len - 1 - i) = false := by unfold outB at hout; rw [hj, Bool.true_and] at hout; exact hout
    rw [goOn_all i _ _ ha, he]
    unfold anyOut at ha
    rw [List.any_eq_false] at ha
    have hb : ∀ s ∈ skipsL x, s < ((len - 1 - i : Nat) : Int) := by
      intro s hs
      have := ha s hs
      unfold insB at this
      simpa using this
    clear ha
    unfold skipsL at hb ⊢
    rw [he, hj, if_neg (show ¬ false = true by decide), if_neg (show ¬ true = false by decide)] at *
    by_cases h5 : x.c = 5
    · rw [if_pos h5] at *
      have := hb x.k (by simp)
      exact ahead_one _ _ ((i : Int) + 1 + x.k) (by omega) (by omega)
    · rw [if_neg h5] at *
      by_cases htf : x.t = x.f
      · rw [if_pos htf] at *
        have := hb x.t (by simp)
        exact ahead_one _ _ ((i : Int) + 1 + x.t) (by omega) (by omega)
      · rw [if_neg htf] at *
        by_cases hl : x.t < x.f
        · rw [if_pos hl] at *
          have := hb x.f (by simp)
          exact ahead_two _ _ ((i : Int) + 1 + x.t) ((i : Int) + 1 + x.f) (by omega) (by omega) (by omega)
        · rw [if_neg hl] at *
          have := hb x.t (by simp)
          exact ahead_two _ _ ((i : Int) + 1 + x.f) ((i : Int) + 1 + x.t) (by omega) (by omega) (by omega)
  · rw [Bool.not_eq_true] at hj
    unfold skipsL
    have h5 : ¬ x.c = 5 := by intro e; rw [e] at hj; exact absurd hj (by unfold jumpsB; simp)
    by_cases he : isIn endL x.c = true
    · rw [he, if_pos rfl]
      exact ahead_nil _ _
    · rw [Bool.not_eq_true] at he
      have hn : ¬ len - 1 - i = 0 := fun e => hend ⟨e, he⟩
      rw [he, hj, if_neg (by decide), if_neg h5, if_pos rfl, goOn_all]
      · exact ahead_one _ _ ((i : Int) + 1 + 0) (by omega) (by omega)
      · unfold anyOut insB
        simp
        omega

end Go.Proofs.YtcckipimfgmmdaaGreatDoor.V
