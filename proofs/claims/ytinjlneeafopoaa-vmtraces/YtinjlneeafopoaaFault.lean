/-
  What is wrong with an instruction, and with a program, as plain numbers: what P5.1 and P5.3 say of them.
-/
import Derived.Test.YtinjlneeafopoaaRefKinds
namespace Go.Proofs.Ytinjlneeafopoaa

/-- the codes that take or fill a cell. -/
def cellL : List Int := [96, 97, 2, 3]
/-- the codes that shift by K. -/
def shiftL : List Int := [100, 116]

/-- how many instructions may be left out behind one. -/
def skipsL (x : In) : List Int :=
  if isIn endL x.c = true then [] else if x.c = 5 then [x.k] else if jumpsB x.c = false then [0] else if x.t = x.f then [x.t] else if x.t < x.f then [x.t, x.f] else [x.f, x.t]

/-- is one left of so many? -/
def insB (s : Int) (n : Nat) : Bool := decide (s < n)

/-- does it load what is not there? -/
def loadsB (c k : Int) : Bool := (c == 32 && (!decide (k % 4 = 0) || decide (64 ≤ k))) || (!(c == 32) && (isIn cellL c && decide (16 ≤ k)))
/-- does it reckon what can't be? -/
def reckB (c k : Int) : Bool := (c == 52 && k == 0) || (!(c == 52) && (isIn shiftL c && decide (31 < k)))
/-- does it jump out? -/
def outB (x : In) (n : Nat) : Bool := jumpsB x.c && (skipsL x).any (fun s => !insB s n)

/-- what is wrong with an instruction that has so many behind it; 0: nothing. -/
def fault (x : In) (n : Nat) : Int :=
  if knownB x.c = false then 11 else if loadsB x.c x.k = true then 12 else if reckB x.c x.k = true then 13 else if outB x n = true then 14 else if n = 0 ∧ isIn endL x.c = false then 15 else 0

/-- the first fault of a program, and its place. -/
def ff : List In → Int → Int × Int
  | [], _ => (0, -1)
  | x :: r, p => if fault x r.length = 0 then ff r (p + 1) else (fault x r.length, p)

/-- what Check tells. -/
def chk (l : List In) : Int × Int := if l.length = 0 then (10, 0) else if 4096 < l.length then (4, 4096) else ff l 0

theorem fault_range (x : In) (n : Nat) : 0 ≤ fault x n ∧ fault x n ≤ 15 ∧ fault x n ≠ 10 := by
  unfold fault
  repeat' split
  all_goals decide

theorem ff_drop_succ (l : List In) (k : Nat) (hk : k < l.length) (p : Int) : ff (l.drop k) p = if fault l[k] (l.length - 1 - k) = 0 then ff (l.drop (k + 1)) (p + 1) else (fault l[k] (l.length - 1 - k), p) := by
  rw [List.drop_eq_getElem_cons hk]
  show (if fault l[k] (l.drop (k + 1)).length = 0 then ff (l.drop (k + 1)) (p + 1) else (fault l[k] (l.drop (k + 1)).length, p)) = _
  rw [show (l.drop (k + 1)).length = l.length - 1 - k from by rw [List.length_drop]; omega]

theorem ff_bd (l : List In) (p : Int) : ((ff l p).1 = 0 ∧ (ff l p).2 = -1) ∨ (0 < (ff l p).1 ∧ (ff l p).1 ≤ 15 ∧ (ff l p).1 ≠ 10 ∧ p ≤ (ff l p).2 ∧ (ff l p).2 < p + l.length) := by
  induction l generalizing p with
  | nil => exact .inl ⟨rfl, rfl⟩
  | cons x r ih =>
    have hf := fault_range x r.length
    unfold ff
    by_cases h : fault x r.length = 0
    · rw [if_pos h]
      rcases ih (p + 1) with h1 | h1
      · exact .inl h1
      · right
        rw [List.length_cons]
        omega
    · rw [if_neg h, List.length_cons]
      right
      show 0 < fault x r.length ∧ fault x r.length ≤ 15 ∧ fault x r.length ≠ 10 ∧ p ≤ p ∧ p < p + _
      omega

theorem ff_shift (l : List In) (p q : Int) : ff l (p + q) = if (ff l p).1 = 0 then (0, -1) else ((ff l p).1, (ff l p).2 + q) := by
  induction l generalizing p with
  | nil => rfl
  | cons x r ih =>
    unfold ff
    by_cases h : fault x r.length = 0
    · rw [if_pos h, if_pos h, show p + q + 1 = p + 1 + q from by omega, ih (p + 1)]
    · rw [if_neg h, if_neg h]
      show _ = if fault x r.length = 0 then _ else _
      rw [if_neg h]

theorem ff_drop (l : List In) (p : Int) (k : Nat) (q : Int) (h : (ff l p).1 = 0) : ff (l.drop k) q = (0, -1) := by
  induction l generalizing p k with
  | nil => rw [List.drop_nil]; rfl
  | cons x r ih =>
    unfold ff at h
    by_cases hx : fault x r.length = 0
    · rw [if_pos hx] at h
      cases k with
      | zero =>
        show (if fault x r.length = 0 then ff r (q + 1) else _) = _
        rw [if_pos hx]
        have := ff_shift r (p + 1) (q + 1 - (p + 1))
        rw [show p + 1 + (q + 1 - (p + 1)) = q + 1 from by omega, if_pos h] at this
        exact this
      | succ k => exact ih (p + 1) k h
    · rw [if_neg hx] at h
      exact absurd h hx

theorem ff_set (l : List In) (p : Int) (i : Nat) (x : In) (hi : i < l.length) (hx : fault x (l.length - 1 - i) ≠ 0) :
    ff (l.set i x) p = if (ff l p).1 ≠ 0 ∧ (ff l p).2 < p + i then ff l p else (fault x (l.length - 1 - i), p + i) := by
  induction l generalizing p i with
  | nil => cases hi
  | cons y r ih =>
    cases i with
    | zero =>
      have hb := ff_bd (y :: r) p
      rw [if_neg (by omega)]
      show (if fault x r.length = 0 then _ else (fault x r.length, p)) = _
      rw [List.length_cons, show r.length + 1 - 1 - 0 = r.length from by omega] at *
      rw [if_neg hx]
      show _ = (_, p + ((0 : Nat) : Int))
      rw [show p + ((0 : Nat) : Int) = p from by omega]
    | succ i =>
      rw [List.length_cons] at hi hx
      have hn : (y :: r).length - 1 - (i + 1) = r.length - 1 - i := by rw [List.length_cons]; omega
      rw [show r.length + 1 - 1 - (i + 1) = r.length - 1 - i from by omega] at hx
      show (if fault y (r.set i x).length = 0 then ff (r.set i x) (p + 1) else (fault y (r.set i x).length, p)) = _
      rw [hn, List.length_set, ih (p + 1) i (by omega) hx]
      show _ = if (if fault y r.length = 0 then ff r (p + 1) else (fault y r.length, p)).1 ≠ 0 ∧ (if fault y r.length = 0 then ff r (p + 1) else (fault y r.length, p)).2 < p + ((i + 1 : Nat) : Int) then (if fault y r.length = 0 then ff r (p + 1) else (fault y r.length, p)) else (_, p + ((i + 1 : Nat) : Int))
      have e : p + ((i + 1 : Nat) : Int) = p + 1 + (i : Int) := by omega
      rw [e]
      by_cases hy : fault y r.length = 0
      · rw [if_pos hy, if_pos hy]
      · rw [if_neg hy, if_neg hy, if_pos]
        exact ⟨hy, by show p < _; omega⟩

theorem fault_imm (k : Int) (n : Nat) : fault ⟨0, 0, 0, k⟩ n = if n = 0 then 15 else 0 := by
  have e1 : knownB 0 = true := rfl
  have e2 : loadsB 0 k = false := rfl
  have e3 : reckB 0 k = false := rfl
  have ej : jumpsB 0 = false := by rw [show (0 : Int) = ((0 : Nat) : Int) from rfl]; unfold jumpsB; rw [kOf_nat 0 (by decide)]; decide +kernel
  have e4 : outB ⟨0, 0, 0, k⟩ n = false := by unfold outB; rw [ej]; rfl
  have e5 : isIn endL 0 = false := rfl
  unfold fault
  rw [e1, e2, e3, e4, e5]
  by_cases h : n = 0
  · simp [h]
  · simp [h]

theorem fault_bad (n : Nat) : fault ⟨255, 0, 0, 0⟩ n = 11 := by
  have e1 : knownB 255 = false := by rw [show (255 : Int) = ((255 : Nat) : Int) from rfl]; unfold knownB; rw [kOf_nat 255 (by decide)]; decide +kernel
  unfold fault
  rw [e1]
  rfl

theorem fault_far (n : Nat) (hn : n ≤ 4096) : fault ⟨5, 0, 0, 4294967295⟩ n = 14 := by
  have e1 : knownB 5 = true := rfl
  have e2 : loadsB 5 4294967295 = false := rfl
  have e3 : reckB 5 4294967295 = false := rfl
  have e4 : outB ⟨5, 0, 0, 4294967295⟩ n = true := by
    show ([(4294967295 : Int)].any fun s => !insB s n) = true
    rw [List.any_cons, List.any_nil, Bool.or_false]
    unfold insB
    simp
    omega
  unfold fault
  rw [e1, e2, e3, e4]
  rfl

end Go.Proofs.Ytinjlneeafopoaa
