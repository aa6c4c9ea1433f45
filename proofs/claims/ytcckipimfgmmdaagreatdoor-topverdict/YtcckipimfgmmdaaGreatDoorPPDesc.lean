/-
  The machine of rules, piece by piece: an act, a sign, a condition.
-/
import Derived.Test.YtcckipimfgmmdaaGreatDoorPPMath
namespace Go.Proofs.YtcckipimfgmmdaaGreatDoor.P
open Go

theorem end_no {x : Tok} (h : x.k = 4) : isA x = false ∧ isG x = false ∧ isO x = false ∧ isN x = false ∧ (∀ t, isW x t = false) ∧ (∀ t, isS x t = false) ∧ (x.k == 1) = false := by
  refine ⟨?_, ?_, ?_, ?_, fun t => ?_, fun t => ?_, ?_⟩ <;> simp [isA, isG, isO, isN, isW, isS, h]

theorem step_end {s : St} {x : Tok} (h : x.k = 4) : step s x = .error 7 := by
  obtain ⟨h1, h2, h3, h4, h5, h6, h7⟩ := end_no h
  cases s using St.every <;> simp [step, h1, h2, h3, h4, h5, h6, h7]

/-- the machine, a token on. -/
theorem run_next {s : St} {x : Tok} {r : List Tok} (hd : done s = none) : run s (x :: r) = (match step s x with | .error c => .error (c, x.at') | .ok s' => run s' r) := by
  by_cases h4 : x.k = 4
  · rw [run_end h4, hd, step_end h4]
  · cases hs : step s x with
    | error c => rw [run_err h4 hs]
    | ok s' => rw [run_step h4 hs]

/-- an act. -/
def actD : List Tok → Except (Nat × Nat) (Ac × List Tok)
  | [] => .error (7, 0)
  | x :: r => if isA x then (if numK (kindOf x.t) then (match r with
      | [] => .error (7, 0)
      | y :: q => if isN y then (if 65535 < y.n then .error (6, y.at') else .ok (⟨kindOf x.t, y.n⟩, q)) else .error (7, y.at'))
    else .ok (⟨kindOf x.t, 0⟩, r)) else .error (7, x.at')

theorem run_act1 (ts : List Tok) : run .s1 ts = (match actD ts with | .error e => .error e | .ok (a, r) => run (.s3 a) r) := by
  cases ts with
  | nil => rfl
  | cons x r =>
    rw [run_next rfl]
    unfold actD
    simp only [step]
    by_cases h1 : isA x = true
    · rw [if_pos h1, if_pos h1]
      by_cases h2 : numK (kindOf x.t) = true
      · rw [if_pos h2, if_pos h2]
        cases r with
        | nil => rfl
        | cons y q =>
          simp only
          rw [run_next rfl]
          simp only [step]
          by_cases h3 : isN y = true
          · rw [if_pos h3, if_pos h3]
            by_cases h4 : 65535 < y.n
            · rw [if_pos h4, if_pos h4]
            · rw [if_neg h4, if_neg h4]
          · rw [if_neg h3, if_neg h3]
      · rw [if_neg h2, if_neg h2]
    · rw [if_neg h1, if_neg h1]

theorem run_act4 {d : Ac} {rs : List Rl} (hl : rs.length < 64) {x : Tok} (h4 : ¬ x.k = 4) (r : List Tok) : run (.s4 d rs) (x :: r) = (match actD (x :: r) with | .error e => .error e | .ok (a, q) => run (.s6 d rs a []) q) := by
  unfold actD
  simp only
  by_cases h1 : isA x = true
  · rw [if_pos h1]
    by_cases h2 : numK (kindOf x.t) = true
    · rw [if_pos h2, run_step h4 (s' := .s5 d rs (kindOf x.t)) (by simp only [step]; rw [if_pos h1, if_neg (by omega), if_pos h2])]
      cases r with
      | nil => rfl
      | cons y q =>
        simp only
        rw [run_next rfl]
        simp only [step]
        by_cases h3 : isN y = true
        · rw [if_pos h3, if_pos h3]
          by_cases h5 : 65535 < y.n
          · rw [if_pos h5, if_pos h5]
          · rw [if_neg h5, if_neg h5]
        · rw [if_neg h3, if_neg h3]
    · rw [if_neg h2, run_step h4 (s' := .s6 d rs ⟨kindOf x.t, 0⟩ []) (by simp only [step]; rw [if_pos h1, if_neg (by omega), if_neg h2])]
  · rw [if_neg h1, run_err h4 (c := 7) (by simp only [step]; rw [if_neg h1])]

/-- the 65th rule. -/
theorem run_full {d : Ac} {rs : List Rl} (hl : 64 ≤ rs.length) {x : Tok} (h4 : ¬ x.k = 4) (r : List Tok) : run (.s4 d rs) (x :: r) = (if isA x then .error (4, x.at') else .error (7, x.at')) := by
  by_cases h1 : isA x = true
  · rw [if_pos h1, run_err h4 (c := 4) (by simp only [step]; rw [if_pos h1, if_pos hl])]
  · rw [if_neg h1, run_err h4 (c := 7) (by simp only [step]; rw [if_neg h1])]

/-- a number; an op. -/
def numD : List Tok → Except (Nat × Nat) (Nat × List Tok)
  | [] => .error (7, 0)
  | x :: r => if isN x then .ok (x.n, r) else .error (7, x.at')
def opD : List Tok → Except (Nat × Nat) (Nat × List Tok)
  | [] => .error (7, 0)
  | x :: r => if isO x then .ok (opOf x.t, r) else .error (7, x.at')

/-- an op and a number, behind an argument and its mask. -/
def tailD (g m : Nat) (ts : List Tok) : Except (Nat × Nat) (Cd × List Tok) :=
  match opD ts with
  | .error e => .error e
  | .ok (o, r) => match numD r with
    | .error e => .error e
    | .ok (v, q) => .ok (⟨g, o, m, v⟩, q)

/-- a condition, behind so many. -/
def condD (n : Nat) : List Tok → Except (Nat × Nat) (Cd × List Tok)
  | [] => .error (7, 0)
  | x :: r => if isG x then (if 8 ≤ n then .error (4, x.at') else (match r with
      | [] => .error (7, 0)
      | y :: q => if isS y [38] then (match numD q with | .error e => .error e | .ok (m, q') => tailD (argOf x.t - 1) m q') else tailD (argOf x.t - 1) 18446744073709551615 (y :: q)))
    else .error (7, x.at')

theorem run_s12 (d : Ac) (rs : List Rl) (a : Ac) (ns : List (List UInt8)) (cs : List Cd) (g m o : Nat) (ts : List Tok) :
    run (.s12 d rs a ns cs g m o) ts = (match numD ts with | .error e => .error e | .ok (v, q) => run (.s13 d rs a ns (cs ++ [⟨g, o, m, v⟩])) q) := by
  cases ts with
  | nil => rfl
  | cons x r =>
    rw [run_next rfl]
    unfold numD
    simp only [step]
    by_cases h : isN x = true
    · rw [if_pos h, if_pos h]
    · rw [if_neg h, if_neg h]

theorem run_s11 (d : Ac) (rs : List Rl) (a : Ac) (ns : List (List UInt8)) (cs : List Cd) (g m : Nat) (ts : List Tok) :
    run (.s11 d rs a ns cs g m) ts = (match tailD g m ts with | .error e => .error e | .ok (c, q) => run (.s13 d rs a ns (cs ++ [c])) q) := by
  unfold tailD
  cases ts with
  | nil => rfl
  | cons x r =>
    rw [run_next rfl]
    unfold opD
    simp only [step]
    by_cases h : isO x = true
    · rw [if_pos h, if_pos h]
      simp only
      rw [run_s12]
      cases numD r with
      | error e => rfl
      | ok v => rfl
    · rw [if_neg h, if_neg h]

theorem run_s9 (d : Ac) (rs : List Rl) (a : Ac) (ns : List (List UInt8)) (cs : List Cd) (g : Nat) (y : Tok) (q : List Tok) (h : isS y [38] = false) :
    run (.s9 d rs a ns cs g) (y :: q) = (match tailD g 18446744073709551615 (y :: q) with | .error e => .error e | .ok (c, q) => run (.s13 d rs a ns (cs ++ [c])) q) := by
  rw [← run_s11, run_next rfl, run_next rfl]
  simp only [step]
  rw [if_neg (by rw [h]; decide)]

theorem run_cond (d : Ac) (rs : List Rl) (a : Ac) (ns : List (List UInt8)) (cs : List Cd) (ts : List Tok) :
    run (.s8 d rs a ns cs) ts = (match condD cs.length ts with | .error e => .error e | .ok (c, q) => run (.s13 d rs a ns (cs ++ [c])) q) := by
  cases ts with
  | nil => rfl
  | cons x r =>
    rw [run_next rfl]
    unfold condD
    simp only [step]
    by_cases h1 : isG x = true
    · rw [if_pos h1, if_pos h1]
      by_cases h2 : 8 ≤ cs.length
      · rw [if_pos h2, if_pos h2]
      · rw [if_neg h2, if_neg h2]
        cases r with
        | nil => rfl
        | cons y q =>
          simp only
          rcases Bool.eq_false_or_eq_true (isS y [38]) with h3 | h3
          · rw [if_pos h3, run_next rfl]
            simp only [step]
            rw [if_pos h3]
            simp only
            cases q with
            | nil => rfl
            | cons z q' =>
              rw [run_next rfl]
              unfold numD
              simp only [step]
              by_cases h4 : isN z = true
              · rw [if_pos h4, if_pos h4]
                simp only
                rw [run_s11]
              · rw [if_neg h4, if_neg h4]
          · rw [if_neg (by rw [h3]; decide), run_s9 _ _ _ _ _ _ _ _ h3]
    · rw [if_neg h1, if_neg h1]

end Go.Proofs.YtcckipimfgmmdaaGreatDoor.P
