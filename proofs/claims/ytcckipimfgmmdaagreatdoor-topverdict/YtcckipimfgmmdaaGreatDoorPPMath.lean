/-
  Rules out of tokens: a plain machine, token by token; what it tells of texts one behind the other, cut, and with blanks between.
-/
import Derived.Test.YtcckipimfgmmdaaGreatDoorPLies
namespace Go.Proofs.YtcckipimfgmmdaaGreatDoor.P
open Go

/-- an act: its kind and number; a condition; a rule. -/
structure Ac where
  k : Nat
  a : Nat
structure Cd where
  arg : Nat
  op : Nat
  mask : Nat
  val : Nat
structure Rl where
  act : Ac
  names : List (List UInt8)
  conds : List Cd

def wKill : List UInt8 := [107, 105, 108, 108]
def wThread : List UInt8 := [116, 104, 114, 101, 97, 100]
def wTrap : List UInt8 := [116, 114, 97, 112]
def wErrno : List UInt8 := [101, 114, 114, 110, 111]
def wNotify : List UInt8 := [110, 111, 116, 105, 102, 121]
def wTrace : List UInt8 := [116, 114, 97, 99, 101]
def wLog : List UInt8 := [108, 111, 103]
def wAllow : List UInt8 := [97, 108, 108, 111, 119]
def wDefault : List UInt8 := [100, 101, 102, 97, 117, 108, 116]
def wWhen : List UInt8 := [119, 104, 101, 110]
def wAnd : List UInt8 := [97, 110, 100]

/-- the kind of an act by its word; 0: none. -/
def kindOf (t : List UInt8) : Nat :=
  if t = wKill then 1 else if t = wThread then 2 else if t = wTrap then 3 else if t = wErrno then 4 else if t = wNotify then 5 else if t = wTrace then 6 else if t = wLog then 7 else if t = wAllow then 8 else 0

/-- the op of a sign; 0: none. -/
def opOf (t : List UInt8) : Nat :=
  if t = [61, 61] then 1 else if t = [33, 61] then 2 else if t = [60] then 3 else if t = [60, 61] then 4 else if t = [62] then 5 else if t = [62, 61] then 6 else 0

/-- the argument of a word, from 1 on; 0: none. -/
def argOf (t : List UInt8) : Nat :=
  if t = [97, 114, 103, 48] then 1 else if t = [97, 114, 103, 49] then 2 else if t = [97, 114, 103, 50] then 3 else if t = [97, 114, 103, 51] then 4 else if t = [97, 114, 103, 52] then 5 else if t = [97, 114, 103, 53] then 6 else 0

/-- has an act of a kind a number? -/
def numK (k : Nat) : Bool := k == 3 || k == 4 || k == 6

/-- where it is. -/
abbrev St := Sum (Unit) (Sum (Unit) (Sum (Nat) (Sum (Ac) (Sum (Ac × List Rl) (Sum (Ac × List Rl × Nat) (Sum (Ac × List Rl × Ac × List (List UInt8)) (Sum (Ac × List Rl × Ac × List (List UInt8)) (Sum (Ac × List Rl × Ac × List (List UInt8) × List Cd) (Sum (Ac × List Rl × Ac × List (List UInt8) × List Cd × Nat) (Sum (Ac × List Rl × Ac × List (List UInt8) × List Cd × Nat) (Sum (Ac × List Rl × Ac × List (List UInt8) × List Cd × Nat × Nat) (Sum (Ac × List Rl × Ac × List (List UInt8) × List Cd × Nat × Nat × Nat) ((Ac × List Rl × Ac × List (List UInt8) × List Cd))))))))))))))
abbrev St.s0 : St := .inl ()
abbrev St.s1 : St := .inr (.inl ())
abbrev St.s2 (k : Nat) : St := .inr (.inr (.inl k))
abbrev St.s3 (d : Ac) : St := .inr (.inr (.inr (.inl d)))
abbrev St.s4 (d : Ac) (rs : List Rl) : St := .inr (.inr (.inr (.inr (.inl (d, rs)))))
abbrev St.s5 (d : Ac) (rs : List Rl) (k : Nat) : St := .inr (.inr (.inr (.inr (.inr (.inl (d, rs, k))))))
abbrev St.s6 (d : Ac) (rs : List Rl) (a : Ac) (ns : List (List UInt8)) : St := .inr (.inr (.inr (.inr (.inr (.inr (.inl (d, rs, a, ns)))))))
abbrev St.s7 (d : Ac) (rs : List Rl) (a : Ac) (ns : List (List UInt8)) : St := .inr (.inr (.inr (.inr (.inr (.inr (.inr (.inl (d, rs, a, ns))))))))
abbrev St.s8 (d : Ac) (rs : List Rl) (a : Ac) (ns : List (List UInt8)) (cs : List Cd) : St := .inr (.inr (.inr (.inr (.inr (.inr (.inr (.inr (.inl (d, rs, a, ns, cs)))))))))
abbrev St.s9 (d : Ac) (rs : List Rl) (a : Ac) (ns : List (List UInt8)) (cs : List Cd) (g : Nat) : St := .inr (.inr (.inr (.inr (.inr (.inr (.inr (.inr (.inr (.inl (d, rs, a, ns, cs, g))))))))))
abbrev St.s10 (d : Ac) (rs : List Rl) (a : Ac) (ns : List (List UInt8)) (cs : List Cd) (g : Nat) : St := .inr (.inr (.inr (.inr (.inr (.inr (.inr (.inr (.inr (.inr (.inl (d, rs, a, ns, cs, g)))))))))))
abbrev St.s11 (d : Ac) (rs : List Rl) (a : Ac) (ns : List (List UInt8)) (cs : List Cd) (g : Nat) (m : Nat) : St := .inr (.inr (.inr (.inr (.inr (.inr (.inr (.inr (.inr (.inr (.inr (.inl (d, rs, a, ns, cs, g, m))))))))))))
abbrev St.s12 (d : Ac) (rs : List Rl) (a : Ac) (ns : List (List UInt8)) (cs : List Cd) (g : Nat) (m : Nat) (o : Nat) : St := .inr (.inr (.inr (.inr (.inr (.inr (.inr (.inr (.inr (.inr (.inr (.inr (.inl (d, rs, a, ns, cs, g, m, o)))))))))))))
abbrev St.s13 (d : Ac) (rs : List Rl) (a : Ac) (ns : List (List UInt8)) (cs : List Cd) : St := .inr (.inr (.inr (.inr (.inr (.inr (.inr (.inr (.inr (.inr (.inr (.inr (.inr (d, rs, a, ns, cs)))))))))))))
theorem St.every {motive : St → Prop} (s0 : motive (St.s0)) (s1 : motive (St.s1)) (s2 : ∀ k : Nat, motive (St.s2 k)) (s3 : ∀ d : Ac, motive (St.s3 d)) (s4 : ∀ d : Ac, ∀ rs : List Rl, motive (St.s4 d rs)) (s5 : ∀ d : Ac, ∀ rs : List Rl, ∀ k : Nat, motive (St.s5 d rs k)) (s6 : ∀ d : Ac, ∀ rs : List Rl, ∀ a : Ac, ∀ ns : List (List UInt8), motive (St.s6 d rs a ns)) (s7 : ∀ d : Ac, ∀ rs : List Rl, ∀ a : Ac, ∀ ns : List (List UInt8), motive (St.s7 d rs a ns)) (s8 : ∀ d : Ac, ∀ rs : List Rl, ∀ a : Ac, ∀ ns : List (List UInt8), ∀ cs : List Cd, motive (St.s8 d rs a ns cs)) (s9 : ∀ d : Ac, ∀ rs : List Rl, ∀ a : Ac, ∀ ns : List (List UInt8), ∀ cs : List Cd, ∀ g : Nat, motive (St.s9 d rs a ns cs g)) (s10 : ∀ d : Ac, ∀ rs : List Rl, ∀ a : Ac, ∀ ns : List (List UInt8), ∀ cs : List Cd, ∀ g : Nat, motive (St.s10 d rs a ns cs g)) (s11 : ∀ d : Ac, ∀ rs : List Rl, ∀ a : Ac, ∀ ns : List (List UInt8), ∀ cs : List Cd, ∀ g : Nat, ∀ m : Nat, motive (St.s11 d rs a ns cs g m)) (s12 : ∀ d : Ac, ∀ rs : List Rl, ∀ a : Ac, ∀ ns : List (List UInt8), ∀ cs : List Cd, ∀ g : Nat, ∀ m : Nat, ∀ o : Nat, motive (St.s12 d rs a ns cs g m o)) (s13 : ∀ d : Ac, ∀ rs : List Rl, ∀ a : Ac, ∀ ns : List (List UInt8), ∀ cs : List Cd, motive (St.s13 d rs a ns cs)) : ∀ s : St, motive s
  | .inl () => s0
  | .inr (.inl ()) => s1
  | .inr (.inr (.inl k)) => s2 k
  | .inr (.inr (.inr (.inl d))) => s3 d
  | .inr (.inr (.inr (.inr (.inl (d, rs))))) => s4 d rs
  | .inr (.inr (.inr (.inr (.inr (.inl (d, rs, k)))))) => s5 d rs k
  | .inr (.inr (.inr (.inr (.inr (.inr (.inl (d, rs, a, ns))))))) => s6 d rs a ns
  | .inr (.inr (.inr (.inr (.inr (.inr (.inr (.inl (d, rs, a, ns)))))))) => s7 d rs a ns
  | .inr (.inr (.inr (.inr (.inr (.inr (.inr (.inr (.inl (d, rs, a, ns, cs))))))))) => s8 d rs a ns cs
  | .inr (.inr (.inr (.inr (.inr (.inr (.inr (.inr (.inr (.inl (d, rs, a, ns, cs, g)))))))))) => s9 d rs a ns cs g
  | .inr (.inr (.inr (.inr (.inr (.inr (.inr (.inr (.inr (.inr (.inl (d, rs, a, ns, cs, g))))))))))) => s10 d rs a ns cs g
  | .inr (.inr (.inr (.inr (.inr (.inr (.inr (.inr (.inr (.inr (.inr (.inl (d, rs, a, ns, cs, g, m)))))))))))) => s11 d rs a ns cs g m
  | .inr (.inr (.inr (.inr (.inr (.inr (.inr (.inr (.inr (.inr (.inr (.inr (.inl (d, rs, a, ns, cs, g, m, o))))))))))))) => s12 d rs a ns cs g m o
  | .inr (.inr (.inr (.inr (.inr (.inr (.inr (.inr (.inr (.inr (.inr (.inr (.inr (d, rs, a, ns, cs))))))))))))) => s13 d rs a ns cs

/-- is a token a word, a sign of a text? -/
def isW (x : Tok) (t : List UInt8) : Bool := x.k == 1 && x.t == t
def isS (x : Tok) (t : List UInt8) : Bool := x.k == 3 && x.t == t
def isA (x : Tok) : Bool := x.k == 1 && !(kindOf x.t == 0)
def isG (x : Tok) : Bool := x.k == 1 && !(argOf x.t == 0)
def isO (x : Tok) : Bool := x.k == 3 && !(opOf x.t == 0)
def isN (x : Tok) : Bool := x.k == 2

open St in
/-- one token on. -/
def step (s : St) (x : Tok) : Except Nat St :=
  match s with
  | .inl () => if isW x wDefault then .ok s1 else .error 7
  | .inr (.inl ()) => if isA x then (if numK (kindOf x.t) then .ok (s2 (kindOf x.t)) else .ok (s3 ⟨kindOf x.t, 0⟩)) else .error 7
  | .inr (.inr (.inl k)) => if isN x then (if 65535 < x.n then .error 6 else .ok (s3 ⟨k, x.n⟩)) else .error 7
  | .inr (.inr (.inr (.inl d))) => if isS x [59] then .ok (s4 d []) else .error 7
  | .inr (.inr (.inr (.inr (.inl (d, rs))))) => if isA x then (if 64 ≤ rs.length then .error 4 else if numK (kindOf x.t) then .ok (s5 d rs (kindOf x.t)) else .ok (s6 d rs ⟨kindOf x.t, 0⟩ [])) else .error 7
  | .inr (.inr (.inr (.inr (.inr (.inl (d, rs, k)))))) => if isN x then (if 65535 < x.n then .error 6 else .ok (s6 d rs ⟨k, x.n⟩ [])) else .error 7
  | .inr (.inr (.inr (.inr (.inr (.inr (.inl (d, rs, a, ns))))))) => if x.k == 1 then (if 16 ≤ ns.length then .error 4 else .ok (s7 d rs a (ns ++ [x.t]))) else .error 7
  | .inr (.inr (.inr (.inr (.inr (.inr (.inr (.inl (d, rs, a, ns)))))))) => if isS x [44] then .ok (s6 d rs a ns) else if isW x wWhen then .ok (s8 d rs a ns []) else if isS x [59] then .ok (s4 d (rs ++ [⟨a, ns, []⟩])) else .error 7
  | .inr (.inr (.inr (.inr (.inr (.inr (.inr (.inr (.inl (d, rs, a, ns, cs))))))))) => if isG x then (if 8 ≤ cs.length then .error 4 else .ok (s9 d rs a ns cs (argOf x.t - 1))) else .error 7
  | .inr (.inr (.inr (.inr (.inr (.inr (.inr (.inr (.inr (.inl (d, rs, a, ns, cs, g)))))))))) => if isS x [38] then .ok (s10 d rs a ns cs g) else if isO x then .ok (s12 d rs a ns cs g 18446744073709551615 (opOf x.t)) else .error 7
  | .inr (.inr (.inr (.inr (.inr (.inr (.inr (.inr (.inr (.inr (.inl (d, rs, a, ns, cs, g))))))))))) => if isN x then .ok (s11 d rs a ns cs g x.n) else .error 7
  | .inr (.inr (.inr (.inr (.inr (.inr (.inr (.inr (.inr (.inr (.inr (.inl (d, rs, a, ns, cs, g, m)))))))))))) => if isO x then .ok (s12 d rs a ns cs g m (opOf x.t)) else .error 7
  | .inr (.inr (.inr (.inr (.inr (.inr (.inr (.inr (.inr (.inr (.inr (.inr (.inl (d, rs, a, ns, cs, g, m, o))))))))))))) => if isN x then .ok (s13 d rs a ns (cs ++ [⟨g, o, m, x.n⟩])) else .error 7
  | .inr (.inr (.inr (.inr (.inr (.inr (.inr (.inr (.inr (.inr (.inr (.inr (.inr (d, rs, a, ns, cs))))))))))))) => if isW x wAnd then .ok (s8 d rs a ns cs) else if isS x [59] then .ok (s4 d (rs ++ [⟨a, ns, cs⟩])) else .error 7

/-- what it has read, if it may end here. -/
def done (s : St) : Option (Ac × List Rl) :=
  match s with
  | .inr (.inr (.inr (.inr (.inl (d, rs))))) => some (d, rs)
  | _ => none

/-- token by token, to the one of kind End. -/
def run (s : St) : List Tok → Except (Nat × Nat) (Ac × List Rl)
  | [] => .error (7, 0)
  | x :: r =>
    if x.k = 4 then (match done s with | some v => .ok v | none => .error (7, x.at'))
    else match step s x with
      | .error c => .error (c, x.at')
      | .ok s' => run s' r

/-- P10.1, P10.2. -/
def prs (l : List UInt8) : Except (Nat × Nat) (Ac × List Rl) :=
  match all l with
  | .error e => .error e
  | .ok ts => run .s0 ts

theorem run_end {s : St} {x : Tok} {r : List Tok} (h : x.k = 4) : run s (x :: r) = (match done s with | some v => .ok v | none => .error (7, x.at')) := by
  unfold run
  rw [if_pos h]
theorem run_step {s s' : St} {x : Tok} {r : List Tok} (h : ¬ x.k = 4) (hs : step s x = .ok s') : run s (x :: r) = run s' r := by
  conv => lhs; unfold run
  rw [if_neg h, hs]
theorem run_err {s : St} {x : Tok} {r : List Tok} {c : Nat} (h : ¬ x.k = 4) (hs : step s x = .error c) : run s (x :: r) = .error (c, x.at') := by
  unfold run
  rw [if_neg h, hs]

/-- a token's step hangs on its kind, text and worth alone. -/
theorem step_kv {s : St} {x y : Tok} (h : kv x = kv y) : step s x = step s y := by
  obtain ⟨xk, xa, xt, xn⟩ := x
  obtain ⟨yk, ya, yt, yn⟩ := y
  simp [kv] at h
  obtain ⟨rfl, rfl, rfl⟩ := h
  rfl

/-- tokens that are the same but for their places: the same rules, and the same wrong. -/
theorem run_kv : ∀ (ts us : List Tok) (s : St), ts.map kv = us.map kv → (∃ v, run s ts = .ok v ∧ run s us = .ok v) ∨ ∃ c p q, run s ts = .error (c, p) ∧ run s us = .error (c, q) := by
  intro ts
  induction ts with
  | nil =>
    intro us s h
    cases us with
    | nil => exact .inr ⟨7, 0, 0, rfl, rfl⟩
    | cons y u => simp at h
  | cons x t ih =>
    intro us s h
    cases us with
    | nil => simp at h
    | cons y u =>
      simp only [List.map_cons, List.cons.injEq] at h
      have hk : x.k = y.k := by have := congrArg Prod.fst h.1; exact this
      have hs := step_kv (s := s) h.1
      by_cases h4 : x.k = 4
      · rw [run_end h4, run_end (hk ▸ h4)]
        cases done s with
        | some v => exact .inl ⟨v, rfl, rfl⟩
        | none => exact .inr ⟨7, _, _, rfl, rfl⟩
      · have h4' : ¬ y.k = 4 := by rw [← hk]; exact h4
        cases hx : step s x with
        | error c => rw [run_err h4 hx, run_err h4' (hs ▸ hx)]; exact .inr ⟨c, _, _, rfl, rfl⟩
        | ok s' => rw [run_step h4 hx, run_step h4' (hs ▸ hx)]; exact ih u s' h.2

/-- the steps over tokens of which none is of kind End. -/
def runs (s : St) : List Tok → Except (Nat × Nat) St
  | [] => .ok s
  | x :: r => if x.k = 4 then .error (7, x.at') else match step s x with
    | .error c => .error (c, x.at')
    | .ok s' => runs s' r

theorem run_app {s s' : St} : ∀ (a b : List Tok), runs s a = .ok s' → run s (a ++ b) = run s' b := by
  intro a
  induction a generalizing s with
  | nil => intro b h; cases h; rfl
  | cons x a ih =>
    intro b h
    unfold runs at h
    split at h
    · cases h
    · next h4 =>
      split at h
      · cases h
      · next sx hs =>
        rw [List.cons_append, run_step h4 hs]
        exact ih b h

/-- a run that ends well. -/
theorem run_ok {s : St} {v : Ac × List Rl} {e : Tok} (he : e.k = 4) : ∀ (a : List Tok), (∀ x ∈ a, ¬ x.k = 4) → run s (a ++ [e]) = .ok v → runs s a = .ok (.s4 v.1 v.2) := by
  intro a
  induction a generalizing s with
  | nil =>
    intro _ h
    rw [List.nil_append, run_end he] at h
    cases s using St.every <;> simp [done] at h
    subst h
    rfl
  | cons x a ih =>
    intro hx h
    have h4 := hx x List.mem_cons_self
    cases hs : step s x with
    | error c => rw [List.cons_append, run_err h4 hs] at h; cases h
    | ok s' =>
      rw [List.cons_append, run_step h4 hs] at h
      have := ih (fun y hy => hx y (List.mem_cons_of_mem _ hy)) h
      unfold runs
      rw [if_neg h4, hs]
      exact this

end Go.Proofs.YtcckipimfgmmdaaGreatDoor.P
