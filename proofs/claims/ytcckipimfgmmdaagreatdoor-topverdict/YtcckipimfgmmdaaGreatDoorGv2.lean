/-
  Texts of this seat, joined: PPMath, PPBound, PPTop, PPDesc, PPTok.
-/
import Derived.Test.YtcckipimfgmmdaaGreatDoorGv1

namespace Go.Proofs.YtcckipimfgmmdaaGreatDoor.P
open Go

structure Ac where
  k : Nat
  a : Nat
structure Cd where
  arg : Nat
  op : Nat
  mask : Nat
  val : Nat
structure Rl where
  act : Ac
  names : List (List UInt8)
  conds : List Cd

def wKill : List UInt8 := [107, 105, 108, 108]
def wThread : List UInt8 := [116, 104, 114, 101, 97, 100]
def wTrap : List UInt8 := [116, 114, 97, 112]
def wErrno : List UInt8 := [101, 114, 114, 110, 111]
def wNotify : List UInt8 := [110, 111, 116, 105, 102, 121]
def wTrace : List UInt8 := [116, 114, 97, 99, 101]
def wLog : List UInt8 := [108, 111, 103]
def wAllow : List UInt8 := [97, 108, 108, 111, 119]
def wDefault : List UInt8 := [100, 101, 102, 97, 117, 108, 116]
def wWhen : List UInt8 := [119, 104, 101, 110]
def wAnd : List UInt8 := [97, 110, 100]

def kindOf (t : List UInt8) : Nat :=
  if t = wKill then 1 else if t = wThread then 2 else if t = wTrap then 3 else if t = wErrno then 4 else if t = wNotify then 5 else if t = wTrace then 6 else if t = wLog then 7 else if t = wAllow then 8 else 0

def opOf (t : List UInt8) : Nat :=
  if t = [61, 61] then 1 else if t = [33, 61] then 2 else if t = [60] then 3 else if t = [60, 61] then 4 else if t = [62] then 5 else if t = [62, 61] then 6 else 0

def argOf (t : List UInt8) : Nat :=
  if t = [97, 114, 103, 48] then 1 else if t = [97, 114, 103, 49] then 2 else if t = [97, 114, 103, 50] then 3 else if t = [97, 114, 103, 51] then 4 else if t = [97, 114, 103, 52] then 5 else if t = [97, 114, 103, 53] then 6 else 0

def numK (k : Nat) : Bool := k == 3 || k == 4 || k == 6

abbrev St := Sum (Unit) (Sum (Unit) (Sum (Nat) (Sum (Ac) (Sum (Ac × List Rl) (Sum (Ac × List Rl × Nat) (Sum (Ac × List Rl × Ac × List (List UInt8)) (Sum (Ac × List Rl × Ac × List (List UInt8)) (Sum (Ac × List Rl × Ac × List (List UInt8) × List Cd) (Sum (Ac × List Rl × Ac × List (List UInt8) × List Cd × Nat) (Sum (Ac × List Rl × Ac × List (List UInt8) × List Cd × Nat) (Sum (Ac × List Rl × Ac × List (List UInt8) × List Cd × Nat × Nat) (Sum (Ac × List Rl × Ac × List (List UInt8) × List Cd × Nat × Nat × Nat) ((Ac × List Rl × Ac × List (List UInt8) × List Cd))))))))))))))
abbrev St.s0 : St := .inl ()
abbrev St.s1 : St := .inr (.inl ())
abbrev St.s2 (k : Nat) : St := .inr (.inr (.inl k))
abbrev St.s3 (d : Ac) : St := .inr (.inr (.inr (.inl d)))
abbrev St.s4 (d : Ac) (rs : List Rl) : St := .inr (.inr (.inr (.inr (.inl (d, rs)))))
abbrev St.s5 (d : Ac) (rs : List Rl) (k : Nat) : St := .inr (.inr (.inr (.inr (.inr (.inl (d, rs, k))))))
abbrev St.s6 (d : Ac) (rs : List Rl) (a : Ac) (ns : List (List UInt8)) : St := .inr (.inr (.inr (.inr (.inr (.inr (.inl (d, rs, a, ns)))))))
abbrev St.s7 (d : Ac) (rs : List Rl) (a : Ac) (ns : List (List UInt8)) : St := .inr (.inr (.inr (.inr (.inr (.inr (.inr (.inl (d, rs, a, ns))))))))
abbrev St.s8 (d : Ac) (rs : List Rl) (a : Ac) (ns : List (List UInt8)) (cs : List Cd) : St := .inr (.inr (.inr (.inr (.inr (.inr (.inr (.inr (.inl (d, rs, a, ns, cs)))))))))
abbrev St.s9 (d : Ac) (rs : List Rl) (a : Ac) (ns : List (List UInt8)) (cs : List Cd) (g : Nat) : St := .inr (.inr (.inr (.inr (.inr (.inr (.inr (.inr (.inr (.inl (d, rs, a, ns, cs, g))))))))))
abbrev St.s10 (d : Ac) (rs : List Rl) (a : Ac) (ns : List (List UInt8)) (cs : List Cd) (g : Nat) : St := .inr (.inr (.inr (.inr (.inr (.inr (.inr (.inr (.inr (.inr (.inl (d, rs, a, ns, cs, g)))))))))))
abbrev St.s11 (d : Ac) (rs : List Rl) (a : Ac) (ns : List (List UInt8)) (cs : List Cd) (g : Nat) (m : Nat) : St := .inr (.inr (.inr (.inr (.inr (.inr (.inr (.inr (.inr (.inr (.inr (.inl (d, rs, a, ns, cs, g, m))))))))))))
abbrev St.s12 (d : Ac) (rs : List Rl) (a : Ac) (ns : List (List UInt8)) (cs : List Cd) (g : Nat) (m : Nat) (o : Nat) : St := .inr (.inr (.inr (.inr (.inr (.inr (.inr (.inr (.inr (.inr (.inr (.inr (.inl (d, rs, a, ns, cs, g, m, o)))))))))))))
abbrev St.s13 (d : Ac) (rs : List Rl) (a : Ac) (ns : List (List UInt8)) (cs : List Cd) : St := .inr (.inr (.inr (.inr (.inr (.inr (.inr (.inr (.inr (.inr (.inr (.inr (.inr (d, rs, a, ns, cs)))))))))))))
theorem St.every {motive : St → Prop} (s0 : motive (St.s0)) (s1 : motive (St.s1)) (s2 : ∀ k : Nat, motive (St.s2 k)) (s3 : ∀ d : Ac, motive (St.s3 d)) (s4 : ∀ d : Ac, ∀ rs : List Rl, motive (St.s4 d rs)) (s5 : ∀ d : Ac, ∀ rs : List Rl, ∀ k : Nat, motive (St.s5 d rs k)) (s6 : ∀ d : Ac, ∀ rs : List Rl, ∀ a : Ac, ∀ ns : List (List UInt8), motive (St.s6 d rs a ns)) (s7 : ∀ d : Ac, ∀ rs : List Rl, ∀ a : Ac, ∀ ns : List (List UInt8), motive (St.s7 d rs a ns)) (s8 : ∀ d : Ac, ∀ rs : List Rl, ∀ a : Ac, ∀ ns : List (List UInt8), ∀ cs : List Cd, motive (St.s8 d rs a ns cs)) (s9 : ∀ d : Ac, ∀ rs : List Rl, ∀ a : Ac, ∀ ns : List (List UInt8), ∀ cs : List Cd, ∀ g : Nat, motive (St.s9 d rs a ns cs g)) (s10 : ∀ d : Ac, ∀ rs : List Rl, ∀ a : Ac, ∀ ns : List (List UInt8), ∀ cs : List Cd, ∀ g : Nat, motive (St.s10 d rs a ns cs g)) (s11 : ∀ d : Ac, ∀ rs : List Rl, ∀ a : Ac, ∀ ns : List (List UInt8), ∀ cs : List Cd, ∀ g : Nat, ∀ m : Nat, motive (St.s11 d rs a ns cs g m)) (s12 : ∀ d : Ac, ∀ rs : List Rl, ∀ a : Ac, ∀ ns : List (List UInt8), ∀ cs : List Cd, ∀ g : Nat, ∀ m : Nat, ∀ o : Nat, motive (St.s12 d rs a ns cs g m o)) (s13 : ∀ d : Ac, ∀ rs : List Rl, ∀ a : Ac, ∀ ns : List (List UInt8), ∀ cs : List Cd, motive (St.s13 d rs a ns cs)) : ∀ s : St, motive s
  | .inl () => s0
  | .inr (.inl ()) => s1
  | .inr (.inr (.inl k)) => s2 k
  | .inr (.inr (.inr (.inl d))) => s3 d
  | .inr (.inr (.inr (.inr (.inl (d, rs))))) => s4 d rs
  | .inr (.inr (.inr (.inr (.inr (.inl (d, rs, k)))))) => s5 d rs k
  | .inr (.inr (.inr (.inr (.inr (.inr (.inl (d, rs, a, ns))))))) => s6 d rs a ns
  | .inr (.inr (.inr (.inr (.inr (.inr (.inr (.inl (d, rs, a, ns)))))))) => s7 d rs a ns
  | .inr (.inr (.inr (.inr (.inr (.inr (.inr (.inr (.inl (d, rs, a, ns, cs))))))))) => s8 d rs a ns cs
  | .inr (.inr (.inr (.inr (.inr (.inr (.inr (.inr (.inr (.inl (d, rs, a, ns, cs, g)))))))))) => s9 d rs a ns cs g
  | .inr (.inr (.inr (.inr (.inr (.inr (.inr (.inr (.inr (.inr (.inl (d, rs, a, ns, cs, g))))))))))) => s10 d rs a ns cs g
  | .inr (.inr (.inr (.inr (.inr (.inr (.inr (.inr (.inr (.inr (.inr (.inl (d, rs, a, ns, cs, g, m)))))))))))) => s11 d rs a ns cs g m
  | .inr (.inr (.inr (.inr (.inr (.inr (.inr (.inr (.inr (.inr (.inr (.inr (.inl (d, rs, a, ns, cs, g, m, o))))))))))))) => s12 d rs a ns cs g m o
  | .inr (.inr (.inr (.inr (.inr (.inr (.inr (.inr (.inr (.inr (.inr (.inr (.inr (d, rs, a, ns, cs))))))))))))) => s13 d rs a ns cs

def isW (x : Tok) (t : List UInt8) : Bool := x.k == 1 && x.t == t
def isS (x : Tok) (t : List UInt8) : Bool := x.k == 3 && x.t == t
def isA (x : Tok) : Bool := x.k == 1 && !(kindOf x.t == 0)
def isG (x : Tok) : Bool := x.k == 1 && !(argOf x.t == 0)
def isO (x : Tok) : Bool := x.k == 3 && !(opOf x.t == 0)
def isN (x : Tok) : Bool := x.k == 2

open St in
def step (s : St) (x : Tok) : Except Nat St :=
  match s with
  | .inl () => if isW x wDefault then .ok s1 else .error 7
  | .inr (.inl ()) => if isA x then (if numK (kindOf x.t) then .ok (s2 (kindOf x.t)) else .ok (s3 ⟨kindOf x.t, 0⟩)) else .error 7
  | .inr (.inr (.inl k)) => if isN x then (if 65535 < x.n then .error 6 else .ok (s3 ⟨k, x.n⟩)) else .error 7
  | .inr (.inr (.inr (.inl d))) => if isS x [59] then .ok (s4 d []) else .error 7
  | .inr (.inr (.inr (.inr (.inl (d, rs))))) => if isA x then (if 64 ≤ rs.length then .error 4 else if numK (kindOf x.t) then .ok (s5 d rs (kindOf x.t)) else .ok (s6 d rs ⟨kindOf x.t, 0⟩ [])) else .error 7
  | .inr (.inr (.inr (.inr (.inr (.inl (d, rs, k)))))) => if isN x then (if 65535 < x.n then .error 6 else .ok (s6 d rs ⟨k, x.n⟩ [])) else .error 7
  | .inr (.inr (.inr (.inr (.inr (.inr (.inl (d, rs, a, ns))))))) => if x.k == 1 then (if 16 ≤ ns.length then .error 4 else .ok (s7 d rs a (ns ++ [x.t]))) else .error 7
  | .inr (.inr (.inr (.inr (.inr (.inr (.inr (.inl (d, rs, a, ns)))))))) => if isS x [44] then .ok (s6 d rs a ns) else if isW x wWhen then .ok (s8 d rs a ns []) else if isS x [59] then .ok (s4 d (rs ++ [⟨a, ns, []⟩])) else .error 7
  | .inr (.inr (.inr (.inr (.inr (.inr (.inr (.inr (.inl (d, rs, a, ns, cs))))))))) => if isG x then (if 8 ≤ cs.length then .error 4 else .ok (s9 d rs a ns cs (argOf x.t - 1))) else .error 7
  | .inr (.inr (.inr (.inr (.inr (.inr (.inr (.inr (.inr (.inl (d, rs, a, ns, cs, g)))))))))) => if isS x [38] then .ok (s10 d rs a ns cs g) else if isO x then .ok (s12 d rs a ns cs g 18446744073709551615 (opOf x.t)) else .error 7
  | .inr (.inr (.inr (.inr (.inr (.inr (.inr (.inr (.inr (.inr (.inl (d, rs, a, ns, cs, g))))))))))) => if isN x then .ok (s11 d rs a ns cs g x.n) else .error 7
  | .inr (.inr (.inr (.inr (.inr (.inr (.inr (.inr (.inr (.inr (.inr (.inl (d, rs, a, ns, cs, g, m)))))))))))) => if isO x then .ok (s12 d rs a ns cs g m (opOf x.t)) else .error 7
  | .inr (.inr (.inr (.inr (.inr (.inr (.inr (.inr (.inr (.inr (.inr (.inr (.inl (d, rs, a, ns, cs, g, m, o))))))))))))) => if isN x then .ok (s13 d rs a ns (cs ++ [⟨g, o, m, x.n⟩])) else .error 7
  | .inr (.inr (.inr (.inr (.inr (.inr (.inr (.inr (.inr (.inr (.inr (.inr (.inr (d, rs, a, ns, cs))))))))))))) => if isW x wAnd then .ok (s8 d rs a ns cs) else if isS x [59] then .ok (s4 d (rs ++ [⟨a, ns, cs⟩])) else .error 7

def done (s : St) : Option (Ac × List Rl) :=
  match s with
  | .inr (.inr (.inr (.inr (.inl (d, rs))))) => some (d, rs)
  | _ => none

def run (s : St) : List Tok → Except (Nat × Nat) (Ac × List Rl)
  | [] => .error (7, 0)
  | x :: r =>
    if x.k = 4 then (match done s with | some v => .ok v | none => .error (7, x.at'))
    else match step s x with
      | .error c => .error (c, x.at')
      | .ok s' => run s' r

def prs (l : List UInt8) : Except (Nat × Nat) (Ac × List Rl) :=
  match all l with
  | .error e => .error e
  | .ok ts => run .s0 ts

theorem run_end {s : St} {x : Tok} {r : List Tok} (h : x.k = 4) : run s (x :: r) = (match done s with | some v => .ok v | none => .error (7, x.at')) := by
  unfold run
  rw [if_pos h]
theorem run_step {s s' : St} {x : Tok} {r : List Tok} (h : ¬ x.k = 4) (hs : step s x = .ok s') : run s (x :: r) = run s' r := by
  conv => lhs; unfold run
  rw [if_neg h, hs]
theorem run_err {s : St} {x : Tok} {r : List Tok} {c : Nat} (h : ¬ x.k = 4) (hs : step s x = .error c) : run s (x :: r) = .error (c, x.at') := by
  unfold run
  rw [if_neg h, hs]

end Go.Proofs.YtcckipimfgmmdaaGreatDoor.P

namespace Go.Proofs.YtcckipimfgmmdaaGreatDoor.P
open Go

structure OkA (a : Ac) : Prop where
  lo : 1 ≤ a.k
  hi : a.k ≤ 8
  arg : a.a ≤ 65535
structure OkC (c : Cd) : Prop where
  arg : c.arg ≤ 5
  lo : 1 ≤ c.op
  hi : c.op ≤ 6
structure OkR (W : List UInt8 → Prop) (r : Rl) : Prop where
  act : OkA r.act
  n1 : 1 ≤ r.names.length
  n16 : r.names.length ≤ 16
  names : ∀ n ∈ r.names, W n
  c8 : r.conds.length ≤ 8
  conds : ∀ c ∈ r.conds, OkC c

theorem kind_le (t : List UInt8) : kindOf t ≤ 8 := by
  unfold kindOf
  repeat' split
  all_goals omega
theorem op_le (t : List UInt8) : opOf t ≤ 6 := by
  unfold opOf
  repeat' split
  all_goals omega
theorem arg_le (t : List UInt8) : argOf t ≤ 6 := by
  unfold argOf
  repeat' split
  all_goals omega

def OkL (W : List UInt8 → Prop) (rs : List Rl) : Prop := rs.length ≤ 64 ∧ ∀ r ∈ rs, OkR W r

def Inv (W : List UInt8 → Prop) : St → Prop
  | .inl () => True
  | .inr (.inl ()) => True
  | .inr (.inr (.inl k)) => 1 ≤ k ∧ k ≤ 8
  | .inr (.inr (.inr (.inl d))) => OkA d
  | .inr (.inr (.inr (.inr (.inl (d, rs))))) => OkA d ∧ OkL W rs
  | .inr (.inr (.inr (.inr (.inr (.inl (d, rs, k)))))) => OkA d ∧ OkL W rs ∧ rs.length < 64 ∧ 1 ≤ k ∧ k ≤ 8
  | .inr (.inr (.inr (.inr (.inr (.inr (.inl (d, rs, a, ns))))))) => OkA d ∧ OkL W rs ∧ rs.length < 64 ∧ OkA a ∧ ns.length ≤ 16 ∧ ∀ n ∈ ns, W n
  | .inr (.inr (.inr (.inr (.inr (.inr (.inr (.inl (d, rs, a, ns)))))))) => OkA d ∧ OkL W rs ∧ rs.length < 64 ∧ OkA a ∧ 1 ≤ ns.length ∧ ns.length ≤ 16 ∧ ∀ n ∈ ns, W n
  | .inr (.inr (.inr (.inr (.inr (.inr (.inr (.inr (.inl (d, rs, a, ns, cs))))))))) => OkA d ∧ OkL W rs ∧ rs.length < 64 ∧ OkA a ∧ (1 ≤ ns.length ∧ ns.length ≤ 16 ∧ ∀ n ∈ ns, W n) ∧ cs.length ≤ 8 ∧ ∀ c ∈ cs, OkC c
  | .inr (.inr (.inr (.inr (.inr (.inr (.inr (.inr (.inr (.inl (d, rs, a, ns, cs, g)))))))))) => OkA d ∧ OkL W rs ∧ rs.length < 64 ∧ OkA a ∧ (1 ≤ ns.length ∧ ns.length ≤ 16 ∧ ∀ n ∈ ns, W n) ∧ cs.length < 8 ∧ (∀ c ∈ cs, OkC c) ∧ g ≤ 5
  | .inr (.inr (.inr (.inr (.inr (.inr (.inr (.inr (.inr (.inr (.inl (d, rs, a, ns, cs, g))))))))))) => OkA d ∧ OkL W rs ∧ rs.length < 64 ∧ OkA a ∧ (1 ≤ ns.length ∧ ns.length ≤ 16 ∧ ∀ n ∈ ns, W n) ∧ cs.length < 8 ∧ (∀ c ∈ cs, OkC c) ∧ g ≤ 5
  | .inr (.inr (.inr (.inr (.inr (.inr (.inr (.inr (.inr (.inr (.inr (.inl (d, rs, a, ns, cs, g, _)))))))))))) => OkA d ∧ OkL W rs ∧ rs.length < 64 ∧ OkA a ∧ (1 ≤ ns.length ∧ ns.length ≤ 16 ∧ ∀ n ∈ ns, W n) ∧ cs.length < 8 ∧ (∀ c ∈ cs, OkC c) ∧ g ≤ 5
  | .inr (.inr (.inr (.inr (.inr (.inr (.inr (.inr (.inr (.inr (.inr (.inr (.inl (d, rs, a, ns, cs, g, _, o))))))))))))) => OkA d ∧ OkL W rs ∧ rs.length < 64 ∧ OkA a ∧ (1 ≤ ns.length ∧ ns.length ≤ 16 ∧ ∀ n ∈ ns, W n) ∧ cs.length < 8 ∧ (∀ c ∈ cs, OkC c) ∧ g ≤ 5 ∧ 1 ≤ o ∧ o ≤ 6
  | .inr (.inr (.inr (.inr (.inr (.inr (.inr (.inr (.inr (.inr (.inr (.inr (.inr (d, rs, a, ns, cs))))))))))))) => OkA d ∧ OkL W rs ∧ rs.length < 64 ∧ OkA a ∧ (1 ≤ ns.length ∧ ns.length ≤ 16 ∧ ∀ n ∈ ns, W n) ∧ cs.length ≤ 8 ∧ ∀ c ∈ cs, OkC c

theorem OkL.snoc {W : List UInt8 → Prop} {rs : List Rl} (h : OkL W rs) (hl : rs.length < 64) {r : Rl} (hr : OkR W r) : OkL W (rs ++ [r]) := by
  refine ⟨by simp; omega, fun x hx => ?_⟩
  rcases List.mem_append.1 hx with hx | hx
  · exact h.2 x hx
  · simp at hx
    subst hx
    exact hr

theorem isA_at {x : Tok} (h : isA x = true) : 1 ≤ kindOf x.t := by
  simp [isA] at h
  omega
theorem isO_at {x : Tok} (h : isO x = true) : 1 ≤ opOf x.t := by
  simp [isO] at h
  omega

theorem step_inv {W : List UInt8 → Prop} {S S' : St} {x : Tok} (h : Inv W S) (hx : x.k = 1 → W x.t) (hs : step S x = .ok S') : Inv W S' := by
  cases S using St.every <;> simp only [step] at hs
  case s0 => split at hs <;> cases hs; trivial
  case s1 =>
    split at hs
    · next h1 =>
      have := isA_at h1
      have := kind_le x.t
      split at hs <;> cases hs
      · exact ⟨by omega, by omega⟩
      · exact ⟨by assumption, by assumption, by simp⟩
    · cases hs
  case s2 k =>
    split at hs
    · split at hs
      · cases hs
      · next h2 => cases hs; exact ⟨h.1, h.2, by simpa using h2⟩
    · cases hs
  case s3 d =>
    split at hs
    · cases hs; exact ⟨h, by simp, by simp⟩
    · cases hs
  case s4 d rs =>
    split at hs
    · next h1 =>
      have h8 := isA_at h1
      have h9 := kind_le x.t
      split at hs
      · cases hs
      · next h2 =>
        split at hs <;> cases hs
        · exact ⟨h.1, h.2, by omega, h8, h9⟩
        · exact ⟨h.1, h.2, by omega, ⟨h8, h9, by simp⟩, by simp, by simp⟩
    · cases hs
  case s5 d rs k =>
    split at hs
    · split at hs
      · cases hs
      · next h2 => cases hs; exact ⟨h.1, h.2.1, h.2.2.1, ⟨h.2.2.2.1, h.2.2.2.2, by simpa using h2⟩, by simp, by simp⟩
    · cases hs
  case s6 d rs a ns =>
    split at hs
    · next h1 =>
      split at hs
      · cases hs
      · next h2 =>
        cases hs
        refine ⟨h.1, h.2.1, h.2.2.1, h.2.2.2.1, by simp, by simp; omega, fun n hn => ?_⟩
        rcases List.mem_append.1 hn with hn | hn
        · exact h.2.2.2.2.2 n hn
        · simp at hn
          subst hn
          exact hx (by simpa using h1)
    · cases hs
  case s7 d rs a ns =>
    split at hs
    · cases hs; exact ⟨h.1, h.2.1, h.2.2.1, h.2.2.2.1, h.2.2.2.2.2.1, h.2.2.2.2.2.2⟩
    · split at hs
      · cases hs; exact ⟨h.1, h.2.1, h.2.2.1, h.2.2.2.1, h.2.2.2.2, by simp, by simp⟩
      · split at hs
        · cases hs; exact ⟨h.1, h.2.1.snoc h.2.2.1 ⟨h.2.2.2.1, h.2.2.2.2.1, h.2.2.2.2.2.1, h.2.2.2.2.2.2, by simp, by simp⟩⟩
        · cases hs
  case s8 d rs a ns cs =>
    split at hs
    · split at hs
      · cases hs
      · next h2 => cases hs; exact ⟨h.1, h.2.1, h.2.2.1, h.2.2.2.1, h.2.2.2.2.1, by omega, h.2.2.2.2.2.2, by have := arg_le x.t; omega⟩
    · cases hs
  case s9 d rs a ns cs g =>
    split at hs
    · cases hs; exact h
    · split at hs
      · next h2 => cases hs; exact ⟨h.1, h.2.1, h.2.2.1, h.2.2.2.1, h.2.2.2.2.1, h.2.2.2.2.2.1, h.2.2.2.2.2.2.1, h.2.2.2.2.2.2.2, isO_at h2, op_le _⟩
      · cases hs
  case s10 d rs a ns cs g =>
    split at hs
    · cases hs; exact h
    · cases hs
  case s11 d rs a ns cs g m =>
    split at hs
    · next h2 => cases hs; exact ⟨h.1, h.2.1, h.2.2.1, h.2.2.2.1, h.2.2.2.2.1, h.2.2.2.2.2.1, h.2.2.2.2.2.2.1, h.2.2.2.2.2.2.2, isO_at h2, op_le _⟩
    · cases hs
  case s12 d rs a ns cs g m o =>
    split at hs
    · cases hs
      refine ⟨h.1, h.2.1, h.2.2.1, h.2.2.2.1, h.2.2.2.2.1, by have := h.2.2.2.2.2.1; simp; omega, fun c hc => ?_⟩
      rcases List.mem_append.1 hc with hc | hc
      · exact h.2.2.2.2.2.2.1 c hc
      · simp at hc
        subst hc
        exact ⟨h.2.2.2.2.2.2.2.1, h.2.2.2.2.2.2.2.2.1, h.2.2.2.2.2.2.2.2.2⟩
    · cases hs
  case s13 d rs a ns cs =>
    split at hs
    · cases hs; exact h
    · split at hs
      · cases hs; exact ⟨h.1, h.2.1.snoc h.2.2.1 ⟨h.2.2.2.1, h.2.2.2.2.1.1, h.2.2.2.2.1.2.1, h.2.2.2.2.1.2.2, h.2.2.2.2.2.1, h.2.2.2.2.2.2⟩⟩
      · cases hs

theorem run_inv {W : List UInt8 → Prop} : ∀ (ts : List Tok) (S : St) (v : Ac × List Rl), Inv W S → (∀ x ∈ ts, x.k = 1 → W x.t) → run S ts = .ok v → OkA v.1 ∧ OkL W v.2 := by
  intro ts
  induction ts with
  | nil => intro S v _ _ h; cases h
  | cons x ts ih =>
    intro S v hi hx h
    by_cases h4 : x.k = 4
    · rw [run_end h4] at h
      cases S using St.every <;> simp [done] at h
      subst h
      exact hi
    · cases hs : step S x with
      | error c => rw [run_err h4 hs] at h; cases h
      | ok S' =>
        rw [run_step h4 hs] at h
        exact ih S' v (step_inv hi (hx x List.mem_cons_self) hs) (fun y hy => hx y (List.mem_cons_of_mem _ hy)) h

theorem step_code {S : St} {x : Tok} {c : Nat} (h : step S x = .error c) : c = 4 ∨ c = 6 ∨ c = 7 := by
  cases S using St.every <;> simp only [step] at h
  all_goals repeat' split at h
  all_goals first | (cases h; done) | (injection h with h; omega)

theorem run_place : ∀ (ts : List Tok) (S : St) (c p : Nat), (∃ x ∈ ts, x.k = 4) → run S ts = .error (c, p) → (c = 4 ∨ c = 6 ∨ c = 7) ∧ ∃ x ∈ ts, p = x.at' := by
  intro ts
  induction ts with
  | nil => intro S c p h; obtain ⟨x, hx, _⟩ := h; cases hx
  | cons x ts ih =>
    intro S c p he h
    by_cases h4 : x.k = 4
    · rw [run_end h4] at h
      cases hd : done S with
      | some v => rw [hd] at h; cases h
      | none =>
        rw [hd] at h
        cases h
        exact ⟨.inr (.inr rfl), x, List.mem_cons_self, rfl⟩
    · cases hs : step S x with
      | error c' =>
        rw [run_err h4 hs] at h
        cases h
        exact ⟨step_code hs, x, List.mem_cons_self, rfl⟩
      | ok S' =>
        rw [run_step h4 hs] at h
        obtain ⟨y, hy, hy4⟩ := he
        have hy' : y ∈ ts := by
          rcases List.mem_cons.1 hy with rfl | hy
          · exact absurd hy4 h4
          · exact hy
        obtain ⟨h1, z, hz, h2⟩ := ih S' c p ⟨y, hy', hy4⟩ h
        exact ⟨h1, z, List.mem_cons_of_mem _ hz, h2⟩

end Go.Proofs.YtcckipimfgmmdaaGreatDoor.P

namespace Go.Proofs.YtcckipimfgmmdaaGreatDoor.P
open Go

theorem ch_init {l : List UInt8} {last : Nat} {ts : List Tok} (h : Ch l last ts) : ∃ A, ts = A ++ [⟨4, l.length, [], 0⟩] ∧ (∀ x ∈ A, Good l x) ∧ last ≤ l.length := by
  induction h using Ch.ind with
  | fin h => exact ⟨[], rfl, by simp, h⟩
  | @tok last x y r h hx hr ih =>
    obtain ⟨A, h1, h2, h3⟩ := ih
    refine ⟨x :: A, by rw [h1]; rfl, fun z hz => ?_, by have := hx.le; omega⟩
    rcases List.mem_cons.1 hz with rfl | hz
    · exact hx
    · exact h2 z hz

def Wd (t : List UInt8) : Prop := ∃ c r, t = c :: r ∧ loN c.toNat = true ∧ ∀ d ∈ t, ofW d = true

theorem good_word {l : List UInt8} {x : Tok} (h : Good l x) (hk : x.k = 1) : Wd x.t := by
  have ho := h.st.2 9 [] (by decide) (by decide)
  have hne := h.ne
  rw [hk] at ho
  match ht : x.t, hne with
  | c :: t', _ =>
    rw [ht] at ho
    refine ⟨c, t', rfl, ?_⟩
    rw [List.cons_append] at ho
    rcases Bool.eq_false_or_eq_true (loN c.toNat) with hl | hl
    · rw [one_lo' hl] at ho
      injection ho with ho
      have hw : (c :: (t' ++ [9])).takeWhile ofW = c :: t' := by
        have := congrArg (fun z => z.2.1) ho
        exact this
      refine ⟨hl, fun d hd => ?_⟩
      rw [← hw] at hd
      exact take_while_all ofW _ d hd
    · exfalso
      rcases Bool.eq_false_or_eq_true (dgN c.toNat) with hd | hd
      · rw [one_dg' hl hd] at ho
        unfold numR at ho
        split at ho <;> simp at ho
      · rw [one_sg' hl hd] at ho
        unfold sgR at ho
        split at ho <;> simp at ho

theorem prs_ok {l : List UInt8} {v : Ac × List Rl} (h : prs l = .ok v) : ∃ ts, all l = .ok ts ∧ run .s0 ts = .ok v := by
  unfold prs at h
  split at h
  · cases h
  · next ts ht => exact ⟨ts, ht, h⟩

theorem prs_bound {l : List UInt8} {v : Ac × List Rl} (h : prs l = .ok v) : OkA v.1 ∧ OkL Wd v.2 := by
  obtain ⟨ts, h1, h2⟩ := prs_ok h
  obtain ⟨A, hA, gA, _⟩ := ch_init (all_ch h1)
  refine run_inv ts .s0 v trivial (fun x hx hk => ?_) h2
  rw [hA] at hx
  rcases List.mem_append.1 hx with hx | hx
  · exact good_word (gA x hx) hk
  · simp at hx
    subst hx
    cases hk

theorem prs_place {l : List UInt8} {c p : Nat} (h : prs l = .error (c, p)) (hl : l.length ≤ 8192) : (c = 4 ∨ c = 5 ∨ c = 6 ∨ c = 7) ∧ p ≤ l.length := by
  unfold prs at h
  split at h
  · next e he =>
    cases h
    unfold all at he
    rw [if_neg (by omega)] at he
    have := go_err l l [] 0 c p rfl he
    omega
  · next ts ht =>
    have hc := all_ch ht
    obtain ⟨A, hA, gA, _⟩ := ch_init hc
    obtain ⟨h1, x, hx, rfl⟩ := run_place ts .s0 c p ⟨⟨4, l.length, [], 0⟩, by rw [hA]; simp, rfl⟩ h
    refine ⟨by omega, ?_⟩
    rw [hA] at hx
    rcases List.mem_append.1 hx with hx | hx
    · have := (gA x hx).le; omega
    · simp at hx; subst hx; exact Nat.le_refl _

end Go.Proofs.YtcckipimfgmmdaaGreatDoor.P

namespace Go.Proofs.YtcckipimfgmmdaaGreatDoor.P
open Go

theorem end_no {x : Tok} (h : x.k = 4) : isA x = false ∧ isG x = false ∧ isO x = false ∧ isN x = false ∧ (∀ t, isW x t = false) ∧ (∀ t, isS x t = false) ∧ (x.k == 1) = false := by
  refine ⟨?_, ?_, ?_, ?_, fun t => ?_, fun t => ?_, ?_⟩ <;> simp [isA, isG, isO, isN, isW, isS, h]

theorem step_end {s : St} {x : Tok} (h : x.k = 4) : step s x = .error 7 := by
  obtain ⟨h1, h2, h3, h4, h5, h6, h7⟩ := end_no h
  cases s using St.every <;> simp [step, h1, h2, h3, h4, h5, h6, h7]

theorem run_next {s : St} {x : Tok} {r : List Tok} (hd : done s = none) : run s (x :: r) = (match step s x with | .error c => .error (c, x.at') | .ok s' => run s' r) := by
  by_cases h4 : x.k = 4
  · rw [run_end h4, hd, step_end h4]
  · cases hs : step s x with
    | error c => rw [run_err h4 hs]
    | ok s' => rw [run_step h4 hs]

def actD : List Tok → Except (Nat × Nat) (Ac × List Tok)
  | [] => .error (7, 0)
  | x :: r => if isA x then (if numK (kindOf x.t) then (match r with
      | [] => .error (7, 0)
      | y :: q => if isN y then (if 65535 < y.n then .error (6, y.at') else .ok (⟨kindOf x.t, y.n⟩, q)) else .error (7, y.at'))
    else .ok (⟨kindOf x.t, 0⟩, r)) else .error (7, x.at')

theorem run_act1 (ts : List Tok) : run .s1 ts = (match actD ts with | .error e => .error e | .ok (a, r) => run (.s3 a) r) := by
  cases ts with
  | nil => rfl
  | cons x r =>
    rw [run_next rfl]
    unfold actD
    simp only [step]
    by_cases h1 : isA x = true
    · rw [if_pos h1, if_pos h1]
      by_cases h2 : numK (kindOf x.t) = true
      · rw [if_pos h2, if_pos h2]
        cases r with
        | nil => rfl
        | cons y q =>
          simp only
          rw [run_next rfl]
          simp only [step]
          by_cases h3 : isN y = true
          · rw [if_pos h3, if_pos h3]
            by_cases h4 : 65535 < y.n
            · rw [if_pos h4, if_pos h4]
            · rw [if_neg h4, if_neg h4]
          · rw [if_neg h3, if_neg h3]
      · rw [if_neg h2, if_neg h2]
    · rw [if_neg h1, if_neg h1]

theorem run_act4 {d : Ac} {rs : List Rl} (hl : rs.length < 64) {x : Tok} (h4 : ¬ x.k = 4) (r : List Tok) : run (.s4 d rs) (x :: r) = (match actD (x :: r) with | .error e => .error e | .ok (a, q) => run (.s6 d rs a []) q) := by
  unfold actD
  simp only
  by_cases h1 : isA x = true
  · rw [if_pos h1]
    by_cases h2 : numK (kindOf x.t) = true
    · rw [if_pos h2, run_step h4 (s' := .s5 d rs (kindOf x.t)) (by simp only [step]; rw [if_pos h1, if_neg (by omega), if_pos h2])]
      cases r with
      | nil => rfl
      | cons y q =>
        simp only
        rw [run_next rfl]
        simp only [step]
        by_cases h3 : isN y = true
        · rw [if_pos h3, if_pos h3]
          by_cases h5 : 65535 < y.n
          · rw [if_pos h5, if_pos h5]
          · rw [if_neg h5, if_neg h5]
        · rw [if_neg h3, if_neg h3]
    · rw [if_neg h2, run_step h4 (s' := .s6 d rs ⟨kindOf x.t, 0⟩ []) (by simp only [step]; rw [if_pos h1, if_neg (by omega), if_neg h2])]
  · rw [if_neg h1, run_err h4 (c := 7) (by simp only [step]; rw [if_neg h1])]

theorem run_full {d : Ac} {rs : List Rl} (hl : 64 ≤ rs.length) {x : Tok} (h4 : ¬ x.k = 4) (r : List Tok) : run (.s4 d rs) (x :: r) = (if isA x then .error (4, x.at') else .error (7, x.at')) := by
  by_cases h1 : isA x = true
  · rw [if_pos h1, run_err h4 (c := 4) (by simp only [step]; rw [if_pos h1, if_pos hl])]
  · rw [if_neg h1, run_err h4 (c := 7) (by simp only [step]; rw [if_neg h1])]

def numD : List Tok → Except (Nat × Nat) (Nat × List Tok)
  | [] => .error (7, 0)
  | x :: r => if isN x then .ok (x.n, r) else .error (7, x.at')
def opD : List Tok → Except (Nat × Nat) (Nat × List Tok)
  | [] => .error (7, 0)
  | x :: r => if isO x then .ok (opOf x.t, r) else .error (7, x.at')

def tailD (g m : Nat) (ts : List Tok) : Except (Nat × Nat) (Cd × List Tok) :=
  match opD ts with
  | .error e => .error e
  | .ok (o, r) => match numD r with
    | .error e => .error e
    | .ok (v, q) => .ok (⟨g, o, m, v⟩, q)

def condD (n : Nat) : List Tok → Except (Nat × Nat) (Cd × List Tok)
  | [] => .error (7, 0)
  | x :: r => if isG x then (if 8 ≤ n then .error (4, x.at') else (match r with
      | [] => .error (7, 0)
      | y :: q => if isS y [38] then (match numD q with | .error e => .error e | .ok (m, q') => tailD (argOf x.t - 1) m q') else tailD (argOf x.t - 1) 18446744073709551615 (y :: q)))
    else .error (7, x.at')

theorem run_s12 (d : Ac) (rs : List Rl) (a : Ac) (ns : List (List UInt8)) (cs : List Cd) (g m o : Nat) (ts : List Tok) :
    run (.s12 d rs a ns cs g m o) ts = (match numD ts with | .error e => .error e | .ok (v, q) => run (.s13 d rs a ns (cs ++ [⟨g, o, m, v⟩])) q) := by
  cases ts with
  | nil => rfl
  | cons x r =>
    rw [run_next rfl]
    unfold numD
    simp only [step]
    by_cases h : isN x = true
    · rw [if_pos h, if_pos h]
    · rw [if_neg h, if_neg h]

theorem run_s11 (d : Ac) (rs : List Rl) (a : Ac) (ns : List (List UInt8)) (cs : List Cd) (g m : Nat) (ts : List Tok) :
    run (.s11 d rs a ns cs g m) ts = (match tailD g m ts with | .error e => .error e | .ok (c, q) => run (.s13 d rs a ns (cs ++ [c])) q) := by
  unfold tailD
  cases ts with
  | nil => rfl
  | cons x r =>
    rw [run_next rfl]
    unfold opD
    simp only [step]
    by_cases h : isO x = true
    · rw [if_pos h, if_pos h]
      simp only
      rw [run_s12]
      cases numD r with
      | error e => rfl
      | ok v => rfl
    · rw [if_neg h, if_neg h]

theorem run_s9 (d : Ac) (rs : List Rl) (a : Ac) (ns : List (List UInt8)) (cs : List Cd) (g : Nat) (y : Tok) (q : List Tok) (h : isS y [38] = false) :
    run (.s9 d rs a ns cs g) (y :: q) = (match tailD g 18446744073709551615 (y :: q) with | .error e => .error e | .ok (c, q) => run (.s13 d rs a ns (cs ++ [c])) q) := by
  rw [← run_s11, run_next rfl, run_next rfl]
  simp only [step]
  rw [if_neg (by rw [h]; decide)]

theorem run_cond (d : Ac) (rs : List Rl) (a : Ac) (ns : List (List UInt8)) (cs : List Cd) (ts : List Tok) :
    run (.s8 d rs a ns cs) ts = (match condD cs.length ts with | .error e => .error e | .ok (c, q) => run (.s13 d rs a ns (cs ++ [c])) q) := by
  cases ts with
  | nil => rfl
  | cons x r =>
    rw [run_next rfl]
    unfold condD
    simp only [step]
    by_cases h1 : isG x = true
    · rw [if_pos h1, if_pos h1]
      by_cases h2 : 8 ≤ cs.length
      · rw [if_pos h2, if_pos h2]
      · rw [if_neg h2, if_neg h2]
        cases r with
        | nil => rfl
        | cons y q =>
          simp only
          rcases Bool.eq_false_or_eq_true (isS y [38]) with h3 | h3
          · rw [if_pos h3, run_next rfl]
            simp only [step]
            rw [if_pos h3]
            simp only
            cases q with
            | nil => rfl
            | cons z q' =>
              rw [run_next rfl]
              unfold numD
              simp only [step]
              by_cases h4 : isN z = true
              · rw [if_pos h4, if_pos h4]
                simp only
                rw [run_s11]
              · rw [if_neg h4, if_neg h4]
          · rw [if_neg (by rw [h3]; decide), run_s9 _ _ _ _ _ _ _ _ h3]
    · rw [if_neg h1, if_neg h1]

end Go.Proofs.YtcckipimfgmmdaaGreatDoor.P

namespace Go.Proofs.YtcckipimfgmmdaaGreatDoor.P
open Go

theorem parse_lt (b : Nat) : ∀ (l : List UInt8) (a n : Nat), a < 18446744073709551616 → parse b a l = some n → n < 18446744073709551616 := by
  intro l
  induction l with
  | nil => intro a n ha h; simp [parse] at h; omega
  | cons c r ih =>
    intro a n ha h
    unfold parse at h
    split at h
    · next hc => exact ih _ _ hc.2 h
    · cases h
theorem numV_lt {t : List UInt8} {n : Nat} (h : numV t = some n) : n < 18446744073709551616 := by
  unfold numV at h
  split at h
  · split at h
    · exact parse_lt 16 _ 0 n (by decide) h
    · cases h
  · split at h
    · split at h
      · cases h; decide
      · cases h
    · exact parse_lt 10 _ 0 n (by decide) h

structure Tk (x : Tok) : Prop where
  k : (x.k = 4 ∧ x.t = []) ∨ ∃ c r, x.t = c :: r ∧ x.k = (if loN c.toNat then 1 else if dgN c.toNat then 2 else 3)
  n : x.n < 18446744073709551616

theorem good_tk {l : List UInt8} {x : Tok} (h : Good l x) : Tk x := by
  have ho := h.st.2 9 [] (by decide) (by decide)
  have hne := h.ne
  match ht : x.t, hne with
  | c :: t', _ =>
    rw [ht, List.cons_append] at ho
    rcases Bool.eq_false_or_eq_true (loN c.toNat) with hl | hl
    · rw [one_lo' hl] at ho
      injection ho with ho
      have h1 := congrArg (fun z => z.1) ho
      have h2 := congrArg (fun z => z.2.2) ho
      simp only at h1 h2
      exact ⟨.inr ⟨c, t', ht, by rw [if_pos hl]; exact h1.symm⟩, by rw [← h2]; decide⟩
    · rcases Bool.eq_false_or_eq_true (dgN c.toNat) with hd | hd
      · rw [one_dg' hl hd] at ho
        unfold numR at ho
        split at ho
        · next n hn =>
          injection ho with ho
          have h1 := congrArg (fun z => z.1) ho
          have h2 := congrArg (fun z => z.2.2) ho
          simp only at h1 h2
          exact ⟨.inr ⟨c, t', ht, by rw [if_neg (by rw [hl]; decide), if_pos hd]; exact h1.symm⟩, by rw [← h2]; exact numV_lt hn⟩
        · cases ho
      · rw [one_sg' hl hd] at ho
        unfold sgR at ho
        split at ho
        · injection ho with ho
          have h1 := congrArg (fun z => z.1) ho
          have h2 := congrArg (fun z => z.2.2) ho
          simp only at h1 h2
          exact ⟨.inr ⟨c, t', ht, by rw [if_neg (by rw [hl]; decide), if_neg (by rw [hd]; decide)]; exact h1.symm⟩, by rw [← h2]; decide⟩
        · cases ho

theorem all_tk {l : List UInt8} {ts : List Tok} (h : all l = .ok ts) : ∀ x ∈ ts, Tk x := by
  intro x hx
  obtain ⟨A, hA, gA, _⟩ := ch_init (all_ch h)
  rw [hA] at hx
  rcases List.mem_append.1 hx with hx | hx
  · exact good_tk (gA x hx)
  · simp at hx
    subst hx
    exact ⟨.inl ⟨rfl, rfl⟩, by show (0 : Nat) < _; decide⟩

section
variable {x : Tok}
theorem Tk.lo (h : Tk x) {c : UInt8} {r : List UInt8} (ht : x.t = c :: r) (hc : loN c.toNat = true) : x.k = 1 := by
  rcases h.k with ⟨_, h0⟩ | ⟨c', r', h1, h2⟩
  · rw [h0] at ht; cases ht
  · rw [ht] at h1
    cases h1
    rw [h2, if_pos hc]
theorem Tk.sg (h : Tk x) {c : UInt8} {r : List UInt8} (ht : x.t = c :: r) (hc : loN c.toNat = false) (hd : dgN c.toNat = false) : x.k = 3 := by
  rcases h.k with ⟨_, h0⟩ | ⟨c', r', h1, h2⟩
  · rw [h0] at ht; cases ht
  · rw [ht] at h1
    cases h1
    rw [h2, if_neg (by rw [hc]; decide), if_neg (by rw [hd]; decide)]
theorem Tk.isW (h : Tk x) (c : UInt8) (r : List UInt8) (hc : loN c.toNat = true) : isW x (c :: r) = (x.t == c :: r) := by
  unfold Go.Proofs.YtcckipimfgmmdaaGreatDoor.P.isW
  rcases Bool.eq_false_or_eq_true (x.t == c :: r) with e | e
  · rw [e, h.lo (beq_iff_eq.1 e) hc]; rfl
  · rw [e, Bool.and_false]
theorem Tk.isS (h : Tk x) (c : UInt8) (r : List UInt8) (hc : loN c.toNat = false) (hd : dgN c.toNat = false) : isS x (c :: r) = (x.t == c :: r) := by
  unfold Go.Proofs.YtcckipimfgmmdaaGreatDoor.P.isS
  rcases Bool.eq_false_or_eq_true (x.t == c :: r) with e | e
  · rw [e, h.sg (beq_iff_eq.1 e) hc hd]; rfl
  · rw [e, Bool.and_false]

theorem kind_word {t : List UInt8} (h : ¬ kindOf t = 0) : ∃ c r, t = c :: r ∧ loN c.toNat = true := by
  unfold kindOf at h
  repeat' split at h
  all_goals first | (next e => exact ⟨_, _, e, by decide⟩) | exact absurd rfl h
theorem arg_word {t : List UInt8} (h : ¬ argOf t = 0) : ∃ c r, t = c :: r ∧ loN c.toNat = true := by
  unfold argOf at h
  repeat' split at h
  all_goals first | (next e => exact ⟨_, _, e, by decide⟩) | exact absurd rfl h
theorem op_sign {t : List UInt8} (h : ¬ opOf t = 0) : ∃ c r, t = c :: r ∧ loN c.toNat = false ∧ dgN c.toNat = false := by
  unfold opOf at h
  repeat' split at h
  all_goals first | (next e => exact ⟨_, _, e, by decide, by decide⟩) | exact absurd rfl h

theorem Tk.isA (h : Tk x) : isA x = !(kindOf x.t == 0) := by
  unfold Go.Proofs.YtcckipimfgmmdaaGreatDoor.P.isA
  by_cases e : kindOf x.t = 0
  · simp [e]
  · obtain ⟨c, r, h1, h2⟩ := kind_word e
    rw [h.lo h1 h2]; rfl
theorem Tk.isG (h : Tk x) : isG x = !(argOf x.t == 0) := by
  unfold Go.Proofs.YtcckipimfgmmdaaGreatDoor.P.isG
  by_cases e : argOf x.t = 0
  · simp [e]
  · obtain ⟨c, r, h1, h2⟩ := arg_word e
    rw [h.lo h1 h2]; rfl
theorem Tk.isO (h : Tk x) : isO x = !(opOf x.t == 0) := by
  unfold Go.Proofs.YtcckipimfgmmdaaGreatDoor.P.isO
  by_cases e : opOf x.t = 0
  · simp [e]
  · obtain ⟨c, r, h1, h2, h3⟩ := op_sign e
    rw [h.sg h1 h2 h3]; rfl
end

structure Tks (ts : List Tok) : Prop where
  tk : ∀ i (h : i < ts.length), Tk ts[i]
  nx : ∀ i (h : i < ts.length), ¬ ts[i].k = 4 → i + 1 < ts.length
  pos : 0 < ts.length
  len : ts.length ≤ 100000

end Go.Proofs.YtcckipimfgmmdaaGreatDoor.P
