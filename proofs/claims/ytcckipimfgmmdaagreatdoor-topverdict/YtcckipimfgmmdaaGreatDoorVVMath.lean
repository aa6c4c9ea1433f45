/-
  A run of a program, as plain numbers: what P6.1 says of each instruction.
-/
import Derived.Test.YtcckipimfgmmdaaGreatDoorVCheck
import Derived.Test.YtcckipimfgmmdaaGreatDoorVCalls
namespace Go.Proofs.YtcckipimfgmmdaaGreatDoor.V

/-- how far a run has come: A, X, the cells, and what it answers. -/
structure St where
  a : Int
  x : Int
  c : Int → Int
  ans : Int

/-- A and another number, reckoned by a code that takes K. -/
def reckV (c a n : Int) : Int :=
  if (c == 4) = true then (a + n) % 4294967296 else if (c == 20) = true then (a - n) % 4294967296 else if (c == 36) = true then (a * n) % 4294967296 else if (c == 52) = true then a / n
  else if (c == 68) = true then bits .or .u32 a n else if (c == 84) = true then bits .and .u32 a n else if (c == 164) = true then bits .xor .u32 a n
  else if (c == 100) = true then (a * 2 ^ (n % 32).toNat) % 4294967296 else if (c == 116) = true then a / 2 ^ (n % 32).toNat else a

/-- a jump's condition, by a code that takes K. -/
def holdsV (c a n : Int) : Bool :=
  if (c == 21) = true then a == n else if (c == 37) = true then decide (n < a) else if (c == 53) = true then decide (n ≤ a) else bits .and .u32 a n != 0

/-- the other number. -/
def othV (x : In) (s : St) : Int := if (x.c == kOf x.c) = true then x.k else s.x

/-- the cells, one of them filled. -/
def putC (c : Int → Int) (k v : Int) : Int → Int := fun j => if j = k then v else c j

/-- what an instruction does that does not end the run. -/
def doV (d : Da) (x : In) (s : St) : St :=
  if (x.c == 32) = true then { s with a := ldv d x.k } else if (x.c == 0) = true then { s with a := x.k } else if (x.c == 1) = true then { s with x := x.k }
  else if (x.c == 96) = true then { s with a := s.c x.k } else if (x.c == 97) = true then { s with x := s.c x.k }
  else if (x.c == 2) = true then { s with c := putC s.c x.k s.a } else if (x.c == 3) = true then { s with c := putC s.c x.k s.x }
  else if (x.c == 7) = true then { s with x := s.a } else if (x.c == 135) = true then { s with a := s.x } else if (x.c == 132) = true then { s with a := (-s.a) % 4294967296 }
  else { s with a := reckV (kOf x.c) s.a (othV x s) }

/-- how many instructions are left out behind one. -/
def skipV (x : In) (s : St) : Int :=
  if jumpsB x.c = false then 0 else if (x.c == 5) = true then x.k else if holdsV (kOf x.c) s.a (othV x s) = true then x.t else x.f

/-- does the run end with it? -/
def endV (x : In) (s : St) : Bool := isIn endL x.c || (x.c == 60 && s.x == 0)

/-- what it answers then. -/
def tellV (x : In) (s : St) : Int := if (x.c == 6) = true then x.k else if (x.c == 22) = true then s.a else 0

/-- all that a run holds is a number of 32 bits. -/
def St.ok (s : St) : Prop := U32 s.a ∧ U32 s.x ∧ U32 s.ans ∧ ∀ k, U32 (s.c k)

end Go.Proofs.YtcckipimfgmmdaaGreatDoor.V
