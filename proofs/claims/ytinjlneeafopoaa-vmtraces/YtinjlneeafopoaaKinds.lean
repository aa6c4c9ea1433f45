/-
  Which codes compute, compare, jump and end, and which are known: proved of every code.
-/
import Derived.Test.YtinjlneeafopoaaCodes
namespace Go.Proofs.Ytinjlneeafopoaa
open Go.RowKit

theorem isIn_cons (a : Int) (l : List Int) (c : Int) : isIn (a :: l) c = (c == a || isIn l c) := rfl
theorem isIn_nil (c : Int) : isIn [] c = false := rfl

set_option maxHeartbeats 400000 in
theorem compares_any (c : Int) (w : World) :
    Calls Try.prog 48 #[.int .u16 c] w fun e w' => e = .returned (.bool (isIn cmpL c)) ∧ w' = w := by
  go_enter Try.func48, Try.ntmps48
  go_wp2
  all_goals (go_ret; exact ⟨ret_bool (by simp [cmpL, isIn_cons, isIn_nil, *]), rfl⟩)

set_option maxHeartbeats 400000 in
theorem computes_any (c : Int) (w : World) :
    Calls Try.prog 47 #[.int .u16 c] w fun e w' => e = .returned (.bool (isIn compL c)) ∧ w' = w := by
  go_enter Try.func47, Try.ntmps47
  go_wp2
  all_goals (go_ret; exact ⟨ret_bool (by simp [compL, isIn_cons, isIn_nil, *]), rfl⟩)

/-- the codes that end a program. -/
def endL : List Int := [6, 22]
/-- the document's codes that jump. -/
def jumpL : List Int := [5, 21, 37, 53, 69, 29, 45, 61, 77]

theorem ends_any (c : Int) (w : World) :
    Calls Try.prog 32 #[.int .u16 c] w fun e w' => e = .returned (.bool (isIn endL c)) ∧ w' = w := by
  go_enter Try.func32, Try.ntmps32
  go_wp2
  all_goals (go_ret; exact ⟨ret_bool (by simp [endL, isIn_cons, isIn_nil, *]), rfl⟩)

theorem refEnds_any (c : Int) (w : World) :
    Calls Try.prog 41 #[.int .u16 c] w fun e w' => e = .returned (.bool (isIn endL c)) ∧ w' = w := by
  go_enter Try.func41, Try.ntmps41
  go_wp2
  all_goals (go_ret; exact ⟨ret_bool (by simp [endL, isIn_cons, isIn_nil, *]), rfl⟩)

set_option maxHeartbeats 800000 in
theorem refJumps_any (c : Int) (w : World) :
    Calls Try.prog 40 #[.int .u16 c] w fun e w' => e = .returned (.bool (isIn jumpL c)) ∧ w' = w := by
  go_enter Try.func40, Try.ntmps40
  go_wp2
  all_goals (go_ret; exact ⟨ret_bool (by simp [jumpL, isIn_cons, isIn_nil, Bool.or_assoc, *]), rfl⟩)

/-- the code by K. -/
def kOf (c : Int) : Int := bits .andNot .u16 c 8

/-- does a code jump? -/
def jumpsB (c : Int) : Bool := c == 5 || isIn cmpL (kOf c)
/-- is a code an instruction's? -/
def knownB (c : Int) : Bool := isIn aloneL c || isIn compL (kOf c) || isIn cmpL (kOf c)
/-- is a code an instruction's, by the document? -/
def refKnownB (c : Int) : Bool := isIn plainL c || (decide (8 ≤ c) && isIn withL (c - 8))

theorem jumps_any (c : Int) (w : World) :
    Calls Try.prog 33 #[.int .u16 c] w fun e w' => e = .returned (.bool (jumpsB c)) ∧ w' = w := by
  go_enter Try.func33, Try.ntmps33
  go_wp2_with (first | (go_at_call 45; refine (byK_any c _).mono ?_; rintro e w2 ⟨rfl, rfl⟩) | (go_at_call 48; refine (compares_any _ _).mono ?_; rintro e w2 ⟨rfl, rfl⟩))
  all_goals (go_ret; exact ⟨ret_bool (by simp [jumpsB, kOf, *]), rfl⟩)

theorem known_any (c : Int) (w : World) :
    Calls Try.prog 28 #[.int .u16 c] w fun e w' => e = .returned (.bool (knownB c)) ∧ Below w.heap.size w w' := by
  go_enter Try.func28, Try.ntmps28
  go_wp2_with (first | (go_at_call 45; refine (byK_any c _).mono ?_; rintro e w2 ⟨rfl, rfl⟩) | (go_at_call 46; refine (alone_any c _).mono ?_; rintro e w2 ⟨rfl, hb⟩) | (go_at_call 47; refine (computes_any _ _).mono ?_; rintro e w3 ⟨rfl, rfl⟩) | (go_at_call 48; refine (compares_any _ _).mono ?_; rintro e w4 ⟨rfl, rfl⟩))
  all_goals (go_ret; exact ⟨ret_bool (by simp [knownB, kOf, *]), by assumption⟩)

end Go.Proofs.Ytinjlneeafopoaa
