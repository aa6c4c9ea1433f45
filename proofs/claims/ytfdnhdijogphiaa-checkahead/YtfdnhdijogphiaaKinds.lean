/-
  Which codes compute, compare, jump and end, and which are known: proved of every code.
-/
import Derived.Test.YtfdnhdijogphiaaCodes
namespace Go.Proofs.Ytfdnhdijogphiaa
open Go.RowKit

theorem isIn_cons (a : Int) (l : List Int) (c : Int) : isIn (a :: l) c = (c == a || isIn l c) := rfl
theorem isIn_nil (c : Int) : isIn [] c = false := rfl

set_option maxHeartbeats 400000 in
theorem compares_any (c : Int) (w : World) :
    Calls Try.prog 31 #[.int .u16 c] w fun e w' => e = .returned (.bool (isIn cmpL c)) ∧ w' = w := by
  go_enter Try.func31, Try.ntmps31
  go_wp2
  all_goals (go_ret; exact ⟨ret_bool (by simp [cmpL, isIn_cons, isIn_nil, *]), rfl⟩)

set_option maxHeartbeats 400000 in
theorem computes_any (c : Int) (w : World) :
    Calls Try.prog 30 #[.int .u16 c] w fun e w' => e = .returned (.bool (isIn compL c)) ∧ w' = w := by
  go_enter Try.func30, Try.ntmps30
  go_wp2
  all_goals (go_ret; exact ⟨ret_bool (by simp [compL, isIn_cons, isIn_nil, *]), rfl⟩)

/-- the codes that end a program. -/
def endL : List Int := [6, 22]
/-- the document's codes that jump. -/
def jumpL : List Int := [5, 21, 37, 53, 69, 29, 45, 61, 77]

theorem ends_any (c : Int) (w : World) :
    Calls Try.prog 25 #[.int .u16 c] w fun e w' => e = .returned (.bool (isIn endL c)) ∧ w' = w := by
  go_enter Try.func25, Try.ntmps25
  go_wp2
  all_goals (go_ret; exact ⟨ret_bool (by simp [endL, isIn_cons, isIn_nil, *]), rfl⟩)

theorem refEnds_any (c : Int) (w : World) :
    Calls Try.prog 20 #[.int .u16 c] w fun e w' => e = .returned (.bool (isIn endL c)) ∧ w' = w := by
  go_enter Try.func20, Try.ntmps20
  go_wp2
  all_goals (go_ret; exact ⟨ret_bool (by simp [endL, isIn_cons, isIn_nil, *]), rfl⟩)

set_option maxHeartbeats 800000 in
theorem refJumps_any (c : Int) (w : World) :
    Calls Try.prog 19 #[.int .u16 c] w fun e w' => e = .returned (.bool (isIn jumpL c)) ∧ w' = w := by
  go_enter Try.func19, Try.ntmps19
  go_wp2
  all_goals (go_ret; exact ⟨ret_bool (by simp [jumpL, isIn_cons, isIn_nil, Bool.or_assoc, *]), rfl⟩)

/-- the code by K. -/
def kOf (c : Int) : Int := bits .andNot .u16 c 8

/-- does a code jump? -/
def jumpsB (c : Int) : Bool := c == 5 || isIn cmpL (kOf c)
/-- is a code an instruction's? -/
def knownB (c : Int) : Bool := isIn aloneL c || isIn compL (kOf c) || isIn cmpL (kOf c)
/-- is a code an instruction's, by the document? -/
def refKnownB (c : Int) : Bool := isIn plainL c || (decide (8 ≤ c) && isIn withL (c - 8))

theorem jumps_any (c : Int) (w : World) :
    Calls Try.prog 27 #[.int .u16 c] w fun e w' => e = .returned (.bool (jumpsB c)) ∧ w' = w := by
  go_enter Try.func27, Try.ntmps27
  go_wp2_with (first | (go_at_call 28; refine (byK_any c _).mono ?_; rintro e w2 ⟨rfl, rfl⟩) | (go_at_call 31; refine (compares_any _ _).mono ?_; rintro e w2 ⟨rfl, rfl⟩))
  all_goals (go_ret; exact ⟨ret_bool (by simp [jumpsB, kOf, *]), rfl⟩)

theorem known_any (c : Int) (w : World) :
    Calls Try.prog 21 #[.int .u16 c] w fun e w' => e = .returned (.bool (knownB c)) ∧ Below w.heap.size w w' := by
  go_enter Try.func21, Try.ntmps21
  go_wp2_with (first | (go_at_call 28; refine (byK_any c _).mono ?_; rintro e w2 ⟨rfl, rfl⟩) | (go_at_call 29; refine (alone_any c _).mono ?_; rintro e w2 ⟨rfl, hb⟩) | (go_at_call 30; refine (computes_any _ _).mono ?_; rintro e w3 ⟨rfl, rfl⟩) | (go_at_call 31; refine (compares_any _ _).mono ?_; rintro e w4 ⟨rfl, rfl⟩))
  all_goals (go_ret; exact ⟨ret_bool (by simp [knownB, kOf, *]), by assumption⟩)

end Go.Proofs.Ytfdnhdijogphiaa
