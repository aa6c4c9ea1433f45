/-
  The statements' first words: awake.
-/
import Derived.Test.YtdjjlccpmfhkiaaDoorSame
namespace Go.Proofs.YtdjjlccpmfhkiaaDoor
open Go.RowKit

def txtA : List UInt8 := [100, 101, 102, 97, 117, 108, 116, 32, 107, 105, 108, 108, 59, 32, 97, 108, 108, 111, 119, 32, 114, 101, 97, 100, 44, 32, 119, 114, 105, 116, 101, 59, 32, 101, 114, 114, 110, 111, 32, 49, 51, 32, 111, 112, 101, 110, 32, 119, 104, 101, 110, 32, 97, 114, 103, 49, 32, 38, 32, 51, 32, 33, 61, 32, 48, 59]
def ruA : Rl := ⟨⟨8, 0⟩, [[114, 101, 97, 100], [119, 114, 105, 116, 101]], []⟩
def ruB : Rl := ⟨⟨4, 13⟩, [[111, 112, 101, 110]], [⟨1, 2, 3, 0⟩]⟩
theorem prs_awake : prs txtA = .ok (⟨1, 0⟩, [ruA, ruB]) := by kernel_rfl

theorem eql_act (k a : Int) (w : World) : (binOp .eql 24 (.agg #[.int .i64 k, .int .i64 a]) (.agg #[.int .i64 k, .int .i64 a])).run Tryd.prog w = .ok (.bool true) w := by
  have u3 := Tryd.underlying3
  have a3 := Tryd.isAgg3
  have z3 := Tryd.sizeOf3
  have hS : Tryd.prog.underlying 24 = some (.struct (Tryd.prog.fieldsOf 24)) := by kernel_rfl
  have hp : Tryd.prog.stoodInHeld 24 = false := by kernel_rfl
  rw [run_eql_struct, show (10000 : Nat) = 9999 + 1 from rfl, run_equalIn_agg w 9999 24 _ _ hS hp]
  simp only [Program.fieldsOf, Tryd.underlying24]
  go_simp

theorem eql_cond (a o m v : Int) (w : World) : (binOp .eql 45 (.agg #[.int .i64 a, .int .i64 o, .int .u64 m, .int .u64 v]) (.agg #[.int .i64 a, .int .i64 o, .int .u64 m, .int .u64 v])).run Tryd.prog w = .ok (.bool true) w := by
  have u3 := Tryd.underlying3
  have a3 := Tryd.isAgg3
  have z3 := Tryd.sizeOf3
  have u37 := Tryd.underlying37
  have a37 := Tryd.isAgg37
  have z37 := Tryd.sizeOf37
  have hS : Tryd.prog.underlying 45 = some (.struct (Tryd.prog.fieldsOf 45)) := by kernel_rfl
  have hp : Tryd.prog.stoodInHeld 45 = false := by kernel_rfl
  rw [run_eql_struct, show (10000 : Nat) = 9999 + 1 from rfl, run_equalIn_agg w 9999 45 _ _ hS hp]
  simp only [Program.fieldsOf, Tryd.underlying45]
  go_simp

set_option maxRecDepth 8000 in
set_option maxHeartbeats 4000000 in
theorem awake_any (w : World) (hv : Vars w) : Calls Tryd.prog 9 #[] w fun e w' => e = .returned (.bool true) ∧ Below w.heap.size w w' := by
  have HA : Hid (Calls Tryd.prog 10 #[.string (bar txtA)] w fun e w' => Below w.heap.size w w' ∧ ∃ v rv, [ruA, ruB] = List.map Rv.r rv ∧ e = .returned (.tuple #[.agg #[.int .i64 1, .int .i64 0, v], .int .i64 0, .int .i64 (-1)]) ∧ RlsV w' v rv) := by
    have := parse2 (bar txtA) w hv
    rw [lst_bar, prs_awake] at this
    exact this
  have ha := eql_act 4 13
  have hc := eql_cond 1 2 3 0
  clear hv
  go_enter Tryd.func9, Tryd.ntmps9
  go_wp2_with fail
  refine HA.out.mono ?_
  rintro e w1 ⟨b1, v, rv, hr, rfl, hV⟩
  obtain ⟨x, y, rfl⟩ : ∃ x y, rv = [x, y] := by
    have hl : rv.length = 2 := by have := congrArg List.length hr; simpa using this.symm
    clear hV hr
    match rv, hl with
    | [x, y], _ => exact ⟨x, y, rfl⟩
  have hry : y.r = ruB := by simp at hr; exact hr.2.symm
  obtain ⟨p, c, rfl, hx0, hs⟩ := hV
  obtain ⟨g, rfl, hx⟩ := hx0 (by simp)
  clear hx0
  have hb2 : Below w1.heap.size w1 (w1.alloc (Obj.cells #[.int .i64 1, .int .i64 0, .slice (some ⟨g, 0, none⟩) 2 c] 27)) := (Below.refl _ _).alloc (Nat.le_refl _) _
  obtain ⟨q0, q1, q2, q3⟩ := (hx 1 y rfl).below hb2
  obtain ⟨_, hcd⟩ := hs y (by simp)
  rw [hry] at q0 q1 hcd
  obtain ⟨pc, cc, hvc, hcx0⟩ := hcd.below hb2
  obtain ⟨gc, rfl, hcx⟩ := hcx0 (by decide)
  clear hcx0
  obtain ⟨r0, r1, r2, r3⟩ := hcx 0 _ rfl
  rw [hvc] at q3
  simp only [ruB, List.length_cons, List.length_nil] at q0 q1 q3 r0 r1 r2 r3
  clear hs hx hcx hvc HA hr hry
  dsimp only [List.length_cons, List.length_nil]
  go_wp2_with fail
  go_ret
  exact ⟨rfl, b1.trans (((Below.refl _ _).alloc (Nat.le_refl _) _).mono b1.size)⟩

end Go.Proofs.YtdjjlccpmfhkiaaDoor
