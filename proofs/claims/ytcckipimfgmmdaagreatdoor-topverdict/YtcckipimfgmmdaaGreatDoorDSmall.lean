/-
  Halves of numbers, numbers of halves, and the places of arguments, by package data, proved of every number.
-/
import Derived.Test.YtcckipimfgmmdaaGreatDoorDSame
import Derived.Laws.Bits64b
import Derived.BigQuiet
namespace Go.Proofs.YtcckipimfgmmdaaGreatDoor.D
open Go.RowKit

theorem halves_any (n : Int) (w : World) (h : U64 n) :
    Calls Tryz.prog 176 #[.int .u64 n] w fun e w' => e = .returned (.tuple #[.int .u32 (lo n), .int .u32 (hi n)]) ∧ w' = w := by
  have HH : Hid (n / 4294967296 % 4294967296 = hi n) := by
    unfold Hid hi
    unfold U64 at h
    omega
  clear h
  go_enter Tryz.func176, Tryz.ntmps176
  go_wp2
  go_ret2
  rw [HH.out]
  exact ⟨rfl, rfl⟩

theorem or64 (x y : Int) (hx : U32 x) (hy : U32 y) : bits BinOp.or IntKind.u64 x (y * 4294967296) = both x y := by
  obtain ⟨a0, a1⟩ := hx
  obtain ⟨b0, b1⟩ := hy
  obtain ⟨n, rfl⟩ := Int.eq_ofNat_of_zero_le a0
  obtain ⟨m, rfl⟩ := Int.eq_ofNat_of_zero_le b0
  have e : ((m : Int) * 4294967296) = ((m * 2 ^ 32 : Nat) : Int) := by omega
  rw [e, bits_or_u64_nat n (m * 2 ^ 32) (by omega) (by omega), Nat.or_comm, ← Nat.shiftLeft_eq, ← Nat.shiftLeft_add_eq_or_of_lt (by omega), Nat.shiftLeft_eq]
  unfold both
  omega

/-- where an argument's words stand. -/
def pl0 (arg : Int) : Int := if 0 ≤ arg ∧ arg ≤ 5 then 16 + 8 * arg else 0
def pl1 (arg : Int) : Int := if 0 ≤ arg ∧ arg ≤ 5 then 16 + 8 * arg + 4 else 0

theorem pl_in (arg : Int) (h : 0 ≤ arg) (h5 : arg ≤ 5) : pl0 arg = 16 + 8 * arg ∧ pl1 arg = 16 + 8 * arg + 4 := by
  unfold pl0 pl1
  rw [if_pos ⟨h, h5⟩, if_pos ⟨h, h5⟩]
  exact ⟨rfl, rfl⟩
theorem pl_out (arg : Int) (h : arg < 0 ∨ 5 < arg) : pl0 arg = 0 ∧ pl1 arg = 0 := by
  unfold pl0 pl1
  rw [if_neg (by omega), if_neg (by omega)]
  exact ⟨rfl, rfl⟩

theorem places_any (arg : Int) (w : World) :
    Calls Tryz.prog 196 #[.int .i64 arg] w fun e w' => e = .returned (.agg #[.int .u32 (pl0 arg), .int .u32 (pl1 arg)]) ∧ Below w.heap.size w w' := by
  have HB : Hid (∀ o, Below w.heap.size w (w.alloc o)) := fun o => (Below.refl _ _).alloc (Nat.le_refl _) _
  by_cases h1 : arg < 0
  · obtain ⟨e0, e1⟩ := pl_out arg (.inl h1)
    rw [e0, e1]
    clear e0 e1
    go_enter Tryz.func196, Tryz.ntmps196
    go_wp2
    refine bodyPost_ret (v := .agg #[.int .u32 0, .int .u32 0]) (by simp [results, Tryz.results196, go_sem]) rfl ⟨rfl, HB.out _⟩
  · by_cases h2 : arg ≥ 6
    · obtain ⟨e0, e1⟩ := pl_out arg (.inr (by omega))
      rw [e0, e1]
      clear e0 e1
      go_enter Tryz.func196, Tryz.ntmps196
      go_wp2
      refine bodyPost_ret (v := .agg #[.int .u32 0, .int .u32 0]) (by simp [results, Tryz.results196, go_sem]) rfl ⟨rfl, HB.out _⟩
    · obtain ⟨e0, e1⟩ := pl_in arg (by omega) (by omega)
      rw [e0, e1]
      clear e0 e1
      go_enter Tryz.func196, Tryz.ntmps196
      go_wp2
      refine bodyPost_ret (v := .agg #[.int .u32 (16 + 8 * arg), .int .u32 (16 + 8 * arg + 4)]) (by simp [results, Tryz.results196, go_sem]) rfl ⟨rfl, HB.out _⟩

set_option maxHeartbeats 400000 in
theorem place_any (arg : Int) (w : World) :
    Calls Tryz.prog 189 #[.int .i64 arg] w fun e w' => e = .returned (.tuple #[.int .u32 (pl0 arg), .int .u32 (pl1 arg), .int .i64 (if 0 ≤ arg ∧ arg ≤ 5 then 0 else 1)]) ∧ Below w.heap.size w w' := by
  have HP : Hid (∀ W : World, Calls Tryz.prog 196 #[.int .i64 arg] W fun e w' => e = .returned (.agg #[.int .u32 (pl0 arg), .int .u32 (pl1 arg)]) ∧ Below W.heap.size W w') := fun W => places_any arg W
  by_cases h1 : 0 ≤ arg ∧ arg ≤ 5
  · rw [if_pos h1]
    have h0 : ¬ pl0 arg = 0 := by rw [(pl_in arg h1.1 h1.2).1]; omega
    generalize pl0 arg = q0 at *
    generalize pl1 arg = q1 at *
    have hq : ∀ W : World, (Op.equalIn 10000 266 (.agg #[.int .u32 q0, .int .u32 q1]) (.agg #[.int .u32 0, .int .u32 0])).run Tryz.prog W = .ok false W := by
      intro W
      rw [equalIn_two]
      congr 1
      simp [h0]
    clear h1 h0
    go_enter Tryz.func189, Tryz.ntmps189
    go_wp2_with (go_at_call 196; refine (HP.out _).mono ?_; rintro e w2 ⟨rfl, hb2⟩)
    go_quiet (fail)
    go_wp2
    refine bodyPost_ret (v := .tuple #[.int .u32 q0, .int .u32 q1, .int .i64 0]) (by simp [results, Tryz.results189, go_sem]) rfl ⟨rfl, ?_⟩
    have hb3 := hb2.alloc hb2.size (Obj.cells #[.int .u32 q0, .int .u32 q1] 266)
    exact hb3.trans ((below_drewN _ _).mono hb3.size)
  · rw [if_neg h1]
    obtain ⟨e0, e1⟩ := pl_out arg (by omega)
    generalize pl0 arg = q0 at *
    generalize pl1 arg = q1 at *
    subst e0 e1
    have hq : ∀ W : World, (Op.equalIn 10000 266 (.agg #[.int .u32 0, .int .u32 0]) (.agg #[.int .u32 0, .int .u32 0])).run Tryz.prog W = .ok true W := by
      intro W
      rw [equalIn_two]
      rfl
    clear h1
    go_enter Tryz.func189, Tryz.ntmps189
    go_wp2_with (go_at_call 196; refine (HP.out _).mono ?_; rintro e w2 ⟨rfl, hb2⟩)
    refine bodyPost_ret (v := .tuple #[.int .u32 0, .int .u32 0, .int .i64 1]) (by simp [results, Tryz.results189, go_sem]) rfl ⟨rfl, ?_⟩
    exact hb2.alloc hb2.size _

end Go.Proofs.YtcckipimfgmmdaaGreatDoor.D
