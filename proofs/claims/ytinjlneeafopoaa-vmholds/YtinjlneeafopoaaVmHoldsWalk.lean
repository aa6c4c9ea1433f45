/-
  The law VmHolds, walked: true for all numbers.
-/
import Derived.Test.YtinjlneeafopoaaHoldMath
namespace Go.Proofs.Ytinjlneeafopoaa
open Go.RowKit

theorem hfour_ok (c a n : Int) (hc : 0 ≤ c ∧ c ≤ 65535) (ha : U32 a) (hn : U32 n) : ∀ x ∈ ([⟨0, 0, 0, a⟩, ⟨c, 0, 1, n⟩, ⟨6, 0, 0, 1⟩, ⟨6, 0, 0, 2⟩] : List In), x.ok := by
  intro x hx
  simp only [List.mem_cons, List.not_mem_nil, or_false] at hx
  unfold U32 at ha hn
  rcases hx with rfl | rfl | rfl | rfl <;> (unfold In.ok; dsimp only; omega)
theorem hfive_ok (c a n : Int) (hc : 0 ≤ c ∧ c ≤ 65535) (ha : U32 a) (hn : U32 n) : ∀ x ∈ ([⟨0, 0, 0, a⟩, ⟨1, 0, 0, n⟩, ⟨c, 0, 1, 0⟩, ⟨6, 0, 0, 1⟩, ⟨6, 0, 0, 2⟩] : List In), x.ok := by
  intro x hx
  simp only [List.mem_cons, List.not_mem_nil, or_false] at hx
  unfold U32 at ha hn
  rcases hx with rfl | rfl | rfl | rfl | rfl <;> (unfold In.ok; dsimp only; omega)

/-- Run of a program that was just made: what it answers. -/
theorem holds_new (l : List In) (d : Da) (hl : ∀ x ∈ l, x.ok) (hd : d.ok) (hm : l.length ≤ 100) (v : Int) (hv : ansV l d = v ∧ errV l = 0) : ∃ m : Int, ∀ (X : World) (q : Nat), X.heap.size = q → ∀ cap : Nat,
    Calls Try.prog 10 #[.slice (some ⟨q, 0, none⟩) l.length cap, d.val] (X.alloc (.cells (cellsI l).toArray 42)) fun e w' => e = .returned (.tuple #[.int .u32 v, .int .i64 m, .int .i64 0]) ∧ Below (X.alloc (.cells (cellsI l).toArray 42)).heap.size (X.alloc (.cells (cellsI l).toArray 42)) w' := by
  refine ⟨((plV l d).length : Nat), fun X q hq cap => ?_⟩
  subst hq
  refine (run_any _ l.length cap l d _ (by unfold maxLen; omega) (ins_new X l hl) hd).mono ?_
  rintro e w' ⟨rfl, hb⟩
  rw [hv.1, hv.2]
  exact ⟨rfl, hb⟩


set_option maxHeartbeats 2000000 in
set_option maxRecDepth 4000 in
theorem holds_0_true (a n which : Int) (w : World) (ha : U32 a) (hn : U32 n) (h0 : 0 ≤ which) (hk : which.tmod 4 = 0) (hb : holdsV 21 a n = true) :
    Calls Try.prog 8 #[.int .u32 a, .int .u32 n, .int .i64 which] w fun e w' => e = .returned (.bool true) ∧ Below w.heap.size w w' := by
  have HW : Hid (∀ W : World, Calls Try.prog 9 #[] W fun e w' => e = .returned (.bool true) ∧ Below W.heap.size W w') := awake_any
  obtain ⟨m1, H1⟩ := holds_new [⟨0, 0, 0, a⟩, ⟨21, 0, 1, n⟩, ⟨6, 0, 0, 1⟩, ⟨6, 0, 0, 2⟩] (nr 0) (hfour_ok 21 a n (by decide) ha hn) (nr_ok 0 ⟨by decide, by decide⟩) (by show 4 ≤ 100; decide) 1 (hold_21_true a n hb)
  obtain ⟨m2, H2⟩ := holds_new [⟨0, 0, 0, a⟩, ⟨1, 0, 0, n⟩, ⟨29, 0, 1, 0⟩, ⟨6, 0, 0, 1⟩, ⟨6, 0, 0, 2⟩] (nr 0) (hfive_ok 29 a n (by decide) ha hn) (nr_ok 0 ⟨by decide, by decide⟩) (by show 5 ≤ 100; decide) 1 (holdX_21_true a n hb)
  replace H1 : Hid (∀ (X : World) (q : Nat), X.heap.size = q → ∀ cap : Nat, Calls Try.prog 10 #[.slice (some ⟨q, 0, none⟩) 4 cap, .agg #[.int .u32 0, .int .u32 0, .int .u64 0, .int .u64 0, .int .u64 0, .int .u64 0, .int .u64 0, .int .u64 0, .int .u64 0]] (X.alloc (Obj.cells #[.int .u16 0, .int .u8 0, .int .u8 0, .int .u32 a, .int .u16 21, .int .u8 0, .int .u8 1, .int .u32 n, .int .u16 6, .int .u8 0, .int .u8 0, .int .u32 1, .int .u16 6, .int .u8 0, .int .u8 0, .int .u32 2] 42)) fun e w' => e = .returned (.tuple #[.int .u32 1, .int .i64 m1, .int .i64 0]) ∧ Below (X.alloc (Obj.cells #[.int .u16 0, .int .u8 0, .int .u8 0, .int .u32 a, .int .u16 21, .int .u8 0, .int .u8 1, .int .u32 n, .int .u16 6, .int .u8 0, .int .u8 0, .int .u32 1, .int .u16 6, .int .u8 0, .int .u8 0, .int .u32 2] 42)).heap.size (X.alloc (Obj.cells #[.int .u16 0, .int .u8 0, .int .u8 0, .int .u32 a, .int .u16 21, .int .u8 0, .int .u8 1, .int .u32 n, .int .u16 6, .int .u8 0, .int .u8 0, .int .u32 1, .int .u16 6, .int .u8 0, .int .u8 0, .int .u32 2] 42)) w') := H1
  replace H2 : Hid (∀ (X : World) (q : Nat), X.heap.size = q → ∀ cap : Nat, Calls Try.prog 10 #[.slice (some ⟨q, 0, none⟩) 5 cap, .agg #[.int .u32 0, .int .u32 0, .int .u64 0, .int .u64 0, .int .u64 0, .int .u64 0, .int .u64 0, .int .u64 0, .int .u64 0]] (X.alloc (Obj.cells #[.int .u16 0, .int .u8 0, .int .u8 0, .int .u32 a, .int .u16 1, .int .u8 0, .int .u8 0, .int .u32 n, .int .u16 29, .int .u8 0, .int .u8 1, .int .u32 0, .int .u16 6, .int .u8 0, .int .u8 0, .int .u32 1, .int .u16 6, .int .u8 0, .int .u8 0, .int .u32 2] 42)) fun e w' => e = .returned (.tuple #[.int .u32 1, .int .i64 m2, .int .i64 0]) ∧ Below (X.alloc (Obj.cells #[.int .u16 0, .int .u8 0, .int .u8 0, .int .u32 a, .int .u16 1, .int .u8 0, .int .u8 0, .int .u32 n, .int .u16 29, .int .u8 0, .int .u8 1, .int .u32 0, .int .u16 6, .int .u8 0, .int .u8 0, .int .u32 1, .int .u16 6, .int .u8 0, .int .u8 0, .int .u32 2] 42)).heap.size (X.alloc (Obj.cells #[.int .u16 0, .int .u8 0, .int .u8 0, .int .u32 a, .int .u16 1, .int .u8 0, .int .u8 0, .int .u32 n, .int .u16 29, .int .u8 0, .int .u8 1, .int .u32 0, .int .u16 6, .int .u8 0, .int .u8 0, .int .u32 1, .int .u16 6, .int .u8 0, .int .u8 0, .int .u32 2] 42)) w') := H2
  have hor := or8_21
  have hcond : (a == n) = true := hb
  clear ha hn hb
  go_enter Try.func8, Try.ntmps8
  go_wp2_with (first | (go_at_call 9; refine (HW.out _).mono ?_; rintro e w1 ⟨rfl, b1⟩))
  refine (H1.out _ _ (by simp) _).mono ?_
  rintro e w2 ⟨rfl, b2⟩
  have q1 : w2.cell? ⟨w1.heap.size, 0, none⟩ = some (.int .u16 21) := ((((blk_new w1 #[.int .u16 21, .int .u16 37, .int .u16 53, .int .u16 69] 40).alloc _).alloc _).over b2).cell 0
  have B2 : Hid (Below w.heap.size w w2) := by
    have z0 := b1.size
    have z1 := b1.alloc z0 (Obj.cells #[.int .u16 21, .int .u16 37, .int .u16 53, .int .u16 69] 40)
    refine Below.trans ?_ (b2.mono ?_)
    · exact (z1.alloc z1.size _).alloc (z1.alloc z1.size _).size _
    · exact ((z1.alloc z1.size _).alloc (z1.alloc z1.size _).size _).size
  clear b1 b2
  go_wp2_with fail
  refine (H2.out _ _ rfl _).mono ?_
  rintro e w3 ⟨rfl, b3⟩
  have z4 := B2.out.alloc B2.out.size (Obj.cells #[.int .u16 0, .int .u8 0, .int .u8 0, .int .u32 a, .int .u16 1, .int .u8 0, .int .u8 0, .int .u32 n, .int .u16 29, .int .u8 0, .int .u8 1, .int .u32 0, .int .u16 6, .int .u8 0, .int .u8 0, .int .u32 1, .int .u16 6, .int .u8 0, .int .u8 0, .int .u32 2] 42)
  clear q1
  go_wp2
  go_ret
  exact ⟨rfl, z4.trans (b3.mono z4.size)⟩

set_option maxHeartbeats 2000000 in
set_option maxRecDepth 4000 in
theorem holds_0_false (a n which : Int) (w : World) (ha : U32 a) (hn : U32 n) (h0 : 0 ≤ which) (hk : which.tmod 4 = 0) (hb : holdsV 21 a n = false) :
    Calls Try.prog 8 #[.int .u32 a, .int .u32 n, .int .i64 which] w fun e w' => e = .returned (.bool true) ∧ Below w.heap.size w w' := by
  have HW : Hid (∀ W : World, Calls Try.prog 9 #[] W fun e w' => e = .returned (.bool true) ∧ Below W.heap.size W w') := awake_any
  obtain ⟨m1, H1⟩ := holds_new [⟨0, 0, 0, a⟩, ⟨21, 0, 1, n⟩, ⟨6, 0, 0, 1⟩, ⟨6, 0, 0, 2⟩] (nr 0) (hfour_ok 21 a n (by decide) ha hn) (nr_ok 0 ⟨by decide, by decide⟩) (by show 4 ≤ 100; decide) 2 (hold_21_false a n hb)
  obtain ⟨m2, H2⟩ := holds_new [⟨0, 0, 0, a⟩, ⟨1, 0, 0, n⟩, ⟨29, 0, 1, 0⟩, ⟨6, 0, 0, 1⟩, ⟨6, 0, 0, 2⟩] (nr 0) (hfive_ok 29 a n (by decide) ha hn) (nr_ok 0 ⟨by decide, by decide⟩) (by show 5 ≤ 100; decide) 2 (holdX_21_false a n hb)
  replace H1 : Hid (∀ (X : World) (q : Nat), X.heap.size = q → ∀ cap : Nat, Calls Try.prog 10 #[.slice (some ⟨q, 0, none⟩) 4 cap, .agg #[.int .u32 0, .int .u32 0, .int .u64 0, .int .u64 0, .int .u64 0, .int .u64 0, .int .u64 0, .int .u64 0, .int .u64 0]] (X.alloc (Obj.cells #[.int .u16 0, .int .u8 0, .int .u8 0, .int .u32 a, .int .u16 21, .int .u8 0, .int .u8 1, .int .u32 n, .int .u16 6, .int .u8 0, .int .u8 0, .int .u32 1, .int .u16 6, .int .u8 0, .int .u8 0, .int .u32 2] 42)) fun e w' => e = .returned (.tuple #[.int .u32 2, .int .i64 m1, .int .i64 0]) ∧ Below (X.alloc (Obj.cells #[.int .u16 0, .int .u8 0, .int .u8 0, .int .u32 a, .int .u16 21, .int .u8 0, .int .u8 1, .int .u32 n, .int .u16 6, .int .u8 0, .int .u8 0, .int .u32 1, .int .u16 6, .int .u8 0, .int .u8 0, .int .u32 2] 42)).heap.size (X.alloc (Obj.cells #[.int .u16 0, .int .u8 0, .int .u8 0, .int .u32 a, .int .u16 21, .int .u8 0, .int .u8 1, .int .u32 n, .int .u16 6, .int .u8 0, .int .u8 0, .int .u32 1, .int .u16 6, .int .u8 0, .int .u8 0, .int .u32 2] 42)) w') := H1
  replace H2 : Hid (∀ (X : World) (q : Nat), X.heap.size = q → ∀ cap : Nat, Calls Try.prog 10 #[.slice (some ⟨q, 0, none⟩) 5 cap, .agg #[.int .u32 0, .int .u32 0, .int .u64 0, .int .u64 0, .int .u64 0, .int .u64 0, .int .u64 0, .int .u64 0, .int .u64 0]] (X.alloc (Obj.cells #[.int .u16 0, .int .u8 0, .int .u8 0, .int .u32 a, .int .u16 1, .int .u8 0, .int .u8 0, .int .u32 n, .int .u16 29, .int .u8 0, .int .u8 1, .int .u32 0, .int .u16 6, .int .u8 0, .int .u8 0, .int .u32 1, .int .u16 6, .int .u8 0, .int .u8 0, .int .u32 2] 42)) fun e w' => e = .returned (.tuple #[.int .u32 2, .int .i64 m2, .int .i64 0]) ∧ Below (X.alloc (Obj.cells #[.int .u16 0, .int .u8 0, .int .u8 0, .int .u32 a, .int .u16 1, .int .u8 0, .int .u8 0, .int .u32 n, .int .u16 29, .int .u8 0, .int .u8 1, .int .u32 0, .int .u16 6, .int .u8 0, .int .u8 0, .int .u32 1, .int .u16 6, .int .u8 0, .int .u8 0, .int .u32 2] 42)).heap.size (X.alloc (Obj.cells #[.int .u16 0, .int .u8 0, .int .u8 0, .int .u32 a, .int .u16 1, .int .u8 0, .int .u8 0, .int .u32 n, .int .u16 29, .int .u8 0, .int .u8 1, .int .u32 0, .int .u16 6, .int .u8 0, .int .u8 0, .int .u32 1, .int .u16 6, .int .u8 0, .int .u8 0, .int .u32 2] 42)) w') := H2
  have hor := or8_21
  have hcond : (a == n) = false := hb
  clear ha hn hb
  go_enter Try.func8, Try.ntmps8
  go_wp2_with (first | (go_at_call 9; refine (HW.out _).mono ?_; rintro e w1 ⟨rfl, b1⟩))
  refine (H1.out _ _ (by simp) _).mono ?_
  rintro e w2 ⟨rfl, b2⟩
  have q1 : w2.cell? ⟨w1.heap.size, 0, none⟩ = some (.int .u16 21) := ((((blk_new w1 #[.int .u16 21, .int .u16 37, .int .u16 53, .int .u16 69] 40).alloc _).alloc _).over b2).cell 0
  have B2 : Hid (Below w.heap.size w w2) := by
    have z0 := b1.size
    have z1 := b1.alloc z0 (Obj.cells #[.int .u16 21, .int .u16 37, .int .u16 53, .int .u16 69] 40)
    refine Below.trans ?_ (b2.mono ?_)
    · exact (z1.alloc z1.size _).alloc (z1.alloc z1.size _).size _
    · exact ((z1.alloc z1.size _).alloc (z1.alloc z1.size _).size _).size
  clear b1 b2
  go_wp2_with fail
  refine (H2.out _ _ rfl _).mono ?_
  rintro e w3 ⟨rfl, b3⟩
  have z4 := B2.out.alloc B2.out.size (Obj.cells #[.int .u16 0, .int .u8 0, .int .u8 0, .int .u32 a, .int .u16 1, .int .u8 0, .int .u8 0, .int .u32 n, .int .u16 29, .int .u8 0, .int .u8 1, .int .u32 0, .int .u16 6, .int .u8 0, .int .u8 0, .int .u32 1, .int .u16 6, .int .u8 0, .int .u8 0, .int .u32 2] 42)
  clear q1
  go_wp2
  go_ret
  exact ⟨rfl, z4.trans (b3.mono z4.size)⟩

set_option maxHeartbeats 2000000 in
set_option maxRecDepth 4000 in
theorem holds_1_true (a n which : Int) (w : World) (ha : U32 a) (hn : U32 n) (h0 : 0 ≤ which) (hk : which.tmod 4 = 1) (hb : holdsV 37 a n = true) :
    Calls Try.prog 8 #[.int .u32 a, .int .u32 n, .int .i64 which] w fun e w' => e = .returned (.bool true) ∧ Below w.heap.size w w' := by
  have HW : Hid (∀ W : World, Calls Try.prog 9 #[] W fun e w' => e = .returned (.bool true) ∧ Below W.heap.size W w') := awake_any
  obtain ⟨m1, H1⟩ := holds_new [⟨0, 0, 0, a⟩, ⟨37, 0, 1, n⟩, ⟨6, 0, 0, 1⟩, ⟨6, 0, 0, 2⟩] (nr 0) (hfour_ok 37 a n (by decide) ha hn) (nr_ok 0 ⟨by decide, by decide⟩) (by show 4 ≤ 100; decide) 1 (hold_37_true a n hb)
  obtain ⟨m2, H2⟩ := holds_new [⟨0, 0, 0, a⟩, ⟨1, 0, 0, n⟩, ⟨45, 0, 1, 0⟩, ⟨6, 0, 0, 1⟩, ⟨6, 0, 0, 2⟩] (nr 0) (hfive_ok 45 a n (by decide) ha hn) (nr_ok 0 ⟨by decide, by decide⟩) (by show 5 ≤ 100; decide) 1 (holdX_37_true a n hb)
  replace H1 : Hid (∀ (X : World) (q : Nat), X.heap.size = q → ∀ cap : Nat, Calls Try.prog 10 #[.slice (some ⟨q, 0, none⟩) 4 cap, .agg #[.int .u32 0, .int .u32 0, .int .u64 0, .int .u64 0, .int .u64 0, .int .u64 0, .int .u64 0, .int .u64 0, .int .u64 0]] (X.alloc (Obj.cells #[.int .u16 0, .int .u8 0, .int .u8 0, .int .u32 a, .int .u16 37, .int .u8 0, .int .u8 1, .int .u32 n, .int .u16 6, .int .u8 0, .int .u8 0, .int .u32 1, .int .u16 6, .int .u8 0, .int .u8 0, .int .u32 2] 42)) fun e w' => e = .returned (.tuple #[.int .u32 1, .int .i64 m1, .int .i64 0]) ∧ Below (X.alloc (Obj.cells #[.int .u16 0, .int .u8 0, .int .u8 0, .int .u32 a, .int .u16 37, .int .u8 0, .int .u8 1, .int .u32 n, .int .u16 6, .int .u8 0, .int .u8 0, .int .u32 1, .int .u16 6, .int .u8 0, .int .u8 0, .int .u32 2] 42)).heap.size (X.alloc (Obj.cells #[.int .u16 0, .int .u8 0, .int .u8 0, .int .u32 a, .int .u16 37, .int .u8 0, .int .u8 1, .int .u32 n, .int .u16 6, .int .u8 0, .int .u8 0, .int .u32 1, .int .u16 6, .int .u8 0, .int .u8 0, .int .u32 2] 42)) w') := H1
  replace H2 : Hid (∀ (X : World) (q : Nat), X.heap.size = q → ∀ cap : Nat, Calls Try.prog 10 #[.slice (some ⟨q, 0, none⟩) 5 cap, .agg #[.int .u32 0, .int .u32 0, .int .u64 0, .int .u64 0, .int .u64 0, .int .u64 0, .int .u64 0, .int .u64 0, .int .u64 0]] (X.alloc (Obj.cells #[.int .u16 0, .int .u8 0, .int .u8 0, .int .u32 a, .int .u16 1, .int .u8 0, .int .u8 0, .int .u32 n, .int .u16 45, .int .u8 0, .int .u8 1, .int .u32 0, .int .u16 6, .int .u8 0, .int .u8 0, .int .u32 1, .int .u16 6, .int .u8 0, .int .u8 0, .int .u32 2] 42)) fun e w' => e = .returned (.tuple #[.int .u32 1, .int .i64 m2, .int .i64 0]) ∧ Below (X.alloc (Obj.cells #[.int .u16 0, .int .u8 0, .int .u8 0, .int .u32 a, .int .u16 1, .int .u8 0, .int .u8 0, .int .u32 n, .int .u16 45, .int .u8 0, .int .u8 1, .int .u32 0, .int .u16 6, .int .u8 0, .int .u8 0, .int .u32 1, .int .u16 6, .int .u8 0, .int .u8 0, .int .u32 2] 42)).heap.size (X.alloc (Obj.cells #[.int .u16 0, .int .u8 0, .int .u8 0, .int .u32 a, .int .u16 1, .int .u8 0, .int .u8 0, .int .u32 n, .int .u16 45, .int .u8 0, .int .u8 1, .int .u32 0, .int .u16 6, .int .u8 0, .int .u8 0, .int .u32 1, .int .u16 6, .int .u8 0, .int .u8 0, .int .u32 2] 42)) w') := H2
  have hor := or8_37
  have hcond : decide (n < a) = true := hb
  clear ha hn hb
  go_enter Try.func8, Try.ntmps8
  go_wp2_with (first | (go_at_call 9; refine (HW.out _).mono ?_; rintro e w1 ⟨rfl, b1⟩))
  refine (H1.out _ _ (by simp) _).mono ?_
  rintro e w2 ⟨rfl, b2⟩
  have q1 : w2.cell? ⟨w1.heap.size, 1, none⟩ = some (.int .u16 37) := ((((blk_new w1 #[.int .u16 21, .int .u16 37, .int .u16 53, .int .u16 69] 40).alloc _).alloc _).over b2).cell 1
  have B2 : Hid (Below w.heap.size w w2) := by
    have z0 := b1.size
    have z1 := b1.alloc z0 (Obj.cells #[.int .u16 21, .int .u16 37, .int .u16 53, .int .u16 69] 40)
    refine Below.trans ?_ (b2.mono ?_)
    · exact (z1.alloc z1.size _).alloc (z1.alloc z1.size _).size _
    · exact ((z1.alloc z1.size _).alloc (z1.alloc z1.size _).size _).size
  clear b1 b2
  go_wp2_with fail
  refine (H2.out _ _ rfl _).mono ?_
  rintro e w3 ⟨rfl, b3⟩
  have z4 := B2.out.alloc B2.out.size (Obj.cells #[.int .u16 0, .int .u8 0, .int .u8 0, .int .u32 a, .int .u16 1, .int .u8 0, .int .u8 0, .int .u32 n, .int .u16 45, .int .u8 0, .int .u8 1, .int .u32 0, .int .u16 6, .int .u8 0, .int .u8 0, .int .u32 1, .int .u16 6, .int .u8 0, .int .u8 0, .int .u32 2] 42)
  clear q1
  go_wp2
  go_ret
  exact ⟨rfl, z4.trans (b3.mono z4.size)⟩

set_option maxHeartbeats 2000000 in
set_option maxRecDepth 4000 in
theorem holds_1_false (a n which : Int) (w : World) (ha : U32 a) (hn : U32 n) (h0 : 0 ≤ which) (hk : which.tmod 4 = 1) (hb : holdsV 37 a n = false) :
    Calls Try.prog 8 #[.int .u32 a, .int .u32 n, .int .i64 which] w fun e w' => e = .returned (.bool true) ∧ Below w.heap.size w w' := by
  have HW : Hid (∀ W : World, Calls Try.prog 9 #[] W fun e w' => e = .returned (.bool true) ∧ Below W.heap.size W w') := awake_any
  obtain ⟨m1, H1⟩ := holds_new [⟨0, 0, 0, a⟩, ⟨37, 0, 1, n⟩, ⟨6, 0, 0, 1⟩, ⟨6, 0, 0, 2⟩] (nr 0) (hfour_ok 37 a n (by decide) ha hn) (nr_ok 0 ⟨by decide, by decide⟩) (by show 4 ≤ 100; decide) 2 (hold_37_false a n hb)
  obtain ⟨m2, H2⟩ := holds_new [⟨0, 0, 0, a⟩, ⟨1, 0, 0, n⟩, ⟨45, 0, 1, 0⟩, ⟨6, 0, 0, 1⟩, ⟨6, 0, 0, 2⟩] (nr 0) (hfive_ok 45 a n (by decide) ha hn) (nr_ok 0 ⟨by decide, by decide⟩) (by show 5 ≤ 100; decide) 2 (holdX_37_false a n hb)
  replace H1 : Hid (∀ (X : World) (q : Nat), X.heap.size = q → ∀ cap : Nat, Calls Try.prog 10 #[.slice (some ⟨q, 0, none⟩) 4 cap, .agg #[.int .u32 0, .int .u32 0, .int .u64 0, .int .u64 0, .int .u64 0, .int .u64 0, .int .u64 0, .int .u64 0, .int .u64 0]] (X.alloc (Obj.cells #[.int .u16 0, .int .u8 0, .int .u8 0, .int .u32 a, .int .u16 37, .int .u8 0, .int .u8 1, .int .u32 n, .int .u16 6, .int .u8 0, .int .u8 0, .int .u32 1, .int .u16 6, .int .u8 0, .int .u8 0, .int .u32 2] 42)) fun e w' => e = .returned (.tuple #[.int .u32 2, .int .i64 m1, .int .i64 0]) ∧ Below (X.alloc (Obj.cells #[.int .u16 0, .int .u8 0, .int .u8 0, .int .u32 a, .int .u16 37, .int .u8 0, .int .u8 1, .int .u32 n, .int .u16 6, .int .u8 0, .int .u8 0, .int .u32 1, .int .u16 6, .int .u8 0, .int .u8 0, .int .u32 2] 42)).heap.size (X.alloc (Obj.cells #[.int .u16 0, .int .u8 0, .int .u8 0, .int .u32 a, .int .u16 37, .int .u8 0, .int .u8 1, .int .u32 n, .int .u16 6, .int .u8 0, .int .u8 0, .int .u32 1, .int .u16 6, .int .u8 0, .int .u8 0, .int .u32 2] 42)) w') := H1
  replace H2 : Hid (∀ (X : World) (q : Nat), X.heap.size = q → ∀ cap : Nat, Calls Try.prog 10 #[.slice (some ⟨q, 0, none⟩) 5 cap, .agg #[.int .u32 0, .int .u32 0, .int .u64 0, .int .u64 0, .int .u64 0, .int .u64 0, .int .u64 0, .int .u64 0, .int .u64 0]] (X.alloc (Obj.cells #[.int .u16 0, .int .u8 0, .int .u8 0, .int .u32 a, .int .u16 1, .int .u8 0, .int .u8 0, .int .u32 n, .int .u16 45, .int .u8 0, .int .u8 1, .int .u32 0, .int .u16 6, .int .u8 0, .int .u8 0, .int .u32 1, .int .u16 6, .int .u8 0, .int .u8 0, .int .u32 2] 42)) fun e w' => e = .returned (.tuple #[.int .u32 2, .int .i64 m2, .int .i64 0]) ∧ Below (X.alloc (Obj.cells #[.int .u16 0, .int .u8 0, .int .u8 0, .int .u32 a, .int .u16 1, .int .u8 0, .int .u8 0, .int .u32 n, .int .u16 45, .int .u8 0, .int .u8 1, .int .u32 0, .int .u16 6, .int .u8 0, .int .u8 0, .int .u32 1, .int .u16 6, .int .u8 0, .int .u8 0, .int .u32 2] 42)).heap.size (X.alloc (Obj.cells #[.int .u16 0, .int .u8 0, .int .u8 0, .int .u32 a, .int .u16 1, .int .u8 0, .int .u8 0, .int .u32 n, .int .u16 45, .int .u8 0, .int .u8 1, .int .u32 0, .int .u16 6, .int .u8 0, .int .u8 0, .int .u32 1, .int .u16 6, .int .u8 0, .int .u8 0, .int .u32 2] 42)) w') := H2
  have hor := or8_37
  have hcond : decide (n < a) = false := hb
  clear ha hn hb
  go_enter Try.func8, Try.ntmps8
  go_wp2_with (first | (go_at_call 9; refine (HW.out _).mono ?_; rintro e w1 ⟨rfl, b1⟩))
  refine (H1.out _ _ (by simp) _).mono ?_
  rintro e w2 ⟨rfl, b2⟩
  have q1 : w2.cell? ⟨w1.heap.size, 1, none⟩ = some (.int .u16 37) := ((((blk_new w1 #[.int .u16 21, .int .u16 37, .int .u16 53, .int .u16 69] 40).alloc _).alloc _).over b2).cell 1
  have B2 : Hid (Below w.heap.size w w2) := by
    have z0 := b1.size
    have z1 := b1.alloc z0 (Obj.cells #[.int .u16 21, .int .u16 37, .int .u16 53, .int .u16 69] 40)
    refine Below.trans ?_ (b2.mono ?_)
    · exact (z1.alloc z1.size _).alloc (z1.alloc z1.size _).size _
    · exact ((z1.alloc z1.size _).alloc (z1.alloc z1.size _).size _).size
  clear b1 b2
  go_wp2_with fail
  refine (H2.out _ _ rfl _).mono ?_
  rintro e w3 ⟨rfl, b3⟩
  have z4 := B2.out.alloc B2.out.size (Obj.cells #[.int .u16 0, .int .u8 0, .int .u8 0, .int .u32 a, .int .u16 1, .int .u8 0, .int .u8 0, .int .u32 n, .int .u16 45, .int .u8 0, .int .u8 1, .int .u32 0, .int .u16 6, .int .u8 0, .int .u8 0, .int .u32 1, .int .u16 6, .int .u8 0, .int .u8 0, .int .u32 2] 42)
  clear q1
  go_wp2
  go_ret
  exact ⟨rfl, z4.trans (b3.mono z4.size)⟩

set_option maxHeartbeats 2000000 in
set_option maxRecDepth 4000 in
theorem holds_2_true (a n which : Int) (w : World) (ha : U32 a) (hn : U32 n) (h0 : 0 ≤ which) (hk : which.tmod 4 = 2) (hb : holdsV 53 a n = true) :
    Calls Try.prog 8 #[.int .u32 a, .int .u32 n, .int .i64 which] w fun e w' => e = .returned (.bool true) ∧ Below w.heap.size w w' := by
  have HW : Hid (∀ W : World, Calls Try.prog 9 #[] W fun e w' => e = .returned (.bool true) ∧ Below W.heap.size W w') := awake_any
  obtain ⟨m1, H1⟩ := holds_new [⟨0, 0, 0, a⟩, ⟨53, 0, 1, n⟩, ⟨6, 0, 0, 1⟩, ⟨6, 0, 0, 2⟩] (nr 0) (hfour_ok 53 a n (by decide) ha hn) (nr_ok 0 ⟨by decide, by decide⟩) (by show 4 ≤ 100; decide) 1 (hold_53_true a n hb)
  obtain ⟨m2, H2⟩ := holds_new [⟨0, 0, 0, a⟩, ⟨1, 0, 0, n⟩, ⟨61, 0, 1, 0⟩, ⟨6, 0, 0, 1⟩, ⟨6, 0, 0, 2⟩] (nr 0) (hfive_ok 61 a n (by decide) ha hn) (nr_ok 0 ⟨by decide, by decide⟩) (by show 5 ≤ 100; decide) 1 (holdX_53_true a n hb)
  replace H1 : Hid (∀ (X : World) (q : Nat), X.heap.size = q → ∀ cap : Nat, Calls Try.prog 10 #[.slice (some ⟨q, 0, none⟩) 4 cap, .agg #[.int .u32 0, .int .u32 0, .int .u64 0, .int .u64 0, .int .u64 0, .int .u64 0, .int .u64 0, .int .u64 0, .int .u64 0]] (X.alloc (Obj.cells #[.int .u16 0, .int .u8 0, .int .u8 0, .int .u32 a, .int .u16 53, .int .u8 0, .int .u8 1, .int .u32 n, .int .u16 6, .int .u8 0, .int .u8 0, .int .u32 1, .int .u16 6, .int .u8 0, .int .u8 0, .int .u32 2] 42)) fun e w' => e = .returned (.tuple #[.int .u32 1, .int .i64 m1, .int .i64 0]) ∧ Below (X.alloc (Obj.cells #[.int .u16 0, .int .u8 0, .int .u8 0, .int .u32 a, .int .u16 53, .int .u8 0, .int .u8 1, .int .u32 n, .int .u16 6, .int .u8 0, .int .u8 0, .int .u32 1, .int .u16 6, .int .u8 0, .int .u8 0, .int .u32 2] 42)).heap.size (X.alloc (Obj.cells #[.int .u16 0, .int .u8 0, .int .u8 0, .int .u32 a, .int .u16 53, .int .u8 0, .int .u8 1, .int .u32 n, .int .u16 6, .int .u8 0, .int .u8 0, .int .u32 1, .int .u16 6, .int .u8 0, .int .u8 0, .int .u32 2] 42)) w') := H1
  replace H2 : Hid (∀ (X : World) (q : Nat), X.heap.size = q → ∀ cap : Nat, Calls Try.prog 10 #[.slice (some ⟨q, 0, none⟩) 5 cap, .agg #[.int .u32 0, .int .u32 0, .int .u64 0, .int .u64 0, .int .u64 0, .int .u64 0, .int .u64 0, .int .u64 0, .int .u64 0]] (X.alloc (Obj.cells #[.int .u16 0, .int .u8 0, .int .u8 0, .int .u32 a, .int .u16 1, .int .u8 0, .int .u8 0, .int .u32 n, .int .u16 61, .int .u8 0, .int .u8 1, .int .u32 0, .int .u16 6, .int .u8 0, .int .u8 0, .int .u32 1, .int .u16 6, .int .u8 0, .int .u8 0, .int .u32 2] 42)) fun e w' => e = .returned (.tuple #[.int .u32 1, .int .i64 m2, .int .i64 0]) ∧ Below (X.alloc (Obj.cells #[.int .u16 0, .int .u8 0, .int .u8 0, .int .u32 a, .int .u16 1, .int .u8 0, .int .u8 0, .int .u32 n, .int .u16 61, .int .u8 0, .int .u8 1, .int .u32 0, .int .u16 6, .int .u8 0, .int .u8 0, .int .u32 1, .int .u16 6, .int .u8 0, .int .u8 0, .int .u32 2] 42)).heap.size (X.alloc (Obj.cells #[.int .u16 0, .int .u8 0, .int .u8 0, .int .u32 a, .int .u16 1, .int .u8 0, .int .u8 0, .int .u32 n, .int .u16 61, .int .u8 0, .int .u8 1, .int .u32 0, .int .u16 6, .int .u8 0, .int .u8 0, .int .u32 1, .int .u16 6, .int .u8 0, .int .u8 0, .int .u32 2] 42)) w') := H2
  have hor := or8_53
  have hcond : decide (n ≤ a) = true := hb
  clear ha hn hb
  go_enter Try.func8, Try.ntmps8
  go_wp2_with (first | (go_at_call 9; refine (HW.out _).mono ?_; rintro e w1 ⟨rfl, b1⟩))
  refine (H1.out _ _ (by simp) _).mono ?_
  rintro e w2 ⟨rfl, b2⟩
  have q1 : w2.cell? ⟨w1.heap.size, 2, none⟩ = some (.int .u16 53) := ((((blk_new w1 #[.int .u16 21, .int .u16 37, .int .u16 53, .int .u16 69] 40).alloc _).alloc _).over b2).cell 2
  have B2 : Hid (Below w.heap.size w w2) := by
    have z0 := b1.size
    have z1 := b1.alloc z0 (Obj.cells #[.int .u16 21, .int .u16 37, .int .u16 53, .int .u16 69] 40)
    refine Below.trans ?_ (b2.mono ?_)
    · exact (z1.alloc z1.size _).alloc (z1.alloc z1.size _).size _
    · exact ((z1.alloc z1.size _).alloc (z1.alloc z1.size _).size _).size
  clear b1 b2
  go_wp2_with fail
  refine (H2.out _ _ rfl _).mono ?_
  rintro e w3 ⟨rfl, b3⟩
  have z4 := B2.out.alloc B2.out.size (Obj.cells #[.int .u16 0, .int .u8 0, .int .u8 0, .int .u32 a, .int .u16 1, .int .u8 0, .int .u8 0, .int .u32 n, .int .u16 61, .int .u8 0, .int .u8 1, .int .u32 0, .int .u16 6, .int .u8 0, .int .u8 0, .int .u32 1, .int .u16 6, .int .u8 0, .int .u8 0, .int .u32 2] 42)
  clear q1
  go_wp2
  go_ret
  exact ⟨rfl, z4.trans (b3.mono z4.size)⟩

set_option maxHeartbeats 2000000 in
set_option maxRecDepth 4000 in
theorem holds_2_false (a n which : Int) (w : World) (ha : U32 a) (hn : U32 n) (h0 : 0 ≤ which) (hk : which.tmod 4 = 2) (hb : holdsV 53 a n = false) :
    Calls Try.prog 8 #[.int .u32 a, .int .u32 n, .int .i64 which] w fun e w' => e = .returned (.bool true) ∧ Below w.heap.size w w' := by
  have HW : Hid (∀ W : World, Calls Try.prog 9 #[] W fun e w' => e = .returned (.bool true) ∧ Below W.heap.size W w') := awake_any
  obtain ⟨m1, H1⟩ := holds_new [⟨0, 0, 0, a⟩, ⟨53, 0, 1, n⟩, ⟨6, 0, 0, 1⟩, ⟨6, 0, 0, 2⟩] (nr 0) (hfour_ok 53 a n (by decide) ha hn) (nr_ok 0 ⟨by decide, by decide⟩) (by show 4 ≤ 100; decide) 2 (hold_53_false a n hb)
  obtain ⟨m2, H2⟩ := holds_new [⟨0, 0, 0, a⟩, ⟨1, 0, 0, n⟩, ⟨61, 0, 1, 0⟩, ⟨6, 0, 0, 1⟩, ⟨6, 0, 0, 2⟩] (nr 0) (hfive_ok 61 a n (by decide) ha hn) (nr_ok 0 ⟨by decide, by decide⟩) (by show 5 ≤ 100; decide) 2 (holdX_53_false a n hb)
  replace H1 : Hid (∀ (X : World) (q : Nat), X.heap.size = q → ∀ cap : Nat, Calls Try.prog 10 #[.slice (some ⟨q, 0, none⟩) 4 cap, .agg #[.int .u32 0, .int .u32 0, .int .u64 0, .int .u64 0, .int .u64 0, .int .u64 0, .int .u64 0, .int .u64 0, .int .u64 0]] (X.alloc (Obj.cells #[.int .u16 0, .int .u8 0, .int .u8 0, .int .u32 a, .int .u16 53, .int .u8 0, .int .u8 1, .int .u32 n, .int .u16 6, .int .u8 0, .int .u8 0, .int .u32 1, .int .u16 6, .int .u8 0, .int .u8 0, .int .u32 2] 42)) fun e w' => e = .returned (.tuple #[.int .u32 2, .int .i64 m1, .int .i64 0]) ∧ Below (X.alloc (Obj.cells #[.int .u16 0, .int .u8 0, .int .u8 0, .int .u32 a, .int .u16 53, .int .u8 0, .int .u8 1, .int .u32 n, .int .u16 6, .int .u8 0, .int .u8 0, .int .u32 1, .int .u16 6, .int .u8 0, .int .u8 0, .int .u32 2] 42)).heap.size (X.alloc (Obj.cells #[.int .u16 0, .int .u8 0, .int .u8 0, .int .u32 a, .int .u16 53, .int .u8 0, .int .u8 1, .int .u32 n, .int .u16 6, .int .u8 0, .int .u8 0, .int .u32 1, .int .u16 6, .int .u8 0, .int .u8 0, .int .u32 2] 42)) w') := H1
  replace H2 : Hid (∀ (X : World) (q : Nat), X.heap.size = q → ∀ cap : Nat, Calls Try.prog 10 #[.slice (some ⟨q, 0, none⟩) 5 cap, .agg #[.int .u32 0, .int .u32 0, .int .u64 0, .int .u64 0, .int .u64 0, .int .u64 0, .int .u64 0, .int .u64 0, .int .u64 0]] (X.alloc (Obj.cells #[.int .u16 0, .int .u8 0, .int .u8 0, .int .u32 a, .int .u16 1, .int .u8 0, .int .u8 0, .int .u32 n, .int .u16 61, .int .u8 0, .int .u8 1, .int .u32 0, .int .u16 6, .int .u8 0, .int .u8 0, .int .u32 1, .int .u16 6, .int .u8 0, .int .u8 0, .int .u32 2] 42)) fun e w' => e = .returned (.tuple #[.int .u32 2, .int .i64 m2, .int .i64 0]) ∧ Below (X.alloc (Obj.cells #[.int .u16 0, .int .u8 0, .int .u8 0, .int .u32 a, .int .u16 1, .int .u8 0, .int .u8 0, .int .u32 n, .int .u16 61, .int .u8 0, .int .u8 1, .int .u32 0, .int .u16 6, .int .u8 0, .int .u8 0, .int .u32 1, .int .u16 6, .int .u8 0, .int .u8 0, .int .u32 2] 42)).heap.size (X.alloc (Obj.cells #[.int .u16 0, .int .u8 0, .int .u8 0, .int .u32 a, .int .u16 1, .int .u8 0, .int .u8 0, .int .u32 n, .int .u16 61, .int .u8 0, .int .u8 1, .int .u32 0, .int .u16 6, .int .u8 0, .int .u8 0, .int .u32 1, .int .u16 6, .int .u8 0, .int .u8 0, .int .u32 2] 42)) w') := H2
  have hor := or8_53
  have hcond : decide (n ≤ a) = false := hb
  clear ha hn hb
  go_enter Try.func8, Try.ntmps8
  go_wp2_with (first | (go_at_call 9; refine (HW.out _).mono ?_; rintro e w1 ⟨rfl, b1⟩))
  refine (H1.out _ _ (by simp) _).mono ?_
  rintro e w2 ⟨rfl, b2⟩
  have q1 : w2.cell? ⟨w1.heap.size, 2, none⟩ = some (.int .u16 53) := ((((blk_new w1 #[.int .u16 21, .int .u16 37, .int .u16 53, .int .u16 69] 40).alloc _).alloc _).over b2).cell 2
  have B2 : Hid (Below w.heap.size w w2) := by
    have z0 := b1.size
    have z1 := b1.alloc z0 (Obj.cells #[.int .u16 21, .int .u16 37, .int .u16 53, .int .u16 69] 40)
    refine Below.trans ?_ (b2.mono ?_)
    · exact (z1.alloc z1.size _).alloc (z1.alloc z1.size _).size _
    · exact ((z1.alloc z1.size _).alloc (z1.alloc z1.size _).size _).size
  clear b1 b2
  go_wp2_with fail
  refine (H2.out _ _ rfl _).mono ?_
  rintro e w3 ⟨rfl, b3⟩
  have z4 := B2.out.alloc B2.out.size (Obj.cells #[.int .u16 0, .int .u8 0, .int .u8 0, .int .u32 a, .int .u16 1, .int .u8 0, .int .u8 0, .int .u32 n, .int .u16 61, .int .u8 0, .int .u8 1, .int .u32 0, .int .u16 6, .int .u8 0, .int .u8 0, .int .u32 1, .int .u16 6, .int .u8 0, .int .u8 0, .int .u32 2] 42)
  clear q1
  go_wp2
  go_ret
  exact ⟨rfl, z4.trans (b3.mono z4.size)⟩

set_option maxHeartbeats 2000000 in
set_option maxRecDepth 4000 in
theorem holds_3_true (a n which : Int) (w : World) (ha : U32 a) (hn : U32 n) (h0 : 0 ≤ which) (hk : which.tmod 4 = 3) (hb : holdsV 69 a n = true) :
    Calls Try.prog 8 #[.int .u32 a, .int .u32 n, .int .i64 which] w fun e w' => e = .returned (.bool true) ∧ Below w.heap.size w w' := by
  have HW : Hid (∀ W : World, Calls Try.prog 9 #[] W fun e w' => e = .returned (.bool true) ∧ Below W.heap.size W w') := awake_any
  obtain ⟨m1, H1⟩ := holds_new [⟨0, 0, 0, a⟩, ⟨69, 0, 1, n⟩, ⟨6, 0, 0, 1⟩, ⟨6, 0, 0, 2⟩] (nr 0) (hfour_ok 69 a n (by decide) ha hn) (nr_ok 0 ⟨by decide, by decide⟩) (by show 4 ≤ 100; decide) 1 (hold_69_true a n hb)
  obtain ⟨m2, H2⟩ := holds_new [⟨0, 0, 0, a⟩, ⟨1, 0, 0, n⟩, ⟨77, 0, 1, 0⟩, ⟨6, 0, 0, 1⟩, ⟨6, 0, 0, 2⟩] (nr 0) (hfive_ok 77 a n (by decide) ha hn) (nr_ok 0 ⟨by decide, by decide⟩) (by show 5 ≤ 100; decide) 1 (holdX_69_true a n hb)
  replace H1 : Hid (∀ (X : World) (q : Nat), X.heap.size = q → ∀ cap : Nat, Calls Try.prog 10 #[.slice (some ⟨q, 0, none⟩) 4 cap, .agg #[.int .u32 0, .int .u32 0, .int .u64 0, .int .u64 0, .int .u64 0, .int .u64 0, .int .u64 0, .int .u64 0, .int .u64 0]] (X.alloc (Obj.cells #[.int .u16 0, .int .u8 0, .int .u8 0, .int .u32 a, .int .u16 69, .int .u8 0, .int .u8 1, .int .u32 n, .int .u16 6, .int .u8 0, .int .u8 0, .int .u32 1, .int .u16 6, .int .u8 0, .int .u8 0, .int .u32 2] 42)) fun e w' => e = .returned (.tuple #[.int .u32 1, .int .i64 m1, .int .i64 0]) ∧ Below (X.alloc (Obj.cells #[.int .u16 0, .int .u8 0, .int .u8 0, .int .u32 a, .int .u16 69, .int .u8 0, .int .u8 1, .int .u32 n, .int .u16 6, .int .u8 0, .int .u8 0, .int .u32 1, .int .u16 6, .int .u8 0, .int .u8 0, .int .u32 2] 42)).heap.size (X.alloc (Obj.cells #[.int .u16 0, .int .u8 0, .int .u8 0, .int .u32 a, .int .u16 69, .int .u8 0, .int .u8 1, .int .u32 n, .int .u16 6, .int .u8 0, .int .u8 0, .int .u32 1, .int .u16 6, .int .u8 0, .int .u8 0, .int .u32 2] 42)) w') := H1
  replace H2 : Hid (∀ (X : World) (q : Nat), X.heap.size = q → ∀ cap : Nat, Calls Try.prog 10 #[.slice (some ⟨q, 0, none⟩) 5 cap, .agg #[.int .u32 0, .int .u32 0, .int .u64 0, .int .u64 0, .int .u64 0, .int .u64 0, .int .u64 0, .int .u64 0, .int .u64 0]] (X.alloc (Obj.cells #[.int .u16 0, .int .u8 0, .int .u8 0, .int .u32 a, .int .u16 1, .int .u8 0, .int .u8 0, .int .u32 n, .int .u16 77, .int .u8 0, .int .u8 1, .int .u32 0, .int .u16 6, .int .u8 0, .int .u8 0, .int .u32 1, .int .u16 6, .int .u8 0, .int .u8 0, .int .u32 2] 42)) fun e w' => e = .returned (.tuple #[.int .u32 1, .int .i64 m2, .int .i64 0]) ∧ Below (X.alloc (Obj.cells #[.int .u16 0, .int .u8 0, .int .u8 0, .int .u32 a, .int .u16 1, .int .u8 0, .int .u8 0, .int .u32 n, .int .u16 77, .int .u8 0, .int .u8 1, .int .u32 0, .int .u16 6, .int .u8 0, .int .u8 0, .int .u32 1, .int .u16 6, .int .u8 0, .int .u8 0, .int .u32 2] 42)).heap.size (X.alloc (Obj.cells #[.int .u16 0, .int .u8 0, .int .u8 0, .int .u32 a, .int .u16 1, .int .u8 0, .int .u8 0, .int .u32 n, .int .u16 77, .int .u8 0, .int .u8 1, .int .u32 0, .int .u16 6, .int .u8 0, .int .u8 0, .int .u32 1, .int .u16 6, .int .u8 0, .int .u8 0, .int .u32 2] 42)) w') := H2
  have hor := or8_69
  have hcond : (bits .and .u32 a n != 0) = true := hb
  clear ha hn hb
  go_enter Try.func8, Try.ntmps8
  go_wp2_with (first | (go_at_call 9; refine (HW.out _).mono ?_; rintro e w1 ⟨rfl, b1⟩))
  refine (H1.out _ _ (by simp) _).mono ?_
  rintro e w2 ⟨rfl, b2⟩
  have q1 : w2.cell? ⟨w1.heap.size, 3, none⟩ = some (.int .u16 69) := ((((blk_new w1 #[.int .u16 21, .int .u16 37, .int .u16 53, .int .u16 69] 40).alloc _).alloc _).over b2).cell 3
  have B2 : Hid (Below w.heap.size w w2) := by
    have z0 := b1.size
    have z1 := b1.alloc z0 (Obj.cells #[.int .u16 21, .int .u16 37, .int .u16 53, .int .u16 69] 40)
    refine Below.trans ?_ (b2.mono ?_)
    · exact (z1.alloc z1.size _).alloc (z1.alloc z1.size _).size _
    · exact ((z1.alloc z1.size _).alloc (z1.alloc z1.size _).size _).size
  clear b1 b2
  go_wp2_with fail
  refine (H2.out _ _ rfl _).mono ?_
  rintro e w3 ⟨rfl, b3⟩
  have z4 := B2.out.alloc B2.out.size (Obj.cells #[.int .u16 0, .int .u8 0, .int .u8 0, .int .u32 a, .int .u16 1, .int .u8 0, .int .u8 0, .int .u32 n, .int .u16 77, .int .u8 0, .int .u8 1, .int .u32 0, .int .u16 6, .int .u8 0, .int .u8 0, .int .u32 1, .int .u16 6, .int .u8 0, .int .u8 0, .int .u32 2] 42)
  clear q1
  go_wp2
  go_ret
  exact ⟨rfl, z4.trans (b3.mono z4.size)⟩

set_option maxHeartbeats 2000000 in
set_option maxRecDepth 4000 in
theorem holds_3_false (a n which : Int) (w : World) (ha : U32 a) (hn : U32 n) (h0 : 0 ≤ which) (hk : which.tmod 4 = 3) (hb : holdsV 69 a n = false) :
    Calls Try.prog 8 #[.int .u32 a, .int .u32 n, .int .i64 which] w fun e w' => e = .returned (.bool true) ∧ Below w.heap.size w w' := by
  have HW : Hid (∀ W : World, Calls Try.prog 9 #[] W fun e w' => e = .returned (.bool true) ∧ Below W.heap.size W w') := awake_any
  obtain ⟨m1, H1⟩ := holds_new [⟨0, 0, 0, a⟩, ⟨69, 0, 1, n⟩, ⟨6, 0, 0, 1⟩, ⟨6, 0, 0, 2⟩] (nr 0) (hfour_ok 69 a n (by decide) ha hn) (nr_ok 0 ⟨by decide, by decide⟩) (by show 4 ≤ 100; decide) 2 (hold_69_false a n hb)
  obtain ⟨m2, H2⟩ := holds_new [⟨0, 0, 0, a⟩, ⟨1, 0, 0, n⟩, ⟨77, 0, 1, 0⟩, ⟨6, 0, 0, 1⟩, ⟨6, 0, 0, 2⟩] (nr 0) (hfive_ok 77 a n (by decide) ha hn) (nr_ok 0 ⟨by decide, by decide⟩) (by show 5 ≤ 100; decide) 2 (holdX_69_false a n hb)
  replace H1 : Hid (∀ (X : World) (q : Nat), X.heap.size = q → ∀ cap : Nat, Calls Try.prog 10 #[.slice (some ⟨q, 0, none⟩) 4 cap, .agg #[.int .u32 0, .int .u32 0, .int .u64 0, .int .u64 0, .int .u64 0, .int .u64 0, .int .u64 0, .int .u64 0, .int .u64 0]] (X.alloc (Obj.cells #[.int .u16 0, .int .u8 0, .int .u8 0, .int .u32 a, .int .u16 69, .int .u8 0, .int .u8 1, .int .u32 n, .int .u16 6, .int .u8 0, .int .u8 0, .int .u32 1, .int .u16 6, .int .u8 0, .int .u8 0, .int .u32 2] 42)) fun e w' => e = .returned (.tuple #[.int .u32 2, .int .i64 m1, .int .i64 0]) ∧ Below (X.alloc (Obj.cells #[.int .u16 0, .int .u8 0, .int .u8 0, .int .u32 a, .int .u16 69, .int .u8 0, .int .u8 1, .int .u32 n, .int .u16 6, .int .u8 0, .int .u8 0, .int .u32 1, .int .u16 6, .int .u8 0, .int .u8 0, .int .u32 2] 42)).heap.size (X.alloc (Obj.cells #[.int .u16 0, .int .u8 0, .int .u8 0, .int .u32 a, .int .u16 69, .int .u8 0, .int .u8 1, .int .u32 n, .int .u16 6, .int .u8 0, .int .u8 0, .int .u32 1, .int .u16 6, .int .u8 0, .int .u8 0, .int .u32 2] 42)) w') := H1
  replace H2 : Hid (∀ (X : World) (q : Nat), X.heap.size = q → ∀ cap : Nat, Calls Try.prog 10 #[.slice (some ⟨q, 0, none⟩) 5 cap, .agg #[.int .u32 0, .int .u32 0, .int .u64 0, .int .u64 0, .int .u64 0, .int .u64 0, .int .u64 0, .int .u64 0, .int .u64 0]] (X.alloc (Obj.cells #[.int .u16 0, .int .u8 0, .int .u8 0, .int .u32 a, .int .u16 1, .int .u8 0, .int .u8 0, .int .u32 n, .int .u16 77, .int .u8 0, .int .u8 1, .int .u32 0, .int .u16 6, .int .u8 0, .int .u8 0, .int .u32 1, .int .u16 6, .int .u8 0, .int .u8 0, .int .u32 2] 42)) fun e w' => e = .returned (.tuple #[.int .u32 2, .int .i64 m2, .int .i64 0]) ∧ Below (X.alloc (Obj.cells #[.int .u16 0, .int .u8 0, .int .u8 0, .int .u32 a, .int .u16 1, .int .u8 0, .int .u8 0, .int .u32 n, .int .u16 77, .int .u8 0, .int .u8 1, .int .u32 0, .int .u16 6, .int .u8 0, .int .u8 0, .int .u32 1, .int .u16 6, .int .u8 0, .int .u8 0, .int .u32 2] 42)).heap.size (X.alloc (Obj.cells #[.int .u16 0, .int .u8 0, .int .u8 0, .int .u32 a, .int .u16 1, .int .u8 0, .int .u8 0, .int .u32 n, .int .u16 77, .int .u8 0, .int .u8 1, .int .u32 0, .int .u16 6, .int .u8 0, .int .u8 0, .int .u32 1, .int .u16 6, .int .u8 0, .int .u8 0, .int .u32 2] 42)) w') := H2
  have hor := or8_69
  have hcond : (bits .and .u32 a n != 0) = false := hb
  clear ha hn hb
  go_enter Try.func8, Try.ntmps8
  go_wp2_with (first | (go_at_call 9; refine (HW.out _).mono ?_; rintro e w1 ⟨rfl, b1⟩))
  refine (H1.out _ _ (by simp) _).mono ?_
  rintro e w2 ⟨rfl, b2⟩
  have q1 : w2.cell? ⟨w1.heap.size, 3, none⟩ = some (.int .u16 69) := ((((blk_new w1 #[.int .u16 21, .int .u16 37, .int .u16 53, .int .u16 69] 40).alloc _).alloc _).over b2).cell 3
  have B2 : Hid (Below w.heap.size w w2) := by
    have z0 := b1.size
    have z1 := b1.alloc z0 (Obj.cells #[.int .u16 21, .int .u16 37, .int .u16 53, .int .u16 69] 40)
    refine Below.trans ?_ (b2.mono ?_)
    · exact (z1.alloc z1.size _).alloc (z1.alloc z1.size _).size _
    · exact ((z1.alloc z1.size _).alloc (z1.alloc z1.size _).size _).size
  clear b1 b2
  go_wp2_with fail
  refine (H2.out _ _ rfl _).mono ?_
  rintro e w3 ⟨rfl, b3⟩
  have z4 := B2.out.alloc B2.out.size (Obj.cells #[.int .u16 0, .int .u8 0, .int .u8 0, .int .u32 a, .int .u16 1, .int .u8 0, .int .u8 0, .int .u32 n, .int .u16 77, .int .u8 0, .int .u8 1, .int .u32 0, .int .u16 6, .int .u8 0, .int .u8 0, .int .u32 1, .int .u16 6, .int .u8 0, .int .u8 0, .int .u32 2] 42)
  clear q1
  go_wp2
  go_ret
  exact ⟨rfl, z4.trans (b3.mono z4.size)⟩

set_option maxRecDepth 4000 in
theorem vmHolds_walk (a n which : Int) (w : World) (ha : U32 a) (hn : U32 n) :
    Calls Try.prog 8 #[.int .u32 a, .int .u32 n, .int .i64 which] w fun e w' => e = .returned (.bool true) ∧ Below w.heap.size w w' := by
  by_cases h0 : which < 0
  · have HW : Hid (∀ W : World, Calls Try.prog 9 #[] W fun e w' => e = .returned (.bool true) ∧ Below W.heap.size W w') := awake_any
    clear ha hn
    go_enter Try.func8, Try.ntmps8
    go_wp2_with (first | (go_at_call 9; refine (HW.out _).mono ?_; rintro e w1 ⟨rfl, b1⟩))
    go_ret
    have z1 := b1.alloc b1.size (Obj.cells #[.int .u16 21, .int .u16 37, .int .u16 53, .int .u16 69] 40)
    exact ⟨rfl, z1.alloc z1.size _⟩
  · have h1 : 0 ≤ which := by omega
    have e : which.tmod 4 = which % 4 := Int.tmod_eq_emod_of_nonneg h1
    rcases (by omega : which % 4 = 0 ∨ which % 4 = 1 ∨ which % 4 = 2 ∨ which % 4 = 3) with h | h | h | h
    · cases hb : holdsV 21 a n with
      | true => exact holds_0_true a n which w ha hn h1 (e.trans h) hb
      | false => exact holds_0_false a n which w ha hn h1 (e.trans h) hb
    · cases hb : holdsV 37 a n with
      | true => exact holds_1_true a n which w ha hn h1 (e.trans h) hb
      | false => exact holds_1_false a n which w ha hn h1 (e.trans h) hb
    · cases hb : holdsV 53 a n with
      | true => exact holds_2_true a n which w ha hn h1 (e.trans h) hb
      | false => exact holds_2_false a n which w ha hn h1 (e.trans h) hb
    · cases hb : holdsV 69 a n with
      | true => exact holds_3_true a n which w ha hn h1 (e.trans h) hb
      | false => exact holds_3_false a n which w ha hn h1 (e.trans h) hb

end Go.Proofs.Ytinjlneeafopoaa
