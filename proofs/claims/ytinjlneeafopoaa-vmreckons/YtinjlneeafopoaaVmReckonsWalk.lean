/-
  The law VmReckons, walked: true for all numbers.
-/
import Derived.Test.YtinjlneeafopoaaAwake
namespace Go.Proofs.Ytinjlneeafopoaa
open Go.RowKit

theorem three_ok (c a n : Int) (hc : 0 ≤ c ∧ c ≤ 65535) (ha : U32 a) (hn : U32 n) : ∀ x ∈ ([⟨0, 0, 0, a⟩, ⟨c, 0, 0, n⟩, ⟨22, 0, 0, 0⟩] : List In), x.ok := by
  intro x hx
  simp only [List.mem_cons, List.not_mem_nil, or_false] at hx
  unfold U32 at ha hn
  rcases hx with rfl | rfl | rfl <;> (unfold In.ok; dsimp only; omega)
theorem fourth_ok (c a n : Int) (hc : 0 ≤ c ∧ c ≤ 65535) (ha : U32 a) (hn : U32 n) : ∀ x ∈ ([⟨0, 0, 0, a⟩, ⟨1, 0, 0, n⟩, ⟨c, 0, 0, 0⟩, ⟨22, 0, 0, 0⟩] : List In), x.ok := by
  intro x hx
  simp only [List.mem_cons, List.not_mem_nil, or_false] at hx
  unfold U32 at ha hn
  rcases hx with rfl | rfl | rfl | rfl <;> (unfold In.ok; dsimp only; omega)

/-- Run of a program that was just made. -/
theorem run_new (l : List In) (d : Da) (hl : ∀ x ∈ l, x.ok) (hd : d.ok) (hm : l.length ≤ 100) (X : World) (q : Nat) (hq : X.heap.size = q) (cap : Nat) :
    Calls Try.prog 10 #[.slice (some ⟨q, 0, none⟩) l.length cap, d.val] (X.alloc (.cells (cellsI l).toArray 42)) fun e w' => RunTold (X.alloc (.cells (cellsI l).toArray 42)) w' e l d := by
  subst hq
  exact run_any _ l.length cap l d _ (by unfold maxLen; omega) (ins_new X l hl) hd

theorem reck_4 (a n : Int) : ansV [⟨0, 0, 0, a⟩, ⟨4, 0, 0, n⟩, ⟨22, 0, 0, 0⟩] (nr 0) = (a + n) % 4294967296 ∧ (plV [⟨0, 0, 0, a⟩, ⟨4, 0, 0, n⟩, ⟨22, 0, 0, 0⟩] (nr 0)).length = 3 ∧ errV [⟨0, 0, 0, a⟩, ⟨4, 0, 0, n⟩, ⟨22, 0, 0, 0⟩] = 0 := ⟨by kernel_rfl, by kernel_rfl, by kernel_rfl⟩
theorem reckX_4 (a n : Int) : ansV [⟨0, 0, 0, a⟩, ⟨1, 0, 0, n⟩, ⟨12, 0, 0, 0⟩, ⟨22, 0, 0, 0⟩] (nr 0) = (a + n) % 4294967296 ∧ (plV [⟨0, 0, 0, a⟩, ⟨1, 0, 0, n⟩, ⟨12, 0, 0, 0⟩, ⟨22, 0, 0, 0⟩] (nr 0)).length = 4 ∧ errV [⟨0, 0, 0, a⟩, ⟨1, 0, 0, n⟩, ⟨12, 0, 0, 0⟩, ⟨22, 0, 0, 0⟩] = 0 := ⟨by kernel_rfl, by kernel_rfl, by kernel_rfl⟩
theorem or8_4 : bits .or .u16 4 8 = 12 := by kernel_rfl
theorem reck_20 (a n : Int) : ansV [⟨0, 0, 0, a⟩, ⟨20, 0, 0, n⟩, ⟨22, 0, 0, 0⟩] (nr 0) = (a - n) % 4294967296 ∧ (plV [⟨0, 0, 0, a⟩, ⟨20, 0, 0, n⟩, ⟨22, 0, 0, 0⟩] (nr 0)).length = 3 ∧ errV [⟨0, 0, 0, a⟩, ⟨20, 0, 0, n⟩, ⟨22, 0, 0, 0⟩] = 0 := ⟨by kernel_rfl, by kernel_rfl, by kernel_rfl⟩
theorem reckX_20 (a n : Int) : ansV [⟨0, 0, 0, a⟩, ⟨1, 0, 0, n⟩, ⟨28, 0, 0, 0⟩, ⟨22, 0, 0, 0⟩] (nr 0) = (a - n) % 4294967296 ∧ (plV [⟨0, 0, 0, a⟩, ⟨1, 0, 0, n⟩, ⟨28, 0, 0, 0⟩, ⟨22, 0, 0, 0⟩] (nr 0)).length = 4 ∧ errV [⟨0, 0, 0, a⟩, ⟨1, 0, 0, n⟩, ⟨28, 0, 0, 0⟩, ⟨22, 0, 0, 0⟩] = 0 := ⟨by kernel_rfl, by kernel_rfl, by kernel_rfl⟩
theorem or8_20 : bits .or .u16 20 8 = 28 := by kernel_rfl
theorem reck_36 (a n : Int) : ansV [⟨0, 0, 0, a⟩, ⟨36, 0, 0, n⟩, ⟨22, 0, 0, 0⟩] (nr 0) = (a * n) % 4294967296 ∧ (plV [⟨0, 0, 0, a⟩, ⟨36, 0, 0, n⟩, ⟨22, 0, 0, 0⟩] (nr 0)).length = 3 ∧ errV [⟨0, 0, 0, a⟩, ⟨36, 0, 0, n⟩, ⟨22, 0, 0, 0⟩] = 0 := ⟨by kernel_rfl, by kernel_rfl, by kernel_rfl⟩
theorem reckX_36 (a n : Int) : ansV [⟨0, 0, 0, a⟩, ⟨1, 0, 0, n⟩, ⟨44, 0, 0, 0⟩, ⟨22, 0, 0, 0⟩] (nr 0) = (a * n) % 4294967296 ∧ (plV [⟨0, 0, 0, a⟩, ⟨1, 0, 0, n⟩, ⟨44, 0, 0, 0⟩, ⟨22, 0, 0, 0⟩] (nr 0)).length = 4 ∧ errV [⟨0, 0, 0, a⟩, ⟨1, 0, 0, n⟩, ⟨44, 0, 0, 0⟩, ⟨22, 0, 0, 0⟩] = 0 := ⟨by kernel_rfl, by kernel_rfl, by kernel_rfl⟩
theorem or8_36 : bits .or .u16 36 8 = 44 := by kernel_rfl
theorem reck_68 (a n : Int) : ansV [⟨0, 0, 0, a⟩, ⟨68, 0, 0, n⟩, ⟨22, 0, 0, 0⟩] (nr 0) = bits .or .u32 a n ∧ (plV [⟨0, 0, 0, a⟩, ⟨68, 0, 0, n⟩, ⟨22, 0, 0, 0⟩] (nr 0)).length = 3 ∧ errV [⟨0, 0, 0, a⟩, ⟨68, 0, 0, n⟩, ⟨22, 0, 0, 0⟩] = 0 := ⟨by kernel_rfl, by kernel_rfl, by kernel_rfl⟩
theorem reckX_68 (a n : Int) : ansV [⟨0, 0, 0, a⟩, ⟨1, 0, 0, n⟩, ⟨76, 0, 0, 0⟩, ⟨22, 0, 0, 0⟩] (nr 0) = bits .or .u32 a n ∧ (plV [⟨0, 0, 0, a⟩, ⟨1, 0, 0, n⟩, ⟨76, 0, 0, 0⟩, ⟨22, 0, 0, 0⟩] (nr 0)).length = 4 ∧ errV [⟨0, 0, 0, a⟩, ⟨1, 0, 0, n⟩, ⟨76, 0, 0, 0⟩, ⟨22, 0, 0, 0⟩] = 0 := ⟨by kernel_rfl, by kernel_rfl, by kernel_rfl⟩
theorem or8_68 : bits .or .u16 68 8 = 76 := by kernel_rfl
theorem reck_84 (a n : Int) : ansV [⟨0, 0, 0, a⟩, ⟨84, 0, 0, n⟩, ⟨22, 0, 0, 0⟩] (nr 0) = bits .and .u32 a n ∧ (plV [⟨0, 0, 0, a⟩, ⟨84, 0, 0, n⟩, ⟨22, 0, 0, 0⟩] (nr 0)).length = 3 ∧ errV [⟨0, 0, 0, a⟩, ⟨84, 0, 0, n⟩, ⟨22, 0, 0, 0⟩] = 0 := ⟨by kernel_rfl, by kernel_rfl, by kernel_rfl⟩
theorem reckX_84 (a n : Int) : ansV [⟨0, 0, 0, a⟩, ⟨1, 0, 0, n⟩, ⟨92, 0, 0, 0⟩, ⟨22, 0, 0, 0⟩] (nr 0) = bits .and .u32 a n ∧ (plV [⟨0, 0, 0, a⟩, ⟨1, 0, 0, n⟩, ⟨92, 0, 0, 0⟩, ⟨22, 0, 0, 0⟩] (nr 0)).length = 4 ∧ errV [⟨0, 0, 0, a⟩, ⟨1, 0, 0, n⟩, ⟨92, 0, 0, 0⟩, ⟨22, 0, 0, 0⟩] = 0 := ⟨by kernel_rfl, by kernel_rfl, by kernel_rfl⟩
theorem or8_84 : bits .or .u16 84 8 = 92 := by kernel_rfl
theorem reck_164 (a n : Int) : ansV [⟨0, 0, 0, a⟩, ⟨164, 0, 0, n⟩, ⟨22, 0, 0, 0⟩] (nr 0) = bits .xor .u32 a n ∧ (plV [⟨0, 0, 0, a⟩, ⟨164, 0, 0, n⟩, ⟨22, 0, 0, 0⟩] (nr 0)).length = 3 ∧ errV [⟨0, 0, 0, a⟩, ⟨164, 0, 0, n⟩, ⟨22, 0, 0, 0⟩] = 0 := ⟨by kernel_rfl, by kernel_rfl, by kernel_rfl⟩
theorem reckX_164 (a n : Int) : ansV [⟨0, 0, 0, a⟩, ⟨1, 0, 0, n⟩, ⟨172, 0, 0, 0⟩, ⟨22, 0, 0, 0⟩] (nr 0) = bits .xor .u32 a n ∧ (plV [⟨0, 0, 0, a⟩, ⟨1, 0, 0, n⟩, ⟨172, 0, 0, 0⟩, ⟨22, 0, 0, 0⟩] (nr 0)).length = 4 ∧ errV [⟨0, 0, 0, a⟩, ⟨1, 0, 0, n⟩, ⟨172, 0, 0, 0⟩, ⟨22, 0, 0, 0⟩] = 0 := ⟨by kernel_rfl, by kernel_rfl, by kernel_rfl⟩
theorem or8_164 : bits .or .u16 164 8 = 172 := by kernel_rfl

set_option maxHeartbeats 2000000 in
set_option maxRecDepth 4000 in
theorem reckons_0 (a n which : Int) (w : World) (ha : U32 a) (hn : U32 n) (h0 : 0 ≤ which) (hk : which.tmod 6 = 0) :
    Calls Try.prog 7 #[.int .u32 a, .int .u32 n, .int .i64 which] w fun e w' => e = .returned (.bool true) ∧ Below w.heap.size w w' := by
  have HW : Hid (∀ W : World, Calls Try.prog 9 #[] W fun e w' => e = .returned (.bool true) ∧ Below W.heap.size W w') := awake_any
  have H1 : Hid (∀ (X : World) (q : Nat), X.heap.size = q → Calls Try.prog 10 #[.slice (some ⟨q, 0, none⟩) 3 3, .agg #[.int .u32 0, .int .u32 0, .int .u64 0, .int .u64 0, .int .u64 0, .int .u64 0, .int .u64 0, .int .u64 0, .int .u64 0]] (X.alloc (Obj.cells #[.int .u16 0, .int .u8 0, .int .u8 0, .int .u32 a, .int .u16 4, .int .u8 0, .int .u8 0, .int .u32 n, .int .u16 22, .int .u8 0, .int .u8 0, .int .u32 0] 42)) fun e w' => e = .returned (.tuple #[.int .u32 ((a + n) % 4294967296), .int .i64 3, .int .i64 0]) ∧ Below (X.alloc (Obj.cells #[.int .u16 0, .int .u8 0, .int .u8 0, .int .u32 a, .int .u16 4, .int .u8 0, .int .u8 0, .int .u32 n, .int .u16 22, .int .u8 0, .int .u8 0, .int .u32 0] 42)).heap.size (X.alloc (Obj.cells #[.int .u16 0, .int .u8 0, .int .u8 0, .int .u32 a, .int .u16 4, .int .u8 0, .int .u8 0, .int .u32 n, .int .u16 22, .int .u8 0, .int .u8 0, .int .u32 0] 42)) w') := by
    intro X q hq
    refine (run_new [⟨0, 0, 0, a⟩, ⟨4, 0, 0, n⟩, ⟨22, 0, 0, 0⟩] (nr 0) (three_ok 4 a n (by decide) ha hn) (nr_ok 0 ⟨by decide, by decide⟩) (by show 3 ≤ 100; decide) X q hq 3).mono ?_
    rintro e w' ⟨rfl, hb⟩
    rw [(reck_4 a n).1, (reck_4 a n).2.1, (reck_4 a n).2.2]
    exact ⟨rfl, hb⟩
  have H2 : Hid (∀ (X : World) (q : Nat), X.heap.size = q → Calls Try.prog 10 #[.slice (some ⟨q, 0, none⟩) 4 4, .agg #[.int .u32 0, .int .u32 0, .int .u64 0, .int .u64 0, .int .u64 0, .int .u64 0, .int .u64 0, .int .u64 0, .int .u64 0]] (X.alloc (Obj.cells #[.int .u16 0, .int .u8 0, .int .u8 0, .int .u32 a, .int .u16 1, .int .u8 0, .int .u8 0, .int .u32 n, .int .u16 12, .int .u8 0, .int .u8 0, .int .u32 0, .int .u16 22, .int .u8 0, .int .u8 0, .int .u32 0] 42)) fun e w' => e = .returned (.tuple #[.int .u32 ((a + n) % 4294967296), .int .i64 4, .int .i64 0]) ∧ Below (X.alloc (Obj.cells #[.int .u16 0, .int .u8 0, .int .u8 0, .int .u32 a, .int .u16 1, .int .u8 0, .int .u8 0, .int .u32 n, .int .u16 12, .int .u8 0, .int .u8 0, .int .u32 0, .int .u16 22, .int .u8 0, .int .u8 0, .int .u32 0] 42)).heap.size (X.alloc (Obj.cells #[.int .u16 0, .int .u8 0, .int .u8 0, .int .u32 a, .int .u16 1, .int .u8 0, .int .u8 0, .int .u32 n, .int .u16 12, .int .u8 0, .int .u8 0, .int .u32 0, .int .u16 22, .int .u8 0, .int .u8 0, .int .u32 0] 42)) w') := by
    intro X q hq
    refine (run_new [⟨0, 0, 0, a⟩, ⟨1, 0, 0, n⟩, ⟨12, 0, 0, 0⟩, ⟨22, 0, 0, 0⟩] (nr 0) (fourth_ok 12 a n (by decide) ha hn) (nr_ok 0 ⟨by decide, by decide⟩) (by show 4 ≤ 100; decide) X q hq 4).mono ?_
    rintro e w' ⟨rfl, hb⟩
    rw [(reckX_4 a n).1, (reckX_4 a n).2.1, (reckX_4 a n).2.2]
    exact ⟨rfl, hb⟩
  have hor := or8_4
  clear ha hn
  go_enter Try.func7, Try.ntmps7
  go_wp2_with (first | (go_at_call 9; refine (HW.out _).mono ?_; rintro e w1 ⟨rfl, b1⟩))
  refine (H1.out _ _ (by simp)).mono ?_
  rintro e w2 ⟨rfl, b2⟩
  have q1 : w2.cell? ⟨w1.heap.size, 0, none⟩ = some (.int .u16 4) := ((((blk_new w1 #[.int .u16 4, .int .u16 20, .int .u16 36, .int .u16 68, .int .u16 84, .int .u16 164] 40).alloc _).alloc _).over b2).cell 0
  have K2 := ((blk_new' w1 (Obj.cells #[.int .u16 4, .int .u16 20, .int .u16 36, .int .u16 68, .int .u16 84, .int .u16 164] 40) #[.int .u32 ((a + n) % 4294967296), .int .u32 ((a - n) % 4294967296), .int .u32 (a * n % 4294967296), .int .u32 (bits .or .u32 a n), .int .u32 (bits .and .u32 a n), .int .u32 (bits .xor .u32 a n)] 23).alloc _).over b2
  have B2 : Hid (Below w.heap.size w w2) := by
    have z0 := b1.size
    have z1 := b1.alloc z0 (Obj.cells #[.int .u16 4, .int .u16 20, .int .u16 36, .int .u16 68, .int .u16 84, .int .u16 164] 40)
    have z2 := z1.alloc z1.size (Obj.cells #[.int .u32 ((a + n) % 4294967296), .int .u32 ((a - n) % 4294967296), .int .u32 (a * n % 4294967296), .int .u32 (bits .or .u32 a n), .int .u32 (bits .and .u32 a n), .int .u32 (bits .xor .u32 a n)] 23)
    have z3 := z2.alloc z2.size (Obj.cells #[.int .u16 0, .int .u8 0, .int .u8 0, .int .u32 a, .int .u16 4, .int .u8 0, .int .u8 0, .int .u32 n, .int .u16 22, .int .u8 0, .int .u8 0, .int .u32 0] 42)
    exact z3.trans (b2.mono z3.size)
  replace K2 : Hid (Blk w2 (w1.heap.size + 1) 23 [.int .u32 ((a + n) % 4294967296), .int .u32 ((a - n) % 4294967296), .int .u32 (a * n % 4294967296), .int .u32 (bits .or .u32 a n), .int .u32 (bits .and .u32 a n), .int .u32 (bits .xor .u32 a n)]) := K2
  clear b1 b2
  go_wp2_with fail
  refine (H2.out _ _ rfl).mono ?_
  rintro e w3 ⟨rfl, b3⟩
  have z4 := B2.out.alloc B2.out.size (Obj.cells #[.int .u16 0, .int .u8 0, .int .u8 0, .int .u32 a, .int .u16 1, .int .u8 0, .int .u8 0, .int .u32 n, .int .u16 12, .int .u8 0, .int .u8 0, .int .u32 0, .int .u16 22, .int .u8 0, .int .u8 0, .int .u32 0] 42)
  have q3 : w3.cell? ⟨w1.heap.size + 1, 0, none⟩ = some (.int .u32 ((a + n) % 4294967296)) := ((K2.out.alloc _).over b3).cell 0
  clear q1
  go_wp2
  go_ret
  exact ⟨rfl, z4.trans (b3.mono z4.size)⟩

set_option maxHeartbeats 2000000 in
set_option maxRecDepth 4000 in
theorem reckons_1 (a n which : Int) (w : World) (ha : U32 a) (hn : U32 n) (h0 : 0 ≤ which) (hk : which.tmod 6 = 1) :
    Calls Try.prog 7 #[.int .u32 a, .int .u32 n, .int .i64 which] w fun e w' => e = .returned (.bool true) ∧ Below w.heap.size w w' := by
  have HW : Hid (∀ W : World, Calls Try.prog 9 #[] W fun e w' => e = .returned (.bool true) ∧ Below W.heap.size W w') := awake_any
  have H1 : Hid (∀ (X : World) (q : Nat), X.heap.size = q → Calls Try.prog 10 #[.slice (some ⟨q, 0, none⟩) 3 3, .agg #[.int .u32 0, .int .u32 0, .int .u64 0, .int .u64 0, .int .u64 0, .int .u64 0, .int .u64 0, .int .u64 0, .int .u64 0]] (X.alloc (Obj.cells #[.int .u16 0, .int .u8 0, .int .u8 0, .int .u32 a, .int .u16 20, .int .u8 0, .int .u8 0, .int .u32 n, .int .u16 22, .int .u8 0, .int .u8 0, .int .u32 0] 42)) fun e w' => e = .returned (.tuple #[.int .u32 ((a - n) % 4294967296), .int .i64 3, .int .i64 0]) ∧ Below (X.alloc (Obj.cells #[.int .u16 0, .int .u8 0, .int .u8 0, .int .u32 a, .int .u16 20, .int .u8 0, .int .u8 0, .int .u32 n, .int .u16 22, .int .u8 0, .int .u8 0, .int .u32 0] 42)).heap.size (X.alloc (Obj.cells #[.int .u16 0, .int .u8 0, .int .u8 0, .int .u32 a, .int .u16 20, .int .u8 0, .int .u8 0, .int .u32 n, .int .u16 22, .int .u8 0, .int .u8 0, .int .u32 0] 42)) w') := by
    intro X q hq
    refine (run_new [⟨0, 0, 0, a⟩, ⟨20, 0, 0, n⟩, ⟨22, 0, 0, 0⟩] (nr 0) (three_ok 20 a n (by decide) ha hn) (nr_ok 0 ⟨by decide, by decide⟩) (by show 3 ≤ 100; decide) X q hq 3).mono ?_
    rintro e w' ⟨rfl, hb⟩
    rw [(reck_20 a n).1, (reck_20 a n).2.1, (reck_20 a n).2.2]
    exact ⟨rfl, hb⟩
  have H2 : Hid (∀ (X : World) (q : Nat), X.heap.size = q → Calls Try.prog 10 #[.slice (some ⟨q, 0, none⟩) 4 4, .agg #[.int .u32 0, .int .u32 0, .int .u64 0, .int .u64 0, .int .u64 0, .int .u64 0, .int .u64 0, .int .u64 0, .int .u64 0]] (X.alloc (Obj.cells #[.int .u16 0, .int .u8 0, .int .u8 0, .int .u32 a, .int .u16 1, .int .u8 0, .int .u8 0, .int .u32 n, .int .u16 28, .int .u8 0, .int .u8 0, .int .u32 0, .int .u16 22, .int .u8 0, .int .u8 0, .int .u32 0] 42)) fun e w' => e = .returned (.tuple #[.int .u32 ((a - n) % 4294967296), .int .i64 4, .int .i64 0]) ∧ Below (X.alloc (Obj.cells #[.int .u16 0, .int .u8 0, .int .u8 0, .int .u32 a, .int .u16 1, .int .u8 0, .int .u8 0, .int .u32 n, .int .u16 28, .int .u8 0, .int .u8 0, .int .u32 0, .int .u16 22, .int .u8 0, .int .u8 0, .int .u32 0] 42)).heap.size (X.alloc (Obj.cells #[.int .u16 0, .int .u8 0, .int .u8 0, .int .u32 a, .int .u16 1, .int .u8 0, .int .u8 0, .int .u32 n, .int .u16 28, .int .u8 0, .int .u8 0, .int .u32 0, .int .u16 22, .int .u8 0, .int .u8 0, .int .u32 0] 42)) w') := by
    intro X q hq
    refine (run_new [⟨0, 0, 0, a⟩, ⟨1, 0, 0, n⟩, ⟨28, 0, 0, 0⟩, ⟨22, 0, 0, 0⟩] (nr 0) (fourth_ok 28 a n (by decide) ha hn) (nr_ok 0 ⟨by decide, by decide⟩) (by show 4 ≤ 100; decide) X q hq 4).mono ?_
    rintro e w' ⟨rfl, hb⟩
    rw [(reckX_20 a n).1, (reckX_20 a n).2.1, (reckX_20 a n).2.2]
    exact ⟨rfl, hb⟩
  have hor := or8_20
  clear ha hn
  go_enter Try.func7, Try.ntmps7
  go_wp2_with (first | (go_at_call 9; refine (HW.out _).mono ?_; rintro e w1 ⟨rfl, b1⟩))
  refine (H1.out _ _ (by simp)).mono ?_
  rintro e w2 ⟨rfl, b2⟩
  have q1 : w2.cell? ⟨w1.heap.size, 1, none⟩ = some (.int .u16 20) := ((((blk_new w1 #[.int .u16 4, .int .u16 20, .int .u16 36, .int .u16 68, .int .u16 84, .int .u16 164] 40).alloc _).alloc _).over b2).cell 1
  have K2 := ((blk_new' w1 (Obj.cells #[.int .u16 4, .int .u16 20, .int .u16 36, .int .u16 68, .int .u16 84, .int .u16 164] 40) #[.int .u32 ((a + n) % 4294967296), .int .u32 ((a - n) % 4294967296), .int .u32 (a * n % 4294967296), .int .u32 (bits .or .u32 a n), .int .u32 (bits .and .u32 a n), .int .u32 (bits .xor .u32 a n)] 23).alloc _).over b2
  have B2 : Hid (Below w.heap.size w w2) := by
    have z0 := b1.size
    have z1 := b1.alloc z0 (Obj.cells #[.int .u16 4, .int .u16 20, .int .u16 36, .int .u16 68, .int .u16 84, .int .u16 164] 40)
    have z2 := z1.alloc z1.size (Obj.cells #[.int .u32 ((a + n) % 4294967296), .int .u32 ((a - n) % 4294967296), .int .u32 (a * n % 4294967296), .int .u32 (bits .or .u32 a n), .int .u32 (bits .and .u32 a n), .int .u32 (bits .xor .u32 a n)] 23)
    have z3 := z2.alloc z2.size (Obj.cells #[.int .u16 0, .int .u8 0, .int .u8 0, .int .u32 a, .int .u16 20, .int .u8 0, .int .u8 0, .int .u32 n, .int .u16 22, .int .u8 0, .int .u8 0, .int .u32 0] 42)
    exact z3.trans (b2.mono z3.size)
  replace K2 : Hid (Blk w2 (w1.heap.size + 1) 23 [.int .u32 ((a + n) % 4294967296), .int .u32 ((a - n) % 4294967296), .int .u32 (a * n % 4294967296), .int .u32 (bits .or .u32 a n), .int .u32 (bits .and .u32 a n), .int .u32 (bits .xor .u32 a n)]) := K2
  clear b1 b2
  go_wp2_with fail
  refine (H2.out _ _ rfl).mono ?_
  rintro e w3 ⟨rfl, b3⟩
  have z4 := B2.out.alloc B2.out.size (Obj.cells #[.int .u16 0, .int .u8 0, .int .u8 0, .int .u32 a, .int .u16 1, .int .u8 0, .int .u8 0, .int .u32 n, .int .u16 28, .int .u8 0, .int .u8 0, .int .u32 0, .int .u16 22, .int .u8 0, .int .u8 0, .int .u32 0] 42)
  have q3 : w3.cell? ⟨w1.heap.size + 1, 1, none⟩ = some (.int .u32 ((a - n) % 4294967296)) := ((K2.out.alloc _).over b3).cell 1
  clear q1
  go_wp2
  go_ret
  exact ⟨rfl, z4.trans (b3.mono z4.size)⟩

set_option maxHeartbeats 2000000 in
set_option maxRecDepth 4000 in
theorem reckons_2 (a n which : Int) (w : World) (ha : U32 a) (hn : U32 n) (h0 : 0 ≤ which) (hk : which.tmod 6 = 2) :
    Calls Try.prog 7 #[.int .u32 a, .int .u32 n, .int .i64 which] w fun e w' => e = .returned (.bool true) ∧ Below w.heap.size w w' := by
  have HW : Hid (∀ W : World, Calls Try.prog 9 #[] W fun e w' => e = .returned (.bool true) ∧ Below W.heap.size W w') := awake_any
  have H1 : Hid (∀ (X : World) (q : Nat), X.heap.size = q → Calls Try.prog 10 #[.slice (some ⟨q, 0, none⟩) 3 3, .agg #[.int .u32 0, .int .u32 0, .int .u64 0, .int .u64 0, .int .u64 0, .int .u64 0, .int .u64 0, .int .u64 0, .int .u64 0]] (X.alloc (Obj.cells #[.int .u16 0, .int .u8 0, .int .u8 0, .int .u32 a, .int .u16 36, .int .u8 0, .int .u8 0, .int .u32 n, .int .u16 22, .int .u8 0, .int .u8 0, .int .u32 0] 42)) fun e w' => e = .returned (.tuple #[.int .u32 ((a * n) % 4294967296), .int .i64 3, .int .i64 0]) ∧ Below (X.alloc (Obj.cells #[.int .u16 0, .int .u8 0, .int .u8 0, .int .u32 a, .int .u16 36, .int .u8 0, .int .u8 0, .int .u32 n, .int .u16 22, .int .u8 0, .int .u8 0, .int .u32 0] 42)).heap.size (X.alloc (Obj.cells #[.int .u16 0, .int .u8 0, .int .u8 0, .int .u32 a, .int .u16 36, .int .u8 0, .int .u8 0, .int .u32 n, .int .u16 22, .int .u8 0, .int .u8 0, .int .u32 0] 42)) w') := by
    intro X q hq
    refine (run_new [⟨0, 0, 0, a⟩, ⟨36, 0, 0, n⟩, ⟨22, 0, 0, 0⟩] (nr 0) (three_ok 36 a n (by decide) ha hn) (nr_ok 0 ⟨by decide, by decide⟩) (by show 3 ≤ 100; decide) X q hq 3).mono ?_
    rintro e w' ⟨rfl, hb⟩
    rw [(reck_36 a n).1, (reck_36 a n).2.1, (reck_36 a n).2.2]
    exact ⟨rfl, hb⟩
  have H2 : Hid (∀ (X : World) (q : Nat), X.heap.size = q → Calls Try.prog 10 #[.slice (some ⟨q, 0, none⟩) 4 4, .agg #[.int .u32 0, .int .u32 0, .int .u64 0, .int .u64 0, .int .u64 0, .int .u64 0, .int .u64 0, .int .u64 0, .int .u64 0]] (X.alloc (Obj.cells #[.int .u16 0, .int .u8 0, .int .u8 0, .int .u32 a, .int .u16 1, .int .u8 0, .int .u8 0, .int .u32 n, .int .u16 44, .int .u8 0, .int .u8 0, .int .u32 0, .int .u16 22, .int .u8 0, .int .u8 0, .int .u32 0] 42)) fun e w' => e = .returned (.tuple #[.int .u32 ((a * n) % 4294967296), .int .i64 4, .int .i64 0]) ∧ Below (X.alloc (Obj.cells #[.int .u16 0, .int .u8 0, .int .u8 0, .int .u32 a, .int .u16 1, .int .u8 0, .int .u8 0, .int .u32 n, .int .u16 44, .int .u8 0, .int .u8 0, .int .u32 0, .int .u16 22, .int .u8 0, .int .u8 0, .int .u32 0] 42)).heap.size (X.alloc (Obj.cells #[.int .u16 0, .int .u8 0, .int .u8 0, .int .u32 a, .int .u16 1, .int .u8 0, .int .u8 0, .int .u32 n, .int .u16 44, .int .u8 0, .int .u8 0, .int .u32 0, .int .u16 22, .int .u8 0, .int .u8 0, .int .u32 0] 42)) w') := by
    intro X q hq
    refine (run_new [⟨0, 0, 0, a⟩, ⟨1, 0, 0, n⟩, ⟨44, 0, 0, 0⟩, ⟨22, 0, 0, 0⟩] (nr 0) (fourth_ok 44 a n (by decide) ha hn) (nr_ok 0 ⟨by decide, by decide⟩) (by show 4 ≤ 100; decide) X q hq 4).mono ?_
    rintro e w' ⟨rfl, hb⟩
    rw [(reckX_36 a n).1, (reckX_36 a n).2.1, (reckX_36 a n).2.2]
    exact ⟨rfl, hb⟩
  have hor := or8_36
  clear ha hn
  go_enter Try.func7, Try.ntmps7
  go_wp2_with (first | (go_at_call 9; refine (HW.out _).mono ?_; rintro e w1 ⟨rfl, b1⟩))
  refine (H1.out _ _ (by simp)).mono ?_
  rintro e w2 ⟨rfl, b2⟩
  have q1 : w2.cell? ⟨w1.heap.size, 2, none⟩ = some (.int .u16 36) := ((((blk_new w1 #[.int .u16 4, .int .u16 20, .int .u16 36, .int .u16 68, .int .u16 84, .int .u16 164] 40).alloc _).alloc _).over b2).cell 2
  have K2 := ((blk_new' w1 (Obj.cells #[.int .u16 4, .int .u16 20, .int .u16 36, .int .u16 68, .int .u16 84, .int .u16 164] 40) #[.int .u32 ((a + n) % 4294967296), .int .u32 ((a - n) % 4294967296), .int .u32 (a * n % 4294967296), .int .u32 (bits .or .u32 a n), .int .u32 (bits .and .u32 a n), .int .u32 (bits .xor .u32 a n)] 23).alloc _).over b2
  have B2 : Hid (Below w.heap.size w w2) := by
    have z0 := b1.size
    have z1 := b1.alloc z0 (Obj.cells #[.int .u16 4, .int .u16 20, .int .u16 36, .int .u16 68, .int .u16 84, .int .u16 164] 40)
    have z2 := z1.alloc z1.size (Obj.cells #[.int .u32 ((a + n) % 4294967296), .int .u32 ((a - n) % 4294967296), .int .u32 (a * n % 4294967296), .int .u32 (bits .or .u32 a n), .int .u32 (bits .and .u32 a n), .int .u32 (bits .xor .u32 a n)] 23)
    have z3 := z2.alloc z2.size (Obj.cells #[.int .u16 0, .int .u8 0, .int .u8 0, .int .u32 a, .int .u16 36, .int .u8 0, .int .u8 0, .int .u32 n, .int .u16 22, .int .u8 0, .int .u8 0, .int .u32 0] 42)
    exact z3.trans (b2.mono z3.size)
  replace K2 : Hid (Blk w2 (w1.heap.size + 1) 23 [.int .u32 ((a + n) % 4294967296), .int .u32 ((a - n) % 4294967296), .int .u32 (a * n % 4294967296), .int .u32 (bits .or .u32 a n), .int .u32 (bits .and .u32 a n), .int .u32 (bits .xor .u32 a n)]) := K2
  clear b1 b2
  go_wp2_with fail
  refine (H2.out _ _ rfl).mono ?_
  rintro e w3 ⟨rfl, b3⟩
  have z4 := B2.out.alloc B2.out.size (Obj.cells #[.int .u16 0, .int .u8 0, .int .u8 0, .int .u32 a, .int .u16 1, .int .u8 0, .int .u8 0, .int .u32 n, .int .u16 44, .int .u8 0, .int .u8 0, .int .u32 0, .int .u16 22, .int .u8 0, .int .u8 0, .int .u32 0] 42)
  have q3 : w3.cell? ⟨w1.heap.size + 1, 2, none⟩ = some (.int .u32 ((a * n) % 4294967296)) := ((K2.out.alloc _).over b3).cell 2
  clear q1
  go_wp2
  go_ret
  exact ⟨rfl, z4.trans (b3.mono z4.size)⟩

set_option maxHeartbeats 2000000 in
set_option maxRecDepth 4000 in
theorem reckons_3 (a n which : Int) (w : World) (ha : U32 a) (hn : U32 n) (h0 : 0 ≤ which) (hk : which.tmod 6 = 3) :
    Calls Try.prog 7 #[.int .u32 a, .int .u32 n, .int .i64 which] w fun e w' => e = .returned (.bool true) ∧ Below w.heap.size w w' := by
  have HW : Hid (∀ W : World, Calls Try.prog 9 #[] W fun e w' => e = .returned (.bool true) ∧ Below W.heap.size W w') := awake_any
  have H1 : Hid (∀ (X : World) (q : Nat), X.heap.size = q → Calls Try.prog 10 #[.slice (some ⟨q, 0, none⟩) 3 3, .agg #[.int .u32 0, .int .u32 0, .int .u64 0, .int .u64 0, .int .u64 0, .int .u64 0, .int .u64 0, .int .u64 0, .int .u64 0]] (X.alloc (Obj.cells #[.int .u16 0, .int .u8 0, .int .u8 0, .int .u32 a, .int .u16 68, .int .u8 0, .int .u8 0, .int .u32 n, .int .u16 22, .int .u8 0, .int .u8 0, .int .u32 0] 42)) fun e w' => e = .returned (.tuple #[.int .u32 (bits .or .u32 a n), .int .i64 3, .int .i64 0]) ∧ Below (X.alloc (Obj.cells #[.int .u16 0, .int .u8 0, .int .u8 0, .int .u32 a, .int .u16 68, .int .u8 0, .int .u8 0, .int .u32 n, .int .u16 22, .int .u8 0, .int .u8 0, .int .u32 0] 42)).heap.size (X.alloc (Obj.cells #[.int .u16 0, .int .u8 0, .int .u8 0, .int .u32 a, .int .u16 68, .int .u8 0, .int .u8 0, .int .u32 n, .int .u16 22, .int .u8 0, .int .u8 0, .int .u32 0] 42)) w') := by
    intro X q hq
    refine (run_new [⟨0, 0, 0, a⟩, ⟨68, 0, 0, n⟩, ⟨22, 0, 0, 0⟩] (nr 0) (three_ok 68 a n (by decide) ha hn) (nr_ok 0 ⟨by decide, by decide⟩) (by show 3 ≤ 100; decide) X q hq 3).mono ?_
    rintro e w' ⟨rfl, hb⟩
    rw [(reck_68 a n).1, (reck_68 a n).2.1, (reck_68 a n).2.2]
    exact ⟨rfl, hb⟩
  have H2 : Hid (∀ (X : World) (q : Nat), X.heap.size = q → Calls Try.prog 10 #[.slice (some ⟨q, 0, none⟩) 4 4, .agg #[.int .u32 0, .int .u32 0, .int .u64 0, .int .u64 0, .int .u64 0, .int .u64 0, .int .u64 0, .int .u64 0, .int .u64 0]] (X.alloc (Obj.cells #[.int .u16 0, .int .u8 0, .int .u8 0, .int .u32 a, .int .u16 1, .int .u8 0, .int .u8 0, .int .u32 n, .int .u16 76, .int .u8 0, .int .u8 0, .int .u32 0, .int .u16 22, .int .u8 0, .int .u8 0, .int .u32 0] 42)) fun e w' => e = .returned (.tuple #[.int .u32 (bits .or .u32 a n), .int .i64 4, .int .i64 0]) ∧ Below (X.alloc (Obj.cells #[.int .u16 0, .int .u8 0, .int .u8 0, .int .u32 a, .int .u16 1, .int .u8 0, .int .u8 0, .int .u32 n, .int .u16 76, .int .u8 0, .int .u8 0, .int .u32 0, .int .u16 22, .int .u8 0, .int .u8 0, .int .u32 0] 42)).heap.size (X.alloc (Obj.cells #[.int .u16 0, .int .u8 0, .int .u8 0, .int .u32 a, .int .u16 1, .int .u8 0, .int .u8 0, .int .u32 n, .int .u16 76, .int .u8 0, .int .u8 0, .int .u32 0, .int .u16 22, .int .u8 0, .int .u8 0, .int .u32 0] 42)) w') := by
    intro X q hq
    refine (run_new [⟨0, 0, 0, a⟩, ⟨1, 0, 0, n⟩, ⟨76, 0, 0, 0⟩, ⟨22, 0, 0, 0⟩] (nr 0) (fourth_ok 76 a n (by decide) ha hn) (nr_ok 0 ⟨by decide, by decide⟩) (by show 4 ≤ 100; decide) X q hq 4).mono ?_
    rintro e w' ⟨rfl, hb⟩
    rw [(reckX_68 a n).1, (reckX_68 a n).2.1, (reckX_68 a n).2.2]
    exact ⟨rfl, hb⟩
  have hor := or8_68
  clear ha hn
  go_enter Try.func7, Try.ntmps7
  go_wp2_with (first | (go_at_call 9; refine (HW.out _).mono ?_; rintro e w1 ⟨rfl, b1⟩))
  refine (H1.out _ _ (by simp)).mono ?_
  rintro e w2 ⟨rfl, b2⟩
  have q1 : w2.cell? ⟨w1.heap.size, 3, none⟩ = some (.int .u16 68) := ((((blk_new w1 #[.int .u16 4, .int .u16 20, .int .u16 36, .int .u16 68, .int .u16 84, .int .u16 164] 40).alloc _).alloc _).over b2).cell 3
  have K2 := ((blk_new' w1 (Obj.cells #[.int .u16 4, .int .u16 20, .int .u16 36, .int .u16 68, .int .u16 84, .int .u16 164] 40) #[.int .u32 ((a + n) % 4294967296), .int .u32 ((a - n) % 4294967296), .int .u32 (a * n % 4294967296), .int .u32 (bits .or .u32 a n), .int .u32 (bits .and .u32 a n), .int .u32 (bits .xor .u32 a n)] 23).alloc _).over b2
  have B2 : Hid (Below w.heap.size w w2) := by
    have z0 := b1.size
    have z1 := b1.alloc z0 (Obj.cells #[.int .u16 4, .int .u16 20, .int .u16 36, .int .u16 68, .int .u16 84, .int .u16 164] 40)
    have z2 := z1.alloc z1.size (Obj.cells #[.int .u32 ((a + n) % 4294967296), .int .u32 ((a - n) % 4294967296), .int .u32 (a * n % 4294967296), .int .u32 (bits .or .u32 a n), .int .u32 (bits .and .u32 a n), .int .u32 (bits .xor .u32 a n)] 23)
    have z3 := z2.alloc z2.size (Obj.cells #[.int .u16 0, .int .u8 0, .int .u8 0, .int .u32 a, .int .u16 68, .int .u8 0, .int .u8 0, .int .u32 n, .int .u16 22, .int .u8 0, .int .u8 0, .int .u32 0] 42)
    exact z3.trans (b2.mono z3.size)
  replace K2 : Hid (Blk w2 (w1.heap.size + 1) 23 [.int .u32 ((a + n) % 4294967296), .int .u32 ((a - n) % 4294967296), .int .u32 (a * n % 4294967296), .int .u32 (bits .or .u32 a n), .int .u32 (bits .and .u32 a n), .int .u32 (bits .xor .u32 a n)]) := K2
  clear b1 b2
  go_wp2_with fail
  refine (H2.out _ _ rfl).mono ?_
  rintro e w3 ⟨rfl, b3⟩
  have z4 := B2.out.alloc B2.out.size (Obj.cells #[.int .u16 0, .int .u8 0, .int .u8 0, .int .u32 a, .int .u16 1, .int .u8 0, .int .u8 0, .int .u32 n, .int .u16 76, .int .u8 0, .int .u8 0, .int .u32 0, .int .u16 22, .int .u8 0, .int .u8 0, .int .u32 0] 42)
  have q3 : w3.cell? ⟨w1.heap.size + 1, 3, none⟩ = some (.int .u32 (bits .or .u32 a n)) := ((K2.out.alloc _).over b3).cell 3
  clear q1
  go_wp2
  go_ret
  exact ⟨rfl, z4.trans (b3.mono z4.size)⟩

set_option maxHeartbeats 2000000 in
set_option maxRecDepth 4000 in
theorem reckons_4 (a n which : Int) (w : World) (ha : U32 a) (hn : U32 n) (h0 : 0 ≤ which) (hk : which.tmod 6 = 4) :
    Calls Try.prog 7 #[.int .u32 a, .int .u32 n, .int .i64 which] w fun e w' => e = .returned (.bool true) ∧ Below w.heap.size w w' := by
  have HW : Hid (∀ W : World, Calls Try.prog 9 #[] W fun e w' => e = .returned (.bool true) ∧ Below W.heap.size W w') := awake_any
  have H1 : Hid (∀ (X : World) (q : Nat), X.heap.size = q → Calls Try.prog 10 #[.slice (some ⟨q, 0, none⟩) 3 3, .agg #[.int .u32 0, .int .u32 0, .int .u64 0, .int .u64 0, .int .u64 0, .int .u64 0, .int .u64 0, .int .u64 0, .int .u64 0]] (X.alloc (Obj.cells #[.int .u16 0, .int .u8 0, .int .u8 0, .int .u32 a, .int .u16 84, .int .u8 0, .int .u8 0, .int .u32 n, .int .u16 22, .int .u8 0, .int .u8 0, .int .u32 0] 42)) fun e w' => e = .returned (.tuple #[.int .u32 (bits .and .u32 a n), .int .i64 3, .int .i64 0]) ∧ Below (X.alloc (Obj.cells #[.int .u16 0, .int .u8 0, .int .u8 0, .int .u32 a, .int .u16 84, .int .u8 0, .int .u8 0, .int .u32 n, .int .u16 22, .int .u8 0, .int .u8 0, .int .u32 0] 42)).heap.size (X.alloc (Obj.cells #[.int .u16 0, .int .u8 0, .int .u8 0, .int .u32 a, .int .u16 84, .int .u8 0, .int .u8 0, .int .u32 n, .int .u16 22, .int .u8 0, .int .u8 0, .int .u32 0] 42)) w') := by
    intro X q hq
    refine (run_new [⟨0, 0, 0, a⟩, ⟨84, 0, 0, n⟩, ⟨22, 0, 0, 0⟩] (nr 0) (three_ok 84 a n (by decide) ha hn) (nr_ok 0 ⟨by decide, by decide⟩) (by show 3 ≤ 100; decide) X q hq 3).mono ?_
    rintro e w' ⟨rfl, hb⟩
    rw [(reck_84 a n).1, (reck_84 a n).2.1, (reck_84 a n).2.2]
    exact ⟨rfl, hb⟩
  have H2 : Hid (∀ (X : World) (q : Nat), X.heap.size = q → Calls Try.prog 10 #[.slice (some ⟨q, 0, none⟩) 4 4, .agg #[.int .u32 0, .int .u32 0, .int .u64 0, .int .u64 0, .int .u64 0, .int .u64 0, .int .u64 0, .int .u64 0, .int .u64 0]] (X.alloc (Obj.cells #[.int .u16 0, .int .u8 0, .int .u8 0, .int .u32 a, .int .u16 1, .int .u8 0, .int .u8 0, .int .u32 n, .int .u16 92, .int .u8 0, .int .u8 0, .int .u32 0, .int .u16 22, .int .u8 0, .int .u8 0, .int .u32 0] 42)) fun e w' => e = .returned (.tuple #[.int .u32 (bits .and .u32 a n), .int .i64 4, .int .i64 0]) ∧ Below (X.alloc (Obj.cells #[.int .u16 0, .int .u8 0, .int .u8 0, .int .u32 a, .int .u16 1, .int .u8 0, .int .u8 0, .int .u32 n, .int .u16 92, .int .u8 0, .int .u8 0, .int .u32 0, .int .u16 22, .int .u8 0, .int .u8 0, .int .u32 0] 42)).heap.size (X.alloc (Obj.cells #[.int .u16 0, .int .u8 0, .int .u8 0, .int .u32 a, .int .u16 1, .int .u8 0, .int .u8 0, .int .u32 n, .int .u16 92, .int .u8 0, .int .u8 0, .int .u32 0, .int .u16 22, .int .u8 0, .int .u8 0, .int .u32 0] 42)) w') := by
    intro X q hq
    refine (run_new [⟨0, 0, 0, a⟩, ⟨1, 0, 0, n⟩, ⟨92, 0, 0, 0⟩, ⟨22, 0, 0, 0⟩] (nr 0) (fourth_ok 92 a n (by decide) ha hn) (nr_ok 0 ⟨by decide, by decide⟩) (by show 4 ≤ 100; decide) X q hq 4).mono ?_
    rintro e w' ⟨rfl, hb⟩
    rw [(reckX_84 a n).1, (reckX_84 a n).2.1, (reckX_84 a n).2.2]
    exact ⟨rfl, hb⟩
  have hor := or8_84
  clear ha hn
  go_enter Try.func7, Try.ntmps7
  go_wp2_with (first | (go_at_call 9; refine (HW.out _).mono ?_; rintro e w1 ⟨rfl, b1⟩))
  refine (H1.out _ _ (by simp)).mono ?_
  rintro e w2 ⟨rfl, b2⟩
  have q1 : w2.cell? ⟨w1.heap.size, 4, none⟩ = some (.int .u16 84) := ((((blk_new w1 #[.int .u16 4, .int .u16 20, .int .u16 36, .int .u16 68, .int .u16 84, .int .u16 164] 40).alloc _).alloc _).over b2).cell 4
  have K2 := ((blk_new' w1 (Obj.cells #[.int .u16 4, .int .u16 20, .int .u16 36, .int .u16 68, .int .u16 84, .int .u16 164] 40) #[.int .u32 ((a + n) % 4294967296), .int .u32 ((a - n) % 4294967296), .int .u32 (a * n % 4294967296), .int .u32 (bits .or .u32 a n), .int .u32 (bits .and .u32 a n), .int .u32 (bits .xor .u32 a n)] 23).alloc _).over b2
  have B2 : Hid (Below w.heap.size w w2) := by
    have z0 := b1.size
    have z1 := b1.alloc z0 (Obj.cells #[.int .u16 4, .int .u16 20, .int .u16 36, .int .u16 68, .int .u16 84, .int .u16 164] 40)
    have z2 := z1.alloc z1.size (Obj.cells #[.int .u32 ((a + n) % 4294967296), .int .u32 ((a - n) % 4294967296), .int .u32 (a * n % 4294967296), .int .u32 (bits .or .u32 a n), .int .u32 (bits .and .u32 a n), .int .u32 (bits .xor .u32 a n)] 23)
    have z3 := z2.alloc z2.size (Obj.cells #[.int .u16 0, .int .u8 0, .int .u8 0, .int .u32 a, .int .u16 84, .int .u8 0, .int .u8 0, .int .u32 n, .int .u16 22, .int .u8 0, .int .u8 0, .int .u32 0] 42)
    exact z3.trans (b2.mono z3.size)
  replace K2 : Hid (Blk w2 (w1.heap.size + 1) 23 [.int .u32 ((a + n) % 4294967296), .int .u32 ((a - n) % 4294967296), .int .u32 (a * n % 4294967296), .int .u32 (bits .or .u32 a n), .int .u32 (bits .and .u32 a n), .int .u32 (bits .xor .u32 a n)]) := K2
  clear b1 b2
  go_wp2_with fail
  refine (H2.out _ _ rfl).mono ?_
  rintro e w3 ⟨rfl, b3⟩
  have z4 := B2.out.alloc B2.out.size (Obj.cells #[.int .u16 0, .int .u8 0, .int .u8 0, .int .u32 a, .int .u16 1, .int .u8 0, .int .u8 0, .int .u32 n, .int .u16 92, .int .u8 0, .int .u8 0, .int .u32 0, .int .u16 22, .int .u8 0, .int .u8 0, .int .u32 0] 42)
  have q3 : w3.cell? ⟨w1.heap.size + 1, 4, none⟩ = some (.int .u32 (bits .and .u32 a n)) := ((K2.out.alloc _).over b3).cell 4
  clear q1
  go_wp2
  go_ret
  exact ⟨rfl, z4.trans (b3.mono z4.size)⟩

set_option maxHeartbeats 2000000 in
set_option maxRecDepth 4000 in
theorem reckons_5 (a n which : Int) (w : World) (ha : U32 a) (hn : U32 n) (h0 : 0 ≤ which) (hk : which.tmod 6 = 5) :
    Calls Try.prog 7 #[.int .u32 a, .int .u32 n, .int .i64 which] w fun e w' => e = .returned (.bool true) ∧ Below w.heap.size w w' := by
  have HW : Hid (∀ W : World, Calls Try.prog 9 #[] W fun e w' => e = .returned (.bool true) ∧ Below W.heap.size W w') := awake_any
  have H1 : Hid (∀ (X : World) (q : Nat), X.heap.size = q → Calls Try.prog 10 #[.slice (some ⟨q, 0, none⟩) 3 3, .agg #[.int .u32 0, .int .u32 0, .int .u64 0, .int .u64 0, .int .u64 0, .int .u64 0, .int .u64 0, .int .u64 0, .int .u64 0]] (X.alloc (Obj.cells #[.int .u16 0, .int .u8 0, .int .u8 0, .int .u32 a, .int .u16 164, .int .u8 0, .int .u8 0, .int .u32 n, .int .u16 22, .int .u8 0, .int .u8 0, .int .u32 0] 42)) fun e w' => e = .returned (.tuple #[.int .u32 (bits .xor .u32 a n), .int .i64 3, .int .i64 0]) ∧ Below (X.alloc (Obj.cells #[.int .u16 0, .int .u8 0, .int .u8 0, .int .u32 a, .int .u16 164, .int .u8 0, .int .u8 0, .int .u32 n, .int .u16 22, .int .u8 0, .int .u8 0, .int .u32 0] 42)).heap.size (X.alloc (Obj.cells #[.int .u16 0, .int .u8 0, .int .u8 0, .int .u32 a, .int .u16 164, .int .u8 0, .int .u8 0, .int .u32 n, .int .u16 22, .int .u8 0, .int .u8 0, .int .u32 0] 42)) w') := by
    intro X q hq
    refine (run_new [⟨0, 0, 0, a⟩, ⟨164, 0, 0, n⟩, ⟨22, 0, 0, 0⟩] (nr 0) (three_ok 164 a n (by decide) ha hn) (nr_ok 0 ⟨by decide, by decide⟩) (by show 3 ≤ 100; decide) X q hq 3).mono ?_
    rintro e w' ⟨rfl, hb⟩
    rw [(reck_164 a n).1, (reck_164 a n).2.1, (reck_164 a n).2.2]
    exact ⟨rfl, hb⟩
  have H2 : Hid (∀ (X : World) (q : Nat), X.heap.size = q → Calls Try.prog 10 #[.slice (some ⟨q, 0, none⟩) 4 4, .agg #[.int .u32 0, .int .u32 0, .int .u64 0, .int .u64 0, .int .u64 0, .int .u64 0, .int .u64 0, .int .u64 0, .int .u64 0]] (X.alloc (Obj.cells #[.int .u16 0, .int .u8 0, .int .u8 0, .int .u32 a, .int .u16 1, .int .u8 0, .int .u8 0, .int .u32 n, .int .u16 172, .int .u8 0, .int .u8 0, .int .u32 0, .int .u16 22, .int .u8 0, .int .u8 0, .int .u32 0] 42)) fun e w' => e = .returned (.tuple #[.int .u32 (bits .xor .u32 a n), .int .i64 4, .int .i64 0]) ∧ Below (X.alloc (Obj.cells #[.int .u16 0, .int .u8 0, .int .u8 0, .int .u32 a, .int .u16 1, .int .u8 0, .int .u8 0, .int .u32 n, .int .u16 172, .int .u8 0, .int .u8 0, .int .u32 0, .int .u16 22, .int .u8 0, .int .u8 0, .int .u32 0] 42)).heap.size (X.alloc (Obj.cells #[.int .u16 0, .int .u8 0, .int .u8 0, .int .u32 a, .int .u16 1, .int .u8 0, .int .u8 0, .int .u32 n, .int .u16 172, .int .u8 0, .int .u8 0, .int .u32 0, .int .u16 22, .int .u8 0, .int .u8 0, .int .u32 0] 42)) w') := by
    intro X q hq
    refine (run_new [⟨0, 0, 0, a⟩, ⟨1, 0, 0, n⟩, ⟨172, 0, 0, 0⟩, ⟨22, 0, 0, 0⟩] (nr 0) (fourth_ok 172 a n (by decide) ha hn) (nr_ok 0 ⟨by decide, by decide⟩) (by show 4 ≤ 100; decide) X q hq 4).mono ?_
    rintro e w' ⟨rfl, hb⟩
    rw [(reckX_164 a n).1, (reckX_164 a n).2.1, (reckX_164 a n).2.2]
    exact ⟨rfl, hb⟩
  have hor := or8_164
  clear ha hn
  go_enter Try.func7, Try.ntmps7
  go_wp2_with (first | (go_at_call 9; refine (HW.out _).mono ?_; rintro e w1 ⟨rfl, b1⟩))
  refine (H1.out _ _ (by simp)).mono ?_
  rintro e w2 ⟨rfl, b2⟩
  have q1 : w2.cell? ⟨w1.heap.size, 5, none⟩ = some (.int .u16 164) := ((((blk_new w1 #[.int .u16 4, .int .u16 20, .int .u16 36, .int .u16 68, .int .u16 84, .int .u16 164] 40).alloc _).alloc _).over b2).cell 5
  have K2 := ((blk_new' w1 (Obj.cells #[.int .u16 4, .int .u16 20, .int .u16 36, .int .u16 68, .int .u16 84, .int .u16 164] 40) #[.int .u32 ((a + n) % 4294967296), .int .u32 ((a - n) % 4294967296), .int .u32 (a * n % 4294967296), .int .u32 (bits .or .u32 a n), .int .u32 (bits .and .u32 a n), .int .u32 (bits .xor .u32 a n)] 23).alloc _).over b2
  have B2 : Hid (Below w.heap.size w w2) := by
    have z0 := b1.size
    have z1 := b1.alloc z0 (Obj.cells #[.int .u16 4, .int .u16 20, .int .u16 36, .int .u16 68, .int .u16 84, .int .u16 164] 40)
    have z2 := z1.alloc z1.size (Obj.cells #[.int .u32 ((a + n) % 4294967296), .int .u32 ((a - n) % 4294967296), .int .u32 (a * n % 4294967296), .int .u32 (bits .or .u32 a n), .int .u32 (bits .and .u32 a n), .int .u32 (bits .xor .u32 a n)] 23)
    have z3 := z2.alloc z2.size (Obj.cells #[.int .u16 0, .int .u8 0, .int .u8 0, .int .u32 a, .int .u16 164, .int .u8 0, .int .u8 0, .int .u32 n, .int .u16 22, .int .u8 0, .int .u8 0, .int .u32 0] 42)
    exact z3.trans (b2.mono z3.size)
  replace K2 : Hid (Blk w2 (w1.heap.size + 1) 23 [.int .u32 ((a + n) % 4294967296), .int .u32 ((a - n) % 4294967296), .int .u32 (a * n % 4294967296), .int .u32 (bits .or .u32 a n), .int .u32 (bits .and .u32 a n), .int .u32 (bits .xor .u32 a n)]) := K2
  clear b1 b2
  go_wp2_with fail
  refine (H2.out _ _ rfl).mono ?_
  rintro e w3 ⟨rfl, b3⟩
  have z4 := B2.out.alloc B2.out.size (Obj.cells #[.int .u16 0, .int .u8 0, .int .u8 0, .int .u32 a, .int .u16 1, .int .u8 0, .int .u8 0, .int .u32 n, .int .u16 172, .int .u8 0, .int .u8 0, .int .u32 0, .int .u16 22, .int .u8 0, .int .u8 0, .int .u32 0] 42)
  have q3 : w3.cell? ⟨w1.heap.size + 1, 5, none⟩ = some (.int .u32 (bits .xor .u32 a n)) := ((K2.out.alloc _).over b3).cell 5
  clear q1
  go_wp2
  go_ret
  exact ⟨rfl, z4.trans (b3.mono z4.size)⟩

set_option maxRecDepth 4000 in
theorem vmReckons_walk (a n which : Int) (w : World) (ha : U32 a) (hn : U32 n) :
    Calls Try.prog 7 #[.int .u32 a, .int .u32 n, .int .i64 which] w fun e w' => e = .returned (.bool true) ∧ Below w.heap.size w w' := by
  by_cases h0 : which < 0
  · have HW : Hid (∀ W : World, Calls Try.prog 9 #[] W fun e w' => e = .returned (.bool true) ∧ Below W.heap.size W w') := awake_any
    clear ha hn
    go_enter Try.func7, Try.ntmps7
    go_wp2_with (first | (go_at_call 9; refine (HW.out _).mono ?_; rintro e w1 ⟨rfl, b1⟩))
    go_ret
    have z1 := b1.alloc b1.size (Obj.cells #[.int .u16 4, .int .u16 20, .int .u16 36, .int .u16 68, .int .u16 84, .int .u16 164] 40)
    exact ⟨rfl, z1.alloc z1.size _⟩
  · have h1 : 0 ≤ which := by omega
    have e : which.tmod 6 = which % 6 := Int.tmod_eq_emod_of_nonneg h1
    rcases (by omega : which % 6 = 0 ∨ which % 6 = 1 ∨ which % 6 = 2 ∨ which % 6 = 3 ∨ which % 6 = 4 ∨ which % 6 = 5) with h | h | h | h | h | h
    · exact reckons_0 a n which w ha hn h1 (e.trans h)
    · exact reckons_1 a n which w ha hn h1 (e.trans h)
    · exact reckons_2 a n which w ha hn h1 (e.trans h)
    · exact reckons_3 a n which w ha hn h1 (e.trans h)
    · exact reckons_4 a n which w ha hn h1 (e.trans h)
    · exact reckons_5 a n which w ha hn h1 (e.trans h)

end Go.Proofs.Ytinjlneeafopoaa
