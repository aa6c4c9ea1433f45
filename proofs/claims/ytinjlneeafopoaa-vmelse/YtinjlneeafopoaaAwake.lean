/-
  The small question that each law asks first comes out true, and turns nothing that was there.
-/
import Derived.Test.YtinjlneeafopoaaVRun
namespace Go.Proofs.Ytinjlneeafopoaa
open Go.RowKit

/-- instructions, just made. -/
theorem ins_new (w : World) (l : List In) (hl : ∀ x ∈ l, x.ok) : Ins (w.alloc (.cells (cellsI l).toArray 42)) (some ⟨w.heap.size, 0, none⟩) l.length l := by
  refine ⟨rfl, hl, fun _ => ⟨_, _, rfl, fun i x hi => ?_⟩⟩
  have hb := blk_new w (cellsI l).toArray 42
  have key : ∀ c u, c < 4 → x.cells[c]? = some u → (w.alloc (.cells (cellsI l).toArray 42)).cell? ⟨w.heap.size, 0 + i * 4 + c, none⟩ = some u := by
    intro c u hc hu
    rw [Nat.zero_add, hb.cell, List.toList_toArray, cellsI_get l i x c hi hc]
    exact hu
  exact ⟨key 0 _ (by decide) rfl, key 1 _ (by decide) rfl, key 2 _ (by decide) rfl, key 3 _ (by decide) rfl⟩

/-- a program of four instructions, and two calls. -/
def four : List In := [⟨32, 0, 0, 0⟩, ⟨21, 0, 1, 5⟩, ⟨6, 0, 0, 1⟩, ⟨6, 0, 0, 2⟩]
def nr (n : Int) : Da := ⟨n, 0, 0, [0, 0, 0, 0, 0, 0]⟩

theorem four_ok : ∀ x ∈ four, x.ok := by
  intro x hx
  simp only [four, List.mem_cons, List.not_mem_nil, or_false] at hx
  rcases hx with rfl | rfl | rfl | rfl <;> (unfold In.ok; decide)

theorem nr_ok (n : Int) (h : U32 n) : (nr n).ok := by
  have z32 : U32 0 := ⟨by decide, by decide⟩
  have z64 : U64 0 := ⟨by decide, by decide⟩
  refine ⟨h, z32, z64, rfl, ?_⟩
  intro z hz
  simp only [nr, List.mem_cons, List.not_mem_nil, or_false] at hz
  rcases hz with rfl | rfl | rfl | rfl | rfl | rfl <;> (unfold U64; decide)

theorem four_5 : ansV four (nr 5) = 1 ∧ (plV four (nr 5)).length = 3 ∧ errV four = 0 := by decide +kernel
theorem four_6 : ansV four (nr 6) = 2 := by decide +kernel

set_option maxHeartbeats 800000 in
theorem awake_any (w : World) :
    Calls Try.prog 9 #[] w fun e w' => e = .returned (.bool true) ∧ Below w.heap.size w w' := by
  have H1 : Hid (∀ X cap, Ins X (some ⟨w.heap.size, 0, none⟩) 4 four → Calls Try.prog 10 #[.slice (some ⟨w.heap.size, 0, none⟩) 4 cap, .agg #[.int .u32 5, .int .u32 0, .int .u64 0, .int .u64 0, .int .u64 0, .int .u64 0, .int .u64 0, .int .u64 0, .int .u64 0]] X fun e w' => e = .returned (.tuple #[.int .u32 1, .int .i64 3, .int .i64 0]) ∧ Below X.heap.size X w') := by
    intro X cap hX
    refine (run_any _ 4 cap four (nr 5) X (by unfold maxLen; decide) hX (nr_ok 5 ⟨by decide, by decide⟩)).mono ?_
    rintro e w' ⟨rfl, hb⟩
    rw [four_5.1, four_5.2.1, four_5.2.2]
    exact ⟨rfl, hb⟩
  have H2 : Hid (∀ X cap, Ins X (some ⟨w.heap.size, 0, none⟩) 4 four → ∃ n e : Int, Calls Try.prog 10 #[.slice (some ⟨w.heap.size, 0, none⟩) 4 cap, .agg #[.int .u32 6, .int .u32 0, .int .u64 0, .int .u64 0, .int .u64 0, .int .u64 0, .int .u64 0, .int .u64 0, .int .u64 0]] X fun e' w' => e' = .returned (.tuple #[.int .u32 2, .int .i64 n, .int .i64 e]) ∧ Below X.heap.size X w') := by
    intro X cap hX
    refine ⟨(plV four (nr 6)).length, errV four, (run_any _ 4 cap four (nr 6) X (by unfold maxLen; decide) hX (nr_ok 6 ⟨by decide, by decide⟩)).mono ?_⟩
    rintro e w' ⟨rfl, hb⟩
    rw [four_6]
    exact ⟨rfl, hb⟩
  have HI : Hid (Ins (w.alloc (Obj.cells #[.int .u16 32, .int .u8 0, .int .u8 0, .int .u32 0, .int .u16 21, .int .u8 0, .int .u8 1, .int .u32 5, .int .u16 6, .int .u8 0, .int .u8 0, .int .u32 1, .int .u16 6, .int .u8 0, .int .u8 0, .int .u32 2] 42)) (some ⟨w.heap.size, 0, none⟩) 4 four) := ins_new w four four_ok
  go_enter Try.func9, Try.ntmps9
  go_wp2_with fail
  refine (H1.out _ _ HI.out).mono ?_
  rintro e w1 ⟨rfl, b1⟩
  obtain ⟨n, er, hc⟩ := H2.out w1 4 (HI.out.below b1)
  have HC : Hid (Calls Try.prog 10 #[.slice (some ⟨w.heap.size, 0, none⟩) 4 4, .agg #[.int .u32 6, .int .u32 0, .int .u64 0, .int .u64 0, .int .u64 0, .int .u64 0, .int .u64 0, .int .u64 0, .int .u64 0]] w1 fun e' w' => e' = .returned (.tuple #[.int .u32 2, .int .i64 n, .int .i64 er]) ∧ Below w1.heap.size w1 w') := hc
  clear hc
  go_wp2_with fail
  refine HC.out.mono ?_
  rintro e w2 ⟨rfl, b2⟩
  go_wp2
  go_ret
  have c1 : Below w.heap.size w w1 := (below_new w _).trans (b1.mono (below_new w _).size)
  exact ⟨rfl, c1.trans (b2.mono c1.size)⟩

end Go.Proofs.Ytinjlneeafopoaa
