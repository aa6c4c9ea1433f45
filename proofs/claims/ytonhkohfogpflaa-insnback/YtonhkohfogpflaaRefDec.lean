/-
  The document's own instruction of bytes, proved of every slice of bytes.
-/
import Derived.Test.YtonhkohfogpflaaDecode
namespace Go.Proofs.Ytonhkohfogpflaa
open Go.RowKit

set_option maxHeartbeats 2000000 in
theorem refDecode_eight (a : Option Addr) (cap : Nat) (l : List Int) (w : World) (hb : Bs w a 8 l) :
    Calls Try.prog 17 #[.slice a 8 cap] w fun e w' => e = .returned (.tuple #[(dec l).val, .int .i64 0]) ∧ Below w.heap.size w w' := by
  obtain ⟨b, off, rfl, hc⟩ := hb.2.2 (by decide)
  have q0 := hc 0 (by decide)
  rw [Nat.add_zero] at q0
  have q1 := hc 1 (by decide)
  have q2 := hc 2 (by decide)
  have q3 := hc 3 (by decide)
  have q4 := hc 4 (by decide)
  have q5 := hc 5 (by decide)
  have q6 := hc 6 (by decide)
  have q7 := hc 7 (by decide)
  have g0 := byt_get hb.2.1 0
  have g1 := byt_get hb.2.1 1
  have g4 := byt_get hb.2.1 4
  have g5 := byt_get hb.2.1 5
  have g6 := byt_get hb.2.1 6
  have g7 := byt_get hb.2.1 7
  clear hc hb
  unfold In.val dec
  dsimp only
  generalize l.getD 0 0 = x0 at *
  generalize l.getD 1 0 = x1 at *
  generalize l.getD 2 0 = x2 at *
  generalize l.getD 3 0 = x3 at *
  generalize l.getD 4 0 = x4 at *
  generalize l.getD 5 0 = x5 at *
  generalize l.getD 6 0 = x6 at *
  generalize l.getD 7 0 = x7 at *
  obtain ⟨g01, g02⟩ := g0
  obtain ⟨g11, g12⟩ := g1
  obtain ⟨g41, g42⟩ := g4
  obtain ⟨g51, g52⟩ := g5
  obtain ⟨g61, g62⟩ := g6
  obtain ⟨g71, g72⟩ := g7
  have V1 : Hid (IntKind.u16.wrap (IntKind.u16.wrap x0 + IntKind.u16.wrap (256 * IntKind.u16.wrap x1)) = x0 + 256 * x1) := by
    unfold Hid
    simp only [IntKind.wrap_u16]
    omega
  have V2 : Hid (IntKind.u32.wrap (IntKind.u32.wrap (IntKind.u32.wrap (IntKind.u32.wrap x4 + IntKind.u32.wrap (256 * IntKind.u32.wrap x5)) + IntKind.u32.wrap (65536 * IntKind.u32.wrap x6)) + IntKind.u32.wrap (16777216 * IntKind.u32.wrap x7)) = x4 + 256 * x5 + 65536 * x6 + 16777216 * x7) := by
    unfold Hid
    simp only [IntKind.wrap_u32]
    omega
  clear g01 g02 g11 g12 g41 g42 g51 g52 g61 g62 g71 g72
  have hne : w.heap.size ≠ b := World.new_ne w _ q0
  go_enter Try.func17, Try.ntmps17
  go_wp2_with fail
  obtain ⟨hbl, s0, s1, s2, s3, f0, f1, f2, f3⟩ := boxed_zero w
  generalize w.alloc (Obj.cells #[Value.int IntKind.u16 0, Value.int IntKind.u8 0, Value.int IntKind.u8 0, Value.int IntKind.u32 0] 27) = W at *
  replace q0 := (hbl.cell (World.block_lt_of_cell? w _ q0)).trans q0
  replace q1 := (hbl.cell (World.block_lt_of_cell? w _ q1)).trans q1
  replace q2 := (hbl.cell (World.block_lt_of_cell? w _ q2)).trans q2
  replace q3 := (hbl.cell (World.block_lt_of_cell? w _ q3)).trans q3
  replace q4 := (hbl.cell (World.block_lt_of_cell? w _ q4)).trans q4
  replace q5 := (hbl.cell (World.block_lt_of_cell? w _ q5)).trans q5
  replace q6 := (hbl.cell (World.block_lt_of_cell? w _ q6)).trans q6
  replace q7 := (hbl.cell (World.block_lt_of_cell? w _ q7)).trans q7
  have HB : Hid (Below w.heap.size w W) := hbl
  clear hbl
  go_region_held3 (fun w' => w'.cell? ⟨b, off, none⟩ = some (.int .u8 x0) ∧ w'.cell? ⟨b, off + 1, none⟩ = some (.int .u8 x1) ∧ w'.cell? ⟨b, off + 2, none⟩ = some (.int .u8 x2) ∧ w'.cell? ⟨b, off + 3, none⟩ = some (.int .u8 x3) ∧ w'.cell? ⟨b, off + 4, none⟩ = some (.int .u8 x4) ∧ w'.cell? ⟨b, off + 5, none⟩ = some (.int .u8 x5) ∧ w'.cell? ⟨b, off + 6, none⟩ = some (.int .u8 x6) ∧ w'.cell? ⟨b, off + 7, none⟩ = some (.int .u8 x7)) (go_keep) (fail)
  all_goals
    go_wp2_with fail
    rw [V1.out, V2.out]
    refine bodyPost_ret (v := .tuple #[.agg #[.int .u16 (x0 + 256 * x1), .int .u8 x2, .int .u8 x3, .int .u32 (x4 + 256 * x5 + 65536 * x6 + 16777216 * x7)], .int .i64 0]) (by simp [results, Try.results17, go_sem, s0, s1, s2, s3]) rfl ⟨rfl, ?_⟩
    exact ((((HB.out.setCell (Nat.le_refl _) _).setCell (Nat.le_refl _) _).setCell (Nat.le_refl _) _).setCell (Nat.le_refl _) _).drew

set_option maxHeartbeats 400000 in
theorem refDecode_any (a : Option Addr) (len cap : Nat) (l : List Int) (w : World) (hb : Bs w a len l) :
    Calls Try.prog 17 #[.slice a len cap] w fun e w' => e = .returned (.tuple #[(decOf l).val, .int .i64 (errOf len)]) ∧ Below w.heap.size w w' := by
  have e1 : ∀ o, Below w.heap.size w (w.alloc o) := fun o => (Below.refl _ _).alloc (Nat.le_refl _) _
  have hll := hb.1
  rcases Nat.lt_trichotomy len 8 with h | h | h
  · have hd : decOf l = In.zero := decOf_ne l (by omega)
    have he : errOf len = 2 := by unfold errOf; rw [if_pos h]
    rw [hd, he]
    clear hb hll hd he
    go_enter Try.func17, Try.ntmps17
    go_wp2
    refine bodyPost_ret (v := .tuple #[.agg #[.int .u16 0, .int .u8 0, .int .u8 0, .int .u32 0], .int .i64 2]) (by simp [results, Try.results17, go_sem]) rfl ⟨rfl, ?_⟩
    exact e1 _
  · subst h
    rw [decOf_eq l hll, show errOf 8 = 0 from rfl]
    exact refDecode_eight a cap l w hb
  · have hd : decOf l = In.zero := decOf_ne l (by omega)
    have he : errOf len = 3 := by unfold errOf; rw [if_neg (by omega), if_pos h]
    rw [hd, he]
    clear hb hll hd he
    go_enter Try.func17, Try.ntmps17
    go_wp2
    refine bodyPost_ret (v := .tuple #[.agg #[.int .u16 0, .int .u8 0, .int .u8 0, .int .u32 0], .int .i64 3]) (by simp [results, Try.results17, go_sem]) rfl ⟨rfl, ?_⟩
    exact e1 _

end Go.Proofs.Ytonhkohfogpflaa
