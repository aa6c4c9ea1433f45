/-
  The instruction of eight bytes, as package insn reads it, proved of every slice of eight bytes.
-/
import Derived.Test.YtonhkohfogpflaaMem
import Derived.Laws.BitsAllLaws
import Derived.RegionTactic
import Derived.ChangeAlike
import Derived.BigRegion
import Derived.Deep.RegionHeld3
import Derived.Deep.DeepCutAuto
namespace Go.Proofs.Ytonhkohfogpflaa
open Go.RowKit

theorem or16 (a b : Int) (a0 : 0 ≤ a) (a1 : a ≤ 255) (b0 : 0 ≤ b) (b1 : b ≤ 255) : bits BinOp.or IntKind.u16 a (b * 256) = a + 256 * b := by
  obtain ⟨n, rfl⟩ := Int.eq_ofNat_of_zero_le a0
  obtain ⟨m, rfl⟩ := Int.eq_ofNat_of_zero_le b0
  have e : ((m : Int) * 256) = ((m * 256 : Nat) : Int) := by omega
  rw [e, u16_or_nat n (m * 256) (by omega) (by omega), Nat.or_comm, show (256 : Nat) = 2 ^ 8 from rfl, ← Nat.shiftLeft_eq, ← Nat.shiftLeft_add_eq_or_of_lt (by omega)]
  omega

theorem or32 (a b : Int) (s : Nat) (p : Int) (hp : p = ((2 ^ s : Nat) : Int)) (a0 : 0 ≤ a) (a1 : a < p) (b0 : 0 ≤ b) (b1 : b * p < 4294967296) (hs : p ≤ 4294967296) : bits BinOp.or IntKind.u32 a (b * p) = a + p * b := by
  obtain ⟨n, rfl⟩ := Int.eq_ofNat_of_zero_le a0
  obtain ⟨m, rfl⟩ := Int.eq_ofNat_of_zero_le b0
  subst hp
  have e : ((m : Int) * ((2 ^ s : Nat) : Int)) = ((m * 2 ^ s : Nat) : Int) := by rw [Int.natCast_mul]
  rw [e] at b1
  rw [e, u32_or_nat n (m * 2 ^ s) (by omega) (by omega), Nat.or_comm, ← Nat.shiftLeft_eq, ← Nat.shiftLeft_add_eq_or_of_lt (by omega), Nat.shiftLeft_eq, Int.natCast_add, Int.natCast_mul, Int.mul_comm]
  omega

/-- a zero instruction, just made. -/
theorem boxed_zero (w : World) : Below w.heap.size w (w.alloc (Obj.cells #[Value.int IntKind.u16 0, Value.int IntKind.u8 0, Value.int IntKind.u8 0, Value.int IntKind.u32 0] 27)) ∧
    (w.alloc (Obj.cells #[Value.int IntKind.u16 0, Value.int IntKind.u8 0, Value.int IntKind.u8 0, Value.int IntKind.u32 0] 27)).cell? ⟨w.heap.size, 0, none⟩ = some (.int .u16 0) ∧
    (w.alloc (Obj.cells #[Value.int IntKind.u16 0, Value.int IntKind.u8 0, Value.int IntKind.u8 0, Value.int IntKind.u32 0] 27)).cell? ⟨w.heap.size, 1, none⟩ = some (.int .u8 0) ∧
    (w.alloc (Obj.cells #[Value.int IntKind.u16 0, Value.int IntKind.u8 0, Value.int IntKind.u8 0, Value.int IntKind.u32 0] 27)).cell? ⟨w.heap.size, 2, none⟩ = some (.int .u8 0) ∧
    (w.alloc (Obj.cells #[Value.int IntKind.u16 0, Value.int IntKind.u8 0, Value.int IntKind.u8 0, Value.int IntKind.u32 0] 27)).cell? ⟨w.heap.size, 3, none⟩ = some (.int .u32 0) ∧
    (w.alloc (Obj.cells #[Value.int IntKind.u16 0, Value.int IntKind.u8 0, Value.int IntKind.u8 0, Value.int IntKind.u32 0] 27)).frozen? ⟨w.heap.size, 0, none⟩ = false ∧
    (w.alloc (Obj.cells #[Value.int IntKind.u16 0, Value.int IntKind.u8 0, Value.int IntKind.u8 0, Value.int IntKind.u32 0] 27)).frozen? ⟨w.heap.size, 1, none⟩ = false ∧
    (w.alloc (Obj.cells #[Value.int IntKind.u16 0, Value.int IntKind.u8 0, Value.int IntKind.u8 0, Value.int IntKind.u32 0] 27)).frozen? ⟨w.heap.size, 2, none⟩ = false ∧
    (w.alloc (Obj.cells #[Value.int IntKind.u16 0, Value.int IntKind.u8 0, Value.int IntKind.u8 0, Value.int IntKind.u32 0] 27)).frozen? ⟨w.heap.size, 3, none⟩ = false :=
  ⟨(Below.refl _ _).alloc (Nat.le_refl _) _, by simp, by simp, by simp, by simp, by simp, by simp, by simp, by simp⟩

set_option maxHeartbeats 2000000 in
theorem read_any (a : Option Addr) (cap : Nat) (l : List Int) (w : World) (hb : Bs w a 8 l) :
    Calls Try.prog 32 #[.slice a 8 cap] w fun e w' => e = .returned (dec l).val ∧ Below w.heap.size w w' := by
  obtain ⟨b, off, rfl, hc⟩ := hb.2.2 (by decide)
  have q0 := hc 0 (by decide)
  rw [Nat.add_zero] at q0
  have q1 := hc 1 (by decide)
  have q2 := hc 2 (by decide)
  have q3 := hc 3 (by decide)
  have q4 := hc 4 (by decide)
  have q5 := hc 5 (by decide)
  have q6 := hc 6 (by decide)
  have q7 := hc 7 (by decide)
  have g0 := byt_get hb.2.1 0
  have g1 := byt_get hb.2.1 1
  have g4 := byt_get hb.2.1 4
  have g5 := byt_get hb.2.1 5
  have g6 := byt_get hb.2.1 6
  have g7 := byt_get hb.2.1 7
  clear hc hb
  unfold In.val dec
  dsimp only
  generalize l.getD 0 0 = x0 at *
  generalize l.getD 1 0 = x1 at *
  generalize l.getD 2 0 = x2 at *
  generalize l.getD 3 0 = x3 at *
  generalize l.getD 4 0 = x4 at *
  generalize l.getD 5 0 = x5 at *
  generalize l.getD 6 0 = x6 at *
  generalize l.getD 7 0 = x7 at *
  obtain ⟨g01, g02⟩ := g0
  obtain ⟨g11, g12⟩ := g1
  obtain ⟨g41, g42⟩ := g4
  obtain ⟨g51, g52⟩ := g5
  obtain ⟨g61, g62⟩ := g6
  obtain ⟨g71, g72⟩ := g7
  have V1 : Hid (bits BinOp.or IntKind.u16 (IntKind.u16.wrap x0) (IntKind.u16.wrap (IntKind.u16.wrap x1 * 256)) = x0 + 256 * x1) := by
    unfold Hid
    rw [show IntKind.u16.wrap x0 = x0 by rw [IntKind.wrap_u16]; omega, show IntKind.u16.wrap x1 = x1 by rw [IntKind.wrap_u16]; omega, show IntKind.u16.wrap (x1 * 256) = x1 * 256 by rw [IntKind.wrap_u16]; omega]
    exact or16 x0 x1 g01 g02 g11 g12
  have V2 : Hid (bits BinOp.or IntKind.u32 (bits BinOp.or IntKind.u32 (bits BinOp.or IntKind.u32 (IntKind.u32.wrap x4) (IntKind.u32.wrap (IntKind.u32.wrap x5 * 256))) (IntKind.u32.wrap (IntKind.u32.wrap x6 * 65536))) (IntKind.u32.wrap (IntKind.u32.wrap x7 * 16777216)) = x4 + 256 * x5 + 65536 * x6 + 16777216 * x7) := by
    unfold Hid
    rw [show IntKind.u32.wrap x4 = x4 by rw [IntKind.wrap_u32]; omega, show IntKind.u32.wrap x5 = x5 by rw [IntKind.wrap_u32]; omega, show IntKind.u32.wrap x6 = x6 by rw [IntKind.wrap_u32]; omega, show IntKind.u32.wrap x7 = x7 by rw [IntKind.wrap_u32]; omega,
      show IntKind.u32.wrap (x5 * 256) = x5 * 256 by rw [IntKind.wrap_u32]; omega, show IntKind.u32.wrap (x6 * 65536) = x6 * 65536 by rw [IntKind.wrap_u32]; omega, show IntKind.u32.wrap (x7 * 16777216) = x7 * 16777216 by rw [IntKind.wrap_u32]; omega]
    rw [or32 x4 x5 8 256 rfl g41 (by omega) g51 (by omega) (by decide), or32 (x4 + 256 * x5) x6 16 65536 rfl (by omega) (by omega) g61 (by omega) (by decide),
      or32 (x4 + 256 * x5 + 65536 * x6) x7 24 16777216 rfl (by omega) (by omega) g71 (by omega) (by decide)]
  clear g01 g02 g11 g12 g41 g42 g51 g52 g61 g62 g71 g72
  have hne : w.heap.size ≠ b := World.new_ne w _ q0
  go_enter Try.func32, Try.ntmps32
  go_wp2_with fail
  obtain ⟨hbl, s0, s1, s2, s3, f0, f1, f2, f3⟩ := boxed_zero w
  generalize w.alloc (Obj.cells #[Value.int IntKind.u16 0, Value.int IntKind.u8 0, Value.int IntKind.u8 0, Value.int IntKind.u32 0] 27) = W at *
  replace q0 := (hbl.cell (World.block_lt_of_cell? w _ q0)).trans q0
  replace q1 := (hbl.cell (World.block_lt_of_cell? w _ q1)).trans q1
  replace q2 := (hbl.cell (World.block_lt_of_cell? w _ q2)).trans q2
  replace q3 := (hbl.cell (World.block_lt_of_cell? w _ q3)).trans q3
  replace q4 := (hbl.cell (World.block_lt_of_cell? w _ q4)).trans q4
  replace q5 := (hbl.cell (World.block_lt_of_cell? w _ q5)).trans q5
  replace q6 := (hbl.cell (World.block_lt_of_cell? w _ q6)).trans q6
  replace q7 := (hbl.cell (World.block_lt_of_cell? w _ q7)).trans q7
  have HB : Hid (Below w.heap.size w W) := hbl
  clear hbl
  go_region_held3 (fun w' => w'.cell? ⟨b, off, none⟩ = some (.int .u8 x0) ∧ w'.cell? ⟨b, off + 1, none⟩ = some (.int .u8 x1) ∧ w'.cell? ⟨b, off + 2, none⟩ = some (.int .u8 x2) ∧ w'.cell? ⟨b, off + 3, none⟩ = some (.int .u8 x3) ∧ w'.cell? ⟨b, off + 4, none⟩ = some (.int .u8 x4) ∧ w'.cell? ⟨b, off + 5, none⟩ = some (.int .u8 x5) ∧ w'.cell? ⟨b, off + 6, none⟩ = some (.int .u8 x6) ∧ w'.cell? ⟨b, off + 7, none⟩ = some (.int .u8 x7)) (go_keep) (fail)
  all_goals
    go_wp2_with fail
    rw [V1.out, V2.out]
    refine bodyPost_ret (v := .agg #[.int .u16 (x0 + 256 * x1), .int .u8 x2, .int .u8 x3, .int .u32 (x4 + 256 * x5 + 65536 * x6 + 16777216 * x7)]) (by simp [results, Try.results32, go_sem, s0, s1, s2, s3]) rfl ⟨rfl, ?_⟩
    exact ((((HB.out.setCell (Nat.le_refl _) _).setCell (Nat.le_refl _) _).setCell (Nat.le_refl _) _).setCell (Nat.le_refl _) _).drew

end Go.Proofs.Ytonhkohfogpflaa
