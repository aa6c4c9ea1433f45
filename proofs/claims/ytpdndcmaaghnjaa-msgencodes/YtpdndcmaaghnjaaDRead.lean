/-
  The words of bytes, by package data, proved of every 64 bytes.
-/
import Derived.Test.YtpdndcmaaghnjaaDBytes
import Derived.Laws.BitsAllLaws
import Derived.Deep.RegionHeld3
namespace Go.Proofs.Ytpdndcmaaghnjaa.D
open Go.RowKit

theorem or32 (a b : Int) (s : Nat) (p : Int) (hp : p = ((2 ^ s : Nat) : Int)) (a0 : 0 ≤ a) (a1 : a < p) (b0 : 0 ≤ b) (b1 : b * p < 4294967296) (hs : p ≤ 4294967296) : bits BinOp.or IntKind.u32 a (b * p) = a + p * b := by
  obtain ⟨n, rfl⟩ := Int.eq_ofNat_of_zero_le a0
  obtain ⟨m, rfl⟩ := Int.eq_ofNat_of_zero_le b0
  subst hp
  have e : ((m : Int) * ((2 ^ s : Nat) : Int)) = ((m * 2 ^ s : Nat) : Int) := by rw [Int.natCast_mul]
  rw [e] at b1
  rw [e, u32_or_nat n (m * 2 ^ s) (by omega) (by omega), Nat.or_comm, ← Nat.shiftLeft_eq, ← Nat.shiftLeft_add_eq_or_of_lt (by omega), Nat.shiftLeft_eq, Int.natCast_add, Int.natCast_mul, Int.mul_comm]
  omega

theorem r4_drop (l : List Int) (k : Nat) : r4 (l.drop (k * 4)) = l.getD (k * 4) 0 + 256 * l.getD (k * 4 + 1) 0 + 65536 * l.getD (k * 4 + 2) 0 + 16777216 * l.getD (k * 4 + 3) 0 := by
  have e : ∀ i, (l.drop (k * 4)).getD i 0 = l.getD (k * 4 + i) 0 := by
    intro i
    simp
  unfold r4
  rw [e 0, e 1, e 2, e 3, Nat.add_zero]

/-- the words that are read so far. -/
def readTo (l : List Int) (k : Nat) : List Value := cellsW (readW l k ++ List.replicate (16 - k) 0)

theorem readTo_zero (l : List Int) : readTo l 0 = List.replicate 16 (.int .u32 0) := rfl
theorem readTo_all (l : List Int) : readTo l 16 = cellsW (readW l 16) := by simp [readTo]

theorem readTo_len (l : List Int) (k : Nat) (hk : k ≤ 16) : (readTo l k).length = 16 := by
  simp [readTo, cellsW_len, readW_len]; omega

theorem readTo_set (l : List Int) (k : Nat) (hk : k < 16) : (readTo l k).set k (.int .u32 (r4 (l.drop (k * 4)))) = readTo l (k + 1) := by
  unfold readTo cellsW
  rw [readW_succ, show 16 - k = (16 - (k + 1)) + 1 by omega, List.replicate_succ, List.map_append, List.map_append, List.map_append, List.map_cons, List.set_append_right _ _ (by simp [readW_len]), List.length_map, readW_len, Nat.sub_self, List.set_cons_zero]
  simp

set_option maxHeartbeats 2000000 in
theorem read_any (a : Option Addr) (cap : Nat) (l : List Int) (w : World) (hb : Bs w a 64 l) :
    Calls Try.prog 53 #[.slice a 64 cap] w fun e w' => e = .returned (valW (readW l 16)) ∧ Below w.heap.size w w' := by
  obtain ⟨b, off, rfl, hc⟩ := hb.2.2 (by decide)
  have HC : Hid (∀ i, i < 64 → w.cell? ⟨b, off + i, none⟩ = some (.int .u8 (l.getD i 0))) := hc
  have HB : Hid (Byt l) := hb.2.1
  have hlt : b < w.heap.size := World.block_lt_of_cell? w _ (hc 0 (by decide))
  have HLT : Hid (b < w.heap.size) := hlt
  have Z1 := blk_new w (List.replicate 16 (.int .u32 0)).toArray 81
  have Z2 := blk_new' w (Obj.cells (List.replicate 16 (Value.int .u32 0)).toArray 81) (List.replicate 16 (.int .u32 0)).toArray 81
  have Z3 : Hid (Blk ((w.alloc (Obj.cells (List.replicate 16 (Value.int .u32 0)).toArray 81)).alloc (Obj.cells (List.replicate 16 (Value.int .u32 0)).toArray 81)) w.heap.size 81 (List.replicate 16 (.int .u32 0))) := Z1.alloc _
  have Z4 : Hid (Blk ((w.alloc (Obj.cells (List.replicate 16 (Value.int .u32 0)).toArray 81)).alloc (Obj.cells (List.replicate 16 (Value.int .u32 0)).toArray 81)) (w.heap.size + 1) 81 (readTo l 0)) := Z2
  have Z5 : Hid (Below w.heap.size w ((w.alloc (Obj.cells (List.replicate 16 (Value.int .u32 0)).toArray 81)).alloc (Obj.cells (List.replicate 16 (Value.int .u32 0)).toArray 81))) := ((Below.refl _ _).alloc (Nat.le_refl _) _).alloc (by rw [size_alloc']; omega) _
  clear hb hc Z1 Z2 hlt
  go_enter Try.func53, Try.ntmps53
  go_wp2_with fail
  go_loopw [6] (fun i wr => ∃ k : Nat, k ≤ 16 ∧ i = .int .i64 k ∧ Blk wr (w.heap.size + 1) 81 (readTo l k) ∧ Blk wr w.heap.size 81 (List.replicate 16 (.int .u32 0)) ∧ Below w.heap.size w wr) (fun i _ => 16 - (intOf i).toNat)
  case atStart => exact ⟨0, by decide, rfl, Z4.out, Z3.out, Z5.out⟩
  case round =>
    obtain ⟨k, hk, rfl, hb, hz, hbr⟩ := hrel
    clear Z3 Z4 Z5
    by_cases hlt : k < 16
    · have hcc : ∀ i, i < 64 → wr.cell? ⟨b, off + i, none⟩ = some (.int .u8 (l.getD i 0)) := fun i hi => (hbr.cell (p := ⟨b, off + i, none⟩) HLT.out).trans (HC.out i hi)
      have q0 := hcc (k * 4) (by omega)
      have q1 := hcc (k * 4 + 1) (by omega)
      have q2 := hcc (k * 4 + 2) (by omega)
      have q3 := hcc (k * 4 + 3) (by omega)
      have g0 := byt_get HB.out (k * 4)
      have g1 := byt_get HB.out (k * 4 + 1)
      have g2 := byt_get HB.out (k * 4 + 2)
      have g3 := byt_get HB.out (k * 4 + 3)
      have HS : Hid ((readTo l k).set k (.int .u32 (l.getD (k * 4) 0 + 256 * l.getD (k * 4 + 1) 0 + 65536 * l.getD (k * 4 + 2) 0 + 16777216 * l.getD (k * 4 + 3) 0)) = readTo l (k + 1)) := by
        unfold Hid
        rw [← r4_drop]
        exact readTo_set l k hlt
      have s0 : wr.cell? ⟨w.heap.size + 1, k, none⟩ = some ((readTo l k)[k]'(by rw [readTo_len l k hk]; exact hlt)) := by
        rw [hb.cell k, List.getElem?_eq_getElem]
      have f0 := hb.f k
      generalize (readTo l k)[k]'_ = v0 at *
      generalize readTo l k = L at *
      generalize l.getD (k * 4) 0 = x0 at *
      generalize l.getD (k * 4 + 1) 0 = x1 at *
      generalize l.getD (k * 4 + 2) 0 = x2 at *
      generalize l.getD (k * 4 + 3) 0 = x3 at *
      obtain ⟨g01, g02⟩ := g0
      obtain ⟨g11, g12⟩ := g1
      obtain ⟨g21, g22⟩ := g2
      obtain ⟨g31, g32⟩ := g3
      have V2 : Hid (bits BinOp.or IntKind.u32 (bits BinOp.or IntKind.u32 (bits BinOp.or IntKind.u32 (x0 % 4294967296) (x1 % 4294967296 * 256 % 4294967296)) (x2 % 4294967296 * 65536 % 4294967296)) (x3 % 4294967296 * 16777216 % 4294967296) = x0 + 256 * x1 + 65536 * x2 + 16777216 * x3) := by
        unfold Hid
        rw [show x0 % 4294967296 = x0 by omega, show x1 % 4294967296 = x1 by omega, show x2 % 4294967296 = x2 by omega, show x3 % 4294967296 = x3 by omega,
          show x1 * 256 % 4294967296 = x1 * 256 by omega, show x2 * 65536 % 4294967296 = x2 * 65536 by omega, show x3 * 16777216 % 4294967296 = x3 * 16777216 by omega]
        rw [or32 x0 x1 8 256 rfl g01 (by omega) g11 (by omega) (by decide), or32 (x0 + 256 * x1) x2 16 65536 rfl (by omega) (by omega) g21 (by omega) (by decide),
          or32 (x0 + 256 * x1 + 65536 * x2) x3 24 16777216 rfl (by omega) (by omega) g31 (by omega) (by decide)]
      clear g01 g02 g11 g12 g21 g22 g31 g32 hcc
      have hne : w.heap.size + 1 ≠ b := by have := HLT.out; omega
      have HBb : Hid (Blk wr (w.heap.size + 1) 81 L) := hb
      have HZb : Hid (Blk wr w.heap.size 81 (List.replicate 16 (.int .u32 0))) := hz
      have HBr : Hid (Below w.heap.size w wr) := hbr
      clear hb hz hbr
      have n0 : (0 : Int) ≤ (k : Int) * 4 := by omega
      have n1 : (0 : Int) ≤ (k : Int) * 4 + 1 := by omega
      have n2 : (0 : Int) ≤ (k : Int) * 4 + 2 := by omega
      have n3 : (0 : Int) ≤ (k : Int) * 4 + 3 := by omega
      have m0 : (k : Int) * 4 < 64 := by omega
      have m1 : (k : Int) * 4 + 1 < 64 := by omega
      have m2 : (k : Int) * 4 + 2 < 64 := by omega
      have m3 : (k : Int) * 4 + 3 < 64 := by omega
      have j1 : IntKind.i64.wrap ((k : Int) * 4 + 1) = (k : Int) * 4 + 1 := by rw [IntKind.wrap_i64]; omega
      have j2 : IntKind.i64.wrap ((k : Int) * 4 + 2) = (k : Int) * 4 + 2 := by rw [IntKind.wrap_i64]; omega
      have j3 : IntKind.i64.wrap ((k : Int) * 4 + 3) = (k : Int) * 4 + 3 := by rw [IntKind.wrap_i64]; omega
      have t0 : ((k : Int) * 4).toNat = k * 4 := by omega
      have t1 : ((k : Int) * 4 + 1).toNat = k * 4 + 1 := by omega
      have t2 : ((k : Int) * 4 + 2).toNat = k * 4 + 2 := by omega
      have t3 : ((k : Int) * 4 + 3).toNat = k * 4 + 3 := by omega
      go_wp2_with fail
      go_region_held3 (fun w' => w'.cell? ⟨b, off + k * 4, none⟩ = some (.int .u8 x0) ∧ w'.cell? ⟨b, off + (k * 4 + 1), none⟩ = some (.int .u8 x1) ∧ w'.cell? ⟨b, off + (k * 4 + 2), none⟩ = some (.int .u8 x2) ∧ w'.cell? ⟨b, off + (k * 4 + 3), none⟩ = some (.int .u8 x3)) (go_keep) (fail)
      all_goals
        go_wp2_with fail
      rw [V2.out]
      go_roundw
      case rel =>
        refine ⟨k + 1, by omega, by go_num, ?_, ?_, ?_⟩
        · rw [← HS.out]
          exact (HBb.out.set _ _).drew
        · exact (HZb.out.other _ _ (by show w.heap.size ≠ w.heap.size + 1; omega)).drew
        · exact (HBr.out.setCell (by show w.heap.size ≤ w.heap.size + 1; omega) _).drew
      case measure => simp [intOf]; omega
    · have hk6 : ¬ (k : Int) < 16 := by omega
      have hw : readTo l k = cellsW (readW l 16) := by
        obtain rfl : k = 16 := by omega
        exact readTo_all l
      rw [hw] at hb
      clear hw hlt hk
      obtain ⟨R, hR⟩ : ∃ R, R = cellsW (readW l 16) := ⟨_, rfl⟩
      have H1 : Hid (R.toArray.all (·.oneCell') = true) := by rw [hR]; exact cellsW_one _
      have hl : R.length = 16 := by rw [hR, cellsW_len, readW_len]
      have HV : Hid (valW (readW l 16) = .agg R.toArray) := by rw [hR]; exact rfl
      rw [← hR] at hb
      clear hR
      have HB : Hid (Blk (wr.setRow w.heap.size R.toArray) w.heap.size 81 R) := hz.row R.toArray
      have HC : Hid (Below w.heap.size w (wr.setRow w.heap.size R.toArray)) := below_setRow hbr (Nat.le_refl _) R.toArray
      have HZ : Hid ((Try.prog.info? 81).map (·.size) = some R.toArray.size) := by unfold Hid; rw [Try.size81]; simp [hl]
      have HS : Hid ((List.replicate 16 (Value.int .u32 0)).toArray.size = R.toArray.size) := by unfold Hid; simp [hl]
      have hB1 : Hid (Blk wr (w.heap.size + 1) 81 R) := hb
      have hB2 : Hid (Blk wr w.heap.size 81 (List.replicate 16 (.int .u32 0))) := hz
      clear hb hz hl hbr
      go_wp2_with (first | (refine wpList_load_row rfl 81 (.tmp 3) rfl (w.heap.size + 1) rfl 81 R.toArray (0, 0) (.array 16 23) hB1.out Try.underlying81 rfl HZ.out ?_) | (refine wpList_store_row rfl 81 (.tmp 2) (.tmp 43) rfl w.heap.size R.toArray rfl rfl 81 _ hB2.out HZ.out HS.out H1.out ?_; generalize wr.setRow w.heap.size R.toArray = X at *))
      rw [HV.out]
      refine bodyPost_ret (v := .agg R.toArray) ?_ rfl ⟨rfl, HC.out⟩
      exact results_cell_row Try.results53 _ _ w.heap.size 81 R.toArray (0, 0) (.array 16 23) rfl HB.out Try.underlying81 rfl HZ.out

end Go.Proofs.Ytpdndcmaaghnjaa.D
