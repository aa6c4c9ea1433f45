/-
  The call of words, by package data, proved of every sixteen words.
-/
import Derived.Test.YtpdndcmaaghnjaaDRead
import Derived.Deep.DeepCutAuto
namespace Go.Proofs.Ytpdndcmaaghnjaa.D
open Go.RowKit

/-- the call that is made so far. -/
def joinTo (ws : List Int) (k : Nat) : List Value :=
  .int .u32 (ws.getD 0 0) :: .int .u32 (ws.getD 1 0) :: .int .u64 (both (ws.getD 2 0) (ws.getD 3 0)) :: (List.range 6).map (fun i => .int .u64 (if i < k then both (ws.getD (4 + 2 * i) 0) (ws.getD (4 + 2 * i + 1) 0) else 0))

theorem joinTo_zero (ws : List Int) : joinTo ws 0 = [.int .u32 (ws.getD 0 0), .int .u32 (ws.getD 1 0), .int .u64 (both (ws.getD 2 0) (ws.getD 3 0)), .int .u64 0, .int .u64 0, .int .u64 0, .int .u64 0, .int .u64 0, .int .u64 0] := rfl
theorem joinTo_all (ws : List Int) : joinTo ws 6 = (join ws).cells := rfl
theorem joinTo_len (ws : List Int) (k : Nat) : (joinTo ws k).length = 9 := rfl
theorem joinTo_set (ws : List Int) (k : Nat) (hk : k < 6) : (joinTo ws k).set (3 + k) (.int .u64 (both (ws.getD (4 + 2 * k) 0) (ws.getD (4 + 2 * k + 1) 0))) = joinTo ws (k + 1) := by
  match k, hk with
  | 0, _ => rfl
  | 1, _ => rfl
  | 2, _ => rfl
  | 3, _ => rfl
  | 4, _ => rfl
  | 5, _ => rfl

/-- a call of noughts, as cells. -/
def zero9 : List Value := [.int .u32 0, .int .u32 0, .int .u64 0, .int .u64 0, .int .u64 0, .int .u64 0, .int .u64 0, .int .u64 0, .int .u64 0]

set_option maxHeartbeats 2000000 in
theorem join_any (ws : List Int) (w : World) (hl : ws.length = 16) (hu : ∀ z ∈ ws, U32 z) :
    Calls Try.prog 52 #[valW ws] w fun e w' => e = .returned (join ws).val ∧ Below w.heap.size w w' := by
  have HW : Hid (∀ (x y : Int) (W : World), U32 x → U32 y → Calls Try.prog 55 #[.int .u32 x, .int .u32 y] W fun e w' => e = .returned (.int .u64 (both x y)) ∧ w' = W) := fun x y W hx hy => whole_any x y W hx hy
  have HU : Hid (∀ k, U32 (ws.getD k 0)) := fun k => getD_u hu k
  have HG : Hid (∀ k, k < 16 → (cellsW ws)[k]? = some (.int .u32 (ws.getD k 0))) := fun k hk => cellsW_get _ k (by rw [hl]; exact hk)
  have Z1 := blk_new w (cellsW ws).toArray 81
  have Z2 := blk_new' w (Obj.cells (cellsW ws).toArray 81) zero9.toArray 26
  have Z3 : Blk ((w.alloc (Obj.cells (cellsW ws).toArray 81)).alloc (Obj.cells zero9.toArray 26)) w.heap.size 81 (cellsW ws) := Z1.alloc _
  have Z5 : Below w.heap.size w ((w.alloc (Obj.cells (cellsW ws).toArray 81)).alloc (Obj.cells zero9.toArray 26)) := ((Below.refl _ _).alloc (Nat.le_refl _) _).alloc (by rw [size_alloc']; omega) _
  have ZS : ((w.alloc (Obj.cells (cellsW ws).toArray 81)).alloc (Obj.cells zero9.toArray 26)).heap.size = w.heap.size + 1 + 1 := by rw [size_alloc', size_alloc']
  clear Z1 hl hu
  unfold valW zero9 at *
  generalize cellsW ws = RW at *
  go_enter Try.func52, Try.ntmps52
  go_wp2_with fail
  generalize (w.alloc (Obj.cells RW.toArray 81)).alloc (Obj.cells #[.int .u32 0, .int .u32 0, .int .u64 0, .int .u64 0, .int .u64 0, .int .u64 0, .int .u64 0, .int .u64 0, .int .u64 0] 26) = W0 at *
  have c0 := (Z3.cell 0).trans (HG.out 0 (by decide))
  have c1 := (Z3.cell 1).trans (HG.out 1 (by decide))
  have c2 := (Z3.cell 2).trans (HG.out 2 (by decide))
  have c3 := (Z3.cell 3).trans (HG.out 3 (by decide))
  have U2 := HU.out 2
  have U3 := HU.out 3
  have z2 : Hid (Blk W0 (w.heap.size + 1) 26 zero9) := Z2
  have z3 : Hid (Blk W0 w.heap.size 81 RW) := Z3
  have z5 : Hid (Below w.heap.size w W0) := Z5
  have hJ : Hid (joinTo ws 0 = [.int .u32 (ws.getD 0 0), .int .u32 (ws.getD 1 0), .int .u64 (both (ws.getD 2 0) (ws.getD 3 0)), .int .u64 0, .int .u64 0, .int .u64 0, .int .u64 0, .int .u64 0, .int .u64 0]) := rfl
  clear Z2 Z3 Z5
  go_cut [3] (fun v wc => v = .pointer (some ⟨w.heap.size + 1 + 1, 0, none⟩) ∧ Blk wc (w.heap.size + 1 + 1) 26 (joinTo ws 0) ∧ Blk wc (w.heap.size + 1) 26 zero9 ∧ Blk wc w.heap.size 81 RW ∧ Below w.heap.size w wc)
  case first =>
    generalize ws.getD 0 0 = x0 at *
    generalize ws.getD 1 0 = x1 at *
    generalize ws.getD 2 0 = x2 at *
    generalize ws.getD 3 0 = x3 at *
    go_region_held3 (fun w' => w'.cell? ⟨w.heap.size, 0, none⟩ = some (.int .u32 x0) ∧ w'.cell? ⟨w.heap.size, 1, none⟩ = some (.int .u32 x1) ∧ w'.cell? ⟨w.heap.size, 2, none⟩ = some (.int .u32 x2) ∧ w'.cell? ⟨w.heap.size, 3, none⟩ = some (.int .u32 x3)) (go_keep) ((go_at_call 55; refine (HW.out _ _ _ U2 U3).mono ?_; rintro e w2 ⟨rfl, rfl⟩))
    all_goals
      go_wp2_with fail
      go_meet
      refine ⟨rfl, ?_, ?_, ?_, ?_⟩
      · rw [hJ.out, ← ZS]
        exact (blk_new W0 _ 26).drew
      · exact (z2.out.alloc _).drew
      · exact (z3.out.alloc _).drew
      · exact (z5.out.alloc z5.out.size _).drew
  case rest =>
    obtain ⟨rfl, hJ0, hZ0, hW0, hB0⟩ := hcut
    clear z2 z3 z5 c0 c1 c2 c3 U2 U3 hJ ZS
    go_wp2_with fail
    go_loopw [16] (fun i wr => ∃ k : Nat, k ≤ 6 ∧ i = .int .i64 k ∧ Blk wr (w.heap.size + 1 + 1) 26 (joinTo ws k) ∧ Blk wr (w.heap.size + 1) 26 zero9 ∧ Blk wr w.heap.size 81 RW ∧ Below w.heap.size w wr) (fun i _ => 6 - (intOf i).toNat)
    case atStart => exact ⟨0, by decide, rfl, hJ0, hZ0, hW0, hB0⟩
    case round =>
      obtain ⟨k, hk, rfl, hJ1, hZ1, hW1, hB1⟩ := hrel
      clear hJ0 hZ0 hW0 hB0
      by_cases hlt : k < 6
      · have c4 := (hW1.cell (4 + 2 * k)).trans (HG.out (4 + 2 * k) (by omega))
        have c5 := (hW1.cell (4 + 2 * k + 1)).trans (HG.out (4 + 2 * k + 1) (by omega))
        have U4 := HU.out (4 + 2 * k)
        have U5 := HU.out (4 + 2 * k + 1)
        have HS : Hid ((joinTo ws k).set (3 + k) (.int .u64 (both (ws.getD (4 + 2 * k) 0) (ws.getD (4 + 2 * k + 1) 0))) = joinTo ws (k + 1)) := joinTo_set ws k hlt
        have s0 : wr.cell? ⟨w.heap.size + 1 + 1, 3 + k, none⟩ = some ((joinTo ws k)[3 + k]'(by rw [joinTo_len]; omega)) := by
          rw [hJ1.cell, List.getElem?_eq_getElem]
        have f0 := hJ1.f (3 + k)
        generalize (joinTo ws k)[3 + k]'_ = v0 at *
        generalize joinTo ws k = L at *
        generalize ws.getD (4 + 2 * k) 0 = x4 at *
        generalize ws.getD (4 + 2 * k + 1) 0 = x5 at *
        have y1 : Hid (Blk wr (w.heap.size + 1 + 1) 26 L) := hJ1
        have y2 : Hid (Blk wr (w.heap.size + 1) 26 zero9) := hZ1
        have y3 : Hid (Blk wr w.heap.size 81 RW) := hW1
        have y4 : Hid (Below w.heap.size w wr) := hB1
        clear hJ1 hZ1 hW1 hB1
        have n0 : (0 : Int) ≤ 4 + 2 * (k : Int) := by omega
        have n1 : (0 : Int) ≤ 4 + 2 * (k : Int) + 1 := by omega
        have m0 : 4 + 2 * (k : Int) < 16 := by omega
        have m1 : 4 + 2 * (k : Int) + 1 < 16 := by omega
        have j1 : IntKind.i64.wrap (4 + 2 * (k : Int) + 1) = 4 + 2 * (k : Int) + 1 := by rw [IntKind.wrap_i64]; omega
        have t0 : (4 + 2 * (k : Int)).toNat = 4 + 2 * k := by omega
        have t1 : (4 + 2 * (k : Int) + 1).toNat = 4 + 2 * k + 1 := by omega
        have h6 : (k : Int) < 6 := by omega
        have hne : ¬ (w.heap.size + 1 + 1 = w.heap.size) := by omega
        go_wp2_with fail
        go_region_held3 (fun w' => w'.cell? ⟨w.heap.size, 4 + 2 * k, none⟩ = some (.int .u32 x4) ∧ w'.cell? ⟨w.heap.size, 4 + 2 * k + 1, none⟩ = some (.int .u32 x5)) (go_keep) ((go_at_call 55; refine (HW.out _ _ _ U4 U5).mono ?_; rintro e w2 ⟨rfl, rfl⟩))
        all_goals
          go_wp2_with fail
          go_roundw
          case rel =>
            refine ⟨k + 1, by omega, by go_num, ?_, ?_, ?_, ?_⟩
            · rw [← HS.out]
              exact (y1.out.set _ _).drew
            · exact (y2.out.other _ _ (by show w.heap.size + 1 ≠ w.heap.size + 1 + 1; omega)).drew
            · exact (y3.out.other _ _ (by show w.heap.size ≠ w.heap.size + 1 + 1; omega)).drew
            · exact (y4.out.setCell (by show w.heap.size ≤ w.heap.size + 1 + 1; omega) _).drew
          case measure => simp [intOf]; omega
      · have hk6 : ¬ (k : Int) < 6 := by omega
        have hw : joinTo ws k = (join ws).cells := by
          obtain rfl : k = 6 := by omega
          exact joinTo_all ws
        rw [hw] at hJ1
        clear hw hlt hk
        have H1 : Hid ((join ws).cells.toArray.all (·.oneCell') = true) := Da.cells_one _
        have hl : (join ws).cells.length = 9 := rfl
        have HV : Hid ((join ws).val = .agg (join ws).cells.toArray) := rfl
        generalize (join ws).cells = R at *
        have HB : Hid (Blk (wr.setRow (w.heap.size + 1) R.toArray) (w.heap.size + 1) 26 R) := hZ1.row R.toArray
        have HC : Hid (Below w.heap.size w (wr.setRow (w.heap.size + 1) R.toArray)) := below_setRow hB1 (show w.heap.size ≤ w.heap.size + 1 by omega) R.toArray
        have HZ : Hid ((Try.prog.info? 26).map (·.size) = some R.toArray.size) := by unfold Hid; rw [Try.size26]; simp [hl]
        have HS : Hid (zero9.toArray.size = R.toArray.size) := by unfold Hid; simp [hl, zero9]
        have y1 : Hid (Blk wr (w.heap.size + 1 + 1) 26 R) := hJ1
        have y2 : Hid (Blk wr (w.heap.size + 1) 26 zero9) := hZ1
        clear hJ1 hZ1 hW1 hl hB1
        go_wp2_with (first | (refine wpList_load_row rfl 26 (.tmp 3) rfl (w.heap.size + 1 + 1) rfl 26 R.toArray (0, 0) _ y1.out Try.underlying26 rfl HZ.out ?_) | (refine wpList_store_row rfl 26 (.tmp 2) (.tmp 34) rfl (w.heap.size + 1) R.toArray rfl rfl 26 _ y2.out HZ.out HS.out H1.out ?_; generalize wr.setRow (w.heap.size + 1) R.toArray = X at *))
        rw [HV.out]
        refine bodyPost_ret (v := .agg R.toArray) ?_ rfl ⟨rfl, HC.out⟩
        exact results_cell_row Try.results52 _ _ (w.heap.size + 1) 26 R.toArray (0, 0) _ rfl HB.out Try.underlying26 rfl HZ.out

end Go.Proofs.Ytpdndcmaaghnjaa.D
