/-
  A call's words, by package data, proved of every call.
-/
import Derived.Test.YtpdndcmaaghnjaaDSmall
namespace Go.Proofs.Ytpdndcmaaghnjaa.D
open Go.RowKit

/-- the words that are laid so far. -/
def wordsTo (ws : List Int) (k : Nat) : List Int := ws.take (4 + 2 * k) ++ List.replicate (12 - 2 * k) 0

theorem wordsTo_all (ws : List Int) (h : ws.length = 16) : wordsTo ws 6 = ws := by
  unfold wordsTo
  rw [List.take_of_length_le (by omega)]
  simp

theorem wordsTo_set (n a p : Int) (g : List Int) (hg : g.length = 6) (k : Nat) (hk : k < 6) :
    ((cellsW (wordsTo (Da.mk n a p g).words k)).set (4 + 2 * k) (.int .u32 (lo (g.getD k 0)))).set (4 + 2 * k + 1) (.int .u32 (hi (g.getD k 0))) = cellsW (wordsTo (Da.mk n a p g).words (k + 1)) := by
  obtain ⟨x0, x1, x2, x3, x4, x5, rfl⟩ := six hg
  match k, hk with
  | 0, _ => rfl
  | 1, _ => rfl
  | 2, _ => rfl
  | 3, _ => rfl
  | 4, _ => rfl
  | 5, _ => rfl

set_option maxHeartbeats 800000 in
theorem split_any (d : Da) (w : World) (hd : d.ok) :
    Calls Try.prog 50 #[d.val] w fun e w' => e = .returned (valW d.words) ∧ Below w.heap.size w w' := by
  have HH : Hid (∀ (n : Int) (W : World), U64 n → Calls Try.prog 54 #[.int .u64 n] W fun e w' => e = .returned (.tuple #[.int .u32 (lo n), .int .u32 (hi n)]) ∧ w' = W) := fun n W h => halves_any n W h
  have HP : Hid (U64 d.p) := hd.2.2.1
  have HG : Hid (∀ z ∈ d.g, U64 z) := hd.2.2.2.2
  obtain ⟨n, a, p, g⟩ := d
  have hl := hd.2.2.2.1
  obtain ⟨x0, x1, x2, x3, x4, x5, rfl⟩ := six hl
  clear hd hl
  unfold Da.val Da.cells at *
  simp only [List.map_cons, List.map_nil] at *
  go_enter Try.func50, Try.ntmps50
  go_wp2_with (go_at_call 54; refine (HH.out _ _ HP.out).mono ?_; rintro e w2 ⟨rfl, rfl⟩)
  have B0 : Hid (∀ o1 o2 o3 : Obj, Below w.heap.size w (((w.alloc o1).alloc o2).alloc o3)) := fun o1 o2 o3 => (((Below.refl _ _).alloc (Nat.le_refl _) _).alloc (by rw [size_alloc']; omega) _).alloc (by rw [size_alloc', size_alloc']; omega) _
  go_loopw [22] (fun i wr => ∃ k : Nat, k ≤ 6 ∧ i = .int .i64 k ∧ Blk wr (w.heap.size + 1 + 1) 81 (cellsW (wordsTo (Da.mk n a p [x0, x1, x2, x3, x4, x5]).words k)) ∧ Blk wr (w.heap.size + 1) 81 (List.replicate 16 (.int .u32 0)) ∧ Below w.heap.size w wr) (fun i _ => 6 - (intOf i).toNat)
  case atStart =>
    refine ⟨0, by decide, rfl, ?_, ?_, B0.out _ _ _⟩
    · have := blk_new (((w.alloc (Obj.cells #[.int .u32 n, .int .u32 a, .int .u64 p, .int .u64 x0, .int .u64 x1, .int .u64 x2, .int .u64 x3, .int .u64 x4, .int .u64 x5] 26)).alloc (Obj.cells (List.replicate 16 (Value.int .u32 0)).toArray 81))) (cellsW (wordsTo (Da.mk n a p [x0, x1, x2, x3, x4, x5]).words 0)).toArray 81
      rw [size_alloc', size_alloc'] at this
      exact this
    · have := blk_new' w (Obj.cells #[.int .u32 n, .int .u32 a, .int .u64 p, .int .u64 x0, .int .u64 x1, .int .u64 x2, .int .u64 x3, .int .u64 x4, .int .u64 x5] 26) (List.replicate 16 (Value.int .u32 0)).toArray 81
      exact this.alloc _
  case round =>
    obtain ⟨k, hk, rfl, hb, hz, hbr⟩ := hrel
    by_cases hlt : k < 6
    · have HS : Hid (((cellsW (wordsTo (Da.mk n a p [x0, x1, x2, x3, x4, x5]).words k)).set (4 + 2 * k) (.int .u32 (lo ([x0, x1, x2, x3, x4, x5].getD k 0)))).set (4 + 2 * k + 1) (.int .u32 (hi ([x0, x1, x2, x3, x4, x5].getD k 0))) = cellsW (wordsTo (Da.mk n a p [x0, x1, x2, x3, x4, x5]).words (k + 1))) := wordsTo_set n a p _ rfl k hlt
      have HU : Hid (U64 ([x0, x1, x2, x3, x4, x5].getD k 0)) := by
        unfold Hid
        rw [List.getD_eq_getElem?_getD, List.getElem?_eq_getElem (show k < [x0, x1, x2, x3, x4, x5].length from hlt)]
        exact HG.out _ (List.getElem_mem (show k < [x0, x1, x2, x3, x4, x5].length from hlt))
      have hA : (#[.int .u64 x0, .int .u64 x1, .int .u64 x2, .int .u64 x3, .int .u64 x4, .int .u64 x5] : Array Value)[k]? = some (.int .u64 ([x0, x1, x2, x3, x4, x5].getD k 0)) := by
        match k, hlt with
        | 0, _ => rfl
        | 1, _ => rfl
        | 2, _ => rfl
        | 3, _ => rfl
        | 4, _ => rfl
        | 5, _ => rfl
      have hlen : (cellsW (wordsTo (Da.mk n a p [x0, x1, x2, x3, x4, x5]).words k)).length = 16 := by
        match k, hlt with
        | 0, _ => rfl
        | 1, _ => rfl
        | 2, _ => rfl
        | 3, _ => rfl
        | 4, _ => rfl
        | 5, _ => rfl
      generalize cellsW (wordsTo (Da.mk n a p [x0, x1, x2, x3, x4, x5]).words k) = L at *
      have hc1 := hb.cell (4 + 2 * k)
      rw [List.getElem?_eq_getElem (by omega)] at hc1
      have hc2 := hb.cell (4 + 2 * k + 1)
      rw [List.getElem?_eq_getElem (by omega)] at hc2
      have f1 := hb.f (4 + 2 * k)
      have f2 := hb.f (4 + 2 * k + 1)
      generalize L[4 + 2 * k]'_ = v1 at *
      generalize L[4 + 2 * k + 1]'_ = v2 at *
      have HB : Hid (Blk wr (w.heap.size + 1 + 1) 81 L) := hb
      have HZ : Hid (Blk wr (w.heap.size + 1) 81 (List.replicate 16 (Value.int IntKind.u32 0))) := hz
      clear hb hz hlen
      generalize [x0, x1, x2, x3, x4, x5].getD k 0 = z at *
      have hix : ∀ W : World, (Instr.index 24 (.agg #[.int .u64 x0, .int .u64 x1, .int .u64 x2, .int .u64 x3, .int .u64 x4, .int .u64 x5]) (.int .i64 k)).run Try.prog W = .ok (.int .u64 z) W := fun W => index_row 24 22 6 .i64 .u64 Try.underlying24 Try.underlying22 Try.sizeOf22 _ k z hlt hA W
      clear hA
      generalize (#[.int .u64 x0, .int .u64 x1, .int .u64 x2, .int .u64 x3, .int .u64 x4, .int .u64 x5] : Array Value) = A at *
      go_wp2_with (go_at_call 54; refine (HH.out _ _ HU.out).mono ?_; rintro e w2 ⟨rfl, rfl⟩)
      go_roundw
      case rel =>
        refine ⟨k + 1, by omega, by go_num, ?_, ?_, ?_⟩
        · rw [← HS.out]
          exact (HB.out.set _ _).set _ _
        · exact (HZ.out.other _ _ (by show w.heap.size + 1 ≠ w.heap.size + 1 + 1; omega)).other _ _ (by show w.heap.size + 1 ≠ w.heap.size + 1 + 1; omega)
        · exact (hbr.setCell (by show w.heap.size ≤ w.heap.size + 1 + 1; omega) _).setCell (by show w.heap.size ≤ w.heap.size + 1 + 1; omega) _
      case measure => simp [intOf]; omega
    · have hk6 : ¬ (k : Int) < 6 := by omega
      have hw : wordsTo (Da.mk n a p [x0, x1, x2, x3, x4, x5]).words k = (Da.mk n a p [x0, x1, x2, x3, x4, x5]).words := by
        obtain rfl : k = 6 := by omega
        exact wordsTo_all _ rfl
      rw [hw] at hb
      clear hw hlt hk
      obtain ⟨R, hR⟩ : ∃ R, R = cellsW (Da.mk n a p [x0, x1, x2, x3, x4, x5]).words := ⟨_, rfl⟩
      have h1 : R.toArray.all (·.oneCell') = true := by rw [hR]; exact cellsW_one _
      have hl : R.length = 16 := by rw [hR]; rfl
      have HV : Hid (valW (Da.mk n a p [x0, x1, x2, x3, x4, x5]).words = .agg R.toArray) := by rw [hR]; exact rfl
      rw [← hR] at hb
      clear hR
      have HB : Hid (Blk (wr.setRow (w.heap.size + 1) R.toArray) (w.heap.size + 1) 81 R) := hz.row R.toArray
      have HC : Hid (Below w.heap.size w (wr.setRow (w.heap.size + 1) R.toArray)) := below_setRow hbr (show w.heap.size ≤ w.heap.size + 1 by omega) R.toArray
      have HZ : Hid ((Try.prog.info? 81).map (·.size) = some R.toArray.size) := by unfold Hid; rw [Try.size81]; simp [hl]
      have HS : Hid ((List.replicate 16 (Value.int .u32 0)).toArray.size = R.toArray.size) := by unfold Hid; simp [hl]
      have hB1 : Hid (Blk wr (w.heap.size + 1 + 1) 81 R) := hb
      have hB2 : Hid (Blk wr (w.heap.size + 1) 81 (List.replicate 16 (.int .u32 0))) := hz
      have H1 : Hid (R.toArray.all (·.oneCell') = true) := h1
      clear hb hz h1 hl hbr
      go_wp2_with (first | (refine wpList_load_row rfl 81 (.tmp 3) rfl (w.heap.size + 1 + 1) rfl 81 R.toArray (0, 0) (.array 16 23) hB1.out Try.underlying81 rfl HZ.out ?_) | (refine wpList_store_row rfl 81 (.tmp 2) (.tmp 40) rfl (w.heap.size + 1) R.toArray rfl rfl 81 _ hB2.out HZ.out HS.out H1.out ?_; generalize wr.setRow (w.heap.size + 1) R.toArray = X at *))
      rw [HV.out]
      refine bodyPost_ret (v := .agg R.toArray) ?_ rfl ⟨rfl, HC.out⟩
      exact results_cell_row Try.results50 _ _ (w.heap.size + 1) 81 R.toArray (0, 0) (.array 16 23) rfl HB.out Try.underlying81 rfl HZ.out

end Go.Proofs.Ytpdndcmaaghnjaa.D
