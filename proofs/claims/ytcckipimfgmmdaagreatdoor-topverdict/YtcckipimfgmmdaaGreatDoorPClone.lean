/-
  Texts cloned, held against what they begin with, and cut.
-/
import Derived.Test.YtcckipimfgmmdaaGreatDoorPMem
import Derived.Lib.BufferWrite
import Derived.Lib.UnsafeStr
namespace Go.Proofs.YtcckipimfgmmdaaGreatDoor.P
open Go.RowKit

theorem Tryz.info5 : (Tryz.prog.info? 5).map (fun i => (i.zero, i.size, i.bytes)) = some (some (.int .u8 0), 1, 1) := by kernel_rfl
theorem Tryz.cells5 : Tryz.prog.cellsOf 5 = 1 := by kernel_rfl

set_option maxRecDepth 4000 in
set_option maxHeartbeats 1000000 in
theorem lite_any (s : ByteArray) (w : World) (hs : s.size ≤ 100000000) :
    Calls Tryz.prog 117 #[.string s] w fun e w' => e = .returned (.string s) ∧ Below w.heap.size w w' := by
  rcases Nat.eq_zero_or_pos s.size with h0 | h0
  · have e : s = ⟨#[]⟩ := ByteArray.ext (Array.eq_empty_of_size_eq_zero h0)
    subst e
    go_enter Tryz.func117, Tryz.ntmps117
    go_wp2
    go_ret
    exact ⟨rfl, Below.refl _ _⟩
  · obtain ⟨i0, hi, hz0, hz1, hz2⟩ := info_parts Tryz.info5
    obtain ⟨M, hM⟩ : ∃ M, M = madeCells (Value.int .u8 0).cells (((s.size : Nat) : Int).toNat * i0.size) := ⟨_, rfl⟩
    have hMs : M.size = s.size := by rw [hM, size_madeCells, hz1]; simp
    have hmk : ∀ W : World, (Instr.makeSlice 62 (.int .i64 (s.size : Int)) (.int .i64 (s.size : Int))).run Tryz.prog W = .ok (.slice (some ⟨W.heap.size, 0, none⟩) s.size s.size) (W.alloc (.cells M 5)) := fun W => by
      have h := run_make (P := Tryz.prog) W 62 5 i0 (.int .u8 0) Tryz.underlying62 hi hz0 .i64 .i64 (s.size : Int) (s.size : Int) (by omega) (by omega) (by rw [hz2]; omega) (by omega)
      rw [← hM] at h
      simpa using h
    clear hM
    obtain ⟨Y, hY⟩ : ∃ Y : Array Value, Y.toList = Lib.byteCells (lst s) ∧ (Builtin.copy_ #[62, 9] 3 #[.slice (some ⟨w.heap.size, 0, none⟩) s.size s.size, .string s]).run Tryz.prog (w.alloc (.cells M 5)) = .ok (goInt s.size) ((w.alloc (.cells M 5)).setRow w.heap.size Y) := by
      refine ⟨_, ?_, Lib.run_copy_row_string (P := Tryz.prog) (w.alloc (.cells M 5)) 62 9 3 5 w.heap.size 0 s.size s.size s M 5 Tryz.underlying62 (by rw [hi]; simp [hz1]) (heap_alloc_new w _) (Nat.le_refl _) (by omega)⟩
      rw [List.toList_toArray, List.take_zero, List.nil_append, List.drop_of_length_le (by rw [Array.length_toList]; omega), List.append_nil]
      rfl
    obtain ⟨hYl, hcp⟩ := hY
    have hB := (blk_new w M 5).row Y
    have hYs : Y.size = s.size := by rw [← Array.length_toList, hYl, Lib.byteCells_length, lst_length]
    have hus : (Builtin.unsafeString_ #[141, 3] 9 #[.pointer (some ⟨w.heap.size, 0, none⟩), .int .i64 s.size]).run Tryz.prog ((w.alloc (.cells M 5)).setRow w.heap.size Y) = .ok (.string s) (((w.alloc (.cells M 5)).setRow w.heap.size Y).freeze ⟨w.heap.size, 0, none⟩ s.size) := by
      have h := Lib.run_unsafeString_row (P := Tryz.prog) (w := (w.alloc (.cells M 5)).setRow w.heap.size Y) 141 3 9 5 Tryz.underlying141 Tryz.cells5 w.heap.size Y.size (by unfold World.shape?; unfold Blk at hB; rw [hB]) (lst s) (fun e => by have := lst_length s; rw [e] at this; simp at this; omega) (by rw [lst_length]; omega) (by rw [lst_length]; omega)
        (fun j x hx => by
          have hc := hB.cell j
          rw [show (⟨w.heap.size, j, none⟩ : Addr) = (⟨w.heap.size, 0, none⟩ : Addr).add j from by unfold Addr.add; split <;> simp_all] at hc
          rw [hc, hYl]
          simp [Lib.byteCells, hx])
      rw [lst_length] at h
      rw [h]
      have : (⟨(lst s).toArray⟩ : ByteArray) = s := bar_lst s
      rw [this]
    clear hB
    have hb1 : Below w.heap.size w (w.alloc (.cells M 5)) := (Below.refl _ w).alloc (Nat.le_refl _) _
    have hb2 : Below w.heap.size (w.alloc (.cells M 5)) ((w.alloc (.cells M 5)).setRow w.heap.size Y) := ⟨rfl, rfl, rfl, by simp, fun k hk => setRow_other _ _ _ _ (by omega)⟩
    go_enter Tryz.func117, Tryz.ntmps117
    go_wp2
    go_ret
    exact ⟨rfl, Lib.below_freeze (hb1.trans hb2) (p := ⟨w.heap.size, 0, none⟩) (Nat.le_refl _) _⟩

theorem clone_any (s : ByteArray) (w : World) (hs : s.size ≤ 100000000) :
    Calls Tryz.prog 70 #[.string s] w fun e w' => e = .returned (.string s) ∧ Below w.heap.size w w' := by
  go_enter Tryz.func70, Tryz.ntmps70
  go_wp2_with (go_at_call 117; refine (lite_any s _ hs).mono ?_; rintro e w' ⟨rfl, hb⟩)
  go_ret
  exact ⟨rfl, hb⟩

/-- does a text begin so? -/
def pre (s p : ByteArray) : Bool := (lst p).isPrefixOf (lst s)

theorem pre_long {s p : ByteArray} (h : s.size < p.size) : pre s p = false := by
  unfold pre
  rcases Bool.eq_false_or_eq_true ((lst p).isPrefixOf (lst s)) with h1 | h1
  · have := (List.isPrefixOf_iff_prefix.1 h1).length_le
    rw [lst_length, lst_length] at this
    omega
  · exact h1

theorem toList_lst (s : ByteArray) : s.toList = lst s := ByteArray.toList_eq s

theorem pre_eq {s p : ByteArray} : ((s.extract 0 p.size).toList == p.toList) = pre s p := by
  unfold pre
  rw [Bool.eq_iff_iff, beq_iff_eq, List.isPrefixOf_iff_prefix, List.prefix_iff_eq_take, toList_lst, toList_lst, lst_extract, lst_length, List.drop_zero, Nat.sub_zero]
  exact eq_comm

theorem hasp_any (s p : ByteArray) (w : World) :
    Calls Tryz.prog 119 #[.string s, .string p] w fun e w' => e = .returned (.bool (pre s p)) ∧ w' = w := by
  rcases Nat.lt_or_ge s.size p.size with h | h
  · have h1 : ¬ p.size ≤ s.size := by omega
    have hq := pre_long h
    clear h
    go_enter Tryz.func119, Tryz.ntmps119
    go_wp2
    go_ret
    exact ⟨by rw [hq]; rfl, rfl⟩
  · have h1 : p.size ≤ s.size := h
    clear h
    go_enter Tryz.func119, Tryz.ntmps119
    go_wp2
    go_ret
    exact ⟨ret_bool (by rw [← pre_eq]), rfl⟩

theorem hasPrefix_any (s p : ByteArray) (w : World) :
    Calls Tryz.prog 75 #[.string s, .string p] w fun e w' => e = .returned (.bool (pre s p)) ∧ w' = w := by
  go_enter Tryz.func75, Tryz.ntmps75
  go_wp2_with (go_at_call 119; refine (hasp_any s p _).mono ?_; rintro e w' ⟨rfl, rfl⟩)
  go_ret
  exact ⟨rfl, rfl⟩

theorem cut_any (s p : ByteArray) (w : World) :
    Calls Tryz.prog 137 #[.string s, .string p] w fun e w' => e = .returned (.tuple #[.string (if pre s p then s.extract p.size s.size else s), .bool (pre s p)]) ∧ w' = w := by
  rcases Bool.eq_false_or_eq_true (pre s p) with h | h
  · have hle : p.size ≤ s.size := by
      rcases Nat.lt_or_ge s.size p.size with h1 | h1
      · rw [pre_long h1] at h; cases h
      · exact h1
    rw [h, if_pos rfl]
    go_enter Tryz.func137, Tryz.ntmps137
    go_wp2_with (first | (go_at_call 119; refine (hasp_any s p _).mono ?_; rintro e w' ⟨rfl, rfl⟩; rw [h]) | go_in)
    go_ret2
    exact ⟨rfl, rfl⟩
  · rw [h, if_neg (by decide)]
    go_enter Tryz.func137, Tryz.ntmps137
    go_wp2_with (first | (go_at_call 119; refine (hasp_any s p _).mono ?_; rintro e w' ⟨rfl, rfl⟩; rw [h]) | go_in)
    go_ret2
    exact ⟨rfl, rfl⟩

end Go.Proofs.YtcckipimfgmmdaaGreatDoor.P
