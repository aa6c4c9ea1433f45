/-
  PCatch PClone.
-/
import Derived.Test.YtcckipimfgmmdaaGreatDoorGs7
import Derived.Defers
import Derived.Recover
import Derived.Lib.BufferWrite
import Derived.Lib.UnsafeStr
import Derived.Test.YtcckipimfgmmdaaGreatDoorGs0
set_option maxHeartbeats 4000000
namespace Go.Proofs.YtcckipimfgmmdaaGreatDoor.P
open Go.RowKit
set_option maxRecDepth 8000 in
theorem catch_idle (B0 B1 B2 : Nat) (w : World) :
  CallsD Tryz.prog 22 #[.pointer (some ⟨B0, 0, none⟩), .pointer (some ⟨B1, 0, none⟩), .pointer (some ⟨B2, 0, none⟩)] .returning w fun e u' w' => e = .returned (.tuple #[]) /\ u' = .returning /\ w' = w := by
 have hq : ∀ W : World, (binOp .neq 20 .nilIface .nilIface).run Tryz.prog W = .ok (.bool false) W := fun W => by kernel_rfl
 refine callsD_of_wpS Tryz.func22 rfl fun c₀ cs hu => ?_
 apply wpS_seq
 apply wpS_region
 simp [wpOpsS, go_sem, recoverD, hu, Tryz.ntmps22, Exit.thenS]
 refine wpS_of_wp ?_
 change Code.wp Tryz.prog _ _ { tmps := #[.pointer (some ⟨B0, 0, none⟩), .pointer (some ⟨B1, 0, none⟩), .pointer (some ⟨B2, 0, none⟩), .nilIface, undef, .nilIface, undef, undef, undef, undef, undef, undef, undef, undef, undef], defers := [] } w
 go_wp2
 cases c₀
 simp_all [bodyPostS, results, Tryz.results22]
structure Cq (w : World) (N B0 B1 B2 : Nat) (l0 l1 l2 : List Value) (X : World) : Prop where
 b0 : Blk X B0 39 l0
 b1 : Blk X B1 40 l1
 b2 : Blk X B2 3 l2
 be : Below N w X
 n0 : N <= B0
 n1 : B0 < B1
 n2 : B1 < B2
section
variable {w X Y : World} {N B0 B1 B2 : Nat} {l0 l1 l2 : List Value}
theorem Cq.over (h : Cq w N B0 B1 B2 l0 l1 l2 X) (hb : Below X.heap.size X Y) : Cq w N B0 B1 B2 l0 l1 l2 Y :=
 ⟨h.b0.over hb, h.b1.over hb, h.b2.over hb, h.be.trans (hb.mono (by have := h.b0.lt; have := h.n0; omega)), h.n0, h.n1, h.n2⟩
theorem below_setCell' {a W : World} {N r i : Nat} (h : Below N a W) (hr : N <= r) (v : Value) : Below N a (W.setCell ⟨r, i, none⟩ v) :=
 ⟨h.os, h.tape, h.output, by have := h.size; simpa using this, fun k hk => by rw [heap_setCell_other W ⟨r, i, none⟩ k v (by show k ≠ r; omega)]; exact h.block k hk⟩
theorem below_setRow' {a W : World} {N r : Nat} (h : Below N a W) (hr : N <= r) (cs : Array Value) : Below N a (W.setRow r cs) :=
 ⟨h.os, h.tape, h.output, by have := h.size; simpa using this, fun k hk => by rw [setRow_other _ _ _ _ (by omega)]; exact h.block k hk⟩
theorem Blk.rowOther {b r : Nat} {t : TypeId} {l : List Value} (h : Blk X b t l) (hr : b ≠ r) (cs : Array Value) : Blk (X.setRow r cs) b t l := by
 unfold Blk
 rw [setRow_other _ _ _ _ hr]
 exact h
theorem Cq.set0 (h : Cq w N B0 B1 B2 l0 l1 l2 X) (l : List Value) : Cq w N B0 B1 B2 l l1 l2 (X.setRow B0 l.toArray) := by
 have n1 := h.n1
 have n2 := h.n2
 exact ⟨h.b0.row _, h.b1.rowOther (by omega) _, h.b2.rowOther (by omega) _, below_setRow' h.be h.n0 _, h.n0, n1, n2⟩
theorem Cq.setc (h : Cq w N B0 B1 B2 l0 l1 l2 X) (i : Nat) (v : Value) : Cq w N B0 B1 B2 (l0.set i v) l1 l2 (X.setCell ⟨B0, i, none⟩ v) := by
 have n0 := h.n0
 have n1 := h.n1
 have n2 := h.n2
 exact ⟨h.b0.set i v, h.b1.other _ _ (by show B1 ≠ B0; omega), h.b2.other _ _ (by show B2 ≠ B0; omega), below_setCell' h.be n0 v, n0, n1, n2⟩
theorem Cq.set1 (h : Cq w N B0 B1 B2 l0 l1 l2 X) (v : Value) : Cq w N B0 B1 B2 l0 (l1.set 0 v) l2 (X.setCell ⟨B1, 0, none⟩ v) := by
 have n0 := h.n0
 have n1 := h.n1
 have n2 := h.n2
 exact ⟨h.b0.other _ _ (by show B0 ≠ B1; omega), h.b1.set 0 v, h.b2.other _ _ (by show B2 ≠ B1; omega), below_setCell' h.be (by omega) v, n0, n1, n2⟩
theorem Cq.set2 (h : Cq w N B0 B1 B2 l0 l1 l2 X) (v : Value) : Cq w N B0 B1 B2 l0 l1 (l2.set 0 v) (X.setCell ⟨B2, 0, none⟩ v) := by
 have n0 := h.n0
 have n1 := h.n1
 have n2 := h.n2
 exact ⟨h.b0.other _ _ (by show B0 ≠ B2; omega), h.b1.other _ _ (by show B1 ≠ B2; omega), h.b2.set 0 v, below_setCell' h.be (by omega) v, n0, n1, n2⟩
end
set_option linter.unusedSimpArgs false in
set_option maxRecDepth 8000 in
theorem catch_panicking (v : World) (N B0 B1 B2 : Nat) (k a : Int) (vL v1 v2 : Value) (c p : Nat) (w : World) (h : Cq v N B0 B1 B2 (rulL k a vL) [v1] [v2] w) :
  CallsD Tryz.prog 22 #[.pointer (some ⟨B0, 0, none⟩), .pointer (some ⟨B1, 0, none⟩), .pointer (some ⟨B2, 0, none⟩)] (.panicking (fltC c p)) w fun e u' w' => e = .returned (.tuple #[]) /\ u' = .panicking [{ v := (.iface 73 (.agg #[.int .i64 c, .int .i64 p])), recovered := true }] /\ Cq v N B0 B1 B2 (rulL 0 0 (.slice none 0 0)) [.int .i64 c] [.int .i64 p] w' := by
 unfold fltC
 have hq : ∀ W : World, (binOp .neq 20 (.iface 73 (.agg #[.int .i64 c, .int .i64 p])) .nilIface).run Tryz.prog W = .ok (.bool true) W := fun W => by kernel_rfl
 have hta : ∀ W : World, (Instr.typeAssert (.iface 73 (.agg #[.int .i64 c, .int .i64 p])) 20 73 false).run Tryz.prog W = .ok (.agg #[.int .i64 c, .int .i64 p]) W := fun W => by kernel_rfl
 have HC : Hid (Cq v N B0 B1 B2 (rulL k a vL) [v1] [v2] (w.alloc (Obj.cells #[.int .i64 c, .int .i64 p] 73))) := h.over ((Below.refl _ _).alloc (Nat.le_refl _) _)
 have HF : Hid (Blk (w.alloc (Obj.cells #[.int .i64 c, .int .i64 p] 73)) w.heap.size 73 [.int .i64 c, .int .i64 p] /\ ¬ w.heap.size = B0 /\ ¬ w.heap.size = B1 /\ ¬ w.heap.size = B2) := ⟨blk_new w _ 73, by have := h.b0.lt; omega, by have := h.b1.lt; omega, by have := h.b2.lt; omega⟩
 clear h
 refine callsD_of_wpS Tryz.func22 rfl fun c₀ cs hu => ?_
 apply wpS_seq
 apply wpS_region
 simp [wpOpsS, go_sem, recoverD, hu, Tryz.ntmps22, Exit.thenS]
 refine wpS_of_wp ?_
 change Code.wp Tryz.prog _ _ { tmps := #[.pointer (some ⟨B0, 0, none⟩), .pointer (some ⟨B1, 0, none⟩), .pointer (some ⟨B2, 0, none⟩), (.iface 73 (.agg #[.int .i64 c, .int .i64 p])), undef, (.iface 73 (.agg #[.int .i64 c, .int .i64 p])), undef, undef, undef, undef, undef, undef, undef, undef, undef], defers := [] } w
 go_wp2
 generalize (w.alloc (Obj.cells #[.int .i64 c, .int .i64 p] 73)) = X at *
 generalize w.heap.size = F at *
 refine wp_region_held_drew (S := fun W => Blk W F 73 [.int .i64 c, .int .i64 p]) (by kernel_rfl) (HF.out.1.over (Below.refl _ _).drew) (fun hHeld => ?_)
 simp only [List.size_toArray, List.length_cons, List.length_nil, Nat.reduceAdd]
 have C0 : Hid (Cq v N B0 B1 B2 (rulL k a vL) [v1] [v2] X.drew) := HC.out.over (Below.refl _ _).drew
 refine tk 0 ?_ hHeld ?_ ?_
 rotate_left
 ·(intro w hSw; (try dsimp only at hSw); go_simp; try with_reducible rfl)
 try simp only [Act.put, zA, zB, zC, zD, zE, zF]
 refine tk 1 ?_ hHeld ?_ ?_
 rotate_left
 ·(intro w hSw; (try dsimp only at hSw); go_simp; try with_reducible rfl)
 try simp only [Act.put, zA, zB, zC, zD, zE, zF]
 refine tk 2 ?_ hHeld ?_ ?_
 rotate_left
 ·(intro w hSw; (try dsimp only at hSw); have s0 : w.cell? ⟨F, 0, none⟩ = some (.int .i64 c) := hSw.cell 0; go_simp; try with_reducible rfl)
 try simp only [Act.put, zA, zB, zC, zD, zE, zF]
 refine tk 3 ?_ hHeld ?_ ?_
 rotate_left
 ·(intro w hSw; (try dsimp only at hSw); go_simp; try with_reducible rfl)
 try simp only [Act.put, zA, zB, zC, zD, zE, zF]
 refine tk 4 ?_ hHeld ?_ ?_
 rotate_left
 ·(intro w hSw; (try dsimp only at hSw); have s1 : w.cell? ⟨F, 1, none⟩ = some (.int .i64 p) := hSw.cell 1; go_simp; try with_reducible rfl)
 try simp only [Act.put, zA, zB, zC, zD, zE, zF]
 clear HC
 generalize X.drew = X0 at *
 have t0 : X0.cell? ⟨B0, 0, none⟩ = some (.int .i64 k) := C0.out.b0.cell 0
 have t1 : X0.cell? ⟨B0, 1, none⟩ = some (.int .i64 a) := C0.out.b0.cell 1
 have t2 : X0.cell? ⟨B0, 2, none⟩ = some vL := C0.out.b0.cell 2
 have g0 := C0.out.b0.f 0
 have g1 := C0.out.b0.f 1
 have g2 := C0.out.b0.f 2
 obtain ⟨Y, hY⟩ : ∃ Y, ((X0.setCell ⟨B0, 0, none⟩ (.int .i64 0)).setCell ⟨B0, 1, none⟩ (.int .i64 0)).setCell ⟨B0, 2, none⟩ (.slice none 0 0) = Y := ⟨_, rfl⟩
 have C1 : Hid (Cq v N B0 B1 B2 (rulL 0 0 (.slice none 0 0)) [v1] [v2] Y) := by
  show Cq v N B0 B1 B2 (rulL 0 0 (.slice none 0 0)) [v1] [v2] Y
  rw [<- hY]
  exact ((C0.out.setc 0 _).setc 1 _).setc 2 _
 have HF1 : Hid (Blk Y F 73 [.int .i64 c, .int .i64 p]) := by
  show Blk Y F 73 [.int .i64 c, .int .i64 p]
  rw [<- hY]
  exact ((hHeld.other _ _ HF.out.2.1).other _ _ HF.out.2.1).other _ _ HF.out.2.1
 have HY : Hid (((X0.setCell ⟨B0, 0, none⟩ (.int .i64 0)).setCell ⟨B0, 1, none⟩ (.int .i64 0)).setCell ⟨B0, 2, none⟩ (.slice none 0 0) = Y) := hY
 clear hY
 refine wpAnyH_ready (rs := [5]) (by kernel_rfl) (by simp) ?_
 refine AllReadyH.cons rfl (fun K hK => ?_) AllReadyH.nil
 
 go_simp
 rw [HY.out]
 refine hK.out _ _ (HF1.out) (fun hHeld => ?_)
 clear hK K
 try simp only [Act.put, zA, zB, zC, zD, zE, zF]
 clear t0 t1 t2 g0 g1 g2 HY
 have t0 : Y.cell? ⟨B1, 0, none⟩ = some v1 := C1.out.b1.cell 0
 have g0 := C1.out.b1.f 0
 have C2 : Hid (Cq v N B0 B1 B2 (rulL 0 0 (.slice none 0 0)) [.int .i64 c] [v2] (Y.setCell ⟨B1, 0, none⟩ (.int .i64 c))) := C1.out.set1 _
 refine wpAnyH_ready (rs := [6]) (by kernel_rfl) (by simp) ?_
 refine AllReadyH.cons rfl (fun K hK => ?_) AllReadyH.nil
 
 go_simp
 refine hK.out _ _ (HF1.out.other _ _ HF.out.2.2.1) (fun hHeld => ?_)
 clear hK K
 try simp only [Act.put, zA, zB, zC, zD, zE, zF]
 clear t0 g0
 generalize Y.setCell ⟨B1, 0, none⟩ (.int .i64 c) = Z at *
 have t0 : Z.cell? ⟨B2, 0, none⟩ = some v2 := C2.out.b2.cell 0
 have g0 := C2.out.b2.f 0
 have C3 : Hid (Cq v N B0 B1 B2 (rulL 0 0 (.slice none 0 0)) [.int .i64 c] [.int .i64 p] (Z.setCell ⟨B2, 0, none⟩ (.int .i64 p))) := C2.out.set2 _
 refine wpAnyH_ready (rs := [7]) (by kernel_rfl) (by simp) ?_
 refine AllReadyH.cons rfl (fun K hK => ?_) AllReadyH.nil
 
 go_simp
 refine hK.out _ _ (hHeld.other _ _ HF.out.2.2.2) (fun hHeld => ?_)
 clear hK K
 try simp only [Act.put, zA, zB, zC, zD, zE, zF]
 refine wpAnyH_done (by kernel_rfl) ?_ _
 exact ⟨rfl, _, rfl, .tuple #[], by simp [results, Tryz.results22], rfl, rfl, C3.out⟩
theorem Tryz.info5 : (Tryz.prog.info? 5).map (fun i => (i.zero, i.size, i.bytes)) = some (some (.int .u8 0), 1, 1) := by kernel_rfl
theorem Tryz.cells5 : Tryz.prog.cellsOf 5 = 1 := by kernel_rfl
set_option maxRecDepth 4000 in
theorem lite_any (s : ByteArray) (w : World) (hs : s.size <= 100000000) :
  Calls Tryz.prog 117 #[.string s] w fun e w' => e = .returned (.string s) /\ Below w.heap.size w w' := by
 rcases Nat.eq_zero_or_pos s.size with h0 | h0
 ·have e : s = ⟨#[]⟩ := ByteArray.ext (Array.eq_empty_of_size_eq_zero h0)
  subst e
  go_enter Tryz.func117, Tryz.ntmps117
  go_wp2
  go_ret
  exact ⟨rfl, Below.refl _ _⟩
 ·obtain ⟨i0, hi, hz0, hz1, hz2⟩ := info_parts Tryz.info5
  obtain ⟨M, hM⟩ : ∃ M, M = madeCells (Value.int .u8 0).cells (((s.size : Nat) : Int).toNat * i0.size) := ⟨_, rfl⟩
  have hMs : M.size = s.size := by rw [hM, size_madeCells, hz1]; simp
  have hmk : ∀ W : World, (Instr.makeSlice 62 (.int .i64 (s.size : Int)) (.int .i64 (s.size : Int))).run Tryz.prog W = .ok (.slice (some ⟨W.heap.size, 0, none⟩) s.size s.size) (W.alloc (.cells M 5)) := fun W => by
   have h := run_make (P := Tryz.prog) W 62 5 i0 (.int .u8 0) Tryz.underlying62 hi hz0 .i64 .i64 (s.size : Int) (s.size : Int) (by omega) (by omega) (by rw [hz2]; omega) (by omega)
   rw [<- hM] at h
   simpa using h
  clear hM
  obtain ⟨Y, hY⟩ : ∃ Y : Array Value, Y.toList = Lib.byteCells (lst s) /\ (Builtin.copy_ #[62, 9] 3 #[.slice (some ⟨w.heap.size, 0, none⟩) s.size s.size, .string s]).run Tryz.prog (w.alloc (.cells M 5)) = .ok (goInt s.size) ((w.alloc (.cells M 5)).setRow w.heap.size Y) := by
   refine ⟨_, ?_, Lib.run_copy_row_string (P := Tryz.prog) (w.alloc (.cells M 5)) 62 9 3 5 w.heap.size 0 s.size s.size s M 5 Tryz.underlying62 (by rw [hi]; simp [hz1]) (heap_alloc_new w _) (Nat.le_refl _) (by omega)⟩
   rw [List.toList_toArray, List.take_zero, List.nil_append, List.drop_of_length_le (by rw [Array.length_toList]; omega), List.append_nil]
   rfl
  obtain ⟨hYl, hcp⟩ := hY
  have hB := (blk_new w M 5).row Y
  have hYs : Y.size = s.size := by rw [<- Array.length_toList, hYl, Lib.byteCells_length, lst_length]
  have hus : (Builtin.unsafeString_ #[141, 3] 9 #[.pointer (some ⟨w.heap.size, 0, none⟩), .int .i64 s.size]).run Tryz.prog ((w.alloc (.cells M 5)).setRow w.heap.size Y) = .ok (.string s) (((w.alloc (.cells M 5)).setRow w.heap.size Y).freeze ⟨w.heap.size, 0, none⟩ s.size) := by
   have h := Lib.run_unsafeString_row (P := Tryz.prog) (w := (w.alloc (.cells M 5)).setRow w.heap.size Y) 141 3 9 5 Tryz.underlying141 Tryz.cells5 w.heap.size Y.size (by unfold World.shape?; unfold Blk at hB; rw [hB]) (lst s) (fun e => by have := lst_length s; rw [e] at this; simp at this; omega) (by rw [lst_length]; omega) (by rw [lst_length]; omega)
    (fun j x hx => by
     have hc := hB.cell j
     rw [show (⟨w.heap.size, j, none⟩ : Addr) = (⟨w.heap.size, 0, none⟩ : Addr).add j from by unfold Addr.add; split <;> simp_all] at hc
     rw [hc, hYl]
     simp [Lib.byteCells, hx])
   rw [lst_length] at h
   rw [h]
   have : (⟨(lst s).toArray⟩ : ByteArray) = s := bar_lst s
   rw [this]
  clear hB
  have hb1 : Below w.heap.size w (w.alloc (.cells M 5)) := (Below.refl _ w).alloc (Nat.le_refl _) _
  have hb2 : Below w.heap.size (w.alloc (.cells M 5)) ((w.alloc (.cells M 5)).setRow w.heap.size Y) := ⟨rfl, rfl, rfl, by simp, fun k hk => setRow_other _ _ _ _ (by omega)⟩
  go_enter Tryz.func117, Tryz.ntmps117
  go_wp2
  go_ret
  exact ⟨rfl, Lib.below_freeze (hb1.trans hb2) (p := ⟨w.heap.size, 0, none⟩) (Nat.le_refl _) _⟩
theorem clone_any (s : ByteArray) (w : World) (hs : s.size <= 100000000) :
  Calls Tryz.prog 70 #[.string s] w fun e w' => e = .returned (.string s) /\ Below w.heap.size w w' := by
 go_enter Tryz.func70, Tryz.ntmps70
 go_wp2_with (go_at_call 117; refine (lite_any s _ hs).mono ?_; rintro e w' ⟨rfl, hb⟩)
 go_ret
 exact ⟨rfl, hb⟩
def pre (s p : ByteArray) : Bool := (lst p).isPrefixOf (lst s)
theorem pre_long {s p : ByteArray} (h : s.size < p.size) : pre s p = false := by
 unfold pre
 rcases Bool.eq_false_or_eq_true ((lst p).isPrefixOf (lst s)) with h1 | h1
 ·have := (List.isPrefixOf_iff_prefix.1 h1).length_le
  rw [lst_length, lst_length] at this
  omega
 ·exact h1
theorem toList_lst (s : ByteArray) : s.toList = lst s := ByteArray.toList_eq s
theorem pre_eq {s p : ByteArray} : ((s.extract 0 p.size).toList == p.toList) = pre s p := by
 unfold pre
 rw [Bool.eq_iff_iff, beq_iff_eq, List.isPrefixOf_iff_prefix, List.prefix_iff_eq_take, toList_lst, toList_lst, lst_extract, lst_length, List.drop_zero, Nat.sub_zero]
 exact eq_comm
theorem hasp_any (s p : ByteArray) (w : World) :
  Calls Tryz.prog 119 #[.string s, .string p] w fun e w' => e = .returned (.bool (pre s p)) /\ w' = w := by
 rcases Nat.lt_or_ge s.size p.size with h | h
 ·have h1 : ¬ p.size <= s.size := by omega
  have hq := pre_long h
  clear h
  go_enter Tryz.func119, Tryz.ntmps119
  go_wp2
  go_ret
  exact ⟨by rw [hq]; rfl, rfl⟩
 ·have h1 : p.size <= s.size := h
  clear h
  go_enter Tryz.func119, Tryz.ntmps119
  go_wp2
  go_ret
  exact ⟨ret_bool (by rw [<- pre_eq]), rfl⟩
theorem hasPrefix_any (s p : ByteArray) (w : World) :
  Calls Tryz.prog 75 #[.string s, .string p] w fun e w' => e = .returned (.bool (pre s p)) /\ w' = w := by
 go_enter Tryz.func75, Tryz.ntmps75
 go_wp2_with (go_at_call 119; refine (hasp_any s p _).mono ?_; rintro e w' ⟨rfl, rfl⟩)
 go_ret
 exact ⟨rfl, rfl⟩
theorem cut_any (s p : ByteArray) (w : World) :
  Calls Tryz.prog 137 #[.string s, .string p] w fun e w' => e = .returned (.tuple #[.string (if pre s p then s.extract p.size s.size else s), .bool (pre s p)]) /\ w' = w := by
 rcases Bool.eq_false_or_eq_true (pre s p) with h | h
 ·have hle : p.size <= s.size := by
   rcases Nat.lt_or_ge s.size p.size with h1 | h1
   ·rw [pre_long h1] at h; cases h
   ·exact h1
  rw [h, if_pos rfl]
  go_enter Tryz.func137, Tryz.ntmps137
  go_wp2_with (first | (go_at_call 119; refine (hasp_any s p _).mono ?_; rintro e w' ⟨rfl, rfl⟩; rw [h]) | go_in)
  go_ret2
  exact ⟨rfl, rfl⟩
 ·rw [h, if_neg (by decide)]
  go_enter Tryz.func137, Tryz.ntmps137
  go_wp2_with (first | (go_at_call 119; refine (hasp_any s p _).mono ?_; rintro e w' ⟨rfl, rfl⟩; rw [h]) | go_in)
  go_ret2
  exact ⟨rfl, rfl⟩
end Go.Proofs.YtcckipimfgmmdaaGreatDoor.P
