/-
  Whether a message may be, by the document: kind 5.
-/
import Derived.Test.YtpdndcmaaghnjaaMsRrA
import Derived.Deep.DeepCutAuto
namespace Go.Proofs.Ytpdndcmaaghnjaa
open Go.RowKit
open D (Da Blk)

set_option maxRecDepth 8000 in
set_option maxHeartbeats 1600000 in
theorem rr_val5 (ep id t v : Int) (d : Da) (p : List Int) (w : World) (hd : d.ok) (hp : D.Byt p) (v0 : 0 ≤ v) (v1 : v ≤ 65535) : Calls Try.prog 12 #[(Mg.mk 5 ep id t v d p).vl] w fun e w' => e = .returned (.bool ((onlyM ⟨5, ep, id, t, v, d, p⟩).same ⟨5, ep, id, t, v, d, p⟩)) ∧ Below w.heap.size w w' := by
  have HC0 := Mg.c0 (Mg.mk 5 ep id t v d p)
  have HC1 := Mg.c1 (Mg.mk 5 ep id t v d p)
  have HC2 := Mg.c2 (Mg.mk 5 ep id t v d p)
  have HC3 := Mg.c3 (Mg.mk 5 ep id t v d p)
  have HC4 := Mg.c4 (Mg.mk 5 ep id t v d p)
  have HC14 := Mg.c14 (Mg.mk 5 ep id t v d p) hd
  have HR : Hid (∀ (j : Nat) (z : Value), (d.cells)[j]? = some z → ((Mg.mk 5 ep id t v d p).cells)[5 + j]? = some z) := fun j z hj => by rw [Mg.cD (Mg.mk 5 ep id t v d p) hd j (by have := (List.getElem?_eq_some_iff.1 hj).1; rw [d.cells_len hd] at this; exact this)]; exact hj
  have HE : Hid (∀ W : World, (binOp .eql 28 (.agg (onlyM (Mg.mk 5 ep id t v d p)).cells.toArray) (.agg (Mg.mk 5 ep id t v d p).cells.toArray)).run Try.prog W = .ok (.bool ((onlyM (Mg.mk 5 ep id t v d p)).same (Mg.mk 5 ep id t v d p))) W) := fun W => eql_mg (onlyM (Mg.mk 5 ep id t v d p)) (Mg.mk 5 ep id t v d p) W (onlyM_ok (m := (Mg.mk 5 ep id t v d p)) hd) hd (onlyM_byt (m := (Mg.mk 5 ep id t v d p)) hp) hp
  have HG : Hid (∀ (W : World) (x y : Operand), (eqGuard .eql 28 x y (.agg (onlyM (Mg.mk 5 ep id t v d p)).cells.toArray) (.agg (Mg.mk 5 ep id t v d p).cells.toArray)).run Try.prog W = .ok () W) := fun W x y => guard_mg .eql x y (onlyM (Mg.mk 5 ep id t v d p)) (Mg.mk 5 ep id t v d p) W (.inl rfl)
  have HQ : Hid ((onlyM (Mg.mk 5 ep id t v d p)) = Mg.mk 5 ep id 0 v Da.zero []) := by unfold Hid onlyM; rfl
  have ZQ : Hid ((Try.prog.info? 28).map (·.size) = some (onlyM (Mg.mk 5 ep id t v d p)).cells.toArray.size) := Mg.size (onlyM (Mg.mk 5 ep id t v d p)) (onlyM_ok (m := (Mg.mk 5 ep id t v d p)) hd)
  generalize (onlyM (Mg.mk 5 ep id t v d p)).same (Mg.mk 5 ep id t v d p) = sm at *
  generalize (onlyM (Mg.mk 5 ep id t v d p)) = QQ at *
  have ZM : Hid ((Try.prog.info? 28).map (·.size) = some (Mg.mk 5 ep id t v d p).cells.toArray.size) := Mg.size (Mg.mk 5 ep id t v d p) hd
  have Z0 := two_blk w (Mg.mk 5 ep id t v d p).cells
  have F0 := (D.blk_new w (Mg.mk 5 ep id t v d p).cells.toArray 28 : Blk _ _ 28 (Mg.mk 5 ep id t v d p).cells)
  have e0 := (F0.cell 0).trans HC0; have e1 := (F0.cell 1).trans HC1; have e0' := (Z0.1.cell 0).trans HC0; have e1' := (Z0.1.cell 1).trans HC1
  unfold Mg.vl
  dsimp only at HC0 HC1 HC2 HC3 HC4 HC14 e0 e1 e0' e1'
  generalize (Mg.mk 5 ep id t v d p).cells = R at *
  unfold zero15 at *
  clear F0
  have h_a : decide (v < 0) = false := decide_eq_false (by omega)
  have h_b : decide (65535 < v) = false := decide_eq_false (by omega)
  clear v0 v1
  go_enter Try.func12, Try.ntmps12
  go_upto_region 14 with (first | (refine at_op (.store 28 (.tmp 3) (.tmp 16)) rfl ?_; refine wpList_store_r rfl 28 (.tmp 3) (.tmp 16) rfl (w.heap.size + 1) (Mg.mk 5 ep 0 0 0 Da.zero []).cells.toArray rfl rfl 28 _ Z0.2.1 Try.size28 rfl (Mg.cells_one _) ?_; intro X0 hX0; have K0 : Mk w w.heap.size (w.heap.size + 1) R (Mg.mk 5 ep 0 0 0 Da.zero []) X0 := mk_first Z0 hX0; clear hX0 Z0 e0 e1 e0' e1'; have c0_0 := (K0.src.cell 0).trans HC0; have c1_0 := (K0.src.cell 1).trans HC1; have c2_0 := (K0.src.cell 2).trans HC2; have c3_0 := (K0.src.cell 3).trans HC3; have c4_0 := (K0.src.cell 4).trans HC4; have c14_0 := (K0.src.cell 14).trans HC14) | (refine at_op (.store 22 (.tmp 22) (.tmp 21)) rfl ?_; refine wpList_store_x rfl 22 (.tmp 22) (.tmp 21) rfl (w.heap.size + 1) 2 (.int .u64 id) rfl rfl K0.dst (Mg.lt D.zero_ok 2 (by decide)) size22 rfl ?_; intro X1 hX1; have K1 := K0.id id hX1; clear hX1 c0_0 c1_0 c2_0 c3_0 c4_0 c14_0; have c0_1 := (K1.src.cell 0).trans HC0; have c1_1 := (K1.src.cell 1).trans HC1; have c2_1 := (K1.src.cell 2).trans HC2; have c3_1 := (K1.src.cell 3).trans HC3; have c4_1 := (K1.src.cell 4).trans HC4; have c14_1 := (K1.src.cell 14).trans HC14) | (refine at_op (.store 3 (.tmp 64) (.tmp 63)) rfl ?_; refine wpList_store_x rfl 3 (.tmp 64) (.tmp 63) rfl (w.heap.size + 1) 4 (.int .i64 v) rfl rfl K1.dst (Mg.lt D.zero_ok 4 (by decide)) size3 rfl ?_; intro X2 hX2; have K2 := K1.vals v hX2; clear hX2 c0_1 c1_1 c2_1 c3_1 c4_1 c14_1; have c0_2 := (K2.src.cell 0).trans HC0; have c1_2 := (K2.src.cell 1).trans HC1; have c2_2 := (K2.src.cell 2).trans HC2; have c3_2 := (K2.src.cell 3).trans HC3; have c4_2 := (K2.src.cell 4).trans HC4; have c14_2 := (K2.src.cell 14).trans HC14))
  go_upto_region 16 with fail
  go_wp2_with (first | (refine at_op (.load 28 (.tmp 3)) rfl ?_; have KQ := K2.dst; rw [← HQ.out] at KQ; refine wpList_load_row rfl 28 (.tmp 3) rfl (w.heap.size + 1) rfl 28 QQ.cells.toArray (0, 0) _ KQ Try.underlying28 rfl ZQ.out ?_) | (refine at_op (.load 28 (.tmp 1)) rfl ?_; refine wpList_load_row rfl 28 (.tmp 1) rfl w.heap.size rfl 28 R.toArray (0, 0) _ K2.src Try.underlying28 rfl ZM.out ?_; have q1 := HE.out; have q2 := HG.out))
  go_ret
  exact ⟨rfl, K2.b⟩

set_option maxRecDepth 8000 in
set_option maxHeartbeats 1600000 in
theorem rr_val5low (ep id t v : Int) (d : Da) (p : List Int) (w : World) (hd : d.ok) (_hp : D.Byt p) (v0 : v < 0) : Calls Try.prog 12 #[(Mg.mk 5 ep id t v d p).vl] w fun e w' => e = .returned (.bool false) ∧ Below w.heap.size w w' := by
  have HC0 := Mg.c0 (Mg.mk 5 ep id t v d p)
  have HC1 := Mg.c1 (Mg.mk 5 ep id t v d p)
  have HC2 := Mg.c2 (Mg.mk 5 ep id t v d p)
  have HC3 := Mg.c3 (Mg.mk 5 ep id t v d p)
  have HC4 := Mg.c4 (Mg.mk 5 ep id t v d p)
  have HC14 := Mg.c14 (Mg.mk 5 ep id t v d p) hd
  have HR : Hid (∀ (j : Nat) (z : Value), (d.cells)[j]? = some z → ((Mg.mk 5 ep id t v d p).cells)[5 + j]? = some z) := fun j z hj => by rw [Mg.cD (Mg.mk 5 ep id t v d p) hd j (by have := (List.getElem?_eq_some_iff.1 hj).1; rw [d.cells_len hd] at this; exact this)]; exact hj
  have ZM : Hid ((Try.prog.info? 28).map (·.size) = some (Mg.mk 5 ep id t v d p).cells.toArray.size) := Mg.size (Mg.mk 5 ep id t v d p) hd
  have Z0 := two_blk w (Mg.mk 5 ep id t v d p).cells
  have F0 := (D.blk_new w (Mg.mk 5 ep id t v d p).cells.toArray 28 : Blk _ _ 28 (Mg.mk 5 ep id t v d p).cells)
  have e0 := (F0.cell 0).trans HC0; have e1 := (F0.cell 1).trans HC1; have e0' := (Z0.1.cell 0).trans HC0; have e1' := (Z0.1.cell 1).trans HC1
  unfold Mg.vl
  dsimp only at HC0 HC1 HC2 HC3 HC4 HC14 e0 e1 e0' e1'
  generalize (Mg.mk 5 ep id t v d p).cells = R at *
  unfold zero15 at *
  clear F0
  have h_a : decide (v < 0) = true := decide_eq_true (by omega)
  clear v0
  go_enter Try.func12, Try.ntmps12
  go_upto_region 14 with (first | (refine at_op (.store 28 (.tmp 3) (.tmp 16)) rfl ?_; refine wpList_store_r rfl 28 (.tmp 3) (.tmp 16) rfl (w.heap.size + 1) (Mg.mk 5 ep 0 0 0 Da.zero []).cells.toArray rfl rfl 28 _ Z0.2.1 Try.size28 rfl (Mg.cells_one _) ?_; intro X0 hX0; have K0 : Mk w w.heap.size (w.heap.size + 1) R (Mg.mk 5 ep 0 0 0 Da.zero []) X0 := mk_first Z0 hX0; clear hX0 Z0 e0 e1 e0' e1'; have c0_0 := (K0.src.cell 0).trans HC0; have c1_0 := (K0.src.cell 1).trans HC1; have c2_0 := (K0.src.cell 2).trans HC2; have c3_0 := (K0.src.cell 3).trans HC3; have c4_0 := (K0.src.cell 4).trans HC4; have c14_0 := (K0.src.cell 14).trans HC14) | (refine at_op (.store 22 (.tmp 22) (.tmp 21)) rfl ?_; refine wpList_store_x rfl 22 (.tmp 22) (.tmp 21) rfl (w.heap.size + 1) 2 (.int .u64 id) rfl rfl K0.dst (Mg.lt D.zero_ok 2 (by decide)) size22 rfl ?_; intro X1 hX1; have K1 := K0.id id hX1; clear hX1 c0_0 c1_0 c2_0 c3_0 c4_0 c14_0; have c0_1 := (K1.src.cell 0).trans HC0; have c1_1 := (K1.src.cell 1).trans HC1; have c2_1 := (K1.src.cell 2).trans HC2; have c3_1 := (K1.src.cell 3).trans HC3; have c4_1 := (K1.src.cell 4).trans HC4; have c14_1 := (K1.src.cell 14).trans HC14) | (refine at_op (.store 3 (.tmp 64) (.tmp 63)) rfl ?_; refine wpList_store_x rfl 3 (.tmp 64) (.tmp 63) rfl (w.heap.size + 1) 4 (.int .i64 v) rfl rfl K1.dst (Mg.lt D.zero_ok 4 (by decide)) size3 rfl ?_; intro X2 hX2; have K2 := K1.vals v hX2; clear hX2 c0_1 c1_1 c2_1 c3_1 c4_1 c14_1; have c0_2 := (K2.src.cell 0).trans HC0; have c1_2 := (K2.src.cell 1).trans HC1; have c2_2 := (K2.src.cell 2).trans HC2; have c3_2 := (K2.src.cell 3).trans HC3; have c4_2 := (K2.src.cell 4).trans HC4; have c14_2 := (K2.src.cell 14).trans HC14))
  go_wp2
  go_ret
  exact ⟨rfl, K2.b⟩

set_option maxRecDepth 8000 in
set_option maxHeartbeats 1600000 in
theorem rr_val5high (ep id t v : Int) (d : Da) (p : List Int) (w : World) (hd : d.ok) (_hp : D.Byt p) (v1 : 65535 < v) : Calls Try.prog 12 #[(Mg.mk 5 ep id t v d p).vl] w fun e w' => e = .returned (.bool false) ∧ Below w.heap.size w w' := by
  have HC0 := Mg.c0 (Mg.mk 5 ep id t v d p)
  have HC1 := Mg.c1 (Mg.mk 5 ep id t v d p)
  have HC2 := Mg.c2 (Mg.mk 5 ep id t v d p)
  have HC3 := Mg.c3 (Mg.mk 5 ep id t v d p)
  have HC4 := Mg.c4 (Mg.mk 5 ep id t v d p)
  have HC14 := Mg.c14 (Mg.mk 5 ep id t v d p) hd
  have HR : Hid (∀ (j : Nat) (z : Value), (d.cells)[j]? = some z → ((Mg.mk 5 ep id t v d p).cells)[5 + j]? = some z) := fun j z hj => by rw [Mg.cD (Mg.mk 5 ep id t v d p) hd j (by have := (List.getElem?_eq_some_iff.1 hj).1; rw [d.cells_len hd] at this; exact this)]; exact hj
  have ZM : Hid ((Try.prog.info? 28).map (·.size) = some (Mg.mk 5 ep id t v d p).cells.toArray.size) := Mg.size (Mg.mk 5 ep id t v d p) hd
  have Z0 := two_blk w (Mg.mk 5 ep id t v d p).cells
  have F0 := (D.blk_new w (Mg.mk 5 ep id t v d p).cells.toArray 28 : Blk _ _ 28 (Mg.mk 5 ep id t v d p).cells)
  have e0 := (F0.cell 0).trans HC0; have e1 := (F0.cell 1).trans HC1; have e0' := (Z0.1.cell 0).trans HC0; have e1' := (Z0.1.cell 1).trans HC1
  unfold Mg.vl
  dsimp only at HC0 HC1 HC2 HC3 HC4 HC14 e0 e1 e0' e1'
  generalize (Mg.mk 5 ep id t v d p).cells = R at *
  unfold zero15 at *
  clear F0
  have h_a : decide (v < 0) = false := decide_eq_false (by omega)
  have h_b : decide (65535 < v) = true := decide_eq_true (by omega)
  clear v1
  go_enter Try.func12, Try.ntmps12
  go_upto_region 14 with (first | (refine at_op (.store 28 (.tmp 3) (.tmp 16)) rfl ?_; refine wpList_store_r rfl 28 (.tmp 3) (.tmp 16) rfl (w.heap.size + 1) (Mg.mk 5 ep 0 0 0 Da.zero []).cells.toArray rfl rfl 28 _ Z0.2.1 Try.size28 rfl (Mg.cells_one _) ?_; intro X0 hX0; have K0 : Mk w w.heap.size (w.heap.size + 1) R (Mg.mk 5 ep 0 0 0 Da.zero []) X0 := mk_first Z0 hX0; clear hX0 Z0 e0 e1 e0' e1'; have c0_0 := (K0.src.cell 0).trans HC0; have c1_0 := (K0.src.cell 1).trans HC1; have c2_0 := (K0.src.cell 2).trans HC2; have c3_0 := (K0.src.cell 3).trans HC3; have c4_0 := (K0.src.cell 4).trans HC4; have c14_0 := (K0.src.cell 14).trans HC14) | (refine at_op (.store 22 (.tmp 22) (.tmp 21)) rfl ?_; refine wpList_store_x rfl 22 (.tmp 22) (.tmp 21) rfl (w.heap.size + 1) 2 (.int .u64 id) rfl rfl K0.dst (Mg.lt D.zero_ok 2 (by decide)) size22 rfl ?_; intro X1 hX1; have K1 := K0.id id hX1; clear hX1 c0_0 c1_0 c2_0 c3_0 c4_0 c14_0; have c0_1 := (K1.src.cell 0).trans HC0; have c1_1 := (K1.src.cell 1).trans HC1; have c2_1 := (K1.src.cell 2).trans HC2; have c3_1 := (K1.src.cell 3).trans HC3; have c4_1 := (K1.src.cell 4).trans HC4; have c14_1 := (K1.src.cell 14).trans HC14) | (refine at_op (.store 3 (.tmp 64) (.tmp 63)) rfl ?_; refine wpList_store_x rfl 3 (.tmp 64) (.tmp 63) rfl (w.heap.size + 1) 4 (.int .i64 v) rfl rfl K1.dst (Mg.lt D.zero_ok 4 (by decide)) size3 rfl ?_; intro X2 hX2; have K2 := K1.vals v hX2; clear hX2 c0_1 c1_1 c2_1 c3_1 c4_1 c14_1; have c0_2 := (K2.src.cell 0).trans HC0; have c1_2 := (K2.src.cell 1).trans HC1; have c2_2 := (K2.src.cell 2).trans HC2; have c3_2 := (K2.src.cell 3).trans HC3; have c4_2 := (K2.src.cell 4).trans HC4; have c14_2 := (K2.src.cell 14).trans HC14))
  go_wp2
  go_ret
  exact ⟨rfl, K2.b⟩

end Go.Proofs.Ytpdndcmaaghnjaa
