/-
  Whether a message may be, by the document: kinds with a call, and every message.
-/
import Derived.Test.YtpdndcmaaghnjaaMsRrA
import Derived.Deep.DeepCutAuto
import Derived.Test.YtpdndcmaaghnjaaMsRr4
import Derived.Test.YtpdndcmaaghnjaaMsRr5
import Derived.Test.YtpdndcmaaghnjaaMsRr7
namespace Go.Proofs.Ytpdndcmaaghnjaa
open Go.RowKit
open D (Da Blk)

set_option maxRecDepth 8000 in
set_option maxHeartbeats 1600000 in
theorem rr_call (ep id t v : Int) (d : Da) (p : List Int) (w : World) (hd : d.ok) (hp : D.Byt p) (t0 : 1 ≤ t) (t1 : t ≤ 4) (pl : p.length ≤ 256) : Calls Try.prog 12 #[(Mg.mk 2 ep id t v d p).vl] w fun e w' => e = .returned (.bool ((onlyM ⟨2, ep, id, t, v, d, p⟩).same ⟨2, ep, id, t, v, d, p⟩)) ∧ Below w.heap.size w w' := by
  have HC0 := Mg.c0 (Mg.mk 2 ep id t v d p)
  have HC1 := Mg.c1 (Mg.mk 2 ep id t v d p)
  have HC2 := Mg.c2 (Mg.mk 2 ep id t v d p)
  have HC3 := Mg.c3 (Mg.mk 2 ep id t v d p)
  have HC4 := Mg.c4 (Mg.mk 2 ep id t v d p)
  have HC14 := Mg.c14 (Mg.mk 2 ep id t v d p) hd
  have HR : Hid (∀ (j : Nat) (z : Value), (d.cells)[j]? = some z → ((Mg.mk 2 ep id t v d p).cells)[5 + j]? = some z) := fun j z hj => by rw [Mg.cD (Mg.mk 2 ep id t v d p) hd j (by have := (List.getElem?_eq_some_iff.1 hj).1; rw [d.cells_len hd] at this; exact this)]; exact hj
  have HL : (strOfNums p).size = p.length := strOfNums_size _
  have HE : Hid (∀ W : World, (binOp .eql 28 (.agg (onlyM (Mg.mk 2 ep id t v d p)).cells.toArray) (.agg (Mg.mk 2 ep id t v d p).cells.toArray)).run Try.prog W = .ok (.bool ((onlyM (Mg.mk 2 ep id t v d p)).same (Mg.mk 2 ep id t v d p))) W) := fun W => eql_mg (onlyM (Mg.mk 2 ep id t v d p)) (Mg.mk 2 ep id t v d p) W (onlyM_ok (m := (Mg.mk 2 ep id t v d p)) hd) hd (onlyM_byt (m := (Mg.mk 2 ep id t v d p)) hp) hp
  have HG : Hid (∀ (W : World) (x y : Operand), (eqGuard .eql 28 x y (.agg (onlyM (Mg.mk 2 ep id t v d p)).cells.toArray) (.agg (Mg.mk 2 ep id t v d p).cells.toArray)).run Try.prog W = .ok () W) := fun W x y => guard_mg .eql x y (onlyM (Mg.mk 2 ep id t v d p)) (Mg.mk 2 ep id t v d p) W (.inl rfl)
  have HQ : Hid ((onlyM (Mg.mk 2 ep id t v d p)) = Mg.mk 2 ep id t 0 d p) := by unfold Hid onlyM; rfl
  have ZQ : Hid ((Try.prog.info? 28).map (·.size) = some (onlyM (Mg.mk 2 ep id t v d p)).cells.toArray.size) := Mg.size (onlyM (Mg.mk 2 ep id t v d p)) (onlyM_ok (m := (Mg.mk 2 ep id t v d p)) hd)
  generalize (onlyM (Mg.mk 2 ep id t v d p)).same (Mg.mk 2 ep id t v d p) = sm at *
  generalize (onlyM (Mg.mk 2 ep id t v d p)) = QQ at *
  have ZM : Hid ((Try.prog.info? 28).map (·.size) = some (Mg.mk 2 ep id t v d p).cells.toArray.size) := Mg.size (Mg.mk 2 ep id t v d p) hd
  have Z0 := two_blk w (Mg.mk 2 ep id t v d p).cells
  have F0 := (D.blk_new w (Mg.mk 2 ep id t v d p).cells.toArray 28 : Blk _ _ 28 (Mg.mk 2 ep id t v d p).cells)
  have e0 := (F0.cell 0).trans HC0; have e1 := (F0.cell 1).trans HC1; have e0' := (Z0.1.cell 0).trans HC0; have e1' := (Z0.1.cell 1).trans HC1
  unfold Mg.vl
  dsimp only at HC0 HC1 HC2 HC3 HC4 HC14 e0 e1 e0' e1'
  generalize (Mg.mk 2 ep id t v d p).cells = R at *
  unfold zero15 at *
  clear F0
  go_enter Try.func12, Try.ntmps12
  go_wp2_with (first | (refine at_op (.store 28 (.tmp 3) (.tmp 16)) rfl ?_; refine wpList_store_r rfl 28 (.tmp 3) (.tmp 16) rfl (w.heap.size + 1) (Mg.mk 2 ep 0 0 0 Da.zero []).cells.toArray rfl rfl 28 _ Z0.2.1 Try.size28 rfl (Mg.cells_one _) ?_; intro X0 hX0; have K0 : Mk w w.heap.size (w.heap.size + 1) R (Mg.mk 2 ep 0 0 0 Da.zero []) X0 := mk_first Z0 hX0; clear hX0 Z0 e0 e1 e0' e1'; have c0_0 := (K0.src.cell 0).trans HC0; have c1_0 := (K0.src.cell 1).trans HC1; have c2_0 := (K0.src.cell 2).trans HC2; have c3_0 := (K0.src.cell 3).trans HC3; have c4_0 := (K0.src.cell 4).trans HC4; have c14_0 := (K0.src.cell 14).trans HC14) | (refine at_op (.store 22 (.tmp 22) (.tmp 21)) rfl ?_; refine wpList_store_x rfl 22 (.tmp 22) (.tmp 21) rfl (w.heap.size + 1) 2 (.int .u64 id) rfl rfl K0.dst (Mg.lt D.zero_ok 2 (by decide)) size22 rfl ?_; intro X1 hX1; have K1 := K0.id id hX1; clear hX1 c0_0 c1_0 c2_0 c3_0 c4_0 c14_0; have c0_1 := (K1.src.cell 0).trans HC0; have c1_1 := (K1.src.cell 1).trans HC1; have c2_1 := (K1.src.cell 2).trans HC2; have c3_1 := (K1.src.cell 3).trans HC3; have c4_1 := (K1.src.cell 4).trans HC4; have c14_1 := (K1.src.cell 14).trans HC14) | (refine at_op (.store 3 (.tmp 28) (.tmp 27)) rfl ?_; refine wpList_store_x rfl 3 (.tmp 28) (.tmp 27) rfl (w.heap.size + 1) 3 (.int .i64 t) rfl rfl K1.dst (Mg.lt D.zero_ok 3 (by decide)) size3 rfl ?_; intro X2 hX2; have K2 := K1.task t hX2; clear hX2 c0_1 c1_1 c2_1 c3_1 c4_1 c14_1; have c0_2 := (K2.src.cell 0).trans HC0; have c1_2 := (K2.src.cell 1).trans HC1; have c2_2 := (K2.src.cell 2).trans HC2; have c3_2 := (K2.src.cell 3).trans HC3; have c4_2 := (K2.src.cell 4).trans HC4; have c14_2 := (K2.src.cell 14).trans HC14) | (refine at_op (.load 26 (.tmp 29)) rfl ?_; refine wpList_load_mid rfl 26 (.tmp 29) rfl w.heap.size 5 rfl d.cells _ (fun j v hj => (K2.src.cell (5 + j)).trans (HR.out j v hj)) Try.underlying26 rfl (Mg.size26 d hd) ?_) | (refine at_op (.store 26 (.tmp 31) (.tmp 30)) rfl ?_; refine wpList_store_m rfl 26 (.tmp 31) (.tmp 30) rfl (w.heap.size + 1) 5 d.cells.toArray rfl rfl (K2.there D.zero_ok d hd) (Mg.size26 d hd) d.cells_one ?_; intro X3 hX3; have K3 := K2.data D.zero_ok d hd hX3; clear hX3 c0_2 c1_2 c2_2 c3_2 c4_2 c14_2; have c0_3 := (K3.src.cell 0).trans HC0; have c1_3 := (K3.src.cell 1).trans HC1; have c2_3 := (K3.src.cell 2).trans HC2; have c3_3 := (K3.src.cell 3).trans HC3; have c4_3 := (K3.src.cell 4).trans HC4; have c14_3 := (K3.src.cell 14).trans HC14) | (refine at_op (.store 9 (.tmp 34) (.tmp 33)) rfl ?_; refine wpList_store_x rfl 9 (.tmp 34) (.tmp 33) rfl (w.heap.size + 1) 14 (.string (strOfNums p)) rfl rfl K3.dst (Mg.lt hd 14 (by decide)) size9 rfl ?_; intro X4 hX4; have K4 := K3.path hd p hX4; clear hX4 c0_3 c1_3 c2_3 c3_3 c4_3 c14_3; have c0_4 := (K4.src.cell 0).trans HC0; have c1_4 := (K4.src.cell 1).trans HC1; have c2_4 := (K4.src.cell 2).trans HC2; have c3_4 := (K4.src.cell 3).trans HC3; have c4_4 := (K4.src.cell 4).trans HC4; have c14_4 := (K4.src.cell 14).trans HC14) | (refine at_op (.load 28 (.tmp 3)) rfl ?_; have KQ := K4.dst; rw [← HQ.out] at KQ; refine wpList_load_row rfl 28 (.tmp 3) rfl (w.heap.size + 1) rfl 28 QQ.cells.toArray (0, 0) _ KQ Try.underlying28 rfl ZQ.out ?_) | (refine at_op (.load 28 (.tmp 1)) rfl ?_; refine wpList_load_row rfl 28 (.tmp 1) rfl w.heap.size rfl 28 R.toArray (0, 0) _ K4.src Try.underlying28 rfl ZM.out ?_; have q1 := HE.out; have q2 := HG.out))
  go_ret
  exact ⟨rfl, K4.b⟩

set_option maxRecDepth 8000 in
set_option maxHeartbeats 1600000 in
theorem rr_calllow (ep id t v : Int) (d : Da) (p : List Int) (w : World) (hd : d.ok) (_hp : D.Byt p) (t0 : t < 1) : Calls Try.prog 12 #[(Mg.mk 2 ep id t v d p).vl] w fun e w' => e = .returned (.bool false) ∧ Below w.heap.size w w' := by
  have HC0 := Mg.c0 (Mg.mk 2 ep id t v d p)
  have HC1 := Mg.c1 (Mg.mk 2 ep id t v d p)
  have HC2 := Mg.c2 (Mg.mk 2 ep id t v d p)
  have HC3 := Mg.c3 (Mg.mk 2 ep id t v d p)
  have HC4 := Mg.c4 (Mg.mk 2 ep id t v d p)
  have HC14 := Mg.c14 (Mg.mk 2 ep id t v d p) hd
  have HR : Hid (∀ (j : Nat) (z : Value), (d.cells)[j]? = some z → ((Mg.mk 2 ep id t v d p).cells)[5 + j]? = some z) := fun j z hj => by rw [Mg.cD (Mg.mk 2 ep id t v d p) hd j (by have := (List.getElem?_eq_some_iff.1 hj).1; rw [d.cells_len hd] at this; exact this)]; exact hj
  have HL : (strOfNums p).size = p.length := strOfNums_size _
  have ZM : Hid ((Try.prog.info? 28).map (·.size) = some (Mg.mk 2 ep id t v d p).cells.toArray.size) := Mg.size (Mg.mk 2 ep id t v d p) hd
  have Z0 := two_blk w (Mg.mk 2 ep id t v d p).cells
  have F0 := (D.blk_new w (Mg.mk 2 ep id t v d p).cells.toArray 28 : Blk _ _ 28 (Mg.mk 2 ep id t v d p).cells)
  have e0 := (F0.cell 0).trans HC0; have e1 := (F0.cell 1).trans HC1; have e0' := (Z0.1.cell 0).trans HC0; have e1' := (Z0.1.cell 1).trans HC1
  unfold Mg.vl
  dsimp only at HC0 HC1 HC2 HC3 HC4 HC14 e0 e1 e0' e1'
  generalize (Mg.mk 2 ep id t v d p).cells = R at *
  unfold zero15 at *
  clear F0
  go_enter Try.func12, Try.ntmps12
  go_wp2_with (first | (refine at_op (.store 28 (.tmp 3) (.tmp 16)) rfl ?_; refine wpList_store_r rfl 28 (.tmp 3) (.tmp 16) rfl (w.heap.size + 1) (Mg.mk 2 ep 0 0 0 Da.zero []).cells.toArray rfl rfl 28 _ Z0.2.1 Try.size28 rfl (Mg.cells_one _) ?_; intro X0 hX0; have K0 : Mk w w.heap.size (w.heap.size + 1) R (Mg.mk 2 ep 0 0 0 Da.zero []) X0 := mk_first Z0 hX0; clear hX0 Z0 e0 e1 e0' e1'; have c0_0 := (K0.src.cell 0).trans HC0; have c1_0 := (K0.src.cell 1).trans HC1; have c2_0 := (K0.src.cell 2).trans HC2; have c3_0 := (K0.src.cell 3).trans HC3; have c4_0 := (K0.src.cell 4).trans HC4; have c14_0 := (K0.src.cell 14).trans HC14) | (refine at_op (.store 22 (.tmp 22) (.tmp 21)) rfl ?_; refine wpList_store_x rfl 22 (.tmp 22) (.tmp 21) rfl (w.heap.size + 1) 2 (.int .u64 id) rfl rfl K0.dst (Mg.lt D.zero_ok 2 (by decide)) size22 rfl ?_; intro X1 hX1; have K1 := K0.id id hX1; clear hX1 c0_0 c1_0 c2_0 c3_0 c4_0 c14_0; have c0_1 := (K1.src.cell 0).trans HC0; have c1_1 := (K1.src.cell 1).trans HC1; have c2_1 := (K1.src.cell 2).trans HC2; have c3_1 := (K1.src.cell 3).trans HC3; have c4_1 := (K1.src.cell 4).trans HC4; have c14_1 := (K1.src.cell 14).trans HC14) | (refine at_op (.store 3 (.tmp 28) (.tmp 27)) rfl ?_; refine wpList_store_x rfl 3 (.tmp 28) (.tmp 27) rfl (w.heap.size + 1) 3 (.int .i64 t) rfl rfl K1.dst (Mg.lt D.zero_ok 3 (by decide)) size3 rfl ?_; intro X2 hX2; have K2 := K1.task t hX2; clear hX2 c0_1 c1_1 c2_1 c3_1 c4_1 c14_1; have c0_2 := (K2.src.cell 0).trans HC0; have c1_2 := (K2.src.cell 1).trans HC1; have c2_2 := (K2.src.cell 2).trans HC2; have c3_2 := (K2.src.cell 3).trans HC3; have c4_2 := (K2.src.cell 4).trans HC4; have c14_2 := (K2.src.cell 14).trans HC14) | (refine at_op (.load 26 (.tmp 29)) rfl ?_; refine wpList_load_mid rfl 26 (.tmp 29) rfl w.heap.size 5 rfl d.cells _ (fun j v hj => (K2.src.cell (5 + j)).trans (HR.out j v hj)) Try.underlying26 rfl (Mg.size26 d hd) ?_) | (refine at_op (.store 26 (.tmp 31) (.tmp 30)) rfl ?_; refine wpList_store_m rfl 26 (.tmp 31) (.tmp 30) rfl (w.heap.size + 1) 5 d.cells.toArray rfl rfl (K2.there D.zero_ok d hd) (Mg.size26 d hd) d.cells_one ?_; intro X3 hX3; have K3 := K2.data D.zero_ok d hd hX3; clear hX3 c0_2 c1_2 c2_2 c3_2 c4_2 c14_2; have c0_3 := (K3.src.cell 0).trans HC0; have c1_3 := (K3.src.cell 1).trans HC1; have c2_3 := (K3.src.cell 2).trans HC2; have c3_3 := (K3.src.cell 3).trans HC3; have c4_3 := (K3.src.cell 4).trans HC4; have c14_3 := (K3.src.cell 14).trans HC14) | (refine at_op (.store 9 (.tmp 34) (.tmp 33)) rfl ?_; refine wpList_store_x rfl 9 (.tmp 34) (.tmp 33) rfl (w.heap.size + 1) 14 (.string (strOfNums p)) rfl rfl K3.dst (Mg.lt hd 14 (by decide)) size9 rfl ?_; intro X4 hX4; have K4 := K3.path hd p hX4; clear hX4 c0_3 c1_3 c2_3 c3_3 c4_3 c14_3; have c0_4 := (K4.src.cell 0).trans HC0; have c1_4 := (K4.src.cell 1).trans HC1; have c2_4 := (K4.src.cell 2).trans HC2; have c3_4 := (K4.src.cell 3).trans HC3; have c4_4 := (K4.src.cell 4).trans HC4; have c14_4 := (K4.src.cell 14).trans HC14))
  go_ret
  exact ⟨rfl, K4.b⟩

set_option maxRecDepth 8000 in
set_option maxHeartbeats 1600000 in
theorem rr_callhigh (ep id t v : Int) (d : Da) (p : List Int) (w : World) (hd : d.ok) (_hp : D.Byt p) (t0 : 1 ≤ t) (t1 : 4 < t) : Calls Try.prog 12 #[(Mg.mk 2 ep id t v d p).vl] w fun e w' => e = .returned (.bool false) ∧ Below w.heap.size w w' := by
  have HC0 := Mg.c0 (Mg.mk 2 ep id t v d p)
  have HC1 := Mg.c1 (Mg.mk 2 ep id t v d p)
  have HC2 := Mg.c2 (Mg.mk 2 ep id t v d p)
  have HC3 := Mg.c3 (Mg.mk 2 ep id t v d p)
  have HC4 := Mg.c4 (Mg.mk 2 ep id t v d p)
  have HC14 := Mg.c14 (Mg.mk 2 ep id t v d p) hd
  have HR : Hid (∀ (j : Nat) (z : Value), (d.cells)[j]? = some z → ((Mg.mk 2 ep id t v d p).cells)[5 + j]? = some z) := fun j z hj => by rw [Mg.cD (Mg.mk 2 ep id t v d p) hd j (by have := (List.getElem?_eq_some_iff.1 hj).1; rw [d.cells_len hd] at this; exact this)]; exact hj
  have HL : (strOfNums p).size = p.length := strOfNums_size _
  have ZM : Hid ((Try.prog.info? 28).map (·.size) = some (Mg.mk 2 ep id t v d p).cells.toArray.size) := Mg.size (Mg.mk 2 ep id t v d p) hd
  have Z0 := two_blk w (Mg.mk 2 ep id t v d p).cells
  have F0 := (D.blk_new w (Mg.mk 2 ep id t v d p).cells.toArray 28 : Blk _ _ 28 (Mg.mk 2 ep id t v d p).cells)
  have e0 := (F0.cell 0).trans HC0; have e1 := (F0.cell 1).trans HC1; have e0' := (Z0.1.cell 0).trans HC0; have e1' := (Z0.1.cell 1).trans HC1
  unfold Mg.vl
  dsimp only at HC0 HC1 HC2 HC3 HC4 HC14 e0 e1 e0' e1'
  generalize (Mg.mk 2 ep id t v d p).cells = R at *
  unfold zero15 at *
  clear F0
  go_enter Try.func12, Try.ntmps12
  go_wp2_with (first | (refine at_op (.store 28 (.tmp 3) (.tmp 16)) rfl ?_; refine wpList_store_r rfl 28 (.tmp 3) (.tmp 16) rfl (w.heap.size + 1) (Mg.mk 2 ep 0 0 0 Da.zero []).cells.toArray rfl rfl 28 _ Z0.2.1 Try.size28 rfl (Mg.cells_one _) ?_; intro X0 hX0; have K0 : Mk w w.heap.size (w.heap.size + 1) R (Mg.mk 2 ep 0 0 0 Da.zero []) X0 := mk_first Z0 hX0; clear hX0 Z0 e0 e1 e0' e1'; have c0_0 := (K0.src.cell 0).trans HC0; have c1_0 := (K0.src.cell 1).trans HC1; have c2_0 := (K0.src.cell 2).trans HC2; have c3_0 := (K0.src.cell 3).trans HC3; have c4_0 := (K0.src.cell 4).trans HC4; have c14_0 := (K0.src.cell 14).trans HC14) | (refine at_op (.store 22 (.tmp 22) (.tmp 21)) rfl ?_; refine wpList_store_x rfl 22 (.tmp 22) (.tmp 21) rfl (w.heap.size + 1) 2 (.int .u64 id) rfl rfl K0.dst (Mg.lt D.zero_ok 2 (by decide)) size22 rfl ?_; intro X1 hX1; have K1 := K0.id id hX1; clear hX1 c0_0 c1_0 c2_0 c3_0 c4_0 c14_0; have c0_1 := (K1.src.cell 0).trans HC0; have c1_1 := (K1.src.cell 1).trans HC1; have c2_1 := (K1.src.cell 2).trans HC2; have c3_1 := (K1.src.cell 3).trans HC3; have c4_1 := (K1.src.cell 4).trans HC4; have c14_1 := (K1.src.cell 14).trans HC14) | (refine at_op (.store 3 (.tmp 28) (.tmp 27)) rfl ?_; refine wpList_store_x rfl 3 (.tmp 28) (.tmp 27) rfl (w.heap.size + 1) 3 (.int .i64 t) rfl rfl K1.dst (Mg.lt D.zero_ok 3 (by decide)) size3 rfl ?_; intro X2 hX2; have K2 := K1.task t hX2; clear hX2 c0_1 c1_1 c2_1 c3_1 c4_1 c14_1; have c0_2 := (K2.src.cell 0).trans HC0; have c1_2 := (K2.src.cell 1).trans HC1; have c2_2 := (K2.src.cell 2).trans HC2; have c3_2 := (K2.src.cell 3).trans HC3; have c4_2 := (K2.src.cell 4).trans HC4; have c14_2 := (K2.src.cell 14).trans HC14) | (refine at_op (.load 26 (.tmp 29)) rfl ?_; refine wpList_load_mid rfl 26 (.tmp 29) rfl w.heap.size 5 rfl d.cells _ (fun j v hj => (K2.src.cell (5 + j)).trans (HR.out j v hj)) Try.underlying26 rfl (Mg.size26 d hd) ?_) | (refine at_op (.store 26 (.tmp 31) (.tmp 30)) rfl ?_; refine wpList_store_m rfl 26 (.tmp 31) (.tmp 30) rfl (w.heap.size + 1) 5 d.cells.toArray rfl rfl (K2.there D.zero_ok d hd) (Mg.size26 d hd) d.cells_one ?_; intro X3 hX3; have K3 := K2.data D.zero_ok d hd hX3; clear hX3 c0_2 c1_2 c2_2 c3_2 c4_2 c14_2; have c0_3 := (K3.src.cell 0).trans HC0; have c1_3 := (K3.src.cell 1).trans HC1; have c2_3 := (K3.src.cell 2).trans HC2; have c3_3 := (K3.src.cell 3).trans HC3; have c4_3 := (K3.src.cell 4).trans HC4; have c14_3 := (K3.src.cell 14).trans HC14) | (refine at_op (.store 9 (.tmp 34) (.tmp 33)) rfl ?_; refine wpList_store_x rfl 9 (.tmp 34) (.tmp 33) rfl (w.heap.size + 1) 14 (.string (strOfNums p)) rfl rfl K3.dst (Mg.lt hd 14 (by decide)) size9 rfl ?_; intro X4 hX4; have K4 := K3.path hd p hX4; clear hX4 c0_3 c1_3 c2_3 c3_3 c4_3 c14_3; have c0_4 := (K4.src.cell 0).trans HC0; have c1_4 := (K4.src.cell 1).trans HC1; have c2_4 := (K4.src.cell 2).trans HC2; have c3_4 := (K4.src.cell 3).trans HC3; have c4_4 := (K4.src.cell 4).trans HC4; have c14_4 := (K4.src.cell 14).trans HC14))
  go_ret
  exact ⟨rfl, K4.b⟩

set_option maxRecDepth 8000 in
set_option maxHeartbeats 1600000 in
theorem rr_calllong (ep id t v : Int) (d : Da) (p : List Int) (w : World) (hd : d.ok) (_hp : D.Byt p) (t0 : 1 ≤ t) (t1 : t ≤ 4) (pl : 256 < p.length) : Calls Try.prog 12 #[(Mg.mk 2 ep id t v d p).vl] w fun e w' => e = .returned (.bool false) ∧ Below w.heap.size w w' := by
  have HC0 := Mg.c0 (Mg.mk 2 ep id t v d p)
  have HC1 := Mg.c1 (Mg.mk 2 ep id t v d p)
  have HC2 := Mg.c2 (Mg.mk 2 ep id t v d p)
  have HC3 := Mg.c3 (Mg.mk 2 ep id t v d p)
  have HC4 := Mg.c4 (Mg.mk 2 ep id t v d p)
  have HC14 := Mg.c14 (Mg.mk 2 ep id t v d p) hd
  have HR : Hid (∀ (j : Nat) (z : Value), (d.cells)[j]? = some z → ((Mg.mk 2 ep id t v d p).cells)[5 + j]? = some z) := fun j z hj => by rw [Mg.cD (Mg.mk 2 ep id t v d p) hd j (by have := (List.getElem?_eq_some_iff.1 hj).1; rw [d.cells_len hd] at this; exact this)]; exact hj
  have HL : (strOfNums p).size = p.length := strOfNums_size _
  have ZM : Hid ((Try.prog.info? 28).map (·.size) = some (Mg.mk 2 ep id t v d p).cells.toArray.size) := Mg.size (Mg.mk 2 ep id t v d p) hd
  have Z0 := two_blk w (Mg.mk 2 ep id t v d p).cells
  have F0 := (D.blk_new w (Mg.mk 2 ep id t v d p).cells.toArray 28 : Blk _ _ 28 (Mg.mk 2 ep id t v d p).cells)
  have e0 := (F0.cell 0).trans HC0; have e1 := (F0.cell 1).trans HC1; have e0' := (Z0.1.cell 0).trans HC0; have e1' := (Z0.1.cell 1).trans HC1
  unfold Mg.vl
  dsimp only at HC0 HC1 HC2 HC3 HC4 HC14 e0 e1 e0' e1'
  generalize (Mg.mk 2 ep id t v d p).cells = R at *
  unfold zero15 at *
  clear F0
  go_enter Try.func12, Try.ntmps12
  go_wp2_with (first | (refine at_op (.store 28 (.tmp 3) (.tmp 16)) rfl ?_; refine wpList_store_r rfl 28 (.tmp 3) (.tmp 16) rfl (w.heap.size + 1) (Mg.mk 2 ep 0 0 0 Da.zero []).cells.toArray rfl rfl 28 _ Z0.2.1 Try.size28 rfl (Mg.cells_one _) ?_; intro X0 hX0; have K0 : Mk w w.heap.size (w.heap.size + 1) R (Mg.mk 2 ep 0 0 0 Da.zero []) X0 := mk_first Z0 hX0; clear hX0 Z0 e0 e1 e0' e1'; have c0_0 := (K0.src.cell 0).trans HC0; have c1_0 := (K0.src.cell 1).trans HC1; have c2_0 := (K0.src.cell 2).trans HC2; have c3_0 := (K0.src.cell 3).trans HC3; have c4_0 := (K0.src.cell 4).trans HC4; have c14_0 := (K0.src.cell 14).trans HC14) | (refine at_op (.store 22 (.tmp 22) (.tmp 21)) rfl ?_; refine wpList_store_x rfl 22 (.tmp 22) (.tmp 21) rfl (w.heap.size + 1) 2 (.int .u64 id) rfl rfl K0.dst (Mg.lt D.zero_ok 2 (by decide)) size22 rfl ?_; intro X1 hX1; have K1 := K0.id id hX1; clear hX1 c0_0 c1_0 c2_0 c3_0 c4_0 c14_0; have c0_1 := (K1.src.cell 0).trans HC0; have c1_1 := (K1.src.cell 1).trans HC1; have c2_1 := (K1.src.cell 2).trans HC2; have c3_1 := (K1.src.cell 3).trans HC3; have c4_1 := (K1.src.cell 4).trans HC4; have c14_1 := (K1.src.cell 14).trans HC14) | (refine at_op (.store 3 (.tmp 28) (.tmp 27)) rfl ?_; refine wpList_store_x rfl 3 (.tmp 28) (.tmp 27) rfl (w.heap.size + 1) 3 (.int .i64 t) rfl rfl K1.dst (Mg.lt D.zero_ok 3 (by decide)) size3 rfl ?_; intro X2 hX2; have K2 := K1.task t hX2; clear hX2 c0_1 c1_1 c2_1 c3_1 c4_1 c14_1; have c0_2 := (K2.src.cell 0).trans HC0; have c1_2 := (K2.src.cell 1).trans HC1; have c2_2 := (K2.src.cell 2).trans HC2; have c3_2 := (K2.src.cell 3).trans HC3; have c4_2 := (K2.src.cell 4).trans HC4; have c14_2 := (K2.src.cell 14).trans HC14) | (refine at_op (.load 26 (.tmp 29)) rfl ?_; refine wpList_load_mid rfl 26 (.tmp 29) rfl w.heap.size 5 rfl d.cells _ (fun j v hj => (K2.src.cell (5 + j)).trans (HR.out j v hj)) Try.underlying26 rfl (Mg.size26 d hd) ?_) | (refine at_op (.store 26 (.tmp 31) (.tmp 30)) rfl ?_; refine wpList_store_m rfl 26 (.tmp 31) (.tmp 30) rfl (w.heap.size + 1) 5 d.cells.toArray rfl rfl (K2.there D.zero_ok d hd) (Mg.size26 d hd) d.cells_one ?_; intro X3 hX3; have K3 := K2.data D.zero_ok d hd hX3; clear hX3 c0_2 c1_2 c2_2 c3_2 c4_2 c14_2; have c0_3 := (K3.src.cell 0).trans HC0; have c1_3 := (K3.src.cell 1).trans HC1; have c2_3 := (K3.src.cell 2).trans HC2; have c3_3 := (K3.src.cell 3).trans HC3; have c4_3 := (K3.src.cell 4).trans HC4; have c14_3 := (K3.src.cell 14).trans HC14) | (refine at_op (.store 9 (.tmp 34) (.tmp 33)) rfl ?_; refine wpList_store_x rfl 9 (.tmp 34) (.tmp 33) rfl (w.heap.size + 1) 14 (.string (strOfNums p)) rfl rfl K3.dst (Mg.lt hd 14 (by decide)) size9 rfl ?_; intro X4 hX4; have K4 := K3.path hd p hX4; clear hX4 c0_3 c1_3 c2_3 c3_3 c4_3 c14_3; have c0_4 := (K4.src.cell 0).trans HC0; have c1_4 := (K4.src.cell 1).trans HC1; have c2_4 := (K4.src.cell 2).trans HC2; have c3_4 := (K4.src.cell 3).trans HC3; have c4_4 := (K4.src.cell 4).trans HC4; have c14_4 := (K4.src.cell 14).trans HC14))
  go_ret
  exact ⟨rfl, K4.b⟩

end Go.Proofs.Ytpdndcmaaghnjaa

namespace Go.Proofs.Ytpdndcmaaghnjaa
open Go.RowKit
open D (Da Blk)

theorem same_val {m : Mg} (h : (onlyM m).same m = true) (h4 : ¬ (m.kind = 4 ∨ m.kind = 5 ∨ m.kind = 7)) : m.val = 0 := by
  have e := (Mg.same_iff _ _).1 h
  have : (onlyM m).val = m.val := by rw [e]
  rw [← this]
  exact if_neg h4
theorem within_zero {m : Mg} (h2 : m.kind ≠ 2) (h7 : m.kind ≠ 7) (hv : m.val = 0) : withinB m = true := by
  unfold withinB
  rw [if_neg h2, if_neg h7, hv]
  decide

theorem refRight_any (m : Mg) (w : World) (hd : m.data.ok) (hp : D.Byt m.path) : Calls Try.prog 12 #[m.vl] w fun e w' => e = .returned (.bool (rightB m)) ∧ Below w.heap.size w w' := by
  cases hk : kiQ m.kind
  · have e : rightB m = false := by unfold rightB; rw [hk]; rfl
    rw [e]
    exact rr_kind m w hk
  · have hb := of_decide_eq_true hk
    obtain ⟨k, ep, id, t, v, d, p⟩ := m
    simp only at hk hb hd hp
    have hc : k = 1 ∨ k = 2 ∨ k = 3 ∨ k = 4 ∨ k = 5 ∨ k = 6 ∨ k = 7 := by omega
    have plain : ∀ k : Int, kiQ k = true → k ≠ 2 → ¬ (k = 4 ∨ k = 5 ∨ k = 7) → ((onlyM ⟨k, ep, id, t, v, d, p⟩).same ⟨k, ep, id, t, v, d, p⟩) = rightB ⟨k, ep, id, t, v, d, p⟩ := fun k hk h2 h4 =>
      rr_eq hk fun hs => within_zero h2 (show k ≠ 7 by omega) (same_val hs h4)
    rcases hc with rfl | rfl | rfl | rfl | rfl | rfl | rfl
    · rw [← plain 1 rfl (by decide) (by decide)]
      exact rr_one ep id t v d p w hd hp
    · by_cases t0 : 1 ≤ t
      · by_cases t1 : t ≤ 4
        · by_cases pl : p.length ≤ 256
          · rw [← rr_eq (m := ⟨2, ep, id, t, v, d, p⟩) rfl fun _ => by simp [withinB, t0, t1, pl]]
            exact rr_call ep id t v d p w hd hp t0 t1 pl
          · rw [rr_no (m := ⟨2, ep, id, t, v, d, p⟩) (by simp [withinB, pl])]
            exact rr_calllong ep id t v d p w hd hp t0 t1 (by omega)
        · rw [rr_no (m := ⟨2, ep, id, t, v, d, p⟩) (by simp [withinB, t1])]
          exact rr_callhigh ep id t v d p w hd hp t0 (by omega)
      · rw [rr_no (m := ⟨2, ep, id, t, v, d, p⟩) (by simp [withinB, t0])]
        exact rr_calllow ep id t v d p w hd hp (by omega)
    · rw [← plain 3 rfl (by decide) (by decide)]
      exact rr_id3 ep id t v d p w hd hp
    · by_cases v0 : 0 ≤ v
      · by_cases v1 : v ≤ 65535
        · rw [← rr_eq (m := ⟨4, ep, id, t, v, d, p⟩) rfl fun _ => by simp [withinB, v0, v1]]
          exact rr_val4 ep id t v d p w hd hp v0 v1
        · rw [rr_no (m := ⟨4, ep, id, t, v, d, p⟩) (by simp [withinB, v1])]
          exact rr_val4high ep id t v d p w hd hp (by omega)
      · rw [rr_no (m := ⟨4, ep, id, t, v, d, p⟩) (by simp [withinB, v0])]
        exact rr_val4low ep id t v d p w hd hp (by omega)
    · by_cases v0 : 0 ≤ v
      · by_cases v1 : v ≤ 65535
        · rw [← rr_eq (m := ⟨5, ep, id, t, v, d, p⟩) rfl fun _ => by simp [withinB, v0, v1]]
          exact rr_val5 ep id t v d p w hd hp v0 v1
        · rw [rr_no (m := ⟨5, ep, id, t, v, d, p⟩) (by simp [withinB, v1])]
          exact rr_val5high ep id t v d p w hd hp (by omega)
      · rw [rr_no (m := ⟨5, ep, id, t, v, d, p⟩) (by simp [withinB, v0])]
        exact rr_val5low ep id t v d p w hd hp (by omega)
    · rw [← plain 6 rfl (by decide) (by decide)]
      exact rr_id6 ep id t v d p w hd hp
    · by_cases v0 : 0 ≤ v
      · by_cases v1 : v ≤ 1
        · rw [← rr_eq (m := ⟨7, ep, id, t, v, d, p⟩) rfl fun _ => by simp [withinB, v0, v1]]
          exact rr_val7 ep id t v d p w hd hp v0 v1
        · rw [rr_no (m := ⟨7, ep, id, t, v, d, p⟩) (by simp [withinB, v1])]
          by_cases v2 : v ≤ 65535
          · exact rr_val7mid ep id t v d p w hd hp v2 (by omega)
          · exact rr_val7high ep id t v d p w hd hp (by omega)
      · rw [rr_no (m := ⟨7, ep, id, t, v, d, p⟩) (by simp [withinB, v0])]
        exact rr_val7low ep id t v d p w hd hp (by omega)

end Go.Proofs.Ytpdndcmaaghnjaa

