/-
  Whether a message may be, by the document: kinds without a call.
-/
import Derived.Test.YtpdndcmaaghnjaaMsNamed
import Derived.Deep.DeepCutAuto
namespace Go.Proofs.Ytpdndcmaaghnjaa
open Go.RowKit
open D (Da Blk)

theorem Mg.lt {q : Mg} (hd : q.data.ok) (i : Nat) (hi : i < 15) : i < q.cells.length := by rw [q.cells_len hd]; exact hi
theorem size3 : (Try.prog.info? 3).map (·.size) = some 1 := by kernel_rfl
theorem size22 : (Try.prog.info? 22).map (·.size) = some 1 := by kernel_rfl
theorem size9 : (Try.prog.info? 9).map (·.size) = some 1 := by kernel_rfl
theorem Mg.size26 (d : Da) (h : d.ok) : (Try.prog.info? 26).map (·.size) = some d.cells.toArray.size := by rw [D.Try.size26, List.size_toArray, d.cells_len h]
theorem rr_eq {m : Mg} (hk : kiQ m.kind = true) (hw : (onlyM m).same m = true → withinB m = true) : (onlyM m).same m = rightB m := by
  unfold rightB
  rw [hk, Bool.true_and, Bool.eq_iff_iff, Bool.and_eq_true, Mg.same_iff, Mg.same_iff]
  exact ⟨fun h => ⟨h.symm, hw ((Mg.same_iff _ _).2 h)⟩, fun h => h.1.symm⟩
theorem rr_no {m : Mg} (hw : withinB m = false) : rightB m = false := by unfold rightB; rw [hw, Bool.and_false, Bool.and_false]
theorem two_blk (w : World) (L : List Value) : Blk ((w.alloc (Obj.cells L.toArray 28)).alloc (Obj.cells zero15.toArray 28)) w.heap.size 28 L ∧ Blk ((w.alloc (Obj.cells L.toArray 28)).alloc (Obj.cells zero15.toArray 28)) (w.heap.size + 1) 28 zero15 ∧ Below w.heap.size w ((w.alloc (Obj.cells L.toArray 28)).alloc (Obj.cells zero15.toArray 28)) :=
  ⟨(D.blk_new w L.toArray 28).alloc _, D.blk_new' w _ _ 28, ((Below.refl _ _).alloc (Nat.le_refl _) _).alloc (by rw [D.size_alloc']; omega) _⟩

theorem rr_kind (m : Mg) (w : World) (hk : kiQ m.kind = false) : Calls Try.prog 12 #[m.vl] w fun e w' => e = .returned (.bool false) ∧ Below w.heap.size w w' := by
  have E1 : Hid (∀ o, Below w.heap.size w (w.alloc o)) := room1 w
  have c0 := (D.blk_new w m.cells.toArray 28 : Blk _ _ 28 m.cells).cell 0 |>.trans m.c0
  unfold kiQ at hk
  unfold Mg.vl
  generalize m.cells = R at *
  generalize m.kind = k at *
  have hk2 := of_decide_eq_false hk
  clear hk
  by_cases h : 1 ≤ k
  · have h7 : 7 < k := by omega
    clear hk2
    go_enter Try.func12, Try.ntmps12
    go_wp2
    go_ret
    exact ⟨rfl, E1.out _⟩
  · clear hk2
    go_enter Try.func12, Try.ntmps12
    go_wp2
    go_ret
    exact ⟨rfl, E1.out _⟩

theorem at_dst {P : Program} {ops : Array Oper} {Q : Exit → Act → World → Prop} {rest : List Oper} {o : Oper} {a : Act} {w : World} (n : Nat) (_ho : o.dst = some n) (h : wpList P ops Q (o :: rest) a w) : wpList P ops Q (o :: rest) a w := h
/-- an operation whose guard does not hold is left out. -/
theorem wpList_skip {P : Program} {ops : Array Oper} {Q : Exit → Act → World → Prop} {rest : List Oper} {o : Oper} {a : Act} {w : World} (hw : Region.wanted o (yielded ops a.tmps) = false) (h : wpList P ops Q rest (a.put o.dst undef) w) : wpList P ops Q (o :: rest) a w :=
  wpList_step fun K hK => by
    simp only [hw, Bool.false_eq_true, if_false]
    exact hK _ _ h

theorem mk_first {w X : World} {L : List Value} {q : Mg} (Z : Blk ((w.alloc (Obj.cells L.toArray 28)).alloc (Obj.cells zero15.toArray 28)) w.heap.size 28 L ∧ Blk ((w.alloc (Obj.cells L.toArray 28)).alloc (Obj.cells zero15.toArray 28)) (w.heap.size + 1) 28 zero15 ∧ Below w.heap.size w ((w.alloc (Obj.cells L.toArray 28)).alloc (Obj.cells zero15.toArray 28)))
    (hX : X = ((w.alloc (Obj.cells L.toArray 28)).alloc (Obj.cells zero15.toArray 28)).setRow (w.heap.size + 1) q.cells.toArray) : Mk w w.heap.size (w.heap.size + 1) L q X := by
  subst hX
  exact ⟨Z.1.row_other _ _ (Nat.ne_of_lt (Nat.lt_succ_self _)), Z.2.1.row _, below_setRow Z.2.2 (Nat.le_succ _) _, Nat.ne_of_lt (Nat.lt_succ_self _), Nat.le_succ _⟩

set_option maxRecDepth 8000 in
set_option maxHeartbeats 1600000 in
theorem rr_one (ep id t v : Int) (d : Da) (p : List Int) (w : World) (hd : d.ok) (hp : D.Byt p)  : Calls Try.prog 12 #[(Mg.mk 1 ep id t v d p).vl] w fun e w' => e = .returned (.bool ((onlyM ⟨1, ep, id, t, v, d, p⟩).same ⟨1, ep, id, t, v, d, p⟩)) ∧ Below w.heap.size w w' := by
  have HC0 := Mg.c0 (Mg.mk 1 ep id t v d p)
  have HC1 := Mg.c1 (Mg.mk 1 ep id t v d p)
  have HC2 := Mg.c2 (Mg.mk 1 ep id t v d p)
  have HC3 := Mg.c3 (Mg.mk 1 ep id t v d p)
  have HC4 := Mg.c4 (Mg.mk 1 ep id t v d p)
  have HC14 := Mg.c14 (Mg.mk 1 ep id t v d p) hd
  have HR : Hid (∀ (j : Nat) (z : Value), (d.cells)[j]? = some z → ((Mg.mk 1 ep id t v d p).cells)[5 + j]? = some z) := fun j z hj => by rw [Mg.cD (Mg.mk 1 ep id t v d p) hd j (by have := (List.getElem?_eq_some_iff.1 hj).1; rw [d.cells_len hd] at this; exact this)]; exact hj
  have HE : Hid (∀ W : World, (binOp .eql 28 (.agg (onlyM (Mg.mk 1 ep id t v d p)).cells.toArray) (.agg (Mg.mk 1 ep id t v d p).cells.toArray)).run Try.prog W = .ok (.bool ((onlyM (Mg.mk 1 ep id t v d p)).same (Mg.mk 1 ep id t v d p))) W) := fun W => eql_mg (onlyM (Mg.mk 1 ep id t v d p)) (Mg.mk 1 ep id t v d p) W (onlyM_ok (m := (Mg.mk 1 ep id t v d p)) hd) hd (onlyM_byt (m := (Mg.mk 1 ep id t v d p)) hp) hp
  have HG : Hid (∀ (W : World) (x y : Operand), (eqGuard .eql 28 x y (.agg (onlyM (Mg.mk 1 ep id t v d p)).cells.toArray) (.agg (Mg.mk 1 ep id t v d p).cells.toArray)).run Try.prog W = .ok () W) := fun W x y => guard_mg .eql x y (onlyM (Mg.mk 1 ep id t v d p)) (Mg.mk 1 ep id t v d p) W (.inl rfl)
  have HQ : Hid ((onlyM (Mg.mk 1 ep id t v d p)) = Mg.mk 1 ep 0 0 0 Da.zero []) := by unfold Hid onlyM; rfl
  have ZQ : Hid ((Try.prog.info? 28).map (·.size) = some (onlyM (Mg.mk 1 ep id t v d p)).cells.toArray.size) := Mg.size (onlyM (Mg.mk 1 ep id t v d p)) (onlyM_ok (m := (Mg.mk 1 ep id t v d p)) hd)
  generalize (onlyM (Mg.mk 1 ep id t v d p)).same (Mg.mk 1 ep id t v d p) = sm at *
  generalize (onlyM (Mg.mk 1 ep id t v d p)) = QQ at *
  have ZM : Hid ((Try.prog.info? 28).map (·.size) = some (Mg.mk 1 ep id t v d p).cells.toArray.size) := Mg.size (Mg.mk 1 ep id t v d p) hd
  have Z0 := two_blk w (Mg.mk 1 ep id t v d p).cells
  have F0 := (D.blk_new w (Mg.mk 1 ep id t v d p).cells.toArray 28 : Blk _ _ 28 (Mg.mk 1 ep id t v d p).cells)
  have e0 := (F0.cell 0).trans HC0; have e1 := (F0.cell 1).trans HC1; have e0' := (Z0.1.cell 0).trans HC0; have e1' := (Z0.1.cell 1).trans HC1
  unfold Mg.vl
  dsimp only at HC0 HC1 HC2 HC3 HC4 HC14 e0 e1 e0' e1'
  generalize (Mg.mk 1 ep id t v d p).cells = R at *
  unfold zero15 at *
  clear F0
  go_enter Try.func12, Try.ntmps12
  go_wp2_with (first | (refine at_op (.store 28 (.tmp 3) (.tmp 16)) rfl ?_; refine wpList_store_r rfl 28 (.tmp 3) (.tmp 16) rfl (w.heap.size + 1) (Mg.mk 1 ep 0 0 0 Da.zero []).cells.toArray rfl rfl 28 _ Z0.2.1 Try.size28 rfl (Mg.cells_one _) ?_; intro X0 hX0; have K0 : Mk w w.heap.size (w.heap.size + 1) R (Mg.mk 1 ep 0 0 0 Da.zero []) X0 := mk_first Z0 hX0; clear hX0 Z0 e0 e1 e0' e1'; have c0_0 := (K0.src.cell 0).trans HC0; have c1_0 := (K0.src.cell 1).trans HC1; have c2_0 := (K0.src.cell 2).trans HC2; have c3_0 := (K0.src.cell 3).trans HC3; have c4_0 := (K0.src.cell 4).trans HC4; have c14_0 := (K0.src.cell 14).trans HC14) | (refine at_op (.load 28 (.tmp 3)) rfl ?_; have KQ := K0.dst; rw [← HQ.out] at KQ; refine wpList_load_row rfl 28 (.tmp 3) rfl (w.heap.size + 1) rfl 28 QQ.cells.toArray (0, 0) _ KQ Try.underlying28 rfl ZQ.out ?_) | (refine at_op (.load 28 (.tmp 1)) rfl ?_; refine wpList_load_row rfl 28 (.tmp 1) rfl w.heap.size rfl 28 R.toArray (0, 0) _ K0.src Try.underlying28 rfl ZM.out ?_; have q1 := HE.out; have q2 := HG.out))
  go_ret
  exact ⟨rfl, K0.b⟩

set_option maxRecDepth 8000 in
set_option maxHeartbeats 1600000 in
theorem rr_id3 (ep id t v : Int) (d : Da) (p : List Int) (w : World) (hd : d.ok) (hp : D.Byt p)  : Calls Try.prog 12 #[(Mg.mk 3 ep id t v d p).vl] w fun e w' => e = .returned (.bool ((onlyM ⟨3, ep, id, t, v, d, p⟩).same ⟨3, ep, id, t, v, d, p⟩)) ∧ Below w.heap.size w w' := by
  have HC0 := Mg.c0 (Mg.mk 3 ep id t v d p)
  have HC1 := Mg.c1 (Mg.mk 3 ep id t v d p)
  have HC2 := Mg.c2 (Mg.mk 3 ep id t v d p)
  have HC3 := Mg.c3 (Mg.mk 3 ep id t v d p)
  have HC4 := Mg.c4 (Mg.mk 3 ep id t v d p)
  have HC14 := Mg.c14 (Mg.mk 3 ep id t v d p) hd
  have HR : Hid (∀ (j : Nat) (z : Value), (d.cells)[j]? = some z → ((Mg.mk 3 ep id t v d p).cells)[5 + j]? = some z) := fun j z hj => by rw [Mg.cD (Mg.mk 3 ep id t v d p) hd j (by have := (List.getElem?_eq_some_iff.1 hj).1; rw [d.cells_len hd] at this; exact this)]; exact hj
  have HE : Hid (∀ W : World, (binOp .eql 28 (.agg (onlyM (Mg.mk 3 ep id t v d p)).cells.toArray) (.agg (Mg.mk 3 ep id t v d p).cells.toArray)).run Try.prog W = .ok (.bool ((onlyM (Mg.mk 3 ep id t v d p)).same (Mg.mk 3 ep id t v d p))) W) := fun W => eql_mg (onlyM (Mg.mk 3 ep id t v d p)) (Mg.mk 3 ep id t v d p) W (onlyM_ok (m := (Mg.mk 3 ep id t v d p)) hd) hd (onlyM_byt (m := (Mg.mk 3 ep id t v d p)) hp) hp
  have HG : Hid (∀ (W : World) (x y : Operand), (eqGuard .eql 28 x y (.agg (onlyM (Mg.mk 3 ep id t v d p)).cells.toArray) (.agg (Mg.mk 3 ep id t v d p).cells.toArray)).run Try.prog W = .ok () W) := fun W x y => guard_mg .eql x y (onlyM (Mg.mk 3 ep id t v d p)) (Mg.mk 3 ep id t v d p) W (.inl rfl)
  have HQ : Hid ((onlyM (Mg.mk 3 ep id t v d p)) = Mg.mk 3 ep id 0 0 Da.zero []) := by unfold Hid onlyM; rfl
  have ZQ : Hid ((Try.prog.info? 28).map (·.size) = some (onlyM (Mg.mk 3 ep id t v d p)).cells.toArray.size) := Mg.size (onlyM (Mg.mk 3 ep id t v d p)) (onlyM_ok (m := (Mg.mk 3 ep id t v d p)) hd)
  generalize (onlyM (Mg.mk 3 ep id t v d p)).same (Mg.mk 3 ep id t v d p) = sm at *
  generalize (onlyM (Mg.mk 3 ep id t v d p)) = QQ at *
  have ZM : Hid ((Try.prog.info? 28).map (·.size) = some (Mg.mk 3 ep id t v d p).cells.toArray.size) := Mg.size (Mg.mk 3 ep id t v d p) hd
  have Z0 := two_blk w (Mg.mk 3 ep id t v d p).cells
  have F0 := (D.blk_new w (Mg.mk 3 ep id t v d p).cells.toArray 28 : Blk _ _ 28 (Mg.mk 3 ep id t v d p).cells)
  have e0 := (F0.cell 0).trans HC0; have e1 := (F0.cell 1).trans HC1; have e0' := (Z0.1.cell 0).trans HC0; have e1' := (Z0.1.cell 1).trans HC1
  unfold Mg.vl
  dsimp only at HC0 HC1 HC2 HC3 HC4 HC14 e0 e1 e0' e1'
  generalize (Mg.mk 3 ep id t v d p).cells = R at *
  unfold zero15 at *
  clear F0
  go_enter Try.func12, Try.ntmps12
  go_wp2_with (first | (refine at_op (.store 28 (.tmp 3) (.tmp 16)) rfl ?_; refine wpList_store_r rfl 28 (.tmp 3) (.tmp 16) rfl (w.heap.size + 1) (Mg.mk 3 ep 0 0 0 Da.zero []).cells.toArray rfl rfl 28 _ Z0.2.1 Try.size28 rfl (Mg.cells_one _) ?_; intro X0 hX0; have K0 : Mk w w.heap.size (w.heap.size + 1) R (Mg.mk 3 ep 0 0 0 Da.zero []) X0 := mk_first Z0 hX0; clear hX0 Z0 e0 e1 e0' e1'; have c0_0 := (K0.src.cell 0).trans HC0; have c1_0 := (K0.src.cell 1).trans HC1; have c2_0 := (K0.src.cell 2).trans HC2; have c3_0 := (K0.src.cell 3).trans HC3; have c4_0 := (K0.src.cell 4).trans HC4; have c14_0 := (K0.src.cell 14).trans HC14) | (refine at_op (.store 22 (.tmp 22) (.tmp 21)) rfl ?_; refine wpList_store_x rfl 22 (.tmp 22) (.tmp 21) rfl (w.heap.size + 1) 2 (.int .u64 id) rfl rfl K0.dst (Mg.lt D.zero_ok 2 (by decide)) size22 rfl ?_; intro X1 hX1; have K1 := K0.id id hX1; clear hX1 c0_0 c1_0 c2_0 c3_0 c4_0 c14_0; have c0_1 := (K1.src.cell 0).trans HC0; have c1_1 := (K1.src.cell 1).trans HC1; have c2_1 := (K1.src.cell 2).trans HC2; have c3_1 := (K1.src.cell 3).trans HC3; have c4_1 := (K1.src.cell 4).trans HC4; have c14_1 := (K1.src.cell 14).trans HC14) | (refine at_op (.load 28 (.tmp 3)) rfl ?_; have KQ := K1.dst; rw [← HQ.out] at KQ; refine wpList_load_row rfl 28 (.tmp 3) rfl (w.heap.size + 1) rfl 28 QQ.cells.toArray (0, 0) _ KQ Try.underlying28 rfl ZQ.out ?_) | (refine at_op (.load 28 (.tmp 1)) rfl ?_; refine wpList_load_row rfl 28 (.tmp 1) rfl w.heap.size rfl 28 R.toArray (0, 0) _ K1.src Try.underlying28 rfl ZM.out ?_; have q1 := HE.out; have q2 := HG.out))
  go_ret
  exact ⟨rfl, K1.b⟩

set_option maxRecDepth 8000 in
set_option maxHeartbeats 1600000 in
theorem rr_id6 (ep id t v : Int) (d : Da) (p : List Int) (w : World) (hd : d.ok) (hp : D.Byt p)  : Calls Try.prog 12 #[(Mg.mk 6 ep id t v d p).vl] w fun e w' => e = .returned (.bool ((onlyM ⟨6, ep, id, t, v, d, p⟩).same ⟨6, ep, id, t, v, d, p⟩)) ∧ Below w.heap.size w w' := by
  have HC0 := Mg.c0 (Mg.mk 6 ep id t v d p)
  have HC1 := Mg.c1 (Mg.mk 6 ep id t v d p)
  have HC2 := Mg.c2 (Mg.mk 6 ep id t v d p)
  have HC3 := Mg.c3 (Mg.mk 6 ep id t v d p)
  have HC4 := Mg.c4 (Mg.mk 6 ep id t v d p)
  have HC14 := Mg.c14 (Mg.mk 6 ep id t v d p) hd
  have HR : Hid (∀ (j : Nat) (z : Value), (d.cells)[j]? = some z → ((Mg.mk 6 ep id t v d p).cells)[5 + j]? = some z) := fun j z hj => by rw [Mg.cD (Mg.mk 6 ep id t v d p) hd j (by have := (List.getElem?_eq_some_iff.1 hj).1; rw [d.cells_len hd] at this; exact this)]; exact hj
  have HE : Hid (∀ W : World, (binOp .eql 28 (.agg (onlyM (Mg.mk 6 ep id t v d p)).cells.toArray) (.agg (Mg.mk 6 ep id t v d p).cells.toArray)).run Try.prog W = .ok (.bool ((onlyM (Mg.mk 6 ep id t v d p)).same (Mg.mk 6 ep id t v d p))) W) := fun W => eql_mg (onlyM (Mg.mk 6 ep id t v d p)) (Mg.mk 6 ep id t v d p) W (onlyM_ok (m := (Mg.mk 6 ep id t v d p)) hd) hd (onlyM_byt (m := (Mg.mk 6 ep id t v d p)) hp) hp
  have HG : Hid (∀ (W : World) (x y : Operand), (eqGuard .eql 28 x y (.agg (onlyM (Mg.mk 6 ep id t v d p)).cells.toArray) (.agg (Mg.mk 6 ep id t v d p).cells.toArray)).run Try.prog W = .ok () W) := fun W x y => guard_mg .eql x y (onlyM (Mg.mk 6 ep id t v d p)) (Mg.mk 6 ep id t v d p) W (.inl rfl)
  have HQ : Hid ((onlyM (Mg.mk 6 ep id t v d p)) = Mg.mk 6 ep id 0 0 Da.zero []) := by unfold Hid onlyM; rfl
  have ZQ : Hid ((Try.prog.info? 28).map (·.size) = some (onlyM (Mg.mk 6 ep id t v d p)).cells.toArray.size) := Mg.size (onlyM (Mg.mk 6 ep id t v d p)) (onlyM_ok (m := (Mg.mk 6 ep id t v d p)) hd)
  generalize (onlyM (Mg.mk 6 ep id t v d p)).same (Mg.mk 6 ep id t v d p) = sm at *
  generalize (onlyM (Mg.mk 6 ep id t v d p)) = QQ at *
  have ZM : Hid ((Try.prog.info? 28).map (·.size) = some (Mg.mk 6 ep id t v d p).cells.toArray.size) := Mg.size (Mg.mk 6 ep id t v d p) hd
  have Z0 := two_blk w (Mg.mk 6 ep id t v d p).cells
  have F0 := (D.blk_new w (Mg.mk 6 ep id t v d p).cells.toArray 28 : Blk _ _ 28 (Mg.mk 6 ep id t v d p).cells)
  have e0 := (F0.cell 0).trans HC0; have e1 := (F0.cell 1).trans HC1; have e0' := (Z0.1.cell 0).trans HC0; have e1' := (Z0.1.cell 1).trans HC1
  unfold Mg.vl
  dsimp only at HC0 HC1 HC2 HC3 HC4 HC14 e0 e1 e0' e1'
  generalize (Mg.mk 6 ep id t v d p).cells = R at *
  unfold zero15 at *
  clear F0
  go_enter Try.func12, Try.ntmps12
  go_wp2_with (first | (refine at_op (.store 28 (.tmp 3) (.tmp 16)) rfl ?_; refine wpList_store_r rfl 28 (.tmp 3) (.tmp 16) rfl (w.heap.size + 1) (Mg.mk 6 ep 0 0 0 Da.zero []).cells.toArray rfl rfl 28 _ Z0.2.1 Try.size28 rfl (Mg.cells_one _) ?_; intro X0 hX0; have K0 : Mk w w.heap.size (w.heap.size + 1) R (Mg.mk 6 ep 0 0 0 Da.zero []) X0 := mk_first Z0 hX0; clear hX0 Z0 e0 e1 e0' e1'; have c0_0 := (K0.src.cell 0).trans HC0; have c1_0 := (K0.src.cell 1).trans HC1; have c2_0 := (K0.src.cell 2).trans HC2; have c3_0 := (K0.src.cell 3).trans HC3; have c4_0 := (K0.src.cell 4).trans HC4; have c14_0 := (K0.src.cell 14).trans HC14) | (refine at_op (.store 22 (.tmp 22) (.tmp 21)) rfl ?_; refine wpList_store_x rfl 22 (.tmp 22) (.tmp 21) rfl (w.heap.size + 1) 2 (.int .u64 id) rfl rfl K0.dst (Mg.lt D.zero_ok 2 (by decide)) size22 rfl ?_; intro X1 hX1; have K1 := K0.id id hX1; clear hX1 c0_0 c1_0 c2_0 c3_0 c4_0 c14_0; have c0_1 := (K1.src.cell 0).trans HC0; have c1_1 := (K1.src.cell 1).trans HC1; have c2_1 := (K1.src.cell 2).trans HC2; have c3_1 := (K1.src.cell 3).trans HC3; have c4_1 := (K1.src.cell 4).trans HC4; have c14_1 := (K1.src.cell 14).trans HC14) | (refine at_op (.load 28 (.tmp 3)) rfl ?_; have KQ := K1.dst; rw [← HQ.out] at KQ; refine wpList_load_row rfl 28 (.tmp 3) rfl (w.heap.size + 1) rfl 28 QQ.cells.toArray (0, 0) _ KQ Try.underlying28 rfl ZQ.out ?_) | (refine at_op (.load 28 (.tmp 1)) rfl ?_; refine wpList_load_row rfl 28 (.tmp 1) rfl w.heap.size rfl 28 R.toArray (0, 0) _ K1.src Try.underlying28 rfl ZM.out ?_; have q1 := HE.out; have q2 := HG.out))
  go_ret
  exact ⟨rfl, K1.b⟩

end Go.Proofs.Ytpdndcmaaghnjaa
