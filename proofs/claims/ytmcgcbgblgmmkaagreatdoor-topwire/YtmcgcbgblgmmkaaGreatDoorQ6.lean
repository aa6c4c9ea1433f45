/-
  GMsRight GMsReadM GMsCall2 GMsWtr.
-/
import Derived.Test.YtmcgcbgblgmmkaaGreatDoorQ5
import Derived.Maps.AppendAt
import Derived.Test.YtmcgcbgblgmmkaaGreatDoorQ0
set_option maxRecDepth 100000
set_option maxHeartbeats 1600000
namespace Go.Proofs.YtmcgcbgblgmmkaaGreatDoor.G
open Go.RowKit
open D (Da Blk)
theorem exec_load_mg {o : Oper} {f : Operand -> Value} {x : Operand} {g : Nat} {R : List Value} {w : World} (ho : o.op = .load 36 x) (hx : f x = .pointer (some ⟨g, 0, none⟩)) (hB : Blk w g 36 R) (hz : (Tryz.prog.info? 36).map (·.size) = some R.toArray.size) :
  (execOp f o).run Tryz.prog w = .ok (.value (.agg R.toArray)) w := by
 unfold execOp
 simp only [ho, hx, Instr.loadAt, Instr.sureAddr, Sem.run_bind, Sem.run_pure, Result.andThen_ok, run_loadVar_row w g 36 36 R.toArray (0, 0) _ hB Tryz.underlying36 rfl hz]
def rightB (m : Mg) : Bool := kiQ m.kind && (m.same (onlyM m) && withinB m)
theorem onlyM_ok {m : Mg} (h : m.data.ok) : (onlyM m).data.ok := by
 unfold onlyM
 dsimp only
 split
 ·exact h
 ·exact D.zero_ok
theorem onlyM_byt {m : Mg} (h : D.Byt m.path) : D.Byt (onlyM m).path := by
 unfold onlyM
 dsimp only
 split
 ·exact h
 ·exact fun z hz => by cases hz
theorem rightB_iff (m : Mg) : rightB m = true ↔ MgR m := by
 unfold rightB kiQ
 simp only [Bool.and_eq_true, decide_eq_true_eq, Mg.same_iff]
 obtain ⟨k, ep, id, t, v, d, p⟩ := m
 unfold onlyM withinB MgR
 dsimp only
 constructor
 ·rintro ⟨⟨h1, h7⟩, hs, hw⟩
  simp only [Mg.mk.injEq, true_and] at hs
  obtain ⟨s1, s2, s3, s4, s5⟩ := hs
  refine ⟨h1, h7, fun e => ?_, fun e => ?_, fun e => ?_, fun e => ?_, fun e => ?_, fun e => ?_⟩
  ·rw [if_pos e] at s1; exact s1
  ·rw [if_neg e] at s2 s4 s5; exact ⟨s2, s4, s5⟩
  ·rw [if_pos e] at hw
   simp only [Bool.and_eq_true, decide_eq_true_eq] at hw
   exact hw
  ·rw [if_neg e] at s3; exact s3
  ·rw [if_neg (by omega)] at hw
   by_cases e7 : k = 7
   ·rw [if_pos e7] at hw
    simp only [Bool.and_eq_true, decide_eq_true_eq] at hw
    omega
   ·rw [if_neg e7] at hw
    simp only [Bool.and_eq_true, decide_eq_true_eq] at hw
    exact hw
  ·rw [if_neg (by omega), if_pos e] at hw
   simp only [Bool.and_eq_true, decide_eq_true_eq] at hw
   exact hw.2
 ·rintro ⟨h1, h7, r1, r2, r3, r4, r5, r6⟩
  refine ⟨⟨h1, h7⟩, ?_, ?_⟩
  ·simp only [Mg.mk.injEq, true_and]
   refine ⟨?_, ?_, ?_, ?_, ?_⟩
   ·split
    ·rename_i e; exact r1 e
    ·rfl
   ·split
    ·rfl
    ·rename_i e; exact (r2 e).1
   ·split
    ·rfl
    ·rename_i e; exact r4 e
   ·split
    ·rfl
    ·rename_i e; exact (r2 e).2.1
   ·split
    ·rfl
    ·rename_i e; exact (r2 e).2.2
  ·by_cases e2 : k = 2
   ·rw [if_pos e2]
    simp only [Bool.and_eq_true, decide_eq_true_eq]
    exact r3 e2
   ·rw [if_neg e2]
    by_cases e7 : k = 7
    ·rw [if_pos e7]
     simp only [Bool.and_eq_true, decide_eq_true_eq]
     exact ⟨(r5 (.inr (.inr e7))).1, r6 e7⟩
    ·rw [if_neg e7]
     simp only [Bool.and_eq_true, decide_eq_true_eq]
     by_cases e4 : k = 4 \/ k = 5 \/ k = 7
     ·exact r5 e4
     ·rw [r4 e4]; exact ⟨by decide, by decide⟩
set_option linter.unusedSimpArgs false in
theorem right_kind (m : Mg) (w : World) (hd : m.data.ok) (_hp : D.Byt m.path) (hk : kiQ m.kind = false) : Calls Tryz.prog 18 #[m.vl] w fun e w' => e = .returned (.bool false) /\ Below w.heap.size w w' := by
 have HK : Blk (w.alloc (Obj.cells m.cells.toArray 36)) w.heap.size 36 m.cells /\ Below w.heap.size w (w.alloc (Obj.cells m.cells.toArray 36)) := ⟨D.blk_new w m.cells.toArray 36, (Below.refl _ _).alloc (Nat.le_refl _) _⟩
 have HZ : Hid ((Tryz.prog.info? 36).map (·.size) = some m.cells.toArray.size) := m.size hd
 have HC : Hid (m.cells[0]? = some (.int .i64 m.kind)) := m.c0
 have HI : Hid (∀ W : World, Calls Tryz.prog 31 #[.int .i64 m.kind] W fun e w' => e = .returned (.bool (kiQ m.kind)) /\ w' = W) := fun W => isKind_any m.kind W
 unfold Mg.vl at *
 generalize m.cells = R at *
 generalize m.kind = k at *
 clear hd
 go_enter Tryz.func18, Tryz.ntmps18
 go_wp2_with fail
 generalize w.alloc (Obj.cells R.toArray 36) = W0 at *
 generalize hB1 : w.heap.size = B1 at *
 refine wp_region_held_drew (S := (fun X => Blk X B1 36 R /\ Below B1 w X)) (by kernel_rfl) (⟨HK.1.drew, HK.2.drew⟩) (fun hHeld => ?_)
 simp only [List.size_toArray, List.length_cons, List.length_nil, Nat.reduceAdd]
 refine tk 0 ?_ hHeld ?_ ?_
 rotate_left
 ·(intro w hSw; (try dsimp only at hSw); go_simp; try with_reducible rfl)
 try simp only [Act.put, zA, zB, zC, zD, zE, zF]
 refine tk 1 ?_ hHeld ?_ ?_
 rotate_left
 ·(intro w hSw; (try dsimp only at hSw); have s0 := (hSw.1.cell 0).trans HC.out; go_simp; try with_reducible rfl)
 try simp only [Act.put, zA, zB, zC, zD, zE, zF]
 refine wpAnyH_ready (rs := [2]) (by kernel_rfl) (by simp) ?_
 refine AllReadyH.cons rfl (fun K hK => ?_) AllReadyH.nil
 go_simp
 refine (HI.out _).mono ?_
 rintro e w1 ⟨rfl, hw1⟩
 subst hw1
 rw [hk]
 go_wp2_with fail
 refine hK.out _ _ (hHeld) (fun hHeld => ?_)
 clear hK K
 try simp only [Act.put, zA, zB, zC, zD, zE, zF]
 refine tk 3 ?_ hHeld ?_ ?_
 rotate_left
 ·(intro w hSw; (try dsimp only at hSw); go_simp; try with_reducible rfl)
 try simp only [Act.put, zA, zB, zC, zD, zE, zF]
 refine wpAnyH_take (i := 4) (v := undef) rfl (by kernel_rfl) (by kernel_rfl) (by kernel_rfl) (fun _ _ _ h => h) (Or.inr ⟨by rfl, rfl⟩) hHeld ?_
 try simp only [Act.put, zA, zB, zC, zD, zE, zF]
 refine wpAnyH_take (i := 5) (v := undef) rfl (by kernel_rfl) (by kernel_rfl) (by kernel_rfl) (fun _ _ _ h => h) (Or.inr ⟨by rfl, rfl⟩) hHeld ?_
 try simp only [Act.put, zA, zB, zC, zD, zE, zF]
 refine wpAnyH_take (i := 6) (v := undef) rfl (by kernel_rfl) (by kernel_rfl) (by kernel_rfl) (fun _ _ _ h => h) (Or.inr ⟨by rfl, rfl⟩) hHeld ?_
 try simp only [Act.put, zA, zB, zC, zD, zE, zF]
 refine wpAnyH_take (i := 7) (v := undef) rfl (by kernel_rfl) (by kernel_rfl) (by kernel_rfl) (fun _ _ _ h => h) (Or.inr ⟨by rfl, rfl⟩) hHeld ?_
 try simp only [Act.put, zA, zB, zC, zD, zE, zF]
 refine tk 8 ?_ hHeld ?_ ?_
 rotate_left
 ·(intro w hSw; (try dsimp only at hSw); go_simp; try with_reducible rfl)
 try simp only [Act.put, zA, zB, zC, zD, zE, zF]
 refine tk 9 ?_ hHeld ?_ ?_
 rotate_left
 ·(intro w hSw; (try dsimp only at hSw); go_simp; try with_reducible rfl)
 try simp only [Act.put, zA, zB, zC, zD, zE, zF]
 refine wpAnyH_take (i := 10) (v := undef) rfl (by kernel_rfl) (by kernel_rfl) (by kernel_rfl) (fun _ _ _ h => h) (Or.inr ⟨by rfl, rfl⟩) hHeld ?_
 try simp only [Act.put, zA, zB, zC, zD, zE, zF]
 refine wpAnyH_take (i := 11) (v := undef) rfl (by kernel_rfl) (by kernel_rfl) (by kernel_rfl) (fun _ _ _ h => h) (Or.inr ⟨by rfl, rfl⟩) hHeld ?_
 try simp only [Act.put, zA, zB, zC, zD, zE, zF]
 refine tk 12 ?_ hHeld ?_ ?_
 rotate_left
 ·(intro w hSw; (try dsimp only at hSw); go_simp; try with_reducible rfl)
 try simp only [Act.put, zA, zB, zC, zD, zE, zF]
 refine tk 13 ?_ hHeld ?_ ?_
 rotate_left
 ·(intro w hSw; (try dsimp only at hSw); go_simp; try with_reducible rfl)
 try simp only [Act.put, zA, zB, zC, zD, zE, zF]
 refine wpAnyH_done (by kernel_rfl) ?_ _
 go_wp2_with fail
 go_ret
 exact ⟨rfl, by rw [hB1]; exact hHeld.2⟩
set_option linter.unusedSimpArgs false in
theorem right_other (m : Mg) (w : World) (hd : m.data.ok) (_hp : D.Byt m.path) (hk : kiQ m.kind = true) (hs : m.same (onlyM m) = false) : Calls Tryz.prog 18 #[m.vl] w fun e w' => e = .returned (.bool false) /\ Below w.heap.size w w' := by
 have HK : Blk (w.alloc (Obj.cells m.cells.toArray 36)) w.heap.size 36 m.cells /\ Below w.heap.size w (w.alloc (Obj.cells m.cells.toArray 36)) := ⟨D.blk_new w m.cells.toArray 36, (Below.refl _ _).alloc (Nat.le_refl _) _⟩
 have HZ : Hid ((Tryz.prog.info? 36).map (·.size) = some m.cells.toArray.size) := m.size hd
 have HC : Hid (m.cells[0]? = some (.int .i64 m.kind)) := m.c0
 have HI : Hid (∀ W : World, Calls Tryz.prog 31 #[.int .i64 m.kind] W fun e w' => e = .returned (.bool (kiQ m.kind)) /\ w' = W) := fun W => isKind_any m.kind W
 have HO : Hid (∀ W : World, Calls Tryz.prog 43 #[m.vl] W fun e w' => e = .returned (onlyM m).vl /\ Below W.heap.size W w') := fun W => only_any m W hd
 have HE : Hid (∀ W : World, (binOp .eql 36 m.vl (onlyM m).vl).run Tryz.prog W = .ok (.bool (m.same (onlyM m))) W) := fun W => eql_mg m (onlyM m) W hd (onlyM_ok hd) _hp (onlyM_byt _hp)
 have HG : Hid (∀ W : World, ∀ a b, (eqGuard .eql 36 a b m.vl (onlyM m).vl).run Tryz.prog W = .ok () W) := fun W a b => guard_mg .eql a b m (onlyM m) W (.inl rfl)
 rw [hs] at HE
 unfold Mg.vl at *
 generalize m.cells = R at *
 generalize m.kind = k at *
 clear hd
 go_enter Tryz.func18, Tryz.ntmps18
 go_wp2_with fail
 generalize w.alloc (Obj.cells R.toArray 36) = W0 at *
 generalize hB1 : w.heap.size = B1 at *
 refine wp_region_held_drew (S := (fun X => Blk X B1 36 R /\ Below B1 w X)) (by kernel_rfl) (⟨HK.1.drew, HK.2.drew⟩) (fun hHeld => ?_)
 simp only [List.size_toArray, List.length_cons, List.length_nil, Nat.reduceAdd]
 refine tk 0 ?_ hHeld ?_ ?_
 rotate_left
 ·(intro w hSw; (try dsimp only at hSw); go_simp; try with_reducible rfl)
 try simp only [Act.put, zA, zB, zC, zD, zE, zF]
 refine tk 1 ?_ hHeld ?_ ?_
 rotate_left
 ·(intro w hSw; (try dsimp only at hSw); have s0 := (hSw.1.cell 0).trans HC.out; go_simp; try with_reducible rfl)
 try simp only [Act.put, zA, zB, zC, zD, zE, zF]
 refine wpAnyH_ready (rs := [2]) (by kernel_rfl) (by simp) ?_
 refine AllReadyH.cons rfl (fun K hK => ?_) AllReadyH.nil
 go_simp
 refine (HI.out _).mono ?_
 rintro e w1 ⟨rfl, hw1⟩
 subst hw1
 rw [hk]
 go_wp2_with fail
 refine hK.out _ _ (hHeld) (fun hHeld => ?_)
 clear hK K
 try simp only [Act.put, zA, zB, zC, zD, zE, zF]
 refine tk 3 ?_ hHeld ?_ ?_
 rotate_left
 ·(intro w hSw; (try dsimp only at hSw); go_simp; try with_reducible rfl)
 try simp only [Act.put, zA, zB, zC, zD, zE, zF]
 refine wpAnyH_take (i := 4) (v := _) rfl (by kernel_rfl) (by kernel_rfl) (by kernel_rfl) (fun _ _ _ h => h) (Or.inl ⟨by rfl, fun w hSw => exec_load_mg rfl rfl hSw.1 HZ.out⟩) hHeld ?_
 try simp only [Act.put, zA, zB, zC, zD, zE, zF]
 refine wpAnyH_take (i := 5) (v := _) rfl (by kernel_rfl) (by kernel_rfl) (by kernel_rfl) (fun _ _ _ h => h) (Or.inl ⟨by rfl, fun w hSw => exec_load_mg rfl rfl hSw.1 HZ.out⟩) hHeld ?_
 try simp only [Act.put, zA, zB, zC, zD, zE, zF]
 refine wpAnyH_ready (rs := [6]) (by kernel_rfl) (by simp) ?_
 refine AllReadyH.cons rfl (fun K hK => ?_) AllReadyH.nil
 go_simp
 refine (HO.out _).mono ?_
 rintro e w1 ⟨rfl, b1⟩
 go_wp2_with fail
 refine hK.out _ _ (⟨hHeld.1.over b1, hHeld.2.trans (b1.mono (hB1 ▸ hHeld.2.size))⟩) (fun hHeld => ?_)
 clear hK K
 try simp only [Act.put, zA, zB, zC, zD, zE, zF]
 refine tk 7 ?_ hHeld ?_ ?_
 rotate_left
 ·(intro w hSw; (try dsimp only at hSw); have q1 := HE.out; have q2 := HG.out; go_simp; try with_reducible rfl)
 try simp only [Act.put, zA, zB, zC, zD, zE, zF]
 refine tk 8 ?_ hHeld ?_ ?_
 rotate_left
 ·(intro w hSw; (try dsimp only at hSw); go_simp; try with_reducible rfl)
 try simp only [Act.put, zA, zB, zC, zD, zE, zF]
 refine tk 9 ?_ hHeld ?_ ?_
 rotate_left
 ·(intro w hSw; (try dsimp only at hSw); go_simp; try with_reducible rfl)
 try simp only [Act.put, zA, zB, zC, zD, zE, zF]
 refine wpAnyH_take (i := 10) (v := undef) rfl (by kernel_rfl) (by kernel_rfl) (by kernel_rfl) (fun _ _ _ h => h) (Or.inr ⟨by rfl, rfl⟩) hHeld ?_
 try simp only [Act.put, zA, zB, zC, zD, zE, zF]
 refine wpAnyH_take (i := 11) (v := undef) rfl (by kernel_rfl) (by kernel_rfl) (by kernel_rfl) (fun _ _ _ h => h) (Or.inr ⟨by rfl, rfl⟩) hHeld ?_
 try simp only [Act.put, zA, zB, zC, zD, zE, zF]
 refine tk 12 ?_ hHeld ?_ ?_
 rotate_left
 ·(intro w hSw; (try dsimp only at hSw); go_simp; try with_reducible rfl)
 try simp only [Act.put, zA, zB, zC, zD, zE, zF]
 refine tk 13 ?_ hHeld ?_ ?_
 rotate_left
 ·(intro w hSw; (try dsimp only at hSw); go_simp; try with_reducible rfl)
 try simp only [Act.put, zA, zB, zC, zD, zE, zF]
 refine wpAnyH_done (by kernel_rfl) ?_ _
 go_wp2_with fail
 go_ret
 exact ⟨rfl, by rw [hB1]; exact hHeld.2⟩
set_option linter.unusedSimpArgs false in
theorem right_all (m : Mg) (w : World) (hd : m.data.ok) (_hp : D.Byt m.path) (hk : kiQ m.kind = true) (hs : m.same (onlyM m) = true) : Calls Tryz.prog 18 #[m.vl] w fun e w' => e = .returned (.bool (withinB m)) /\ Below w.heap.size w w' := by
 have HK : Blk (w.alloc (Obj.cells m.cells.toArray 36)) w.heap.size 36 m.cells /\ Below w.heap.size w (w.alloc (Obj.cells m.cells.toArray 36)) := ⟨D.blk_new w m.cells.toArray 36, (Below.refl _ _).alloc (Nat.le_refl _) _⟩
 have HZ : Hid ((Tryz.prog.info? 36).map (·.size) = some m.cells.toArray.size) := m.size hd
 have HC : Hid (m.cells[0]? = some (.int .i64 m.kind)) := m.c0
 have HI : Hid (∀ W : World, Calls Tryz.prog 31 #[.int .i64 m.kind] W fun e w' => e = .returned (.bool (kiQ m.kind)) /\ w' = W) := fun W => isKind_any m.kind W
 have HO : Hid (∀ W : World, Calls Tryz.prog 43 #[m.vl] W fun e w' => e = .returned (onlyM m).vl /\ Below W.heap.size W w') := fun W => only_any m W hd
 have HE : Hid (∀ W : World, (binOp .eql 36 m.vl (onlyM m).vl).run Tryz.prog W = .ok (.bool (m.same (onlyM m))) W) := fun W => eql_mg m (onlyM m) W hd (onlyM_ok hd) _hp (onlyM_byt _hp)
 have HG : Hid (∀ W : World, ∀ a b, (eqGuard .eql 36 a b m.vl (onlyM m).vl).run Tryz.prog W = .ok () W) := fun W a b => guard_mg .eql a b m (onlyM m) W (.inl rfl)
 have HW : Hid (∀ W : World, Calls Tryz.prog 44 #[m.vl] W fun e w' => e = .returned (.bool (withinB m)) /\ Below W.heap.size W w') := fun W => within_any m W hd
 rw [hs] at HE
 unfold Mg.vl at *
 generalize m.cells = R at *
 generalize m.kind = k at *
 clear hd
 go_enter Tryz.func18, Tryz.ntmps18
 go_wp2_with fail
 generalize w.alloc (Obj.cells R.toArray 36) = W0 at *
 generalize hB1 : w.heap.size = B1 at *
 refine wp_region_held_drew (S := (fun X => Blk X B1 36 R /\ Below B1 w X)) (by kernel_rfl) (⟨HK.1.drew, HK.2.drew⟩) (fun hHeld => ?_)
 simp only [List.size_toArray, List.length_cons, List.length_nil, Nat.reduceAdd]
 refine tk 0 ?_ hHeld ?_ ?_
 rotate_left
 ·(intro w hSw; (try dsimp only at hSw); go_simp; try with_reducible rfl)
 try simp only [Act.put, zA, zB, zC, zD, zE, zF]
 refine tk 1 ?_ hHeld ?_ ?_
 rotate_left
 ·(intro w hSw; (try dsimp only at hSw); have s0 := (hSw.1.cell 0).trans HC.out; go_simp; try with_reducible rfl)
 try simp only [Act.put, zA, zB, zC, zD, zE, zF]
 refine wpAnyH_ready (rs := [2]) (by kernel_rfl) (by simp) ?_
 refine AllReadyH.cons rfl (fun K hK => ?_) AllReadyH.nil
 go_simp
 refine (HI.out _).mono ?_
 rintro e w1 ⟨rfl, hw1⟩
 subst hw1
 rw [hk]
 go_wp2_with fail
 refine hK.out _ _ (hHeld) (fun hHeld => ?_)
 clear hK K
 try simp only [Act.put, zA, zB, zC, zD, zE, zF]
 refine tk 3 ?_ hHeld ?_ ?_
 rotate_left
 ·(intro w hSw; (try dsimp only at hSw); go_simp; try with_reducible rfl)
 try simp only [Act.put, zA, zB, zC, zD, zE, zF]
 refine wpAnyH_take (i := 4) (v := _) rfl (by kernel_rfl) (by kernel_rfl) (by kernel_rfl) (fun _ _ _ h => h) (Or.inl ⟨by rfl, fun w hSw => exec_load_mg rfl rfl hSw.1 HZ.out⟩) hHeld ?_
 try simp only [Act.put, zA, zB, zC, zD, zE, zF]
 refine wpAnyH_take (i := 5) (v := _) rfl (by kernel_rfl) (by kernel_rfl) (by kernel_rfl) (fun _ _ _ h => h) (Or.inl ⟨by rfl, fun w hSw => exec_load_mg rfl rfl hSw.1 HZ.out⟩) hHeld ?_
 try simp only [Act.put, zA, zB, zC, zD, zE, zF]
 refine wpAnyH_ready (rs := [6]) (by kernel_rfl) (by simp) ?_
 refine AllReadyH.cons rfl (fun K hK => ?_) AllReadyH.nil
 go_simp
 refine (HO.out _).mono ?_
 rintro e w1 ⟨rfl, b1⟩
 go_wp2_with fail
 refine hK.out _ _ (⟨hHeld.1.over b1, hHeld.2.trans (b1.mono (hB1 ▸ hHeld.2.size))⟩) (fun hHeld => ?_)
 clear hK K
 try simp only [Act.put, zA, zB, zC, zD, zE, zF]
 refine tk 7 ?_ hHeld ?_ ?_
 rotate_left
 ·(intro w hSw; (try dsimp only at hSw); have q1 := HE.out; have q2 := HG.out; go_simp; try with_reducible rfl)
 try simp only [Act.put, zA, zB, zC, zD, zE, zF]
 refine tk 8 ?_ hHeld ?_ ?_
 rotate_left
 ·(intro w hSw; (try dsimp only at hSw); go_simp; try with_reducible rfl)
 try simp only [Act.put, zA, zB, zC, zD, zE, zF]
 refine tk 9 ?_ hHeld ?_ ?_
 rotate_left
 ·(intro w hSw; (try dsimp only at hSw); go_simp; try with_reducible rfl)
 try simp only [Act.put, zA, zB, zC, zD, zE, zF]
 refine wpAnyH_take (i := 10) (v := _) rfl (by kernel_rfl) (by kernel_rfl) (by kernel_rfl) (fun _ _ _ h => h) (Or.inl ⟨by rfl, fun w hSw => exec_load_mg rfl rfl hSw.1 HZ.out⟩) hHeld ?_
 try simp only [Act.put, zA, zB, zC, zD, zE, zF]
 refine wpAnyH_ready (rs := [11]) (by kernel_rfl) (by simp) ?_
 refine AllReadyH.cons rfl (fun K hK => ?_) AllReadyH.nil
 go_simp
 refine (HW.out _).mono ?_
 rintro e w2 ⟨rfl, b2⟩
 go_wp2_with fail
 refine hK.out _ _ (⟨hHeld.1.over b2, hHeld.2.trans (b2.mono (hB1 ▸ hHeld.2.size))⟩) (fun hHeld => ?_)
 clear hK K
 try simp only [Act.put, zA, zB, zC, zD, zE, zF]
 refine tk 12 ?_ hHeld ?_ ?_
 rotate_left
 ·(intro w hSw; (try dsimp only at hSw); go_simp; try with_reducible rfl)
 try simp only [Act.put, zA, zB, zC, zD, zE, zF]
 refine tk 13 ?_ hHeld ?_ ?_
 rotate_left
 ·(intro w hSw; (try dsimp only at hSw); go_simp; try with_reducible rfl)
 try simp only [Act.put, zA, zB, zC, zD, zE, zF]
 refine wpAnyH_done (by kernel_rfl) ?_ _
 go_wp2_with fail
 go_ret
 exact ⟨rfl, by rw [hB1]; exact hHeld.2⟩
theorem right_any (m : Mg) (w : World) (hd : m.data.ok) (hp : D.Byt m.path) : Calls Tryz.prog 18 #[m.vl] w fun e w' => e = .returned (.bool (rightB m)) /\ Below w.heap.size w w' := by
 unfold rightB
 cases hk : kiQ m.kind
 ·exact right_kind m w hd hp hk
 ·cases hs : m.same (onlyM m)
  ·exact right_other m w hd hp hk hs
  ·exact right_all m w hd hp hk hs
open K (numR takeR failW numOf textR endR)
def stA (l : List Int) (p : Nat) : List Int × Int := if p <= l.length then (l.drop p, 0) else ([], 2)
theorem stA_zero (l : List Int) : stA l 0 = (l, 0) := if_pos (Nat.zero_le _)
theorem take_stA (l : List Int) (p s : Nat) : takeR (stA l p) s = ((if p + s <= l.length then (l.drop p).take s else []), stA l (p + s)) := by
 unfold takeR stA
 by_cases h : p <= l.length
 ·rw [if_pos h, if_neg (by simp)]
  dsimp only
  rw [List.length_drop]
  by_cases h2 : p + s <= l.length
  ·rw [if_neg (by omega), if_pos h2, if_pos h2, List.drop_drop]
  ·rw [if_pos (by omega), if_neg h2, if_neg h2]
 ·rw [if_neg h, if_pos (by simp), if_neg (by omega), if_neg (by omega)]
theorem num_stA (l : List Int) (p s : Nat) (h1 : 1 <= s) (h8 : s <= 8) : numR (stA l p) (s : Int) = ((if p + s <= l.length then numOf ((l.drop p).take s) else 0), stA l (p + s)) := by
 unfold numR
 rw [if_pos ⟨by omega, by omega⟩, Int.toNat_natCast, take_stA l p s]
 dsimp only
 split <;> rfl
theorem end_stA (l : List Int) (p : Nat) : endR (stA l p) = if l.length < p then 2 else if p < l.length then 3 else 0 := by
 unfold endR stA
 by_cases h : p <= l.length
 ·rw [if_pos h, if_neg (show ¬ ((l.drop p, (0 : Int)).2 ≠ 0) by simp), if_neg (show ¬ l.length < p by omega)]
  dsimp only
  rw [List.length_drop]
  by_cases h2 : p < l.length
  ·rw [if_pos (by omega), if_pos h2]
  ·rw [if_neg (by omega), if_neg h2]
 ·rw [if_neg h, if_pos (by simp), if_pos (by omega)]
theorem byte_stA (l : List Int) (p : Nat) : (byteR (stA l p) 64).2 = stA l (p + 64) /\ (p + 64 <= l.length -> (byteR (stA l p) 64).1 = (l.drop p).take 64) := by
 by_cases h : p <= l.length
 ·have e : stA l p = (l.drop p, 0) := if_pos h
  rw [e]
  by_cases h2 : p + 64 <= l.length
  ·rw [byteR_ok _ _ (by rw [List.length_drop]; omega)]
   refine ⟨?_, fun _ => rfl⟩
   unfold stA
   rw [if_pos h2, List.drop_drop]
  ·rw [byteR_short _ _ (by rw [List.length_drop]; omega)]
   refine ⟨?_, fun h3 => absurd h3 h2⟩
   unfold stA
   rw [if_neg h2]
 ·have e : stA l p = ([], 2) := if_neg h
  rw [e, byteR_bad 2 (by decide)]
  refine ⟨?_, fun h3 => by omega⟩
  unfold stA
  rw [if_neg (by omega)]
theorem text_stA (l : List Int) (p : Nat) : (p + 2 <= l.length -> textR (stA l p) = ((if p + 2 + (numOf ((l.drop p).take 2)).toNat <= l.length then (l.drop (p + 2)).take (numOf ((l.drop p).take 2)).toNat else []), stA l (p + 2 + (numOf ((l.drop p).take 2)).toNat))) /\ (l.length < p + 2 -> textR (stA l p) = ([], ([], 2))) := by
 have ht := take_stA l p 2
 constructor
 ·intro h
  unfold textR
  rw [ht, if_pos h]
  dsimp only
  rw [take_stA l (p + 2) _]
 ·intro h
  unfold textR
  rw [ht, if_neg (by omega)]
  dsimp only
  have e : stA l (p + 2) = ([], 2) := if_neg (by omega)
  rw [e]
  rfl
theorem rdB_right {k : Int} {b : List Int} (hk : 1 <= k /\ k <= 7) (hb : D.Byt b) : rdB k b = rightB (rd k b) := by
 rw [Bool.eq_iff_iff, rdB_iff, rd_right hk hb, rightB_iff]
def tellM (m : Mg) (e : Int) : Mg × Int := if e ≠ 0 then (Mg.zero, e) else if rightB m = true then (m, 0) else (Mg.zero, 1)
def endM (k : Int) (l : List Int) : Int := if l.length < need k \/ l.length < size k l then 2 else if size k l < l.length then 3 else 0
theorem dec_tell {k : Int} {l : List Int} {m : Mg} (hh : l.head? = some k) (hk : 1 <= k /\ k <= 7) (hb : D.Byt l) (hm : need k <= l.length -> size k l <= l.length -> m = rd k l) : decM l = tellM m (endM k l) := by
 rw [dec_at hh, if_neg (not_not_intro hk)]
 unfold tellM endM
 by_cases h1 : l.length < need k \/ l.length < size k l
 ·rw [if_pos h1, if_pos h1, if_pos (by decide)]
 ·rw [if_neg h1, if_neg h1]
  by_cases h2 : size k l < l.length
  ·rw [if_pos h2, if_pos h2, if_pos (by decide)]
  ·rw [if_neg h2, if_neg h2, hm (by omega) (by omega), rdB_right hk hb, if_neg (show ¬ ((0 : Int) ≠ 0) by decide)]
def nAt (l : List Int) (p s : Nat) : Int := if p + s <= l.length then numOf ((l.drop p).take s) else 0
theorem nAt_8 {l : List Int} (h : D.Byt l) (p : Nat) : D.U64 (nAt l p 8) := by
 unfold nAt
 split
 ·exact num_u8 (byt_sub h p 8) (by rw [List.length_take]; exact Nat.min_le_left _ _)
 ·exact ⟨by decide, by decide⟩
theorem nAt_2 {l : List Int} (h : D.Byt l) (p s : Nat) (hs : s <= 2) : 0 <= nAt l p s /\ nAt l p s <= 65535 := by
 unfold nAt
 split
 ·exact num_2 (byt_sub h p s) (by rw [List.length_take]; exact Nat.le_trans (Nat.min_le_left _ _) hs)
 ·exact ⟨by decide, by decide⟩
theorem nAt_1 (l : List Int) (p : Nat) (h : p < l.length) : nAt l p 1 = l.getD p 0 := by
 unfold nAt
 rw [if_pos (by omega), List.drop_eq_getElem_cons h, List.take_succ_cons, List.take_zero, List.getD_eq_getElem?_getD, List.getElem?_eq_getElem h]
 simp [numOf]
def front (l : List Int) (n i : Nat) : Value := .int .u8 (if i < n then l.getD i 0 else 0)
theorem front_step (l : List Int) (z : Int) (i : Nat) : (if i = l.length then Value.int .u8 z else front l l.length i) = front (l ++ [z]) (l.length + 1) i := by
 unfold front
 by_cases h : i = l.length
 ·subst h
  rw [if_pos rfl, if_pos (by omega), List.getD_eq_getElem?_getD, List.getElem?_append_right (Nat.le_refl _), Nat.sub_self]
  rfl
 ·rw [if_neg h]
  by_cases h2 : i < l.length
  ·rw [if_pos h2, if_pos (by omega), List.getD_eq_getElem?_getD, List.getD_eq_getElem?_getD, List.getElem?_append_left h2]
  ·rw [if_neg h2, if_neg (by omega)]
theorem front_bs {w : World} {b : Nat} {l : List Int} {n : Nat} (hl : l.length = n) (hb : D.Byt l) (h : w.rowIs b 5 n (front l n)) : D.Bs w (some ⟨b, 0, none⟩) n l := by
 refine ⟨hl, hb, fun _ => ⟨b, 0, rfl, fun i hi => ?_⟩⟩
 rw [Nat.zero_add, h.cell hi]
 unfold front
 rw [if_pos hi]
theorem rowIs_kept {w w' : World} {b n : Nat} {t : TypeId} {f : Nat -> Value} (h : w.rowIs b t n f) (hk : w'.heap[b]? = w.heap[b]?) : w'.rowIs b t n f := by
 obtain ⟨c, h1, h2⟩ := h
 exact ⟨c, hk.trans h1, h2⟩
theorem byteR_byts (st : List Int × Int) (hd : D.Byt st.1) (n : Nat) : D.Byt (byteR st n).1 /\ D.Byt (byteR st n).2.1 := by
 induction n with
 | zero => exact ⟨(fun z hz => by cases hz), hd⟩
 | succ n ih =>
  have ht : ∀ m : List Int × Int, D.Byt m.1 -> (0 <= (numR m 1).1 /\ (numR m 1).1 <= 255) /\ D.Byt (numR m 1).2.1 := by
   intro m hm
   unfold numR takeR
   rw [if_pos ⟨by decide, by decide⟩]
   split
   ·exact ⟨⟨Int.le_refl 0, show (0 : Int) <= 255 by decide⟩, hm⟩
   ·split
    ·exact ⟨⟨Int.le_refl 0, show (0 : Int) <= 255 by decide⟩, fun z hz => by cases hz⟩
    ·obtain ⟨l, e⟩ := m
     cases l with
     | nil => exact ⟨⟨Int.le_refl 0, show (0 : Int) <= 255 by decide⟩, fun z hz => by simp at hz⟩
     | cons x r =>
      refine ⟨?_, fun z hz => hm z (List.mem_of_mem_drop hz)⟩
      have := hm x List.mem_cons_self
      show 0 <= numOf ([x]) /\ numOf [x] <= 255
      simp only [numOf, List.foldl_cons, List.foldl_nil]
      omega
  have h2 := ht _ ih.2
  refine ⟨fun z hz => ?_, h2.2⟩
  rcases List.mem_append.1 hz with hz | hz
  ·exact ih.1 z hz
  ·rw [List.mem_singleton.1 hz]; exact h2.1
theorem byteR_byt {Y : Nat -> Prop} {w : World} {b : Nat} {st : List Int × Int} (h : R.Rd Y w b st) (n : Nat) : D.Byt (byteR st n).1 := (byteR_byts st h.rd.bd n).1
theorem rd_later {w : World} {b : Nat} {st : List Int × Int} (h : K.Rd w b st) : R.Rd (w.heap.size <= ·) w b st := by
 obtain ⟨a, n, cap, h2, hb, hc, hao, hx⟩ := h.ex
 refine ⟨⟨a, n, cap, h2, hb, hc, hao, fun x e => ?_⟩, h.no⟩
 obtain ⟨h1, C, f, hC⟩ := hx x e
 exact ⟨h1, Nat.not_le.2 (lt_of_block hC), C, f, hC⟩
theorem grown_row (w : World) (g : Nat) (cs : Array Value) : w.grownBy (w.setRow g cs) (some g) := by
 have h := below_setRow (Below.refl 0 w) (Nat.zero_le g) cs
 exact ⟨h.os, h.tape, h.output, h.size, fun k _ hr => setRow_other w g k cs (fun e => hr (by rw [e]))⟩
theorem kept_row {w w' : World} {r : Option Nat} (h : w.grownBy w' r) (g : Nat) (hg : w.heap.size <= g) (cs : Array Value) : w.grownBy (w'.setRow g cs) r := by
 have k := grown_row w' g cs
 exact ⟨k.os.trans h.os, k.tape.trans h.tape, k.output.trans h.output, Nat.le_trans h.size k.size, fun i hi hr => (k.block i (Nat.lt_of_lt_of_le hi h.size) (fun e => by cases e; exact absurd hi (Nat.not_lt.2 hg))).trans (h.block i hi hr)⟩
theorem call_any (w : World) (b : Nat) (st : List Int × Int) (h : K.Rd w b st) :
  Calls Tryz.prog 61 #[.pointer (some ⟨b, 0, none⟩)] w fun e w' => e = .returned (D.decOf (byteR st 64).1).val /\ K.Rd w' b (byteR st 64).2 /\ w.grownBy w' (some b) := by
 have hr := rd_later h
 have hlt := h.lt
 have hmk : ∀ w, (Instr.makeSlice 37 (.int .i64 64) (.int .i64 64)).run Tryz.prog w = .ok (.slice (some ⟨w.heap.size, 0, none⟩) 64 64) (w.alloc (.cells (madeCells #[.int .u8 0] 64) 5)) := run_make_row' (P := Tryz.prog) 37 5 (.int .u8 0) 1 Tryz.underlying37 D.Tryz.info5 rfl .i64 .i64 64 (by omega) (by omega)
 have HY : Hid (∀ n, D.Byt (byteR st n).1) := fun n => byteR_byt hr n
 have HL : Hid (∀ n, (byteR st n).1.length = n) := byteR_len st
 have Y64 : Hid (D.Byt (byteR st 64).1) := HY.out 64
 have L64 : Hid ((byteR st 64).1.length = 64) := HL.out 64
 have E64 : Hid (∀ n, n = 64 -> byteR st n = byteR st 64) := fun n h => by rw [h]
 generalize byteR st 64 = D64 at *
 obtain ⟨DL, s64⟩ := D64
 dsimp only at *
 have HZ : Hid ((Tryz.prog.info? 34).map (·.size) = some (D.decOf DL).cells.toArray.size) := by
  unfold Hid
  rw [D.Tryz.size34, List.size_toArray, D.Da.cells_len _ (D.decOf_ok _ Y64.out)]
 have H1 : Hid ((D.decOf DL).cells.toArray.all (·.oneCell') = true) := D.Da.cells_one _
 have HS : Hid (D.zero9.toArray.size = (D.decOf DL).cells.toArray.size) := by
  unfold Hid
  rw [List.size_toArray, List.size_toArray, D.Da.cells_len _ (D.decOf_ok _ Y64.out)]
  rfl
 have hf0 : Hid (Blk (w.alloc (Obj.cells D.zero9.toArray 34)) w.heap.size 34 D.zero9) := D.blk_new w _ 34
 have E0 : Below w.heap.size w (w.alloc (Obj.cells D.zero9.toArray 34)) := (Below.refl _ _).alloc (Nat.le_refl _) _
 have E1 : Below w.heap.size w ((w.alloc (Obj.cells D.zero9.toArray 34)).alloc (.cells (madeCells #[.int .u8 0] 64) 5)) := E0.alloc E0.size _
 have hf1 : Hid (Blk ((w.alloc (Obj.cells D.zero9.toArray 34)).alloc (.cells (madeCells #[.int .u8 0] 64) 5)) w.heap.size 34 D.zero9) := hf0.out.alloc _
 have hr1 : R.Rd (w.heap.size <= ·) ((w.alloc (Obj.cells D.zero9.toArray 34)).alloc (.cells (madeCells #[.int .u8 0] 64) 5)) b st := hr.below E1
 have ho1 : ((w.alloc (Obj.cells D.zero9.toArray 34)).alloc (.cells (madeCells #[.int .u8 0] 64) 5)).rowIs (w.heap.size + 1) 5 64 (front [] 0) := by
  have := World.rowIs_made (w.alloc (Obj.cells D.zero9.toArray 34)) (.int .u8 0) 64 5
  rw [D.size_alloc'] at this
  exact this.congr (fun i hi => rfl)
 have G1 : w.grownBy ((w.alloc (Obj.cells D.zero9.toArray 34)).alloc (.cells (madeCells #[.int .u8 0] 64) 5)) (some b) := K.grown_of E1
 have HW : Hid (∀ W : World, R.Rd (w.heap.size <= ·) W b st -> True) := fun _ _ => trivial
 clear HW h hr E0 E1
 have HO : Hid (∀ (W : World) (x : Nat), D.Bs W (some ⟨x, 0, none⟩) 64 DL -> Calls Tryz.prog 94 #[.slice (some ⟨x, 0, none⟩) 64 64] W fun e w' => e = .returned (.tuple #[.agg (D.decOf DL).cells.toArray, .int .i64 0]) /\ Below W.heap.size W w') := fun W x hW => by
  have := D.of_any _ 64 64 DL W hW
  exact this
 unfold D.Da.val
 generalize (D.decOf DL).cells = DR at *
 unfold D.zero9 at *
 go_enter Tryz.func61, Tryz.ntmps61
 go_wp2_with fail
 generalize (w.alloc (Obj.cells #[.int .u32 0, .int .u32 0, .int .u64 0, .int .u64 0, .int .u64 0, .int .u64 0, .int .u64 0, .int .u64 0, .int .u64 0] 34)).alloc (.cells (madeCells #[.int .u8 0] 64) 5) = w1 at *
 generalize hN : w.heap.size = N at *
 clear hmk hf0
 go_loopw [10] (fun i wr => ∃ n : Nat, n <= 64 /\ i = .int .i64 n /\ R.Rd (N <= ·) wr b (byteR st n).2 /\ wr.rowIs (N + 1) 5 64 (front (byteR st n).1 n) /\ Blk wr N 34 D.zero9 /\ w.grownBy wr (some b)) (fun i _ => 64 - (intOf i).toNat)
 case atStart => exact ⟨0, Nat.zero_le _, rfl, hr1, ho1, hf1.out, G1⟩
 case round =>
  obtain ⟨n, hn, rfl, h2, o2, B2, G2⟩ := hrel
  clear hr1 ho1 hf1 G1
  have G2' : Hid (w.grownBy wr (some b)) := G2
  have B2' : Hid (Blk wr N 34 D.zero9) := B2
  have O2 : Hid (wr.rowIs (N + 1) 5 64 (front (byteR st n).1 n)) := o2
  have RY : Hid (D.Byt (byteR st (n + 1)).1) := HY.out (n + 1)
  have R1 : Hid ((byteR st (n + 1)).1 = (byteR st n).1 ++ [(numR (byteR st n).2 1).1]) := rfl
  have R2 : Hid ((byteR st (n + 1)).2 = (numR (byteR st n).2 1).2) := rfl
  have HLn : Hid ((byteR st n).1.length = n) := HL.out n
  clear G2 B2 o2
  by_cases hlt2 : n < 64
  ·have hz : 0 <= (numR (byteR st n).2 1).1 /\ (numR (byteR st n).2 1).1 <= 255 := RY.out _ (by rw [R1.out]; exact List.mem_append_right _ List.mem_cons_self)
   have HR : Hid (∀ W : World, R.Rd (N <= ·) W b (byteR st n).2 -> Calls Tryz.prog 59 #[.pointer (some ⟨b, 0, none⟩), .int .i64 1] W fun e w' => e = .returned (.int .u64 (numR (byteR st n).2 1).1) /\ R.Rd (N <= ·) w' b (numR (byteR st n).2 1).2 /\ W.grownBy w' (some b)) := fun W hW => R.rnum_any _ W b (byteR st n).2 1 hW
   have H2 : Hid (R.Rd (N <= ·) wr b (byteR st n).2) := h2
   clear h2 RY
   generalize (byteR st n).1 = l at *
   generalize (numR (byteR st n).2 1).1 = z at *
   generalize (numR (byteR st n).2 1).2 = st' at *
   generalize (byteR st n).2 = sn at *
   obtain ⟨z0, z1⟩ := hz
   have hz8 : IntKind.u8.wrap z = z := by rw [IntKind.wrap_u8]; omega
   clear z0 z1 hn
   go_wp2_with fail
   refine (HR.out _ H2.out).mono ?_
   rintro e w3 ⟨rfl, h3, g3⟩
   have o3 : w3.rowIs (N + 1) 5 64 (front l n) := rowIs_kept O2.out (g3.block _ (by obtain ⟨c, hc, _⟩ := O2.out; exact lt_of_block hc) (fun e => by cases e; omega))
   have O3 : Hid (w3.rowIs (N + 1) 5 64 (front l n)) := o3
   have B3 : Hid (Blk w3 N 34 D.zero9) := by
    unfold Hid D.Blk
    rw [g3.block N B2'.out.lt (fun e => by cases e; omega)]
    exact B2'.out
   have G3 : Hid (w.grownBy w3 (some b)) := K.grown_trans G2'.out g3
   have cz := o3.cell hlt2
   have cf := o3.frozen n
   have S3 : Hid (N + 1 < w3.heap.size) := by obtain ⟨c, hc, _⟩ := o3; exact lt_of_block hc
   clear o3 g3 H2 O2 B2' G2' HR
   go_wp2
   go_roundw
   case rel =>
    refine ⟨n + 1, by omega, by go_num, ?_, ?_, ?_, ?_⟩
    ·rw [R2.out]
     exact h3.grown (row := some (N + 1)) (K.grown_set _ _ _ _) (fun e => by cases e; omega) (fun g C f hC hy e => by cases e; exact hy (Nat.le_succ _))
    ·rw [R1.out]
     have := O3.out.set n (.int .u8 z)
     refine this.congr fun i _ => ?_
     have e := front_step l z i
     rw [HLn.out] at e
     exact e
    ·exact B3.out.other _ _ (by show N ≠ N + 1; omega)
    ·exact ⟨G3.out.os, G3.out.tape, G3.out.output, by have := G3.out.size; simpa [World.setCell] using this, fun k hk hr => by
      rw [Below.heap_setCell _ _ _ _ (by show k ≠ N + 1; omega)]
      exact G3.out.block k hk hr⟩
   case measure => simp [intOf]; omega
  ·have e64 := E64.out n (by omega)
   rw [e64] at O2 h2
   obtain rfl : n = 64 := by omega
   have s4 : D.Bs wr (some ⟨N + 1, 0, none⟩) 64 DL := front_bs L64.out Y64.out O2.out
   have h4 : Hid (R.Rd (N <= ·) wr b s64) := h2
   clear h2 O2 RY R1 R2 e64 E64 HLn HY HL
   have N1 : Hid (∀ W : World, Blk (W.alloc (Obj.cells D.zero9.toArray 34)) W.heap.size 34 D.zero9) := fun W => D.blk_new W _ 34
   unfold D.zero9 at *
   go_wp2_with (first | (go_at_call 94; refine (HO.out _ _ s4).mono ?_; rintro e w5 ⟨rfl, b5⟩; have Z5 := N1.out w5; have F5 : Hid (Blk (w5.alloc (Obj.cells #[.int .u32 0, .int .u32 0, .int .u64 0, .int .u64 0, .int .u64 0, .int .u64 0, .int .u64 0, .int .u64 0, .int .u64 0] 34)) N 34 _) := (B2'.out.over b5).alloc _; have S5 : Hid (N < w5.heap.size) := (B2'.out.over b5).lt) | (refine wpList_store_row rfl 34 (.tmp 5) (.tmp 23) rfl w5.heap.size DR.toArray rfl rfl 34 _ Z5 HZ.out HS.out H1.out ?_) | (refine wpList_load_row rfl 34 (.tmp 5) rfl w5.heap.size rfl 34 DR.toArray (0, 0) _ (Z5.row DR.toArray) Tryz.underlying34 rfl HZ.out ?_) | (refine wpList_store_row rfl 34 (.tmp 2) (.tmp 25) rfl N DR.toArray rfl rfl 34 _ (F5.out.row_other _ _ (Nat.ne_of_lt S5.out)) HZ.out HS.out H1.out ?_))
   have h5 : R.Rd (N <= ·) w5 b s64 := h4.out.below b5
   have h6 := h5.below ((Below.refl _ _).alloc (o := Obj.cells #[.int .u32 0, .int .u32 0, .int .u64 0, .int .u64 0, .int .u64 0, .int .u64 0, .int .u64 0, .int .u64 0, .int .u64 0] 34) (Nat.le_refl _))
   have h7 := h6.grown (grown_row _ w5.heap.size DR.toArray) (fun e => by cases e; exact absurd h5.lt (Nat.lt_irrefl _)) (fun g C f _ hy e => by cases e; exact hy (Nat.le_of_lt S5.out))
   have h8 := h7.grown (grown_row _ N DR.toArray) (fun e => by cases e; exact absurd hlt (Nat.lt_irrefl _)) (fun g C f _ hy e => by cases e; exact hy (Nat.le_refl _))
   refine bodyPost_ret (v := .agg DR.toArray) ?_ rfl ⟨rfl, h8.rd, ?_⟩
   ·exact results_cell_row Tryz.results61 _ _ N 34 DR.toArray (0, 0) _ rfl (Blk.row (F5.out.row_other _ _ (Nat.ne_of_lt S5.out)) _) Tryz.underlying34 rfl HZ.out
   ·have g6 := K.grown_trans G2'.out (K.grown_of (row := some b) (b5.trans ((Below.refl _ _).alloc (o := Obj.cells #[.int .u32 0, .int .u32 0, .int .u64 0, .int .u64 0, .int .u64 0, .int .u64 0, .int .u64 0, .int .u64 0, .int .u64 0] 34) b5.size)))
    exact kept_row (kept_row g6 w5.heap.size (by rw [hN]; exact Nat.le_of_lt S5.out) _) N (Nat.le_of_eq hN) _
open K (Two Bs cellsB layW numW textW bytesOf grow_refl digs pow256 own_apart)
structure WY (Y : Nat -> Prop) (w : World) (b : Nat) (st : List Int × Int) : Prop where
 ex : ∃ s, Two w b 75 s (.int .i64 st.2) /\ w.ownsRow 0 5 1 s st.1.length (cellsB st.1) /\ ∀ k, s.ownBlock = some k -> ¬ Y k
 nb : ¬ Y b
 lt : ∀ k, Y k -> k < w.heap.size
 bd : ∀ z ∈ st.1, 0 <= z /\ z <= 255
 no : st.2 ≠ 0 -> st.1 = []
structure FY (Y : Nat -> Prop) (w w' : World) : Prop where
 os : w'.os = w.os
 tape : w'.tape = w.tape
 output : w'.output = w.output
 size : w.heap.size <= w'.heap.size
 block : ∀ k, Y k -> w'.heap[k]? = w.heap[k]?
theorem FY.refl (Y : Nat -> Prop) (w : World) : FY Y w w := ⟨rfl, rfl, rfl, Nat.le_refl _, fun _ _ => rfl⟩
theorem FY.trans {Y : Nat -> Prop} {u v w : World} (h : FY Y u v) (k : FY Y v w) : FY Y u w :=
 ⟨k.os.trans h.os, k.tape.trans h.tape, k.output.trans h.output, Nat.le_trans h.size k.size, fun i hi => (k.block i hi).trans (h.block i hi)⟩
theorem fy_below {Y : Nat -> Prop} {w w' : World} (hY : ∀ k, Y k -> k < w.heap.size) (h : Below w.heap.size w w') : FY Y w w' := ⟨h.os, h.tape, h.output, h.size, fun k hk => h.block k (hY k hk)⟩
theorem FY.below {Y : Nat -> Prop} {w w' : World} {B : Nat} (h : FY Y w w') (hY : ∀ k, k < B -> Y k) : Below B w w' := ⟨h.os, h.tape, h.output, h.size, fun k hk => h.block k (hY k hk)⟩
theorem FY.mono {Y Z : Nat -> Prop} {w w' : World} (h : FY Y w w') (hZ : ∀ k, Z k -> Y k) : FY Z w w' := ⟨h.os, h.tape, h.output, h.size, fun k hk => h.block k (hZ k hk)⟩
theorem fy_grown {Y : Nat -> Prop} {w w' : World} {r : Option Nat} (h : w.grownBy w' r) (hY : ∀ k, Y k -> k < w.heap.size /\ r ≠ some k) : FY Y w w' :=
 ⟨h.os, h.tape, h.output, h.size, fun k hk => h.block k (hY k hk).1 fun e => (hY k hk).2 e.symm⟩
theorem fy_set {Y : Nat -> Prop} (w : World) (b i : Nat) (v : Value) (hb : ¬ Y b) : FY Y w (w.setCell ⟨b, i, none⟩ v) :=
 ⟨rfl, rfl, rfl, by simp [World.setCell], fun k hk => Below.heap_setCell _ _ _ _ (fun e => hb (by rw [<- show k = b from e]; exact hk))⟩
theorem WY.mono {Y Z : Nat -> Prop} {w : World} {b : Nat} {st : List Int × Int} (h : WY Y w b st) (hZ : ∀ k, Z k -> Y k) : WY Z w b st := by
 obtain ⟨s, h1, h2, h3⟩ := h.ex
 exact ⟨⟨s, h1, h2, fun k hk hz => h3 k hk (hZ k hz)⟩, fun hz => h.nb (hZ _ hz), fun k hk => h.lt k (hZ k hk), h.bd, h.no⟩
theorem WY.blt {Y : Nat -> Prop} {w : World} {b : Nat} {st : List Int × Int} (h : WY Y w b st) : b < w.heap.size := by
 obtain ⟨s, h1, _⟩ := h.ex
 exact h1.lt
theorem WY.below {Y Z : Nat -> Prop} {w w' : World} {b : Nat} {st : List Int × Int} (h : WY Y w b st) (hb : Below w.heap.size w w') (hZ : ∀ k, Z k -> Y k \/ (w.heap.size <= k /\ k < w'.heap.size)) : WY Z w' b st := by
 obtain ⟨s, h1, h2, h3⟩ := h.ex
 have lt := h.blt
 have hsz := hb.size
 refine ⟨⟨s, h1.below hb lt, ?_, fun k hk hz => ?_⟩, fun hz => ?_, fun k hk => ?_, h.bd, h.no⟩
 ·refine ⟨h2.1, ?_⟩
  rcases h2.2 with hn | ⟨g, cap, cur, hv, hg, hh, r⟩
  ·exact .inl hn
  ·exact .inr ⟨g, cap, cur, hv, hg, by rw [hb.block g (lt_of_block hh)]; exact hh, r⟩
 ·have hlt : k < w.heap.size := by
   rcases h2.2 with ⟨rfl, _⟩ | ⟨g, cap, cur, rfl, hg, hh, r⟩
   ·cases hk
   ·cases hk; exact lt_of_block hh
  rcases hZ k hz with h' | h'
  ·exact h3 k hk h'
  ·omega
 ·rcases hZ b hz with h' | h'
  ·exact h.nb h'
  ·omega
 ·rcases hZ k hk with h' | h'
  ·have := h.lt k h'; omega
  ·exact h'.2
theorem WY.wr {Y : Nat -> Prop} {w : World} {b : Nat} {st : List Int × Int} (h : WY Y w b st) : K.Wr 0 w b st := by
 obtain ⟨s, h1, h2, _⟩ := h.ex
 exact ⟨⟨s, h1, h2⟩, Nat.zero_le _, h.bd, h.no⟩
theorem append_at {w : World} {ops : Array Oper} {rest : List Oper} {o : Oper} {a : Act} {Q : Exit -> Act -> World -> Prop} (hgd : o.guard = none) (s x : Operand)
  (ho : o.op = .call { callee := .builtin .append, args := #[s, x], argTypes := #[37, 37] })
  (base : Nat) (v : Value) (n : Nat) (l : List Int) (hs : a.eval s = v) (hown : w.ownsRow base 5 1 v n (cellsB l))
  (ao : Option Addr) (m c : Nat) (k : List Int) (hx : a.eval x = .slice ao m c) (hao : ao = none -> c = 0) (hb : Bs w ao m k)
  (hn : n + m <= 1000000000) (hbase : base <= w.heap.size)
  (h : ∀ v' w', w'.ownsRow base 5 1 v' (n + m) (cellsB (l ++ k)) -> w.grownBy w' v.ownBlock -> (v'.ownBlock = v.ownBlock \/ v'.ownBlock = some w.heap.size) -> wpList Tryz.prog ops Q rest (a.put o.dst v') w') : wpList Tryz.prog ops Q (o :: rest) a w := by
 obtain ⟨i0, hi, hz0, hz1, hz2⟩ := info_parts K.Tryz.info5
 cases ao with
 | none =>
  obtain ⟨rfl, rfl⟩ := hb.nil
  obtain rfl := hao rfl
  refine wpList_append_own_none hgd s x 37 ho base 5 i0 1 Tryz.underlying37 hi v n (cellsB l) hs hown hx ?_
  exact h v w (by simpa using hown) (grow_refl _ _) (.inl rfl)
 | some ad =>
  obtain ⟨v', w', hr, h1, h2, _, h4⟩ := run_append_own_at (P := Tryz.prog) (w := w) base 37 o.type 5 i0 (.int .u8 0) 1 1 Tryz.underlying37 hi hz0 hz1 hz2 rfl (by decide) v n (cellsB l) hown ad m c (cellsB k) (by simp [cellsB, hb.1]) hb.news (by intro u hu; simp [cellsB] at hu; obtain ⟨z, _, rfl⟩ := hu; rfl) (by unfold maxLen; omega) (by omega) hbase
  refine wpList_plain hgd fun G hG => ?_
  unfold Oper.wp execOp
  simp only [ho, resolve, invoke, builtin, Sem.run_bind, Sem.run_pure, Result.andThen_ok, List.map_toArray, List.map_cons, List.map_nil, hs, hx, hr]
  exact hG _ _ (h v' w' (by rw [K.cellsB_app]; exact h1) h2 h4)
theorem wfail_y (Y : Nat -> Prop) (w : World) (b : Nat) (st : List Int × Int) (c : Int) (h : WY Y w b st) :
  Calls Tryz.prog 86 #[.pointer (some ⟨b, 0, none⟩), .int .i64 c] w fun e w' => e = .returned (.tuple #[]) /\ WY Y w' b (failW st c) /\ FY Y w w' := by
 have H := h
 obtain ⟨s, h2, ho, hy⟩ := h.ex
 have c0 := h2.c0
 have c1 := h2.c1
 have f0 := h2.f 0
 have f1 := h2.f 1
 have HN : Hid (¬ Y b) := h.nb
 have HL : Hid (∀ k, Y k -> k < w.heap.size) := h.lt
 obtain ⟨l, e⟩ := st
 simp only at c1
 by_cases he : e = 0
 ·subst he
  clear h H ho hy
  go_enter Tryz.func86, Tryz.ntmps86
  go_wp2
  go_end0
  refine ⟨rfl, ⟨⟨_, (h2.set1 (x := .int .i64 c)).set0 (x := .slice none 0 0), ⟨rfl, .inl ⟨rfl, rfl⟩⟩, fun k hk => by cases hk⟩, HN.out, fun k hk => by have := HL.out k hk; simpa [World.setCell] using this, by simp [failW], fun _ => rfl⟩, (fy_set _ _ _ _ HN.out).trans (fy_set _ _ _ _ HN.out)⟩
 ·have hf : failW (l, e) c = (l, e) := by unfold failW; rw [if_neg he]
  rw [hf]
  clear h ho hy
  go_enter Tryz.func86, Tryz.ntmps86
  go_wp2
  go_end0
  exact ⟨rfl, H, FY.refl _ _⟩
theorem wlay_y (Y : Nat -> Prop) (w : World) (b : Nat) (st : List Int × Int) (a : Option Addr) (m cap : Nat) (k : List Int) (h : WY Y w b st) (hao : a = none -> cap = 0) (hk : Bs w a m k) (hn : st.1.length + m <= 1000000000) :
  Calls Tryz.prog 88 #[.pointer (some ⟨b, 0, none⟩), .slice a m cap] w fun e w' => e = .returned (.tuple #[]) /\ WY Y w' b (layW st k) /\ FY Y w w' := by
 have H := h
 obtain ⟨s, h2, ho, hy⟩ := h.ex
 have hap := own_apart (by decide) ho h2
 have hlt := h2.lt
 have hbd := h.bd
 have c0 := h2.c0
 have c1 := h2.c1
 have HN : Hid (¬ Y b) := h.nb
 have HL : Hid (∀ k, Y k -> k < w.heap.size) := h.lt
 have HY : Hid (∀ k, s.ownBlock = some k -> ¬ Y k) := hy
 obtain ⟨l, e⟩ := st
 simp only at c1 hn ho hbd
 by_cases he : e = 0
 ·subst he
  have AO : Hid (a = none -> cap = 0) := hao
  have AP : Hid (s.ownBlock ≠ some b) := hap
  have BD : Hid (∀ z ∈ l ++ k, 0 <= z /\ z <= 255) := by
   intro z hz
   rcases List.mem_append.1 hz with hz | hz
   ·exact hbd z hz
   ·exact hk.2.1 z hz
  clear h H hao hap hbd hy
  go_enter Tryz.func88, Tryz.ntmps88
  go_wp2_with (at_builtin; refine append_at rfl (.tmp 13) (.tmp 14) rfl 0 _ l.length l rfl ho a m cap k rfl AO.out hk hn (Nat.zero_le _) ?_; intro v1 x1 ho1 hg1 hw1; have h3 := h2.grown hg1 AP.out; have f0 := h3.f 0; have d0 := h3.c0; obtain ⟨a1, k1, rfl, _⟩ := K.owns_bs ho1 BD.out)
  go_end0
  have hs1 : x1.heap.size = (x1.setCell ⟨b, 0, none⟩ (.slice a1 (l.length + m) k1)).heap.size := by simp [World.setCell]
  have hgs := hg1.size
  refine ⟨rfl, ⟨⟨_, h3.set0, ?_, fun j hj hyj => ?_⟩, HN.out, fun j hj => by have := HL.out j hj; omega, BD.out, fun h => absurd rfl h⟩, (fy_grown hg1 fun j hj => ⟨HL.out j hj, fun e => HY.out j e hj⟩).trans (fy_set _ _ _ _ HN.out)⟩
  ·have := ownsRow_setCell_other ho1 (a := ⟨b, 0, none⟩) (own_apart (by decide) ho1 h3) (.slice a1 (l.length + m) k1)
   show World.ownsRow _ 0 5 1 (.slice a1 (l.length + m) k1) (l ++ k).length (cellsB (l ++ k))
   rw [List.length_append, hk.1]
   exact this
  ·rcases hw1 with hw1 | hw1
   ·exact HY.out j (hw1.symm.trans hj) hyj
   ·rw [hj] at hw1
    cases hw1
    exact absurd (HL.out _ hyj) (Nat.lt_irrefl _)
 ·have hf : layW (l, e) k = (l, e) := by unfold layW; rw [if_neg he]
  rw [hf]
  clear h ho hy
  go_enter Tryz.func88, Tryz.ntmps88
  go_wp2
  go_end0
  exact ⟨rfl, H, FY.refl _ _⟩
theorem WY.same {Y : Nat -> Prop} {w w' : World} {b : Nat} {st : List Int × Int} (h : WY Y w b st) (hb : Below w.heap.size w w') : WY Y w' b st := h.below hb fun _ hk => .inl hk
theorem wnum_y (Y : Nat -> Prop) (w : World) (b : Nat) (st : List Int × Int) (n size : Int) (h : WY Y w b st) (n0 : 0 <= n) (n1 : n <= 18446744073709551615) (hn : st.1.length <= 900000000) :
  Calls Tryz.prog 46 #[.pointer (some ⟨b, 0, none⟩), .int .u64 n, .int .i64 size] w fun e w' => e = .returned (.tuple #[]) /\ WY Y w' b (numW st n size) /\ FY Y w w' := by
 by_cases hs : 1 <= size /\ size <= 8
 ·obtain ⟨m, rfl⟩ : ∃ m : Nat, size = (m : Int) := ⟨size.toNat, by omega⟩
  have hd : decide (1 <= (m : Int) /\ (m : Int) <= 8) = true := decide_eq_true hs
  have m1 : 1 <= m := by omega
  have m8 : m <= 8 := by omega
  have HT : Hid ((m : Int).toNat = m) := rfl
  clear hs
  go_enter Tryz.func46, Tryz.ntmps46
  go_wp2_with (go_at_call 85; refine (K.isSize_any _ _).mono ?_; rintro e w' ⟨rfl, rfl⟩; rw [hd])
  refine (K.digits_any n m _ n0 n1 m1 m8).mono ?_
  rintro e w1 ⟨hbel, ⟨hlt, rfl, hrow⟩ | ⟨hge, rfl⟩⟩
  ·have h1 := h.same hbel
   have hbs := K.rowIs_bs hrow
   have hbB := fy_below h.lt hbel
   have HN : Hid (numW st n m = layW st (digs m n)) := by unfold Hid numW; rw [if_pos ⟨by omega, by omega, hlt⟩]; rfl
   clear hlt
   go_wp2_with (go_at_call 88; refine (wlay_y Y _ b st _ m m _ h1 (by simp) hbs (by omega)).mono ?_; rintro e w2 ⟨rfl, h2, hb2⟩)
   go_end0
   exact ⟨rfl, by rw [HN.out]; exact h2, hbB.trans hb2⟩
  ·have h1 := h.same hbel
   have hbB := fy_below h.lt hbel
   have HN : Hid (numW st n m = failW st 1) := by unfold Hid numW; rw [if_neg (fun hx => by have := hx.2.2; rw [HT.out] at this; omega)]
   clear hge
   go_wp2_with (go_at_call 86; refine (wfail_y Y _ b st 1 h1).mono ?_; rintro e w2 ⟨rfl, h2, hb2⟩)
   (try simp only [Exit.inBlock, Exit.then]); refine bodyPost_ret (results_none rfl _ _ _) rfl ?_
   exact ⟨rfl, by rw [HN.out]; exact h2, hbB.trans hb2⟩
 ·have hd : decide (1 <= size /\ size <= 8) = false := decide_eq_false hs
  have HN : Hid (numW st n size = failW st 1) := by unfold Hid numW; rw [if_neg (fun hx => hs ⟨hx.1, hx.2.1⟩)]
  clear hs
  go_enter Tryz.func46, Tryz.ntmps46
  go_wp2_with (first | (go_at_call 85; refine (K.isSize_any _ _).mono ?_; rintro e w' ⟨rfl, rfl⟩; rw [hd]) | (go_at_call 86; refine (wfail_y Y _ b st 1 h).mono ?_; rintro e w2 ⟨rfl, h2, hb2⟩))
  (try simp only [Exit.inBlock, Exit.then]); refine bodyPost_ret (results_none rfl _ _ _) rfl ?_
  exact ⟨rfl, by rw [HN.out]; exact h2, hb2⟩
theorem wtext_y (Y : Nat -> Prop) (w : World) (b : Nat) (st : List Int × Int) (s : ByteArray) (h : WY Y w b st) (hn : st.1.length <= 800000000) :
  Calls Tryz.prog 48 #[.pointer (some ⟨b, 0, none⟩), .string s] w fun e w' => e = .returned (.tuple #[]) /\ WY Y w' b (textW st s) /\ FY Y w w' := by
 by_cases hl : 65535 < s.size
 ·have HN : Hid (textW st s = failW st 4) := by unfold Hid textW; rw [if_pos hl]
  go_enter Tryz.func48, Tryz.ntmps48
  go_wp2_with (go_at_call 86; refine (wfail_y Y _ b st 4 h).mono ?_; rintro e w2 ⟨rfl, h2, hb2⟩)
  (try simp only [Exit.inBlock, Exit.then]); refine bodyPost_ret (results_none rfl _ _ _) rfl ?_
  exact ⟨rfl, by rw [HN.out]; exact h2, hb2⟩
 ·have HN : Hid (textW st s = layW (numW st s.size 2) (bytesOf s)) := by unfold Hid textW; rw [if_neg hl]
  have HX : Hid (st.1.length <= 800000000) := hn
  obtain ⟨m, hm⟩ : ∃ m, s.size = m := ⟨_, rfl⟩
  rw [hm] at HN hl
  have hl2 : m <= 65535 := by omega
  clear hl hn
  go_enter Tryz.func48, Tryz.ntmps48
  go_wp2_with fail
  refine (wnum_y Y _ b st m 2 h (by omega) (by omega) (Nat.le_trans HX.out (by decide))).mono ?_
  rintro e w2 ⟨rfl, h2, hb2⟩
  obtain ⟨C, cap, f, hcv, hbs, hbc⟩ := K.toBytes w2 s
  rw [hm] at hcv hbs
  go_wp2_with fail
  refine (wlay_y Y _ b _ _ m cap _ (h2.same hbc) (by simp) hbs (by have := K.numW_len st m 2; have := HX.out; omega)).mono ?_
  rintro e w3 ⟨rfl, h3, hb3⟩
  go_wp2
  go_end0
  exact ⟨rfl, by rw [HN.out]; exact h3, (hb2.trans (fy_below h2.lt hbc)).trans hb3⟩
end Go.Proofs.YtmcgcbgblgmmkaaGreatDoor.G
