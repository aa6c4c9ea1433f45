/-
  Whether a message may be, by package msg: proved of every message.
-/
import Derived.Test.YtpdndcmaaghnjaaMsOnlyC
import Derived.Test.YtpdndcmaaghnjaaDOf
import Derived.Deep.RegionHeld3
namespace Go.Proofs.Ytpdndcmaaghnjaa
open Go.RowKit
open D (Da Blk)

theorem exec_load_mg {o : Oper} {f : Operand → Value} {x : Operand} {g : Nat} {R : List Value} {w : World} (ho : o.op = .load 28 x) (hx : f x = .pointer (some ⟨g, 0, none⟩)) (hB : Blk w g 28 R) (hz : (Try.prog.info? 28).map (·.size) = some R.toArray.size) :
    (execOp f o).run Try.prog w = .ok (.value (.agg R.toArray)) w := by
  unfold execOp
  simp only [ho, hx, Instr.loadAt, Instr.sureAddr, Sem.run_bind, Sem.run_pure, Result.andThen_ok, run_loadVar_row w g 28 28 R.toArray (0, 0) _ hB Try.underlying28 rfl hz]

/-- may it be? -/
def rightB (m : Mg) : Bool := kiQ m.kind && (m.same (onlyM m) && withinB m)

theorem onlyM_ok {m : Mg} (h : m.data.ok) : (onlyM m).data.ok := by
  unfold onlyM
  dsimp only
  split
  · exact h
  · exact D.zero_ok
theorem onlyM_byt {m : Mg} (h : D.Byt m.path) : D.Byt (onlyM m).path := by
  unfold onlyM
  dsimp only
  split
  · exact h
  · exact fun z hz => by cases hz

theorem rightB_iff (m : Mg) : rightB m = true ↔ MgR m := by
  unfold rightB kiQ
  simp only [Bool.and_eq_true, decide_eq_true_eq, Mg.same_iff]
  obtain ⟨k, ep, id, t, v, d, p⟩ := m
  unfold onlyM withinB MgR
  dsimp only
  constructor
  · rintro ⟨⟨h1, h7⟩, hs, hw⟩
    simp only [Mg.mk.injEq, true_and] at hs
    obtain ⟨s1, s2, s3, s4, s5⟩ := hs
    refine ⟨h1, h7, fun e => ?_, fun e => ?_, fun e => ?_, fun e => ?_, fun e => ?_, fun e => ?_⟩
    · rw [if_pos e] at s1; exact s1
    · rw [if_neg e] at s2 s4 s5; exact ⟨s2, s4, s5⟩
    · rw [if_pos e] at hw
      simp only [Bool.and_eq_true, decide_eq_true_eq] at hw
      exact hw
    · rw [if_neg e] at s3; exact s3
    · rw [if_neg (by omega)] at hw
      by_cases e7 : k = 7
      · rw [if_pos e7] at hw
        simp only [Bool.and_eq_true, decide_eq_true_eq] at hw
        omega
      · rw [if_neg e7] at hw
        simp only [Bool.and_eq_true, decide_eq_true_eq] at hw
        exact hw
    · rw [if_neg (by omega), if_pos e] at hw
      simp only [Bool.and_eq_true, decide_eq_true_eq] at hw
      exact hw.2
  · rintro ⟨h1, h7, r1, r2, r3, r4, r5, r6⟩
    refine ⟨⟨h1, h7⟩, ?_, ?_⟩
    · simp only [Mg.mk.injEq, true_and]
      refine ⟨?_, ?_, ?_, ?_, ?_⟩
      · split
        · rename_i e; exact r1 e
        · rfl
      · split
        · rfl
        · rename_i e; exact (r2 e).1
      · split
        · rfl
        · rename_i e; exact r4 e
      · split
        · rfl
        · rename_i e; exact (r2 e).2.1
      · split
        · rfl
        · rename_i e; exact (r2 e).2.2
    · by_cases e2 : k = 2
      · rw [if_pos e2]
        simp only [Bool.and_eq_true, decide_eq_true_eq]
        exact r3 e2
      · rw [if_neg e2]
        by_cases e7 : k = 7
        · rw [if_pos e7]
          simp only [Bool.and_eq_true, decide_eq_true_eq]
          exact ⟨(r5 (.inr (.inr e7))).1, r6 e7⟩
        · rw [if_neg e7]
          simp only [Bool.and_eq_true, decide_eq_true_eq]
          by_cases e4 : k = 4 ∨ k = 5 ∨ k = 7
          · exact r5 e4
          · rw [r4 e4]; exact ⟨by decide, by decide⟩

set_option linter.unusedSimpArgs false in
set_option maxHeartbeats 1600000 in
theorem right_kind (m : Mg) (w : World) (hd : m.data.ok) (_hp : D.Byt m.path) (hk : kiQ m.kind = false) : Calls Try.prog 11 #[m.vl] w fun e w' => e = .returned (.bool false) ∧ Below w.heap.size w w' := by
  have HK : Blk (w.alloc (Obj.cells m.cells.toArray 28)) w.heap.size 28 m.cells ∧ Below w.heap.size w (w.alloc (Obj.cells m.cells.toArray 28)) := ⟨D.blk_new w m.cells.toArray 28, (Below.refl _ _).alloc (Nat.le_refl _) _⟩
  have HZ : Hid ((Try.prog.info? 28).map (·.size) = some m.cells.toArray.size) := m.size hd
  have HC : Hid (m.cells[0]? = some (.int .i64 m.kind)) := m.c0
  have HI : Hid (∀ W : World, Calls Try.prog 20 #[.int .i64 m.kind] W fun e w' => e = .returned (.bool (kiQ m.kind)) ∧ w' = W) := fun W => isKind_any m.kind W
  unfold Mg.vl at *
  generalize m.cells = R at *
  generalize m.kind = k at *
  clear hd
  go_enter Try.func11, Try.ntmps11
  go_wp2_with fail
  generalize w.alloc (Obj.cells R.toArray 28) = W0 at *
  generalize hB1 : w.heap.size = B1 at *
  refine wp_region_held_drew (S := (fun X => Blk X B1 28 R ∧ Below B1 w X)) (by kernel_rfl) (⟨HK.1.drew, HK.2.drew⟩) (fun hHeld => ?_)
  simp only [List.size_toArray, List.length_cons, List.length_nil, Nat.reduceAdd]
  refine wpAnyH_take (i := 0) (v := ?_) rfl (by kernel_rfl) (by kernel_rfl) (by kernel_rfl) (fun _ _ _ h => h) (Or.inl ⟨by rfl, ?_⟩) hHeld ?_
  rotate_left
  · (intro w hSw; (try dsimp only at hSw); go_simp; try with_reducible rfl)
  try simp only [Act.put, List.setIfInBounds_toArray, List.set_cons_zero, List.set_cons_succ, List.getElem_toArray, List.getElem_cons_zero, List.getElem_cons_succ]
  refine wpAnyH_take (i := 1) (v := ?_) rfl (by kernel_rfl) (by kernel_rfl) (by kernel_rfl) (fun _ _ _ h => h) (Or.inl ⟨by rfl, ?_⟩) hHeld ?_
  rotate_left
  · (intro w hSw; (try dsimp only at hSw); have s0 := (hSw.1.cell 0).trans HC.out; go_simp; try with_reducible rfl)
  try simp only [Act.put, List.setIfInBounds_toArray, List.set_cons_zero, List.set_cons_succ, List.getElem_toArray, List.getElem_cons_zero, List.getElem_cons_succ]
  refine wpAnyH_ready (rs := [2]) (by kernel_rfl) (by simp) ?_
  refine AllReadyH.cons rfl (fun K hK => ?_) AllReadyH.nil
  go_simp
  refine (HI.out _).mono ?_
  rintro e w1 ⟨rfl, hw1⟩
  subst hw1
  rw [hk]
  go_wp2_with fail
  refine hK.out _ _ (hHeld) (fun hHeld => ?_)
  clear hK K
  try simp only [Act.put, List.setIfInBounds_toArray, List.set_cons_zero, List.set_cons_succ, List.getElem_toArray, List.getElem_cons_zero, List.getElem_cons_succ]
  refine wpAnyH_take (i := 3) (v := ?_) rfl (by kernel_rfl) (by kernel_rfl) (by kernel_rfl) (fun _ _ _ h => h) (Or.inl ⟨by rfl, ?_⟩) hHeld ?_
  rotate_left
  · (intro w hSw; (try dsimp only at hSw); go_simp; try with_reducible rfl)
  try simp only [Act.put, List.setIfInBounds_toArray, List.set_cons_zero, List.set_cons_succ, List.getElem_toArray, List.getElem_cons_zero, List.getElem_cons_succ]
  refine wpAnyH_take (i := 4) (v := undef) rfl (by kernel_rfl) (by kernel_rfl) (by kernel_rfl) (fun _ _ _ h => h) (Or.inr ⟨by rfl, rfl⟩) hHeld ?_
  try simp only [Act.put, List.setIfInBounds_toArray, List.set_cons_zero, List.set_cons_succ, List.getElem_toArray, List.getElem_cons_zero, List.getElem_cons_succ]
  refine wpAnyH_take (i := 5) (v := undef) rfl (by kernel_rfl) (by kernel_rfl) (by kernel_rfl) (fun _ _ _ h => h) (Or.inr ⟨by rfl, rfl⟩) hHeld ?_
  try simp only [Act.put, List.setIfInBounds_toArray, List.set_cons_zero, List.set_cons_succ, List.getElem_toArray, List.getElem_cons_zero, List.getElem_cons_succ]
  refine wpAnyH_take (i := 6) (v := undef) rfl (by kernel_rfl) (by kernel_rfl) (by kernel_rfl) (fun _ _ _ h => h) (Or.inr ⟨by rfl, rfl⟩) hHeld ?_
  try simp only [Act.put, List.setIfInBounds_toArray, List.set_cons_zero, List.set_cons_succ, List.getElem_toArray, List.getElem_cons_zero, List.getElem_cons_succ]
  refine wpAnyH_take (i := 7) (v := undef) rfl (by kernel_rfl) (by kernel_rfl) (by kernel_rfl) (fun _ _ _ h => h) (Or.inr ⟨by rfl, rfl⟩) hHeld ?_
  try simp only [Act.put, List.setIfInBounds_toArray, List.set_cons_zero, List.set_cons_succ, List.getElem_toArray, List.getElem_cons_zero, List.getElem_cons_succ]
  refine wpAnyH_take (i := 8) (v := ?_) rfl (by kernel_rfl) (by kernel_rfl) (by kernel_rfl) (fun _ _ _ h => h) (Or.inl ⟨by rfl, ?_⟩) hHeld ?_
  rotate_left
  · (intro w hSw; (try dsimp only at hSw); go_simp; try with_reducible rfl)
  try simp only [Act.put, List.setIfInBounds_toArray, List.set_cons_zero, List.set_cons_succ, List.getElem_toArray, List.getElem_cons_zero, List.getElem_cons_succ]
  refine wpAnyH_take (i := 9) (v := ?_) rfl (by kernel_rfl) (by kernel_rfl) (by kernel_rfl) (fun _ _ _ h => h) (Or.inl ⟨by rfl, ?_⟩) hHeld ?_
  rotate_left
  · (intro w hSw; (try dsimp only at hSw); go_simp; try with_reducible rfl)
  try simp only [Act.put, List.setIfInBounds_toArray, List.set_cons_zero, List.set_cons_succ, List.getElem_toArray, List.getElem_cons_zero, List.getElem_cons_succ]
  refine wpAnyH_take (i := 10) (v := undef) rfl (by kernel_rfl) (by kernel_rfl) (by kernel_rfl) (fun _ _ _ h => h) (Or.inr ⟨by rfl, rfl⟩) hHeld ?_
  try simp only [Act.put, List.setIfInBounds_toArray, List.set_cons_zero, List.set_cons_succ, List.getElem_toArray, List.getElem_cons_zero, List.getElem_cons_succ]
  refine wpAnyH_take (i := 11) (v := undef) rfl (by kernel_rfl) (by kernel_rfl) (by kernel_rfl) (fun _ _ _ h => h) (Or.inr ⟨by rfl, rfl⟩) hHeld ?_
  try simp only [Act.put, List.setIfInBounds_toArray, List.set_cons_zero, List.set_cons_succ, List.getElem_toArray, List.getElem_cons_zero, List.getElem_cons_succ]
  refine wpAnyH_take (i := 12) (v := ?_) rfl (by kernel_rfl) (by kernel_rfl) (by kernel_rfl) (fun _ _ _ h => h) (Or.inl ⟨by rfl, ?_⟩) hHeld ?_
  rotate_left
  · (intro w hSw; (try dsimp only at hSw); go_simp; try with_reducible rfl)
  try simp only [Act.put, List.setIfInBounds_toArray, List.set_cons_zero, List.set_cons_succ, List.getElem_toArray, List.getElem_cons_zero, List.getElem_cons_succ]
  refine wpAnyH_take (i := 13) (v := ?_) rfl (by kernel_rfl) (by kernel_rfl) (by kernel_rfl) (fun _ _ _ h => h) (Or.inl ⟨by rfl, ?_⟩) hHeld ?_
  rotate_left
  · (intro w hSw; (try dsimp only at hSw); go_simp; try with_reducible rfl)
  try simp only [Act.put, List.setIfInBounds_toArray, List.set_cons_zero, List.set_cons_succ, List.getElem_toArray, List.getElem_cons_zero, List.getElem_cons_succ]
  refine wpAnyH_done (by kernel_rfl) ?_ _
  go_wp2_with fail
  go_ret
  exact ⟨rfl, by rw [hB1]; exact hHeld.2⟩

set_option linter.unusedSimpArgs false in
set_option maxHeartbeats 1600000 in
theorem right_other (m : Mg) (w : World) (hd : m.data.ok) (_hp : D.Byt m.path) (hk : kiQ m.kind = true) (hs : m.same (onlyM m) = false) : Calls Try.prog 11 #[m.vl] w fun e w' => e = .returned (.bool false) ∧ Below w.heap.size w w' := by
  have HK : Blk (w.alloc (Obj.cells m.cells.toArray 28)) w.heap.size 28 m.cells ∧ Below w.heap.size w (w.alloc (Obj.cells m.cells.toArray 28)) := ⟨D.blk_new w m.cells.toArray 28, (Below.refl _ _).alloc (Nat.le_refl _) _⟩
  have HZ : Hid ((Try.prog.info? 28).map (·.size) = some m.cells.toArray.size) := m.size hd
  have HC : Hid (m.cells[0]? = some (.int .i64 m.kind)) := m.c0
  have HI : Hid (∀ W : World, Calls Try.prog 20 #[.int .i64 m.kind] W fun e w' => e = .returned (.bool (kiQ m.kind)) ∧ w' = W) := fun W => isKind_any m.kind W
  have HO : Hid (∀ W : World, Calls Try.prog 21 #[m.vl] W fun e w' => e = .returned (onlyM m).vl ∧ Below W.heap.size W w') := fun W => only_any m W hd
  have HE : Hid (∀ W : World, (binOp .eql 28 m.vl (onlyM m).vl).run Try.prog W = .ok (.bool (m.same (onlyM m))) W) := fun W => eql_mg m (onlyM m) W hd (onlyM_ok hd) _hp (onlyM_byt _hp)
  have HG : Hid (∀ W : World, ∀ a b, (eqGuard .eql 28 a b m.vl (onlyM m).vl).run Try.prog W = .ok () W) := fun W a b => guard_mg .eql a b m (onlyM m) W (.inl rfl)
  rw [hs] at HE
  unfold Mg.vl at *
  generalize m.cells = R at *
  generalize m.kind = k at *
  clear hd
  go_enter Try.func11, Try.ntmps11
  go_wp2_with fail
  generalize w.alloc (Obj.cells R.toArray 28) = W0 at *
  generalize hB1 : w.heap.size = B1 at *
  refine wp_region_held_drew (S := (fun X => Blk X B1 28 R ∧ Below B1 w X)) (by kernel_rfl) (⟨HK.1.drew, HK.2.drew⟩) (fun hHeld => ?_)
  simp only [List.size_toArray, List.length_cons, List.length_nil, Nat.reduceAdd]
  refine wpAnyH_take (i := 0) (v := ?_) rfl (by kernel_rfl) (by kernel_rfl) (by kernel_rfl) (fun _ _ _ h => h) (Or.inl ⟨by rfl, ?_⟩) hHeld ?_
  rotate_left
  · (intro w hSw; (try dsimp only at hSw); go_simp; try with_reducible rfl)
  try simp only [Act.put, List.setIfInBounds_toArray, List.set_cons_zero, List.set_cons_succ, List.getElem_toArray, List.getElem_cons_zero, List.getElem_cons_succ]
  refine wpAnyH_take (i := 1) (v := ?_) rfl (by kernel_rfl) (by kernel_rfl) (by kernel_rfl) (fun _ _ _ h => h) (Or.inl ⟨by rfl, ?_⟩) hHeld ?_
  rotate_left
  · (intro w hSw; (try dsimp only at hSw); have s0 := (hSw.1.cell 0).trans HC.out; go_simp; try with_reducible rfl)
  try simp only [Act.put, List.setIfInBounds_toArray, List.set_cons_zero, List.set_cons_succ, List.getElem_toArray, List.getElem_cons_zero, List.getElem_cons_succ]
  refine wpAnyH_ready (rs := [2]) (by kernel_rfl) (by simp) ?_
  refine AllReadyH.cons rfl (fun K hK => ?_) AllReadyH.nil
  go_simp
  refine (HI.out _).mono ?_
  rintro e w1 ⟨rfl, hw1⟩
  subst hw1
  rw [hk]
  go_wp2_with fail
  refine hK.out _ _ (hHeld) (fun hHeld => ?_)
  clear hK K
  try simp only [Act.put, List.setIfInBounds_toArray, List.set_cons_zero, List.set_cons_succ, List.getElem_toArray, List.getElem_cons_zero, List.getElem_cons_succ]
  refine wpAnyH_take (i := 3) (v := ?_) rfl (by kernel_rfl) (by kernel_rfl) (by kernel_rfl) (fun _ _ _ h => h) (Or.inl ⟨by rfl, ?_⟩) hHeld ?_
  rotate_left
  · (intro w hSw; (try dsimp only at hSw); go_simp; try with_reducible rfl)
  try simp only [Act.put, List.setIfInBounds_toArray, List.set_cons_zero, List.set_cons_succ, List.getElem_toArray, List.getElem_cons_zero, List.getElem_cons_succ]
  refine wpAnyH_take (i := 4) (v := _) rfl (by kernel_rfl) (by kernel_rfl) (by kernel_rfl) (fun _ _ _ h => h) (Or.inl ⟨by rfl, fun w hSw => exec_load_mg rfl rfl hSw.1 HZ.out⟩) hHeld ?_
  try simp only [Act.put, List.setIfInBounds_toArray, List.set_cons_zero, List.set_cons_succ, List.getElem_toArray, List.getElem_cons_zero, List.getElem_cons_succ]
  refine wpAnyH_take (i := 5) (v := _) rfl (by kernel_rfl) (by kernel_rfl) (by kernel_rfl) (fun _ _ _ h => h) (Or.inl ⟨by rfl, fun w hSw => exec_load_mg rfl rfl hSw.1 HZ.out⟩) hHeld ?_
  try simp only [Act.put, List.setIfInBounds_toArray, List.set_cons_zero, List.set_cons_succ, List.getElem_toArray, List.getElem_cons_zero, List.getElem_cons_succ]
  refine wpAnyH_ready (rs := [6]) (by kernel_rfl) (by simp) ?_
  refine AllReadyH.cons rfl (fun K hK => ?_) AllReadyH.nil
  go_simp
  refine (HO.out _).mono ?_
  rintro e w1 ⟨rfl, b1⟩
  go_wp2_with fail
  refine hK.out _ _ (⟨hHeld.1.over b1, hHeld.2.trans (b1.mono (hB1 ▸ hHeld.2.size))⟩) (fun hHeld => ?_)
  clear hK K
  try simp only [Act.put, List.setIfInBounds_toArray, List.set_cons_zero, List.set_cons_succ, List.getElem_toArray, List.getElem_cons_zero, List.getElem_cons_succ]
  refine wpAnyH_take (i := 7) (v := ?_) rfl (by kernel_rfl) (by kernel_rfl) (by kernel_rfl) (fun _ _ _ h => h) (Or.inl ⟨by rfl, ?_⟩) hHeld ?_
  rotate_left
  · (intro w hSw; (try dsimp only at hSw); have q1 := HE.out; have q2 := HG.out; go_simp; try with_reducible rfl)
  try simp only [Act.put, List.setIfInBounds_toArray, List.set_cons_zero, List.set_cons_succ, List.getElem_toArray, List.getElem_cons_zero, List.getElem_cons_succ]
  refine wpAnyH_take (i := 8) (v := ?_) rfl (by kernel_rfl) (by kernel_rfl) (by kernel_rfl) (fun _ _ _ h => h) (Or.inl ⟨by rfl, ?_⟩) hHeld ?_
  rotate_left
  · (intro w hSw; (try dsimp only at hSw); go_simp; try with_reducible rfl)
  try simp only [Act.put, List.setIfInBounds_toArray, List.set_cons_zero, List.set_cons_succ, List.getElem_toArray, List.getElem_cons_zero, List.getElem_cons_succ]
  refine wpAnyH_take (i := 9) (v := ?_) rfl (by kernel_rfl) (by kernel_rfl) (by kernel_rfl) (fun _ _ _ h => h) (Or.inl ⟨by rfl, ?_⟩) hHeld ?_
  rotate_left
  · (intro w hSw; (try dsimp only at hSw); go_simp; try with_reducible rfl)
  try simp only [Act.put, List.setIfInBounds_toArray, List.set_cons_zero, List.set_cons_succ, List.getElem_toArray, List.getElem_cons_zero, List.getElem_cons_succ]
  refine wpAnyH_take (i := 10) (v := undef) rfl (by kernel_rfl) (by kernel_rfl) (by kernel_rfl) (fun _ _ _ h => h) (Or.inr ⟨by rfl, rfl⟩) hHeld ?_
  try simp only [Act.put, List.setIfInBounds_toArray, List.set_cons_zero, List.set_cons_succ, List.getElem_toArray, List.getElem_cons_zero, List.getElem_cons_succ]
  refine wpAnyH_take (i := 11) (v := undef) rfl (by kernel_rfl) (by kernel_rfl) (by kernel_rfl) (fun _ _ _ h => h) (Or.inr ⟨by rfl, rfl⟩) hHeld ?_
  try simp only [Act.put, List.setIfInBounds_toArray, List.set_cons_zero, List.set_cons_succ, List.getElem_toArray, List.getElem_cons_zero, List.getElem_cons_succ]
  refine wpAnyH_take (i := 12) (v := ?_) rfl (by kernel_rfl) (by kernel_rfl) (by kernel_rfl) (fun _ _ _ h => h) (Or.inl ⟨by rfl, ?_⟩) hHeld ?_
  rotate_left
  · (intro w hSw; (try dsimp only at hSw); go_simp; try with_reducible rfl)
  try simp only [Act.put, List.setIfInBounds_toArray, List.set_cons_zero, List.set_cons_succ, List.getElem_toArray, List.getElem_cons_zero, List.getElem_cons_succ]
  refine wpAnyH_take (i := 13) (v := ?_) rfl (by kernel_rfl) (by kernel_rfl) (by kernel_rfl) (fun _ _ _ h => h) (Or.inl ⟨by rfl, ?_⟩) hHeld ?_
  rotate_left
  · (intro w hSw; (try dsimp only at hSw); go_simp; try with_reducible rfl)
  try simp only [Act.put, List.setIfInBounds_toArray, List.set_cons_zero, List.set_cons_succ, List.getElem_toArray, List.getElem_cons_zero, List.getElem_cons_succ]
  refine wpAnyH_done (by kernel_rfl) ?_ _
  go_wp2_with fail
  go_ret
  exact ⟨rfl, by rw [hB1]; exact hHeld.2⟩

set_option linter.unusedSimpArgs false in
set_option maxHeartbeats 1600000 in
theorem right_all (m : Mg) (w : World) (hd : m.data.ok) (_hp : D.Byt m.path) (hk : kiQ m.kind = true) (hs : m.same (onlyM m) = true) : Calls Try.prog 11 #[m.vl] w fun e w' => e = .returned (.bool (withinB m)) ∧ Below w.heap.size w w' := by
  have HK : Blk (w.alloc (Obj.cells m.cells.toArray 28)) w.heap.size 28 m.cells ∧ Below w.heap.size w (w.alloc (Obj.cells m.cells.toArray 28)) := ⟨D.blk_new w m.cells.toArray 28, (Below.refl _ _).alloc (Nat.le_refl _) _⟩
  have HZ : Hid ((Try.prog.info? 28).map (·.size) = some m.cells.toArray.size) := m.size hd
  have HC : Hid (m.cells[0]? = some (.int .i64 m.kind)) := m.c0
  have HI : Hid (∀ W : World, Calls Try.prog 20 #[.int .i64 m.kind] W fun e w' => e = .returned (.bool (kiQ m.kind)) ∧ w' = W) := fun W => isKind_any m.kind W
  have HO : Hid (∀ W : World, Calls Try.prog 21 #[m.vl] W fun e w' => e = .returned (onlyM m).vl ∧ Below W.heap.size W w') := fun W => only_any m W hd
  have HE : Hid (∀ W : World, (binOp .eql 28 m.vl (onlyM m).vl).run Try.prog W = .ok (.bool (m.same (onlyM m))) W) := fun W => eql_mg m (onlyM m) W hd (onlyM_ok hd) _hp (onlyM_byt _hp)
  have HG : Hid (∀ W : World, ∀ a b, (eqGuard .eql 28 a b m.vl (onlyM m).vl).run Try.prog W = .ok () W) := fun W a b => guard_mg .eql a b m (onlyM m) W (.inl rfl)
  have HW : Hid (∀ W : World, Calls Try.prog 22 #[m.vl] W fun e w' => e = .returned (.bool (withinB m)) ∧ Below W.heap.size W w') := fun W => within_any m W hd
  rw [hs] at HE
  unfold Mg.vl at *
  generalize m.cells = R at *
  generalize m.kind = k at *
  clear hd
  go_enter Try.func11, Try.ntmps11
  go_wp2_with fail
  generalize w.alloc (Obj.cells R.toArray 28) = W0 at *
  generalize hB1 : w.heap.size = B1 at *
  refine wp_region_held_drew (S := (fun X => Blk X B1 28 R ∧ Below B1 w X)) (by kernel_rfl) (⟨HK.1.drew, HK.2.drew⟩) (fun hHeld => ?_)
  simp only [List.size_toArray, List.length_cons, List.length_nil, Nat.reduceAdd]
  refine wpAnyH_take (i := 0) (v := ?_) rfl (by kernel_rfl) (by kernel_rfl) (by kernel_rfl) (fun _ _ _ h => h) (Or.inl ⟨by rfl, ?_⟩) hHeld ?_
  rotate_left
  · (intro w hSw; (try dsimp only at hSw); go_simp; try with_reducible rfl)
  try simp only [Act.put, List.setIfInBounds_toArray, List.set_cons_zero, List.set_cons_succ, List.getElem_toArray, List.getElem_cons_zero, List.getElem_cons_succ]
  refine wpAnyH_take (i := 1) (v := ?_) rfl (by kernel_rfl) (by kernel_rfl) (by kernel_rfl) (fun _ _ _ h => h) (Or.inl ⟨by rfl, ?_⟩) hHeld ?_
  rotate_left
  · (intro w hSw; (try dsimp only at hSw); have s0 := (hSw.1.cell 0).trans HC.out; go_simp; try with_reducible rfl)
  try simp only [Act.put, List.setIfInBounds_toArray, List.set_cons_zero, List.set_cons_succ, List.getElem_toArray, List.getElem_cons_zero, List.getElem_cons_succ]
  refine wpAnyH_ready (rs := [2]) (by kernel_rfl) (by simp) ?_
  refine AllReadyH.cons rfl (fun K hK => ?_) AllReadyH.nil
  go_simp
  refine (HI.out _).mono ?_
  rintro e w1 ⟨rfl, hw1⟩
  subst hw1
  rw [hk]
  go_wp2_with fail
  refine hK.out _ _ (hHeld) (fun hHeld => ?_)
  clear hK K
  try simp only [Act.put, List.setIfInBounds_toArray, List.set_cons_zero, List.set_cons_succ, List.getElem_toArray, List.getElem_cons_zero, List.getElem_cons_succ]
  refine wpAnyH_take (i := 3) (v := ?_) rfl (by kernel_rfl) (by kernel_rfl) (by kernel_rfl) (fun _ _ _ h => h) (Or.inl ⟨by rfl, ?_⟩) hHeld ?_
  rotate_left
  · (intro w hSw; (try dsimp only at hSw); go_simp; try with_reducible rfl)
  try simp only [Act.put, List.setIfInBounds_toArray, List.set_cons_zero, List.set_cons_succ, List.getElem_toArray, List.getElem_cons_zero, List.getElem_cons_succ]
  refine wpAnyH_take (i := 4) (v := _) rfl (by kernel_rfl) (by kernel_rfl) (by kernel_rfl) (fun _ _ _ h => h) (Or.inl ⟨by rfl, fun w hSw => exec_load_mg rfl rfl hSw.1 HZ.out⟩) hHeld ?_
  try simp only [Act.put, List.setIfInBounds_toArray, List.set_cons_zero, List.set_cons_succ, List.getElem_toArray, List.getElem_cons_zero, List.getElem_cons_succ]
  refine wpAnyH_take (i := 5) (v := _) rfl (by kernel_rfl) (by kernel_rfl) (by kernel_rfl) (fun _ _ _ h => h) (Or.inl ⟨by rfl, fun w hSw => exec_load_mg rfl rfl hSw.1 HZ.out⟩) hHeld ?_
  try simp only [Act.put, List.setIfInBounds_toArray, List.set_cons_zero, List.set_cons_succ, List.getElem_toArray, List.getElem_cons_zero, List.getElem_cons_succ]
  refine wpAnyH_ready (rs := [6]) (by kernel_rfl) (by simp) ?_
  refine AllReadyH.cons rfl (fun K hK => ?_) AllReadyH.nil
  go_simp
  refine (HO.out _).mono ?_
  rintro e w1 ⟨rfl, b1⟩
  go_wp2_with fail
  refine hK.out _ _ (⟨hHeld.1.over b1, hHeld.2.trans (b1.mono (hB1 ▸ hHeld.2.size))⟩) (fun hHeld => ?_)
  clear hK K
  try simp only [Act.put, List.setIfInBounds_toArray, List.set_cons_zero, List.set_cons_succ, List.getElem_toArray, List.getElem_cons_zero, List.getElem_cons_succ]
  refine wpAnyH_take (i := 7) (v := ?_) rfl (by kernel_rfl) (by kernel_rfl) (by kernel_rfl) (fun _ _ _ h => h) (Or.inl ⟨by rfl, ?_⟩) hHeld ?_
  rotate_left
  · (intro w hSw; (try dsimp only at hSw); have q1 := HE.out; have q2 := HG.out; go_simp; try with_reducible rfl)
  try simp only [Act.put, List.setIfInBounds_toArray, List.set_cons_zero, List.set_cons_succ, List.getElem_toArray, List.getElem_cons_zero, List.getElem_cons_succ]
  refine wpAnyH_take (i := 8) (v := ?_) rfl (by kernel_rfl) (by kernel_rfl) (by kernel_rfl) (fun _ _ _ h => h) (Or.inl ⟨by rfl, ?_⟩) hHeld ?_
  rotate_left
  · (intro w hSw; (try dsimp only at hSw); go_simp; try with_reducible rfl)
  try simp only [Act.put, List.setIfInBounds_toArray, List.set_cons_zero, List.set_cons_succ, List.getElem_toArray, List.getElem_cons_zero, List.getElem_cons_succ]
  refine wpAnyH_take (i := 9) (v := ?_) rfl (by kernel_rfl) (by kernel_rfl) (by kernel_rfl) (fun _ _ _ h => h) (Or.inl ⟨by rfl, ?_⟩) hHeld ?_
  rotate_left
  · (intro w hSw; (try dsimp only at hSw); go_simp; try with_reducible rfl)
  try simp only [Act.put, List.setIfInBounds_toArray, List.set_cons_zero, List.set_cons_succ, List.getElem_toArray, List.getElem_cons_zero, List.getElem_cons_succ]
  refine wpAnyH_take (i := 10) (v := _) rfl (by kernel_rfl) (by kernel_rfl) (by kernel_rfl) (fun _ _ _ h => h) (Or.inl ⟨by rfl, fun w hSw => exec_load_mg rfl rfl hSw.1 HZ.out⟩) hHeld ?_
  try simp only [Act.put, List.setIfInBounds_toArray, List.set_cons_zero, List.set_cons_succ, List.getElem_toArray, List.getElem_cons_zero, List.getElem_cons_succ]
  refine wpAnyH_ready (rs := [11]) (by kernel_rfl) (by simp) ?_
  refine AllReadyH.cons rfl (fun K hK => ?_) AllReadyH.nil
  go_simp
  refine (HW.out _).mono ?_
  rintro e w2 ⟨rfl, b2⟩
  go_wp2_with fail
  refine hK.out _ _ (⟨hHeld.1.over b2, hHeld.2.trans (b2.mono (hB1 ▸ hHeld.2.size))⟩) (fun hHeld => ?_)
  clear hK K
  try simp only [Act.put, List.setIfInBounds_toArray, List.set_cons_zero, List.set_cons_succ, List.getElem_toArray, List.getElem_cons_zero, List.getElem_cons_succ]
  refine wpAnyH_take (i := 12) (v := ?_) rfl (by kernel_rfl) (by kernel_rfl) (by kernel_rfl) (fun _ _ _ h => h) (Or.inl ⟨by rfl, ?_⟩) hHeld ?_
  rotate_left
  · (intro w hSw; (try dsimp only at hSw); go_simp; try with_reducible rfl)
  try simp only [Act.put, List.setIfInBounds_toArray, List.set_cons_zero, List.set_cons_succ, List.getElem_toArray, List.getElem_cons_zero, List.getElem_cons_succ]
  refine wpAnyH_take (i := 13) (v := ?_) rfl (by kernel_rfl) (by kernel_rfl) (by kernel_rfl) (fun _ _ _ h => h) (Or.inl ⟨by rfl, ?_⟩) hHeld ?_
  rotate_left
  · (intro w hSw; (try dsimp only at hSw); go_simp; try with_reducible rfl)
  try simp only [Act.put, List.setIfInBounds_toArray, List.set_cons_zero, List.set_cons_succ, List.getElem_toArray, List.getElem_cons_zero, List.getElem_cons_succ]
  refine wpAnyH_done (by kernel_rfl) ?_ _
  go_wp2_with fail
  go_ret
  exact ⟨rfl, by rw [hB1]; exact hHeld.2⟩

theorem right_any (m : Mg) (w : World) (hd : m.data.ok) (hp : D.Byt m.path) : Calls Try.prog 11 #[m.vl] w fun e w' => e = .returned (.bool (rightB m)) ∧ Below w.heap.size w w' := by
  unfold rightB
  cases hk : kiQ m.kind
  · exact right_kind m w hd hp hk
  · cases hs : m.same (onlyM m)
    · exact right_other m w hd hp hk hs
    · exact right_all m w hd hp hk hs

end Go.Proofs.Ytpdndcmaaghnjaa
