/-
  The document's Take.
-/
import Derived.Test.YtljceoojbppaeaaRfSend
import Derived.Test.YtljceoojbppaeaaRfWhere
namespace Go.Proofs.Ytljceoojbppaeaa
open Go.RowKit D

theorem take_none {s : Lk} {up : Bool} {n : Int} (h : hasN (s.sel up) n = false) : s.take up n = s := by
  unfold Lk.take
  rw [h, if_neg (by decide)]
set_option maxRecDepth 8000 in
set_option maxHeartbeats 8000000 in
theorem refTake_any (B c : Nat) (s : Lk) (up : Bool) (n : Int) (w : World) (h : RfV 35 B w c s) (ho : s.ok) (hB : B ≤ w.heap.size) :
    Calls Try.prog 20 #[.pointer (some ⟨c, 0, none⟩), .bool up, .int .i64 n] w fun e w' => ∃ v, e = .returned (.tuple #[v, .bool (hasN (s.sel up) n)]) ∧ PcT B w' v (s.came up n) ∧ RfV 35 B w' c (s.take up n) ∧ Sk [35, 37] B w w' := by
  cases up with
  | true =>
    obtain ⟨v, x0, r0, hput⟩ := h.selW hB (by decide) (by decide) true
    change w.cell? ⟨c, 0, none⟩ = some v at x0
    obtain ⟨va, vc, rfl, _⟩ := r0.slice
    have HF : Hid (RfV 35 B w c s) := h
    clear hput
    have HH : hasN (s.sel true) n = decide (0 ≤ n ∧ n < ((s.sel true).length : Int)) := rfl
    have hk64 : ((s.sel true).length : Int) ≤ 64 := by have := (Lk.ok_sel ho true).1; omega
    by_cases hq : 0 ≤ n ∧ n < ((s.sel true).length : Int)
    case neg =>
      have HQ : Hid (hasN (s.sel true) n = false) := HH.trans (decide_eq_false hq)
      have HC : Hid (s.came true n = []) := by unfold Hid Lk.came; rw [HQ.out, if_neg (by decide)]
      rw [HQ.out, HC.out, take_none HQ.out]
      clear HH r0 h HQ HC
      generalize (s.sel true).length = k at *
      by_cases hn0 : n < 0
      · have hb0 : decide (n < 0) = true := decide_eq_true hn0
        go_enter Try.func20, Try.ntmps20
        go_wp2_with (go_at_call 31; refine (refRow_true _).mono ?_; rintro e w1 ⟨rfl, hw1⟩; subst w1)
        go_ret2
        exact ⟨_, rfl, ⟨pc_nil _, fun h => absurd h (by decide)⟩, HF.out, Sk.refl _ _ _⟩
      · have hb0 : decide (n < 0) = false := decide_eq_false hn0
        have hn1 : (k : Int) ≤ n := by omega
        have hb1 : decide ((k : Int) ≤ n) = true := decide_eq_true hn1
        go_enter Try.func20, Try.ntmps20
        go_wp2_with (go_at_call 31; refine (refRow_true _).mono ?_; rintro e w1 ⟨rfl, hw1⟩; subst w1)
        go_ret2
        exact ⟨_, rfl, ⟨pc_nil _, fun h => absurd h (by decide)⟩, HF.out, Sk.refl _ _ _⟩
    obtain ⟨n, rfl⟩ : ∃ m : Nat, n = (m : Int) := ⟨n.toNat, by omega⟩
    have hnl : n < (s.sel true).length := by omega
    have HQ : Hid (hasN (s.sel true) n = true) := HH.trans (decide_eq_true hq)
    have HC : Hid (s.came true n = (s.sel true)[n]) := by
      unfold Hid Lk.came
      rw [HQ.out, if_pos rfl, Int.toNat_natCast, List.getD_eq_getElem?_getD, List.getElem?_eq_getElem hnl]
      rfl
    have HE : Hid (s.take true n = s.put true ((s.sel true).eraseIdx n)) := by unfold Hid Lk.take; rw [HQ.out, if_pos rfl, Int.toNat_natCast]
    have hn1 : (n : Int) < ((s.sel true).length : Int) := by omega
    have hn2 : ¬ (n : Int) < 0 := by omega
    have hb0 : decide ((n : Int) < 0) = false := decide_eq_false hn2
    have hn3 : ¬ ((s.sel true).length : Int) ≤ (n : Int) := by omega
    have hb1 : decide (((s.sel true).length : Int) ≤ (n : Int)) = false := decide_eq_false hn3
    obtain ⟨g1, a1, d1, e1, x1, pt1, w01, w02, w03⟩ := r0.at hnl
    have HPt : Hid (PcT B w (.slice a1 (s.sel true)[n].length d1) (s.sel true)[n]) := pt1
    have hva : va = some ⟨g1, 0, none⟩ := e1
    clear w01 w02 w03 pt1 e1
    rw [HQ.out, HC.out]
    have HFd : Hid (RfV 35 B w.drew c s) := h.over hB (Below.refl _ _).drew
    have HBs : Hid (B ≤ w.drew.heap.size) := hB
    have HX0 : Hid (w.drew.cell? ⟨c, 0, none⟩ = some (.slice va (s.sel true).length vc)) := cellK x0 (Below.refl w.heap.size w).drew
    have HNl : Hid (n < (s.sel true).length ∧ (s.sel true).length ≤ 100) := ⟨hnl, by omega⟩
    have HSk0 : Hid (Sk [37, 35] B w w.drew) := sk_below (Below.refl _ _).drew hB
    obtain ⟨vd, xd, rd, hputd⟩ := HFd.out.selW HBs.out (by decide) (by decide) true
    change w.drew.cell? ⟨c, 0, none⟩ = some vd at xd
    have hvd : vd = .slice va (s.sel true).length vc := by
      have h1 := HX0.out
      rw [xd] at h1
      injection h1
    subst hvd
    have HPut : Hid (∀ (w1 : World) (v' : Value) (l : List (List Int)), ApW B w.drew w1 (.slice va (s.sel true).length vc) v' l → w1.cell? ⟨c, 0, none⟩ = some (.slice va (s.sel true).length vc) ∧ w1.frozen? ⟨c, 0, none⟩ = false ∧ RfV 35 B (w1.setCell ⟨c, 0, none⟩ v') c (s.put true l) ∧ Sk [37, 35] B w.drew (w1.setCell ⟨c, 0, none⟩ v')) := hputd
    have HBd : Hid (B ≤ w.drew.heap.size ∧ n < (s.sel true).length ∧ RowS B w.drew (.slice va (s.sel true).length vc) (s.sel true) ∧ (s.sel true).length ≤ 100) := ⟨HBs.out, HNl.out.1, rd, HNl.out.2⟩
    have HSd : Hid (w.drew.cell? ⟨c, 0, none⟩ = some (.slice va (s.sel true).length vc)) := xd
    clear xd rd hputd
    subst hva
    generalize (s.sel true)[n] = f at *
    clear HH hq r0 h HQ HC hnl HFd HX0
    generalize s.take true n = s' at *
    go_enter Try.func20, Try.ntmps20
    go_upto_region 5 with (go_at_call 31; refine (refRow_true _).mono ?_; rintro e w1 ⟨rfl, hw1⟩; subst w1)
    generalize hk : (s.sel true).length = k at *
    have HKk : Hid ((s.sel true).length = k) := hk
    clear hk
    refine wp_region_late (E := [13]) (S := (fun X => X.cell? ⟨c, 0, none⟩ = some (.slice (some ⟨g1, 0, none⟩) k vc))) (by kernel_rfl) (HSd.out) (fun hHeld => ?_)
    simp only [List.size_toArray, List.length_cons, List.length_nil, Nat.reduceAdd]
    refine wpAnyL_take [10, 11, 12, 13] (i := 0) (v := ?_) (by kernel_rfl) (by kernel_rfl) (by kernel_rfl) rfl (by kernel_rfl) (by kernel_rfl) (by kernel_rfl) (fun _ _ _ h => h) (Or.inl ⟨by rfl, ?_⟩) hHeld ?_
    rotate_left
    · (intro w hSw; (try dsimp only at hSw); go_simp; try with_reducible rfl)
    try simp only [Act.put, List.setIfInBounds_toArray, List.set_cons_zero, List.set_cons_succ, List.getElem_toArray, List.getElem_cons_zero]
    refine wpAnyL_take [12, 13] (i := 1) (v := ?_) (by kernel_rfl) (by kernel_rfl) (by kernel_rfl) rfl (by kernel_rfl) (by kernel_rfl) (by kernel_rfl) (fun _ _ _ h => h) (Or.inl ⟨by rfl, ?_⟩) hHeld ?_
    rotate_left
    · (intro w hSw; (try dsimp only at hSw); go_simp; try with_reducible rfl)
    try simp only [Act.put, List.setIfInBounds_toArray, List.set_cons_zero, List.set_cons_succ, List.getElem_toArray, List.getElem_cons_zero, List.getElem_cons_succ]
    refine wpAnyL_take [4, 5, 6, 7, 9, 13] (i := 2) (v := ?_) (by kernel_rfl) (by kernel_rfl) (by kernel_rfl) rfl (by kernel_rfl) (by kernel_rfl) (by kernel_rfl) (fun _ _ _ h => h) (Or.inl ⟨by rfl, ?_⟩) hHeld ?_
    rotate_left
    · (intro w hSw; (try dsimp only at hSw); go_simp; try with_reducible rfl)
    try simp only [Act.put, List.setIfInBounds_toArray, List.set_cons_zero, List.set_cons_succ, List.getElem_toArray, List.getElem_cons_zero, List.getElem_cons_succ]
    refine wpAnyL_take [6, 7, 9, 13] (i := 3) (v := ?_) (by kernel_rfl) (by kernel_rfl) (by kernel_rfl) rfl (by kernel_rfl) (by kernel_rfl) (by kernel_rfl) (fun _ _ _ h => h) (Or.inl ⟨by rfl, ?_⟩) hHeld ?_
    rotate_left
    · (intro w hSw; (try dsimp only at hSw); go_simp; try with_reducible rfl)
    try simp only [Act.put, List.setIfInBounds_toArray, List.set_cons_zero, List.set_cons_succ, List.getElem_toArray, List.getElem_cons_zero, List.getElem_cons_succ]
    refine wpAnyL_take [5, 6, 7, 9, 13] (i := 4) (v := ?_) (by kernel_rfl) (by kernel_rfl) (by kernel_rfl) rfl (by kernel_rfl) (by kernel_rfl) (by kernel_rfl) (fun _ _ _ h => h) (Or.inl ⟨by rfl, ?_⟩) hHeld ?_
    rotate_left
    · (intro w hSw; (try dsimp only at hSw); go_simp; try with_reducible rfl)
    try simp only [Act.put, List.setIfInBounds_toArray, List.set_cons_zero, List.set_cons_succ, List.getElem_toArray, List.getElem_cons_zero, List.getElem_cons_succ]
    refine wpAnyL_take [6, 7, 9, 13] (i := 5) (v := ?_) (by kernel_rfl) (by kernel_rfl) (by kernel_rfl) rfl (by kernel_rfl) (by kernel_rfl) (by kernel_rfl) (fun _ _ _ h => h) (Or.inl ⟨by rfl, ?_⟩) hHeld ?_
    rotate_left
    · (intro w hSw; (try dsimp only at hSw); go_simp; try with_reducible rfl)
    try simp only [Act.put, List.setIfInBounds_toArray, List.set_cons_zero, List.set_cons_succ, List.getElem_toArray, List.getElem_cons_zero, List.getElem_cons_succ]
    refine wpAnyL_take [7, 9, 13] (i := 6) (v := ?_) (by kernel_rfl) (by kernel_rfl) (by kernel_rfl) rfl (by kernel_rfl) (by kernel_rfl) (by kernel_rfl) (fun _ _ _ h => h) (Or.inl ⟨by rfl, ?_⟩) hHeld ?_
    rotate_left
    · (intro w hSw; (try dsimp only at hSw); go_simp; try with_reducible rfl)
    try simp only [Act.put, List.setIfInBounds_toArray, List.set_cons_zero, List.set_cons_succ, List.getElem_toArray, List.getElem_cons_zero, List.getElem_cons_succ]
    refine wpAnyL_take [9, 13] (i := 7) (v := ?_) (by kernel_rfl) (by kernel_rfl) (by kernel_rfl) rfl (by kernel_rfl) (by kernel_rfl) (by kernel_rfl) (fun _ _ _ h => h) (Or.inl ⟨by rfl, ?_⟩) hHeld ?_
    rotate_left
    · (intro w hSw; (try dsimp only at hSw); go_simp; try with_reducible rfl)
    try simp only [Act.put, List.setIfInBounds_toArray, List.set_cons_zero, List.set_cons_succ, List.getElem_toArray, List.getElem_cons_zero, List.getElem_cons_succ]
    refine wpAnyL_take [9, 13] (i := 8) (v := ?_) (by kernel_rfl) (by kernel_rfl) (by kernel_rfl) rfl (by kernel_rfl) (by kernel_rfl) (by kernel_rfl) (fun _ _ _ h => h) (Or.inl ⟨by rfl, ?_⟩) hHeld ?_
    rotate_left
    · (intro w hSw; (try dsimp only at hSw); go_simp; try with_reducible rfl)
    try simp only [Act.put, List.setIfInBounds_toArray, List.set_cons_zero, List.set_cons_succ, List.getElem_toArray, List.getElem_cons_zero, List.getElem_cons_succ]
    refine wpAnyL_take [11, 12, 13] (i := 10) (v := ?_) (by kernel_rfl) (by kernel_rfl) (by kernel_rfl) rfl (by kernel_rfl) (by kernel_rfl) (by kernel_rfl) (fun _ _ _ h => h) (Or.inl ⟨by rfl, ?_⟩) hHeld ?_
    rotate_left
    · (intro w hSw; (try dsimp only at hSw); go_simp; try with_reducible rfl)
    try simp only [Act.put, List.setIfInBounds_toArray, List.set_cons_zero, List.set_cons_succ, List.getElem_toArray, List.getElem_cons_zero, List.getElem_cons_succ]
    refine wpAnyL_take [12, 13] (i := 11) (v := ?_) (by kernel_rfl) (by kernel_rfl) (by kernel_rfl) rfl (by kernel_rfl) (by kernel_rfl) (by kernel_rfl) (fun _ _ _ h => h) (Or.inl ⟨by rfl, ?_⟩) hHeld ?_
    rotate_left
    · (intro w hSw; (try dsimp only at hSw); go_simp; try with_reducible rfl)
    try simp only [Act.put, List.setIfInBounds_toArray, List.set_cons_zero, List.set_cons_succ, List.getElem_toArray, List.getElem_cons_zero, List.getElem_cons_succ]
    refine wpAnyL_one (i := 9) (by kernel_rfl) rfl (fun K hK => ?_)
    go_simp
    go_at_call 32
    refine (cut_any B w.drew _ (s.sel true) n HBd.out.2.2.1 (by rw [HKk.out]; exact HBd.out.2.1) (by rw [HKk.out]; exact HBd.out.2.2.2) HBd.out.1).mono ?_
    rintro e w5 ⟨v5, rfl, r5, n5, b5⟩
    have ha7 : ApW B w.drew w5 (.slice (some ⟨g1, 0, none⟩) k vc) v5 ((s.sel true).eraseIdx n) := apw_new r5 n5 b5
    obtain ⟨q1, q2, q3, q4⟩ := HPut.out w5 v5 _ ha7
    have HQ : Hid (RfV 35 B (w5.setCell ⟨c, 0, none⟩ v5) c (s.put true ((s.sel true).eraseIdx n)) ∧ Sk [37, 35] B w.drew (w5.setCell ⟨c, 0, none⟩ v5) ∧ Below w.drew.heap.size w.drew w5) := ⟨q3, q4, b5⟩
    have s9 : (fun X => X.cell? ⟨c, 0, none⟩ = some (.slice (some ⟨g1, 0, none⟩) k vc)) w5 := q1
    obtain ⟨a5, c5, hv5, _⟩ := r5.slice
    subst hv5
    clear ha7 q1 q3 q4 r5 n5 b5
    refine hK.out _ _ (fun _ => s9) ?_
    replace hHeld := s9
    clear hK K
    try simp only [Act.put, List.setIfInBounds_toArray, List.set_cons_zero, List.set_cons_succ, List.getElem_toArray, List.getElem_cons_zero, List.getElem_cons_succ]
    refine wpAnyL_take [13] (i := 12) (v := ?_) (by kernel_rfl) (by kernel_rfl) (by kernel_rfl) rfl (by kernel_rfl) (by kernel_rfl) (by kernel_rfl) (fun _ _ _ h => h) (Or.inl ⟨by rfl, ?_⟩) hHeld ?_
    rotate_left
    · (intro w hSw; (try dsimp only at hSw); go_simp; try with_reducible rfl)
    try simp only [Act.put, List.setIfInBounds_toArray, List.set_cons_zero, List.set_cons_succ, List.getElem_toArray, List.getElem_cons_zero, List.getElem_cons_succ]
    refine wpAnyL_one (i := 13) (by kernel_rfl) rfl (fun K hK => ?_)
    try dsimp only at hHeld
    go_simp
    refine hK.out _ _ (fun h => by cases h) ?_
    clear hK K
    try simp only [Act.put, List.setIfInBounds_toArray, List.set_cons_zero, List.set_cons_succ, List.getElem_toArray, List.getElem_cons_zero, List.getElem_cons_succ]
    refine wpAnyL_done (by kernel_rfl) ?_ _
    go_wp2
    go_ret2
    have hsk : Sk [37, 35] B w (w5.setCell ⟨c, 0, none⟩ (.slice a5 ((s.sel true).eraseIdx n).length c5)) := HSk0.out.trans HQ.out.2.1
    refine ⟨_, rfl, HPt.out.sk hsk (by simp), ?_, Sk.mono (M := [35, 37]) hsk (by simp)⟩
    rw [HE.out]
    exact HQ.out.1
  | false =>
    obtain ⟨v, x0, r0, hput⟩ := h.selW hB (by decide) (by decide) false
    change w.cell? ⟨c, 1, none⟩ = some v at x0
    obtain ⟨va, vc, rfl, _⟩ := r0.slice
    have HF : Hid (RfV 35 B w c s) := h
    clear hput
    have HH : hasN (s.sel false) n = decide (0 ≤ n ∧ n < ((s.sel false).length : Int)) := rfl
    have hk64 : ((s.sel false).length : Int) ≤ 64 := by have := (Lk.ok_sel ho false).1; omega
    by_cases hq : 0 ≤ n ∧ n < ((s.sel false).length : Int)
    case neg =>
      have HQ : Hid (hasN (s.sel false) n = false) := HH.trans (decide_eq_false hq)
      have HC : Hid (s.came false n = []) := by unfold Hid Lk.came; rw [HQ.out, if_neg (by decide)]
      rw [HQ.out, HC.out, take_none HQ.out]
      clear HH r0 h HQ HC
      generalize (s.sel false).length = k at *
      by_cases hn0 : n < 0
      · have hb0 : decide (n < 0) = true := decide_eq_true hn0
        go_enter Try.func20, Try.ntmps20
        go_wp2_with (go_at_call 31; refine (refRow_false _).mono ?_; rintro e w1 ⟨rfl, hw1⟩; subst w1)
        go_ret2
        exact ⟨_, rfl, ⟨pc_nil _, fun h => absurd h (by decide)⟩, HF.out, Sk.refl _ _ _⟩
      · have hb0 : decide (n < 0) = false := decide_eq_false hn0
        have hn1 : (k : Int) ≤ n := by omega
        have hb1 : decide ((k : Int) ≤ n) = true := decide_eq_true hn1
        go_enter Try.func20, Try.ntmps20
        go_wp2_with (go_at_call 31; refine (refRow_false _).mono ?_; rintro e w1 ⟨rfl, hw1⟩; subst w1)
        go_ret2
        exact ⟨_, rfl, ⟨pc_nil _, fun h => absurd h (by decide)⟩, HF.out, Sk.refl _ _ _⟩
    obtain ⟨n, rfl⟩ : ∃ m : Nat, n = (m : Int) := ⟨n.toNat, by omega⟩
    have hnl : n < (s.sel false).length := by omega
    have HQ : Hid (hasN (s.sel false) n = true) := HH.trans (decide_eq_true hq)
    have HC : Hid (s.came false n = (s.sel false)[n]) := by
      unfold Hid Lk.came
      rw [HQ.out, if_pos rfl, Int.toNat_natCast, List.getD_eq_getElem?_getD, List.getElem?_eq_getElem hnl]
      rfl
    have HE : Hid (s.take false n = s.put false ((s.sel false).eraseIdx n)) := by unfold Hid Lk.take; rw [HQ.out, if_pos rfl, Int.toNat_natCast]
    have hn1 : (n : Int) < ((s.sel false).length : Int) := by omega
    have hn2 : ¬ (n : Int) < 0 := by omega
    have hb0 : decide ((n : Int) < 0) = false := decide_eq_false hn2
    have hn3 : ¬ ((s.sel false).length : Int) ≤ (n : Int) := by omega
    have hb1 : decide (((s.sel false).length : Int) ≤ (n : Int)) = false := decide_eq_false hn3
    obtain ⟨g1, a1, d1, e1, x1, pt1, w01, w02, w03⟩ := r0.at hnl
    have HPt : Hid (PcT B w (.slice a1 (s.sel false)[n].length d1) (s.sel false)[n]) := pt1
    have hva : va = some ⟨g1, 0, none⟩ := e1
    clear w01 w02 w03 pt1 e1
    rw [HQ.out, HC.out]
    have HFd : Hid (RfV 35 B w.drew c s) := h.over hB (Below.refl _ _).drew
    have HBs : Hid (B ≤ w.drew.heap.size) := hB
    have HX0 : Hid (w.drew.cell? ⟨c, 1, none⟩ = some (.slice va (s.sel false).length vc)) := cellK x0 (Below.refl w.heap.size w).drew
    have HNl : Hid (n < (s.sel false).length ∧ (s.sel false).length ≤ 100) := ⟨hnl, by omega⟩
    have HSk0 : Hid (Sk [37, 35] B w w.drew) := sk_below (Below.refl _ _).drew hB
    obtain ⟨vd, xd, rd, hputd⟩ := HFd.out.selW HBs.out (by decide) (by decide) false
    change w.drew.cell? ⟨c, 1, none⟩ = some vd at xd
    have hvd : vd = .slice va (s.sel false).length vc := by
      have h1 := HX0.out
      rw [xd] at h1
      injection h1
    subst hvd
    have HPut : Hid (∀ (w1 : World) (v' : Value) (l : List (List Int)), ApW B w.drew w1 (.slice va (s.sel false).length vc) v' l → w1.cell? ⟨c, 1, none⟩ = some (.slice va (s.sel false).length vc) ∧ w1.frozen? ⟨c, 1, none⟩ = false ∧ RfV 35 B (w1.setCell ⟨c, 1, none⟩ v') c (s.put false l) ∧ Sk [37, 35] B w.drew (w1.setCell ⟨c, 1, none⟩ v')) := hputd
    have HBd : Hid (B ≤ w.drew.heap.size ∧ n < (s.sel false).length ∧ RowS B w.drew (.slice va (s.sel false).length vc) (s.sel false) ∧ (s.sel false).length ≤ 100) := ⟨HBs.out, HNl.out.1, rd, HNl.out.2⟩
    have HSd : Hid (w.drew.cell? ⟨c, 1, none⟩ = some (.slice va (s.sel false).length vc)) := xd
    clear xd rd hputd
    subst hva
    generalize (s.sel false)[n] = f at *
    clear HH hq r0 h HQ HC hnl HFd HX0
    generalize s.take false n = s' at *
    go_enter Try.func20, Try.ntmps20
    go_upto_region 5 with (go_at_call 31; refine (refRow_false _).mono ?_; rintro e w1 ⟨rfl, hw1⟩; subst w1)
    generalize hk : (s.sel false).length = k at *
    have HKk : Hid ((s.sel false).length = k) := hk
    clear hk
    refine wp_region_late (E := [13]) (S := (fun X => X.cell? ⟨c, 1, none⟩ = some (.slice (some ⟨g1, 0, none⟩) k vc))) (by kernel_rfl) (HSd.out) (fun hHeld => ?_)
    simp only [List.size_toArray, List.length_cons, List.length_nil, Nat.reduceAdd]
    refine wpAnyL_take [10, 11, 12, 13] (i := 0) (v := ?_) (by kernel_rfl) (by kernel_rfl) (by kernel_rfl) rfl (by kernel_rfl) (by kernel_rfl) (by kernel_rfl) (fun _ _ _ h => h) (Or.inl ⟨by rfl, ?_⟩) hHeld ?_
    rotate_left
    · (intro w hSw; (try dsimp only at hSw); go_simp; try with_reducible rfl)
    try simp only [Act.put, List.setIfInBounds_toArray, List.set_cons_zero, List.set_cons_succ, List.getElem_toArray, List.getElem_cons_zero]
    refine wpAnyL_take [12, 13] (i := 1) (v := ?_) (by kernel_rfl) (by kernel_rfl) (by kernel_rfl) rfl (by kernel_rfl) (by kernel_rfl) (by kernel_rfl) (fun _ _ _ h => h) (Or.inl ⟨by rfl, ?_⟩) hHeld ?_
    rotate_left
    · (intro w hSw; (try dsimp only at hSw); go_simp; try with_reducible rfl)
    try simp only [Act.put, List.setIfInBounds_toArray, List.set_cons_zero, List.set_cons_succ, List.getElem_toArray, List.getElem_cons_zero, List.getElem_cons_succ]
    refine wpAnyL_take [4, 5, 6, 7, 9, 13] (i := 2) (v := ?_) (by kernel_rfl) (by kernel_rfl) (by kernel_rfl) rfl (by kernel_rfl) (by kernel_rfl) (by kernel_rfl) (fun _ _ _ h => h) (Or.inl ⟨by rfl, ?_⟩) hHeld ?_
    rotate_left
    · (intro w hSw; (try dsimp only at hSw); go_simp; try with_reducible rfl)
    try simp only [Act.put, List.setIfInBounds_toArray, List.set_cons_zero, List.set_cons_succ, List.getElem_toArray, List.getElem_cons_zero, List.getElem_cons_succ]
    refine wpAnyL_take [6, 7, 9, 13] (i := 3) (v := ?_) (by kernel_rfl) (by kernel_rfl) (by kernel_rfl) rfl (by kernel_rfl) (by kernel_rfl) (by kernel_rfl) (fun _ _ _ h => h) (Or.inl ⟨by rfl, ?_⟩) hHeld ?_
    rotate_left
    · (intro w hSw; (try dsimp only at hSw); go_simp; try with_reducible rfl)
    try simp only [Act.put, List.setIfInBounds_toArray, List.set_cons_zero, List.set_cons_succ, List.getElem_toArray, List.getElem_cons_zero, List.getElem_cons_succ]
    refine wpAnyL_take [5, 6, 7, 9, 13] (i := 4) (v := ?_) (by kernel_rfl) (by kernel_rfl) (by kernel_rfl) rfl (by kernel_rfl) (by kernel_rfl) (by kernel_rfl) (fun _ _ _ h => h) (Or.inl ⟨by rfl, ?_⟩) hHeld ?_
    rotate_left
    · (intro w hSw; (try dsimp only at hSw); go_simp; try with_reducible rfl)
    try simp only [Act.put, List.setIfInBounds_toArray, List.set_cons_zero, List.set_cons_succ, List.getElem_toArray, List.getElem_cons_zero, List.getElem_cons_succ]
    refine wpAnyL_take [6, 7, 9, 13] (i := 5) (v := ?_) (by kernel_rfl) (by kernel_rfl) (by kernel_rfl) rfl (by kernel_rfl) (by kernel_rfl) (by kernel_rfl) (fun _ _ _ h => h) (Or.inl ⟨by rfl, ?_⟩) hHeld ?_
    rotate_left
    · (intro w hSw; (try dsimp only at hSw); go_simp; try with_reducible rfl)
    try simp only [Act.put, List.setIfInBounds_toArray, List.set_cons_zero, List.set_cons_succ, List.getElem_toArray, List.getElem_cons_zero, List.getElem_cons_succ]
    refine wpAnyL_take [7, 9, 13] (i := 6) (v := ?_) (by kernel_rfl) (by kernel_rfl) (by kernel_rfl) rfl (by kernel_rfl) (by kernel_rfl) (by kernel_rfl) (fun _ _ _ h => h) (Or.inl ⟨by rfl, ?_⟩) hHeld ?_
    rotate_left
    · (intro w hSw; (try dsimp only at hSw); go_simp; try with_reducible rfl)
    try simp only [Act.put, List.setIfInBounds_toArray, List.set_cons_zero, List.set_cons_succ, List.getElem_toArray, List.getElem_cons_zero, List.getElem_cons_succ]
    refine wpAnyL_take [9, 13] (i := 7) (v := ?_) (by kernel_rfl) (by kernel_rfl) (by kernel_rfl) rfl (by kernel_rfl) (by kernel_rfl) (by kernel_rfl) (fun _ _ _ h => h) (Or.inl ⟨by rfl, ?_⟩) hHeld ?_
    rotate_left
    · (intro w hSw; (try dsimp only at hSw); go_simp; try with_reducible rfl)
    try simp only [Act.put, List.setIfInBounds_toArray, List.set_cons_zero, List.set_cons_succ, List.getElem_toArray, List.getElem_cons_zero, List.getElem_cons_succ]
    refine wpAnyL_take [9, 13] (i := 8) (v := ?_) (by kernel_rfl) (by kernel_rfl) (by kernel_rfl) rfl (by kernel_rfl) (by kernel_rfl) (by kernel_rfl) (fun _ _ _ h => h) (Or.inl ⟨by rfl, ?_⟩) hHeld ?_
    rotate_left
    · (intro w hSw; (try dsimp only at hSw); go_simp; try with_reducible rfl)
    try simp only [Act.put, List.setIfInBounds_toArray, List.set_cons_zero, List.set_cons_succ, List.getElem_toArray, List.getElem_cons_zero, List.getElem_cons_succ]
    refine wpAnyL_take [11, 12, 13] (i := 10) (v := ?_) (by kernel_rfl) (by kernel_rfl) (by kernel_rfl) rfl (by kernel_rfl) (by kernel_rfl) (by kernel_rfl) (fun _ _ _ h => h) (Or.inl ⟨by rfl, ?_⟩) hHeld ?_
    rotate_left
    · (intro w hSw; (try dsimp only at hSw); go_simp; try with_reducible rfl)
    try simp only [Act.put, List.setIfInBounds_toArray, List.set_cons_zero, List.set_cons_succ, List.getElem_toArray, List.getElem_cons_zero, List.getElem_cons_succ]
    refine wpAnyL_take [12, 13] (i := 11) (v := ?_) (by kernel_rfl) (by kernel_rfl) (by kernel_rfl) rfl (by kernel_rfl) (by kernel_rfl) (by kernel_rfl) (fun _ _ _ h => h) (Or.inl ⟨by rfl, ?_⟩) hHeld ?_
    rotate_left
    · (intro w hSw; (try dsimp only at hSw); go_simp; try with_reducible rfl)
    try simp only [Act.put, List.setIfInBounds_toArray, List.set_cons_zero, List.set_cons_succ, List.getElem_toArray, List.getElem_cons_zero, List.getElem_cons_succ]
    refine wpAnyL_one (i := 9) (by kernel_rfl) rfl (fun K hK => ?_)
    go_simp
    go_at_call 32
    refine (cut_any B w.drew _ (s.sel false) n HBd.out.2.2.1 (by rw [HKk.out]; exact HBd.out.2.1) (by rw [HKk.out]; exact HBd.out.2.2.2) HBd.out.1).mono ?_
    rintro e w5 ⟨v5, rfl, r5, n5, b5⟩
    have ha7 : ApW B w.drew w5 (.slice (some ⟨g1, 0, none⟩) k vc) v5 ((s.sel false).eraseIdx n) := apw_new r5 n5 b5
    obtain ⟨q1, q2, q3, q4⟩ := HPut.out w5 v5 _ ha7
    have HQ : Hid (RfV 35 B (w5.setCell ⟨c, 1, none⟩ v5) c (s.put false ((s.sel false).eraseIdx n)) ∧ Sk [37, 35] B w.drew (w5.setCell ⟨c, 1, none⟩ v5) ∧ Below w.drew.heap.size w.drew w5) := ⟨q3, q4, b5⟩
    have s9 : (fun X => X.cell? ⟨c, 1, none⟩ = some (.slice (some ⟨g1, 0, none⟩) k vc)) w5 := q1
    obtain ⟨a5, c5, hv5, _⟩ := r5.slice
    subst hv5
    clear ha7 q1 q3 q4 r5 n5 b5
    refine hK.out _ _ (fun _ => s9) ?_
    replace hHeld := s9
    clear hK K
    try simp only [Act.put, List.setIfInBounds_toArray, List.set_cons_zero, List.set_cons_succ, List.getElem_toArray, List.getElem_cons_zero, List.getElem_cons_succ]
    refine wpAnyL_take [13] (i := 12) (v := ?_) (by kernel_rfl) (by kernel_rfl) (by kernel_rfl) rfl (by kernel_rfl) (by kernel_rfl) (by kernel_rfl) (fun _ _ _ h => h) (Or.inl ⟨by rfl, ?_⟩) hHeld ?_
    rotate_left
    · (intro w hSw; (try dsimp only at hSw); go_simp; try with_reducible rfl)
    try simp only [Act.put, List.setIfInBounds_toArray, List.set_cons_zero, List.set_cons_succ, List.getElem_toArray, List.getElem_cons_zero, List.getElem_cons_succ]
    refine wpAnyL_one (i := 13) (by kernel_rfl) rfl (fun K hK => ?_)
    try dsimp only at hHeld
    go_simp
    refine hK.out _ _ (fun h => by cases h) ?_
    clear hK K
    try simp only [Act.put, List.setIfInBounds_toArray, List.set_cons_zero, List.set_cons_succ, List.getElem_toArray, List.getElem_cons_zero, List.getElem_cons_succ]
    refine wpAnyL_done (by kernel_rfl) ?_ _
    go_wp2
    go_ret2
    have hsk : Sk [37, 35] B w (w5.setCell ⟨c, 1, none⟩ (.slice a5 ((s.sel false).eraseIdx n).length c5)) := HSk0.out.trans HQ.out.2.1
    refine ⟨_, rfl, HPt.out.sk hsk (by simp), ?_, Sk.mono (M := [35, 37]) hsk (by simp)⟩
    rw [HE.out]
    exact HQ.out.1

end Go.Proofs.Ytljceoojbppaeaa
