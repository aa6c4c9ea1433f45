/-
  The document's Twice.
-/
import Derived.Test.YtljceoojbppaeaaRfDrop
namespace Go.Proofs.Ytljceoojbppaeaa
open Go.RowKit D

/-- what holds is named later. -/
theorem wpAnyL_true {P : Program} {ops : Array Oper} {Q : Exit → Act → World → Prop} {md : Region.Mode} {S : World → Prop} {E : List Nat} : ∀ (fuel : Nat) (listed : Array Bool) (a : Act) (w : World), wpAnyL P md ops Q S E fuel listed a w → wpAnyL P md ops Q (fun _ => True) [] fuel listed a w
  | 0, _, _, _, h => h
  | fuel + 1, _, _, _, h => ⟨h.1, fun i hi => wpOp_mono (fun a' w' h' => ⟨fun _ => trivial, wpAnyL_true fuel _ a' w' h'.2⟩) (h.2 i hi)⟩
set_option maxRecDepth 8000 in
set_option maxHeartbeats 8000000 in
theorem refTwice_any (B c : Nat) (s : Lk) (n : Int) (w : World) (h : RfV 35 B w c s) (ho : s.ok) (hB : B ≤ w.heap.size) (hn : n < 9223372036854775808) :
    Calls Try.prog 22 #[.pointer (some ⟨c, 0, none⟩), .int .i64 n] w fun e w' => e = .returned (.bool (s.mayTwice n)) ∧ RfV 35 B w' c (s.twice n) ∧ Sk [35, 37] B w w' := by
  cases hq : s.has n with
  | false =>
    have hw0 := where_no h ho hn hq
    have HF : Hid (RfV 35 B w c s ∧ B ≤ w.heap.size) := ⟨h, hB⟩
    have HM : Hid (s.mayTwice n = false) := by unfold Hid Lk.mayTwice; rw [hq, Bool.false_and]
    have HE : Hid (s.twice n = s) := by unfold Hid Lk.twice; rw [HM.out, if_neg (by decide)]
    clear h hq hB
    rw [HE.out, HM.out]
    go_enter Try.func22, Try.ntmps22
    go_wp2_with (go_at_call 33; refine hw0.mono ?_; rintro e w1 ⟨rfl, hb1⟩)
    go_ret
    exact ⟨rfl, HF.out.1.over HF.out.2 hb1, sk_below hb1 HF.out.2⟩
  | true =>
    cases hup : s.way n with
    | true =>
      obtain ⟨j, hj, hjl, hw0⟩ := where_to h ho hn hq (up := true) hup
      have hk64 : ((s.sel true).length : Int) ≤ 64 := by have := (Lk.ok_sel ho true).1; omega
      have HNl : Hid (j < (s.sel true).length ∧ (s.sel true).length ≤ 100) := ⟨hjl, by omega⟩
      have HF : Hid (RfV 35 B w c s) := h
      have HBw : Hid (B ≤ w.heap.size) := hB
      have HJ : Hid (s.at n = (j : Int) ∧ s.way n = true ∧ s.has n = true ∧ j < (s.sel true).length) := ⟨hj, hup, hq, hjl⟩
      clear h hj hup hq hB hjl
      have HM : Hid (s.mayTwice n = decide ((s.sel true).length < 64)) := by unfold Hid Lk.mayTwice; rw [HJ.out.2.2.1, Bool.true_and, HJ.out.2.1]
      by_cases hl : 64 ≤ (s.sel true).length
      · have HN : Hid (s.mayTwice n = false) := HM.out.trans (decide_eq_false (by omega))
        have HE : Hid (s.twice n = s) := by unfold Hid Lk.twice; rw [HN.out, if_neg (by decide)]
        rw [HN.out, HE.out]
        obtain ⟨vx, xx, rx, _⟩ := HF.out.selW HBw.out (by decide) (by decide) true
        change w.cell? ⟨c, 0, none⟩ = some vx at xx
        obtain ⟨va, vc, hvx, _⟩ := rx.slice
        subst hvx
        have HXX : Hid (∀ W, Below w.heap.size w W → W.cell? ⟨c, 0, none⟩ = some (.slice va (s.sel true).length vc)) := fun W hW => cellK xx hW
        have h65 : (64 : Int) ≤ ((s.sel true).length : Int) := by omega
        have h66 : decide ((64 : Int) ≤ ((s.sel true).length : Int)) = true := decide_eq_true h65
        clear rx xx
        generalize (s.sel true).length = k at *
        go_enter Try.func22, Try.ntmps22
        go_wp2_with (go_at_call 33; refine hw0.mono ?_; rintro e w1 ⟨rfl, hb1⟩; have xx := HXX.out _ hb1)
        go_ret
        exact ⟨rfl, HF.out.over HBw.out hb1, sk_below hb1 HBw.out⟩
      have h65 : ¬ (64 : Int) ≤ ((s.sel true).length : Int) := by omega
      have h66 : decide ((64 : Int) ≤ ((s.sel true).length : Int)) = false := decide_eq_false h65
      have HN : Hid (s.mayTwice n = true) := HM.out.trans (decide_eq_true (by omega))
      have HFm : Hid (s.frame n = (s.sel true).getD j []) := by
        unfold Hid Lk.frame
        rw [HJ.out.2.1, HJ.out.1]
        rfl
      have HE : Hid (s.twice n = s.put true (s.sel true ++ [s.frame n])) := by
        unfold Hid Lk.twice
        rw [HN.out, if_pos rfl, HJ.out.2.1]
      have HOk : Hid (okF (s.frame n)) := Lk.ok_frame ho HJ.out.2.2.1
      rw [HN.out]
      generalize s.twice n = s' at *
      have HXX : Hid (∀ W, Below w.heap.size w W → ∃ va vc, W.cell? ⟨c, 0, none⟩ = some (.slice va (s.sel true).length vc)) := fun W hW => by
        obtain ⟨vx, xx, rx, _⟩ := (HF.out.over HBw.out hW).selW (Nat.le_trans HBw.out hW.size) (by decide) (by decide) true
        obtain ⟨va, vc, hvx, _⟩ := rx.slice
        subst hvx
        exact ⟨va, vc, xx⟩
      go_enter Try.func22, Try.ntmps22
      go_upto_region 4 with (go_at_call 33; refine hw0.mono ?_; rintro e w1 ⟨rfl, hb1⟩; obtain ⟨va0, vc0, xx0⟩ := HXX.out _ hb1)
      have HFd : Hid (RfV 35 B w1.drew c s) := (HF.out.over HBw.out hb1).over (Nat.le_trans HBw.out hb1.size) (Below.refl _ _).drew
      have HBs : Hid (B ≤ w1.drew.heap.size) := Nat.le_trans HBw.out hb1.size
      have HSk0 : Hid (Sk [37, 35] B w w1.drew) := sk_below hb1.drew HBw.out
      obtain ⟨vx, xx, rx, _⟩ := HFd.out.selW HBs.out (by decide) (by decide) true
      change w1.drew.cell? ⟨c, 0, none⟩ = some vx at xx
      obtain ⟨va, vc, hvx, _⟩ := rx.slice
      subst hvx
      have HX0 : Hid (w1.drew.cell? ⟨c, 0, none⟩ = some (.slice va (s.sel true).length vc)) := xx
      obtain ⟨g1, a1, d1, e1, x1, w01, w02, y1, w03⟩ := rx.at HJ.out.2.2.2
      subst e1
      have e2 : (s.sel true)[j]'HJ.out.2.2.2 = s.frame n := by
        rw [HFm.out, List.getD_eq_getElem?_getD, List.getElem?_eq_getElem HJ.out.2.2.2]
        rfl
      rw [e2] at x1 y1
      clear e2
      generalize s.frame n = f at *
      clear rx xx hb1 w01 w02 w03 xx0
      obtain ⟨vd, xd, rd, hputd⟩ := HFd.out.selW HBs.out (by decide) (by decide) true
      change w1.drew.cell? ⟨c, 0, none⟩ = some vd at xd
      have hvd : vd = .slice (some ⟨g1, 0, none⟩) (s.sel true).length vc := by
        have h1 := HX0.out
        rw [xd] at h1
        injection h1
      subst hvd
      have HPut : Hid (∀ (W1 : World) (v' : Value) (l : List (List Int)), ApW B w1.drew W1 (.slice (some ⟨g1, 0, none⟩) (s.sel true).length vc) v' l → W1.cell? ⟨c, 0, none⟩ = some (.slice (some ⟨g1, 0, none⟩) (s.sel true).length vc) ∧ W1.frozen? ⟨c, 0, none⟩ = false ∧ RfV 35 B (W1.setCell ⟨c, 0, none⟩ v') c (s.put true l) ∧ Sk [37, 35] B w1.drew (W1.setCell ⟨c, 0, none⟩ v')) := hputd
      have HBd : Hid (B ≤ w1.drew.heap.size ∧ j < (s.sel true).length ∧ RowS B w1.drew (.slice (some ⟨g1, 0, none⟩) (s.sel true).length vc) (s.sel true) ∧ (s.sel true).length ≤ 100) := ⟨HBs.out, HNl.out.1, rd, HNl.out.2⟩
      have HSd : Hid (w1.drew.cell? ⟨c, 0, none⟩ = some (.slice (some ⟨g1, 0, none⟩) (s.sel true).length vc)) := xd
      clear xd rd hputd
      clear HFd HX0
      generalize hn1 : f.length = n1 at *
      have HFr : Hid (Bs w1.drew a1 n1 f ∧ 0 < n1 ∧ n1 ≤ 1024) := ⟨y1, by have := HOk.out.2.1; omega, by have := HOk.out.2.2; omega⟩
      have HN1 : Hid (f.length = n1) := hn1
      rw [← hn1] at x1
      have HSd2 : Hid (w1.drew.cell? ⟨c, 0, none⟩ = some (.slice (some ⟨g1, 0, none⟩) (s.sel true).length vc) ∧ w1.drew.cell? ⟨g1, j, none⟩ = some (.slice a1 n1 d1)) := ⟨HSd.out, by rw [hn1] at x1; exact x1⟩
      clear HSd hn1 x1 y1
      have HSd := HSd2
      generalize hk : (s.sel true).length = k at *
      have HKk : Hid ((s.sel true).length = k) := hk
      clear hk hw0 HSd2
      have hjk : j < k := HNl.out.1
      have hji : (j : Int) < (k : Int) := by omega
      refine wp_region_late (E := []) (S := (fun _ => True)) (by kernel_rfl) (trivial) (fun hHeld => ?_)
      simp only [List.size_toArray, List.length_cons, List.length_nil, Nat.reduceAdd]
      refine wpAnyL_take [21, 22, 23, 24] (i := 0) (v := ?_) (by kernel_rfl) (by kernel_rfl) (by kernel_rfl) rfl (by kernel_rfl) (by kernel_rfl) (by kernel_rfl) (fun _ _ _ h => h) (Or.inl ⟨by rfl, ?_⟩) hHeld ?_
      rotate_left
      · (intro w hSw; (try dsimp only at hSw); go_simp; try with_reducible rfl)
      try simp only [Act.put, List.setIfInBounds_toArray, List.set_cons_zero, List.set_cons_succ, List.getElem_toArray, List.getElem_cons_zero]
      refine wpAnyL_take [23, 24] (i := 1) (v := ?_) (by kernel_rfl) (by kernel_rfl) (by kernel_rfl) rfl (by kernel_rfl) (by kernel_rfl) (by kernel_rfl) (fun _ _ _ h => h) (Or.inl ⟨by rfl, ?_⟩) hHeld ?_
      rotate_left
      · (intro w hSw; (try dsimp only at hSw); go_simp; try with_reducible rfl)
      try simp only [Act.put, List.setIfInBounds_toArray, List.set_cons_zero, List.set_cons_succ, List.getElem_toArray, List.getElem_cons_zero, List.getElem_cons_succ]
      refine wpAnyL_take [22, 23, 24] (i := 21) (v := ?_) (by kernel_rfl) (by kernel_rfl) (by kernel_rfl) rfl (by kernel_rfl) (by kernel_rfl) (by kernel_rfl) (fun _ _ _ h => h) (Or.inl ⟨by rfl, ?_⟩) hHeld ?_
      rotate_left
      · (intro w hSw; (try dsimp only at hSw); go_simp; try with_reducible rfl)
      try simp only [Act.put, List.setIfInBounds_toArray, List.set_cons_zero, List.set_cons_succ, List.getElem_toArray, List.getElem_cons_zero, List.getElem_cons_succ]
      refine wpAnyL_take [23, 24] (i := 22) (v := ?_) (by kernel_rfl) (by kernel_rfl) (by kernel_rfl) rfl (by kernel_rfl) (by kernel_rfl) (by kernel_rfl) (fun _ _ _ h => h) (Or.inl ⟨by rfl, ?_⟩) hHeld ?_
      rotate_left
      · (intro w hSw; (try dsimp only at hSw); go_simp; try with_reducible rfl)
      try simp only [Act.put, List.setIfInBounds_toArray, List.set_cons_zero, List.set_cons_succ, List.getElem_toArray, List.getElem_cons_zero, List.getElem_cons_succ]
      refine wpAnyL_true (S := (fun X => X.cell? ⟨c, 0, none⟩ = some (.slice (some ⟨g1, 0, none⟩) k vc) ∧ X.cell? ⟨g1, j, none⟩ = some (.slice a1 n1 d1))) (E := [20, 23, 24]) _ _ _ _ ?_
      replace hHeld := HSd.out
      refine wpAnyL_take [4, 5, 6, 7, 20, 23, 24] (i := 2) (v := ?_) (by kernel_rfl) (by kernel_rfl) (by kernel_rfl) rfl (by kernel_rfl) (by kernel_rfl) (by kernel_rfl) (fun _ _ _ h => h) (Or.inl ⟨by rfl, ?_⟩) hHeld ?_
      rotate_left
      · (intro w hSw; (try dsimp only at hSw); obtain ⟨s0, s1⟩ := hSw; go_simp; try with_reducible rfl)
      try simp only [Act.put, List.setIfInBounds_toArray, List.set_cons_zero, List.set_cons_succ, List.getElem_toArray, List.getElem_cons_zero, List.getElem_cons_succ]
      refine wpAnyL_take [6, 7, 20, 23, 24] (i := 3) (v := ?_) (by kernel_rfl) (by kernel_rfl) (by kernel_rfl) rfl (by kernel_rfl) (by kernel_rfl) (by kernel_rfl) (fun _ _ _ h => h) (Or.inl ⟨by rfl, ?_⟩) hHeld ?_
      rotate_left
      · (intro w hSw; (try dsimp only at hSw); obtain ⟨s0, s1⟩ := hSw; go_simp; try with_reducible rfl)
      try simp only [Act.put, List.setIfInBounds_toArray, List.set_cons_zero, List.set_cons_succ, List.getElem_toArray, List.getElem_cons_zero, List.getElem_cons_succ]
      refine wpAnyL_take [5, 6, 7, 20, 23, 24] (i := 4) (v := ?_) (by kernel_rfl) (by kernel_rfl) (by kernel_rfl) rfl (by kernel_rfl) (by kernel_rfl) (by kernel_rfl) (fun _ _ _ h => h) (Or.inl ⟨by rfl, ?_⟩) hHeld ?_
      rotate_left
      · (intro w hSw; (try dsimp only at hSw); obtain ⟨s0, s1⟩ := hSw; go_simp; try with_reducible rfl)
      try simp only [Act.put, List.setIfInBounds_toArray, List.set_cons_zero, List.set_cons_succ, List.getElem_toArray, List.getElem_cons_zero, List.getElem_cons_succ]
      refine wpAnyL_take [6, 7, 20, 23, 24] (i := 5) (v := ?_) (by kernel_rfl) (by kernel_rfl) (by kernel_rfl) rfl (by kernel_rfl) (by kernel_rfl) (by kernel_rfl) (fun _ _ _ h => h) (Or.inl ⟨by rfl, ?_⟩) hHeld ?_
      rotate_left
      · (intro w hSw; (try dsimp only at hSw); obtain ⟨s0, s1⟩ := hSw; go_simp; try with_reducible rfl)
      try simp only [Act.put, List.setIfInBounds_toArray, List.set_cons_zero, List.set_cons_succ, List.getElem_toArray, List.getElem_cons_zero, List.getElem_cons_succ]
      refine wpAnyL_take [7, 20, 23, 24] (i := 6) (v := ?_) (by kernel_rfl) (by kernel_rfl) (by kernel_rfl) rfl (by kernel_rfl) (by kernel_rfl) (by kernel_rfl) (fun _ _ _ h => h) (Or.inl ⟨by rfl, ?_⟩) hHeld ?_
      rotate_left
      · (intro w hSw; (try dsimp only at hSw); obtain ⟨s0, s1⟩ := hSw; go_simp; try with_reducible rfl)
      try simp only [Act.put, List.setIfInBounds_toArray, List.set_cons_zero, List.set_cons_succ, List.getElem_toArray, List.getElem_cons_zero, List.getElem_cons_succ]
      refine wpAnyL_take [20, 23, 24] (i := 7) (v := ?_) (by kernel_rfl) (by kernel_rfl) (by kernel_rfl) rfl (by kernel_rfl) (by kernel_rfl) (by kernel_rfl) (fun _ _ _ h => h) (Or.inl ⟨by rfl, ?_⟩) hHeld ?_
      rotate_left
      · (intro w hSw; (try dsimp only at hSw); obtain ⟨s0, s1⟩ := hSw; go_simp; try with_reducible rfl)
      try simp only [Act.put, List.setIfInBounds_toArray, List.set_cons_zero, List.set_cons_succ, List.getElem_toArray, List.getElem_cons_zero, List.getElem_cons_succ]
      refine wpAnyL_take [11, 12, 13, 14, 16, 17, 18, 19, 20, 23, 24] (i := 9) (v := ?_) (by kernel_rfl) (by kernel_rfl) (by kernel_rfl) rfl (by kernel_rfl) (by kernel_rfl) (by kernel_rfl) (fun _ _ _ h => h) (Or.inl ⟨by rfl, ?_⟩) hHeld ?_
      rotate_left
      · (intro w hSw; (try dsimp only at hSw); obtain ⟨s0, s1⟩ := hSw; go_simp; try with_reducible rfl)
      try simp only [Act.put, List.setIfInBounds_toArray, List.set_cons_zero, List.set_cons_succ, List.getElem_toArray, List.getElem_cons_zero, List.getElem_cons_succ]
      refine wpAnyL_take [13, 14, 16, 17, 18, 19, 20, 23, 24] (i := 10) (v := ?_) (by kernel_rfl) (by kernel_rfl) (by kernel_rfl) rfl (by kernel_rfl) (by kernel_rfl) (by kernel_rfl) (fun _ _ _ h => h) (Or.inl ⟨by rfl, ?_⟩) hHeld ?_
      rotate_left
      · (intro w hSw; (try dsimp only at hSw); obtain ⟨s0, s1⟩ := hSw; go_simp; try with_reducible rfl)
      try simp only [Act.put, List.setIfInBounds_toArray, List.set_cons_zero, List.set_cons_succ, List.getElem_toArray, List.getElem_cons_zero, List.getElem_cons_succ]
      refine wpAnyL_take [12, 13, 14, 16, 17, 18, 19, 20, 23, 24] (i := 11) (v := ?_) (by kernel_rfl) (by kernel_rfl) (by kernel_rfl) rfl (by kernel_rfl) (by kernel_rfl) (by kernel_rfl) (fun _ _ _ h => h) (Or.inl ⟨by rfl, ?_⟩) hHeld ?_
      rotate_left
      · (intro w hSw; (try dsimp only at hSw); obtain ⟨s0, s1⟩ := hSw; go_simp; try with_reducible rfl)
      try simp only [Act.put, List.setIfInBounds_toArray, List.set_cons_zero, List.set_cons_succ, List.getElem_toArray, List.getElem_cons_zero, List.getElem_cons_succ]
      refine wpAnyL_take [13, 14, 16, 17, 18, 19, 20, 23, 24] (i := 12) (v := ?_) (by kernel_rfl) (by kernel_rfl) (by kernel_rfl) rfl (by kernel_rfl) (by kernel_rfl) (by kernel_rfl) (fun _ _ _ h => h) (Or.inl ⟨by rfl, ?_⟩) hHeld ?_
      rotate_left
      · (intro w hSw; (try dsimp only at hSw); obtain ⟨s0, s1⟩ := hSw; go_simp; try with_reducible rfl)
      try simp only [Act.put, List.setIfInBounds_toArray, List.set_cons_zero, List.set_cons_succ, List.getElem_toArray, List.getElem_cons_zero, List.getElem_cons_succ]
      refine wpAnyL_take [14, 16, 17, 18, 19, 20, 23, 24] (i := 13) (v := ?_) (by kernel_rfl) (by kernel_rfl) (by kernel_rfl) rfl (by kernel_rfl) (by kernel_rfl) (by kernel_rfl) (fun _ _ _ h => h) (Or.inl ⟨by rfl, ?_⟩) hHeld ?_
      rotate_left
      · (intro w hSw; (try dsimp only at hSw); obtain ⟨s0, s1⟩ := hSw; go_simp; try with_reducible rfl)
      try simp only [Act.put, List.setIfInBounds_toArray, List.set_cons_zero, List.set_cons_succ, List.getElem_toArray, List.getElem_cons_zero, List.getElem_cons_succ]
      refine wpAnyL_take [16, 17, 18, 19, 20, 23, 24] (i := 14) (v := ?_) (by kernel_rfl) (by kernel_rfl) (by kernel_rfl) rfl (by kernel_rfl) (by kernel_rfl) (by kernel_rfl) (fun _ _ _ h => h) (Or.inl ⟨by rfl, ?_⟩) hHeld ?_
      rotate_left
      · (intro w hSw; (try dsimp only at hSw); obtain ⟨s0, s1⟩ := hSw; go_simp; try with_reducible rfl)
      try simp only [Act.put, List.setIfInBounds_toArray, List.set_cons_zero, List.set_cons_succ, List.getElem_toArray, List.getElem_cons_zero, List.getElem_cons_succ]
      refine wpAnyL_take [16, 17, 18, 19, 20, 23, 24] (i := 15) (v := ?_) (by kernel_rfl) (by kernel_rfl) (by kernel_rfl) rfl (by kernel_rfl) (by kernel_rfl) (by kernel_rfl) (fun _ _ _ h => h) (Or.inl ⟨by rfl, ?_⟩) hHeld ?_
      rotate_left
      · (intro w hSw; (try dsimp only at hSw); obtain ⟨s0, s1⟩ := hSw; go_simp; try with_reducible rfl)
      try simp only [Act.put, List.setIfInBounds_toArray, List.set_cons_zero, List.set_cons_succ, List.getElem_toArray, List.getElem_cons_zero, List.getElem_cons_succ]
      refine wpAnyL_take [17, 18, 19, 20, 23, 24] (i := 16) (v := ?_) (by kernel_rfl) (by kernel_rfl) (by kernel_rfl) rfl (by kernel_rfl) (by kernel_rfl) (by kernel_rfl) (fun _ _ _ h => h) (Or.inl ⟨by rfl, ?_⟩) hHeld ?_
      rotate_left
      · (intro w hSw; (try dsimp only at hSw); obtain ⟨s0, s1⟩ := hSw; go_simp; try with_reducible rfl)
      try simp only [Act.put, List.setIfInBounds_toArray, List.set_cons_zero, List.set_cons_succ, List.getElem_toArray, List.getElem_cons_zero, List.getElem_cons_succ]
      refine wpAnyL_take [18, 19, 20, 23, 24] (i := 17) (v := ?_) (by kernel_rfl) (by kernel_rfl) (by kernel_rfl) rfl (by kernel_rfl) (by kernel_rfl) (by kernel_rfl) (fun _ _ _ h => h) (Or.inl ⟨by rfl, ?_⟩) hHeld ?_
      rotate_left
      · (intro w hSw; (try dsimp only at hSw); obtain ⟨s0, s1⟩ := hSw; go_simp; try with_reducible rfl)
      try simp only [Act.put, List.setIfInBounds_toArray, List.set_cons_zero, List.set_cons_succ, List.getElem_toArray, List.getElem_cons_zero, List.getElem_cons_succ]
      refine wpAnyL_one (i := 8) (by kernel_rfl) rfl (fun K hK => ?_)
      go_simp
      have s8 : (fun X => X.cell? ⟨c, 0, none⟩ = some (.slice (some ⟨g1, 0, none⟩) k vc) ∧ X.cell? ⟨g1, j, none⟩ = some (.slice a1 n1 d1)) (w1.drew.alloc (.cells #[] 5)) := ⟨cellK hHeld.1 (alloc_below _ _), cellK hHeld.2 (alloc_below _ _)⟩
      refine hK.out _ _ (fun _ => s8) ?_
      replace hHeld := s8
      clear hK K
      try simp only [Act.put, List.setIfInBounds_toArray, List.set_cons_zero, List.set_cons_succ, List.getElem_toArray, List.getElem_cons_zero, List.getElem_cons_succ]
      refine wpAnyL_one (i := 18) (by kernel_rfl) rfl (fun K hK => ?_)
      refine step_clone B rfl _ _ rfl _ rfl rfl a1 n1 d1 f rfl HFr.out.1 HFr.out.2.1 HFr.out.2.2 (fun v5 w5 hc5 => ?_)
      have HC5 : Hid (Cln B w1.drew w5 v5 f) := hc5
      have s10 : (fun X => X.cell? ⟨c, 0, none⟩ = some (.slice (some ⟨g1, 0, none⟩) k vc) ∧ X.cell? ⟨g1, j, none⟩ = some (.slice a1 n1 d1)) w5 := ⟨cellK HSd.out.1 hc5.bel, cellK HSd.out.2 hc5.bel⟩
      obtain ⟨a5, c5, hv5, _, _⟩ := id hc5.pc.1
      subst hv5
      clear hc5
      refine hK.out _ _ (fun _ => s10) ?_
      replace hHeld := s10
      clear hK K
      try simp only [Act.put, List.setIfInBounds_toArray, List.set_cons_zero, List.set_cons_succ, List.getElem_toArray, List.getElem_cons_zero, List.getElem_cons_succ]
      refine wpAnyL_one (i := 19) (by kernel_rfl) rfl (fun K hK => ?_)
      go_simp
      have s11 : (fun X => X.cell? ⟨c, 0, none⟩ = some (.slice (some ⟨g1, 0, none⟩) k vc) ∧ X.cell? ⟨g1, j, none⟩ = some (.slice a1 n1 d1)) (w5.alloc (.cells #[.slice a5 f.length c5] 37)) := ⟨cellK hHeld.1 (alloc_below _ _), cellK hHeld.2 (alloc_below _ _)⟩
      refine hK.out _ _ (fun _ => s11) ?_
      replace hHeld := s11
      clear hK K
      try simp only [Act.put, List.setIfInBounds_toArray, List.set_cons_zero, List.set_cons_succ, List.getElem_toArray, List.getElem_cons_zero, List.getElem_cons_succ]
      refine wpAnyL_one (i := 20) (by kernel_rfl) rfl (fun K hK => ?_)
      have hB5 : B ≤ w5.heap.size := Nat.le_trans HBd.out.1 HC5.out.bel.size
      refine step_row1 rfl _ _ rfl (.slice (some ⟨g1, 0, none⟩) k vc) (s.sel true) rfl ((HBd.out.2.2.1).over HBd.out.1 HC5.out.bel) (.slice a5 f.length c5) f HC5.out.pc _ rfl rfl (by have := HBd.out.2.2.2; have := HKk.out; omega) hB5 (fun v6 w6 ha6 => ?_)
      have ha7 : ApT B w1.drew w6 (.slice (some ⟨g1, 0, none⟩) k vc) v6 (s.sel true ++ [f]) := ⟨ha6.row, ha6.os.trans HC5.out.bel.os, ha6.tape.trans HC5.out.bel.tape, ha6.output.trans HC5.out.bel.output, Nat.le_trans HC5.out.bel.size ha6.size,
        fun i hi hne => (ha6.block i (Nat.lt_of_lt_of_le hi HC5.out.bel.size) hne).trans (HC5.out.bel.block i hi), by
          rcases ha6.own with e | ⟨g, e, hg⟩
          · exact .inl e
          · exact .inr ⟨g, e, Nat.le_trans HC5.out.bel.size hg⟩⟩
      obtain ⟨q1, q2, q3, q4⟩ := HPut.out w6 v6 _ ha7.w
      have HQ : Hid (RfV 35 B (w6.setCell ⟨c, 0, none⟩ v6) c (s.put true (s.sel true ++ [f])) ∧ Sk [37, 35] B w1.drew (w6.setCell ⟨c, 0, none⟩ v6)) := ⟨q3, q4⟩
      obtain ⟨a6, c6, hv6, _⟩ := ha6.row.slice
      rw [List.length_append, List.length_singleton, HKk.out] at hv6
      subst hv6
      clear ha6 ha7 q3 q4 hB5
      refine hK.out _ _ (fun h => by cases h) ?_
      clear hK K
      try simp only [Act.put, List.setIfInBounds_toArray, List.set_cons_zero, List.set_cons_succ, List.getElem_toArray, List.getElem_cons_zero, List.getElem_cons_succ]
      refine wpAnyL_one (i := 23) (by kernel_rfl) rfl (fun K hK => ?_)
      have q5 := q1
      go_simp
      refine hK.out _ _ (fun h => by cases h) ?_
      clear hK K
      try simp only [Act.put, List.setIfInBounds_toArray, List.set_cons_zero, List.set_cons_succ, List.getElem_toArray, List.getElem_cons_zero, List.getElem_cons_succ]
      refine wpAnyL_one (i := 24) (by kernel_rfl) rfl (fun K hK => ?_)
      have q5 := q2
      go_simp
      refine hK.out _ _ (fun h => by cases h) ?_
      clear hK K
      try simp only [Act.put, List.setIfInBounds_toArray, List.set_cons_zero, List.set_cons_succ, List.getElem_toArray, List.getElem_cons_zero, List.getElem_cons_succ]
      refine wpAnyL_done (by kernel_rfl) ?_ _
      go_wp2
      go_ret
      refine ⟨rfl, ?_, Sk.mono (M := [35, 37]) (HSk0.out.trans HQ.out.2) (by simp)⟩
      rw [HE.out]
      exact HQ.out.1
    | false =>
      obtain ⟨j, hj, hjl, hw0⟩ := where_to h ho hn hq (up := false) hup
      have hk64 : ((s.sel false).length : Int) ≤ 64 := by have := (Lk.ok_sel ho false).1; omega
      have HNl : Hid (j < (s.sel false).length ∧ (s.sel false).length ≤ 100) := ⟨hjl, by omega⟩
      have HF : Hid (RfV 35 B w c s) := h
      have HBw : Hid (B ≤ w.heap.size) := hB
      have HJ : Hid (s.at n = (j : Int) ∧ s.way n = false ∧ s.has n = true ∧ j < (s.sel false).length) := ⟨hj, hup, hq, hjl⟩
      clear h hj hup hq hB hjl
      have HM : Hid (s.mayTwice n = decide ((s.sel false).length < 64)) := by unfold Hid Lk.mayTwice; rw [HJ.out.2.2.1, Bool.true_and, HJ.out.2.1]
      by_cases hl : 64 ≤ (s.sel false).length
      · have HN : Hid (s.mayTwice n = false) := HM.out.trans (decide_eq_false (by omega))
        have HE : Hid (s.twice n = s) := by unfold Hid Lk.twice; rw [HN.out, if_neg (by decide)]
        rw [HN.out, HE.out]
        obtain ⟨vx, xx, rx, _⟩ := HF.out.selW HBw.out (by decide) (by decide) false
        change w.cell? ⟨c, 1, none⟩ = some vx at xx
        obtain ⟨va, vc, hvx, _⟩ := rx.slice
        subst hvx
        have HXX : Hid (∀ W, Below w.heap.size w W → W.cell? ⟨c, 1, none⟩ = some (.slice va (s.sel false).length vc)) := fun W hW => cellK xx hW
        have h65 : (64 : Int) ≤ ((s.sel false).length : Int) := by omega
        have h66 : decide ((64 : Int) ≤ ((s.sel false).length : Int)) = true := decide_eq_true h65
        clear rx xx
        generalize (s.sel false).length = k at *
        go_enter Try.func22, Try.ntmps22
        go_wp2_with (go_at_call 33; refine hw0.mono ?_; rintro e w1 ⟨rfl, hb1⟩; have xx := HXX.out _ hb1)
        go_ret
        exact ⟨rfl, HF.out.over HBw.out hb1, sk_below hb1 HBw.out⟩
      have h65 : ¬ (64 : Int) ≤ ((s.sel false).length : Int) := by omega
      have h66 : decide ((64 : Int) ≤ ((s.sel false).length : Int)) = false := decide_eq_false h65
      have HN : Hid (s.mayTwice n = true) := HM.out.trans (decide_eq_true (by omega))
      have HFm : Hid (s.frame n = (s.sel false).getD j []) := by
        unfold Hid Lk.frame
        rw [HJ.out.2.1, HJ.out.1]
        rfl
      have HE : Hid (s.twice n = s.put false (s.sel false ++ [s.frame n])) := by
        unfold Hid Lk.twice
        rw [HN.out, if_pos rfl, HJ.out.2.1]
      have HOk : Hid (okF (s.frame n)) := Lk.ok_frame ho HJ.out.2.2.1
      rw [HN.out]
      generalize s.twice n = s' at *
      have HXX : Hid (∀ W, Below w.heap.size w W → ∃ va vc, W.cell? ⟨c, 1, none⟩ = some (.slice va (s.sel false).length vc)) := fun W hW => by
        obtain ⟨vx, xx, rx, _⟩ := (HF.out.over HBw.out hW).selW (Nat.le_trans HBw.out hW.size) (by decide) (by decide) false
        obtain ⟨va, vc, hvx, _⟩ := rx.slice
        subst hvx
        exact ⟨va, vc, xx⟩
      go_enter Try.func22, Try.ntmps22
      go_upto_region 4 with (go_at_call 33; refine hw0.mono ?_; rintro e w1 ⟨rfl, hb1⟩; obtain ⟨va0, vc0, xx0⟩ := HXX.out _ hb1)
      have HFd : Hid (RfV 35 B w1.drew c s) := (HF.out.over HBw.out hb1).over (Nat.le_trans HBw.out hb1.size) (Below.refl _ _).drew
      have HBs : Hid (B ≤ w1.drew.heap.size) := Nat.le_trans HBw.out hb1.size
      have HSk0 : Hid (Sk [37, 35] B w w1.drew) := sk_below hb1.drew HBw.out
      obtain ⟨vx, xx, rx, _⟩ := HFd.out.selW HBs.out (by decide) (by decide) false
      change w1.drew.cell? ⟨c, 1, none⟩ = some vx at xx
      obtain ⟨va, vc, hvx, _⟩ := rx.slice
      subst hvx
      have HX0 : Hid (w1.drew.cell? ⟨c, 1, none⟩ = some (.slice va (s.sel false).length vc)) := xx
      obtain ⟨g1, a1, d1, e1, x1, w01, w02, y1, w03⟩ := rx.at HJ.out.2.2.2
      subst e1
      have e2 : (s.sel false)[j]'HJ.out.2.2.2 = s.frame n := by
        rw [HFm.out, List.getD_eq_getElem?_getD, List.getElem?_eq_getElem HJ.out.2.2.2]
        rfl
      rw [e2] at x1 y1
      clear e2
      generalize s.frame n = f at *
      clear rx xx hb1 w01 w02 w03 xx0
      obtain ⟨vd, xd, rd, hputd⟩ := HFd.out.selW HBs.out (by decide) (by decide) false
      change w1.drew.cell? ⟨c, 1, none⟩ = some vd at xd
      have hvd : vd = .slice (some ⟨g1, 0, none⟩) (s.sel false).length vc := by
        have h1 := HX0.out
        rw [xd] at h1
        injection h1
      subst hvd
      have HPut : Hid (∀ (W1 : World) (v' : Value) (l : List (List Int)), ApW B w1.drew W1 (.slice (some ⟨g1, 0, none⟩) (s.sel false).length vc) v' l → W1.cell? ⟨c, 1, none⟩ = some (.slice (some ⟨g1, 0, none⟩) (s.sel false).length vc) ∧ W1.frozen? ⟨c, 1, none⟩ = false ∧ RfV 35 B (W1.setCell ⟨c, 1, none⟩ v') c (s.put false l) ∧ Sk [37, 35] B w1.drew (W1.setCell ⟨c, 1, none⟩ v')) := hputd
      have HBd : Hid (B ≤ w1.drew.heap.size ∧ j < (s.sel false).length ∧ RowS B w1.drew (.slice (some ⟨g1, 0, none⟩) (s.sel false).length vc) (s.sel false) ∧ (s.sel false).length ≤ 100) := ⟨HBs.out, HNl.out.1, rd, HNl.out.2⟩
      have HSd : Hid (w1.drew.cell? ⟨c, 1, none⟩ = some (.slice (some ⟨g1, 0, none⟩) (s.sel false).length vc)) := xd
      clear xd rd hputd
      clear HFd HX0
      generalize hn1 : f.length = n1 at *
      have HFr : Hid (Bs w1.drew a1 n1 f ∧ 0 < n1 ∧ n1 ≤ 1024) := ⟨y1, by have := HOk.out.2.1; omega, by have := HOk.out.2.2; omega⟩
      have HN1 : Hid (f.length = n1) := hn1
      rw [← hn1] at x1
      have HSd2 : Hid (w1.drew.cell? ⟨c, 1, none⟩ = some (.slice (some ⟨g1, 0, none⟩) (s.sel false).length vc) ∧ w1.drew.cell? ⟨g1, j, none⟩ = some (.slice a1 n1 d1)) := ⟨HSd.out, by rw [hn1] at x1; exact x1⟩
      clear HSd hn1 x1 y1
      have HSd := HSd2
      generalize hk : (s.sel false).length = k at *
      have HKk : Hid ((s.sel false).length = k) := hk
      clear hk hw0 HSd2
      have hjk : j < k := HNl.out.1
      have hji : (j : Int) < (k : Int) := by omega
      refine wp_region_late (E := []) (S := (fun _ => True)) (by kernel_rfl) (trivial) (fun hHeld => ?_)
      simp only [List.size_toArray, List.length_cons, List.length_nil, Nat.reduceAdd]
      refine wpAnyL_take [21, 22, 23, 24] (i := 0) (v := ?_) (by kernel_rfl) (by kernel_rfl) (by kernel_rfl) rfl (by kernel_rfl) (by kernel_rfl) (by kernel_rfl) (fun _ _ _ h => h) (Or.inl ⟨by rfl, ?_⟩) hHeld ?_
      rotate_left
      · (intro w hSw; (try dsimp only at hSw); go_simp; try with_reducible rfl)
      try simp only [Act.put, List.setIfInBounds_toArray, List.set_cons_zero, List.set_cons_succ, List.getElem_toArray, List.getElem_cons_zero]
      refine wpAnyL_take [23, 24] (i := 1) (v := ?_) (by kernel_rfl) (by kernel_rfl) (by kernel_rfl) rfl (by kernel_rfl) (by kernel_rfl) (by kernel_rfl) (fun _ _ _ h => h) (Or.inl ⟨by rfl, ?_⟩) hHeld ?_
      rotate_left
      · (intro w hSw; (try dsimp only at hSw); go_simp; try with_reducible rfl)
      try simp only [Act.put, List.setIfInBounds_toArray, List.set_cons_zero, List.set_cons_succ, List.getElem_toArray, List.getElem_cons_zero, List.getElem_cons_succ]
      refine wpAnyL_take [22, 23, 24] (i := 21) (v := ?_) (by kernel_rfl) (by kernel_rfl) (by kernel_rfl) rfl (by kernel_rfl) (by kernel_rfl) (by kernel_rfl) (fun _ _ _ h => h) (Or.inl ⟨by rfl, ?_⟩) hHeld ?_
      rotate_left
      · (intro w hSw; (try dsimp only at hSw); go_simp; try with_reducible rfl)
      try simp only [Act.put, List.setIfInBounds_toArray, List.set_cons_zero, List.set_cons_succ, List.getElem_toArray, List.getElem_cons_zero, List.getElem_cons_succ]
      refine wpAnyL_take [23, 24] (i := 22) (v := ?_) (by kernel_rfl) (by kernel_rfl) (by kernel_rfl) rfl (by kernel_rfl) (by kernel_rfl) (by kernel_rfl) (fun _ _ _ h => h) (Or.inl ⟨by rfl, ?_⟩) hHeld ?_
      rotate_left
      · (intro w hSw; (try dsimp only at hSw); go_simp; try with_reducible rfl)
      try simp only [Act.put, List.setIfInBounds_toArray, List.set_cons_zero, List.set_cons_succ, List.getElem_toArray, List.getElem_cons_zero, List.getElem_cons_succ]
      refine wpAnyL_true (S := (fun X => X.cell? ⟨c, 1, none⟩ = some (.slice (some ⟨g1, 0, none⟩) k vc) ∧ X.cell? ⟨g1, j, none⟩ = some (.slice a1 n1 d1))) (E := [20, 23, 24]) _ _ _ _ ?_
      replace hHeld := HSd.out
      refine wpAnyL_take [4, 5, 6, 7, 20, 23, 24] (i := 2) (v := ?_) (by kernel_rfl) (by kernel_rfl) (by kernel_rfl) rfl (by kernel_rfl) (by kernel_rfl) (by kernel_rfl) (fun _ _ _ h => h) (Or.inl ⟨by rfl, ?_⟩) hHeld ?_
      rotate_left
      · (intro w hSw; (try dsimp only at hSw); obtain ⟨s0, s1⟩ := hSw; go_simp; try with_reducible rfl)
      try simp only [Act.put, List.setIfInBounds_toArray, List.set_cons_zero, List.set_cons_succ, List.getElem_toArray, List.getElem_cons_zero, List.getElem_cons_succ]
      refine wpAnyL_take [6, 7, 20, 23, 24] (i := 3) (v := ?_) (by kernel_rfl) (by kernel_rfl) (by kernel_rfl) rfl (by kernel_rfl) (by kernel_rfl) (by kernel_rfl) (fun _ _ _ h => h) (Or.inl ⟨by rfl, ?_⟩) hHeld ?_
      rotate_left
      · (intro w hSw; (try dsimp only at hSw); obtain ⟨s0, s1⟩ := hSw; go_simp; try with_reducible rfl)
      try simp only [Act.put, List.setIfInBounds_toArray, List.set_cons_zero, List.set_cons_succ, List.getElem_toArray, List.getElem_cons_zero, List.getElem_cons_succ]
      refine wpAnyL_take [5, 6, 7, 20, 23, 24] (i := 4) (v := ?_) (by kernel_rfl) (by kernel_rfl) (by kernel_rfl) rfl (by kernel_rfl) (by kernel_rfl) (by kernel_rfl) (fun _ _ _ h => h) (Or.inl ⟨by rfl, ?_⟩) hHeld ?_
      rotate_left
      · (intro w hSw; (try dsimp only at hSw); obtain ⟨s0, s1⟩ := hSw; go_simp; try with_reducible rfl)
      try simp only [Act.put, List.setIfInBounds_toArray, List.set_cons_zero, List.set_cons_succ, List.getElem_toArray, List.getElem_cons_zero, List.getElem_cons_succ]
      refine wpAnyL_take [6, 7, 20, 23, 24] (i := 5) (v := ?_) (by kernel_rfl) (by kernel_rfl) (by kernel_rfl) rfl (by kernel_rfl) (by kernel_rfl) (by kernel_rfl) (fun _ _ _ h => h) (Or.inl ⟨by rfl, ?_⟩) hHeld ?_
      rotate_left
      · (intro w hSw; (try dsimp only at hSw); obtain ⟨s0, s1⟩ := hSw; go_simp; try with_reducible rfl)
      try simp only [Act.put, List.setIfInBounds_toArray, List.set_cons_zero, List.set_cons_succ, List.getElem_toArray, List.getElem_cons_zero, List.getElem_cons_succ]
      refine wpAnyL_take [7, 20, 23, 24] (i := 6) (v := ?_) (by kernel_rfl) (by kernel_rfl) (by kernel_rfl) rfl (by kernel_rfl) (by kernel_rfl) (by kernel_rfl) (fun _ _ _ h => h) (Or.inl ⟨by rfl, ?_⟩) hHeld ?_
      rotate_left
      · (intro w hSw; (try dsimp only at hSw); obtain ⟨s0, s1⟩ := hSw; go_simp; try with_reducible rfl)
      try simp only [Act.put, List.setIfInBounds_toArray, List.set_cons_zero, List.set_cons_succ, List.getElem_toArray, List.getElem_cons_zero, List.getElem_cons_succ]
      refine wpAnyL_take [20, 23, 24] (i := 7) (v := ?_) (by kernel_rfl) (by kernel_rfl) (by kernel_rfl) rfl (by kernel_rfl) (by kernel_rfl) (by kernel_rfl) (fun _ _ _ h => h) (Or.inl ⟨by rfl, ?_⟩) hHeld ?_
      rotate_left
      · (intro w hSw; (try dsimp only at hSw); obtain ⟨s0, s1⟩ := hSw; go_simp; try with_reducible rfl)
      try simp only [Act.put, List.setIfInBounds_toArray, List.set_cons_zero, List.set_cons_succ, List.getElem_toArray, List.getElem_cons_zero, List.getElem_cons_succ]
      refine wpAnyL_take [11, 12, 13, 14, 16, 17, 18, 19, 20, 23, 24] (i := 9) (v := ?_) (by kernel_rfl) (by kernel_rfl) (by kernel_rfl) rfl (by kernel_rfl) (by kernel_rfl) (by kernel_rfl) (fun _ _ _ h => h) (Or.inl ⟨by rfl, ?_⟩) hHeld ?_
      rotate_left
      · (intro w hSw; (try dsimp only at hSw); obtain ⟨s0, s1⟩ := hSw; go_simp; try with_reducible rfl)
      try simp only [Act.put, List.setIfInBounds_toArray, List.set_cons_zero, List.set_cons_succ, List.getElem_toArray, List.getElem_cons_zero, List.getElem_cons_succ]
      refine wpAnyL_take [13, 14, 16, 17, 18, 19, 20, 23, 24] (i := 10) (v := ?_) (by kernel_rfl) (by kernel_rfl) (by kernel_rfl) rfl (by kernel_rfl) (by kernel_rfl) (by kernel_rfl) (fun _ _ _ h => h) (Or.inl ⟨by rfl, ?_⟩) hHeld ?_
      rotate_left
      · (intro w hSw; (try dsimp only at hSw); obtain ⟨s0, s1⟩ := hSw; go_simp; try with_reducible rfl)
      try simp only [Act.put, List.setIfInBounds_toArray, List.set_cons_zero, List.set_cons_succ, List.getElem_toArray, List.getElem_cons_zero, List.getElem_cons_succ]
      refine wpAnyL_take [12, 13, 14, 16, 17, 18, 19, 20, 23, 24] (i := 11) (v := ?_) (by kernel_rfl) (by kernel_rfl) (by kernel_rfl) rfl (by kernel_rfl) (by kernel_rfl) (by kernel_rfl) (fun _ _ _ h => h) (Or.inl ⟨by rfl, ?_⟩) hHeld ?_
      rotate_left
      · (intro w hSw; (try dsimp only at hSw); obtain ⟨s0, s1⟩ := hSw; go_simp; try with_reducible rfl)
      try simp only [Act.put, List.setIfInBounds_toArray, List.set_cons_zero, List.set_cons_succ, List.getElem_toArray, List.getElem_cons_zero, List.getElem_cons_succ]
      refine wpAnyL_take [13, 14, 16, 17, 18, 19, 20, 23, 24] (i := 12) (v := ?_) (by kernel_rfl) (by kernel_rfl) (by kernel_rfl) rfl (by kernel_rfl) (by kernel_rfl) (by kernel_rfl) (fun _ _ _ h => h) (Or.inl ⟨by rfl, ?_⟩) hHeld ?_
      rotate_left
      · (intro w hSw; (try dsimp only at hSw); obtain ⟨s0, s1⟩ := hSw; go_simp; try with_reducible rfl)
      try simp only [Act.put, List.setIfInBounds_toArray, List.set_cons_zero, List.set_cons_succ, List.getElem_toArray, List.getElem_cons_zero, List.getElem_cons_succ]
      refine wpAnyL_take [14, 16, 17, 18, 19, 20, 23, 24] (i := 13) (v := ?_) (by kernel_rfl) (by kernel_rfl) (by kernel_rfl) rfl (by kernel_rfl) (by kernel_rfl) (by kernel_rfl) (fun _ _ _ h => h) (Or.inl ⟨by rfl, ?_⟩) hHeld ?_
      rotate_left
      · (intro w hSw; (try dsimp only at hSw); obtain ⟨s0, s1⟩ := hSw; go_simp; try with_reducible rfl)
      try simp only [Act.put, List.setIfInBounds_toArray, List.set_cons_zero, List.set_cons_succ, List.getElem_toArray, List.getElem_cons_zero, List.getElem_cons_succ]
      refine wpAnyL_take [16, 17, 18, 19, 20, 23, 24] (i := 14) (v := ?_) (by kernel_rfl) (by kernel_rfl) (by kernel_rfl) rfl (by kernel_rfl) (by kernel_rfl) (by kernel_rfl) (fun _ _ _ h => h) (Or.inl ⟨by rfl, ?_⟩) hHeld ?_
      rotate_left
      · (intro w hSw; (try dsimp only at hSw); obtain ⟨s0, s1⟩ := hSw; go_simp; try with_reducible rfl)
      try simp only [Act.put, List.setIfInBounds_toArray, List.set_cons_zero, List.set_cons_succ, List.getElem_toArray, List.getElem_cons_zero, List.getElem_cons_succ]
      refine wpAnyL_take [16, 17, 18, 19, 20, 23, 24] (i := 15) (v := ?_) (by kernel_rfl) (by kernel_rfl) (by kernel_rfl) rfl (by kernel_rfl) (by kernel_rfl) (by kernel_rfl) (fun _ _ _ h => h) (Or.inl ⟨by rfl, ?_⟩) hHeld ?_
      rotate_left
      · (intro w hSw; (try dsimp only at hSw); obtain ⟨s0, s1⟩ := hSw; go_simp; try with_reducible rfl)
      try simp only [Act.put, List.setIfInBounds_toArray, List.set_cons_zero, List.set_cons_succ, List.getElem_toArray, List.getElem_cons_zero, List.getElem_cons_succ]
      refine wpAnyL_take [17, 18, 19, 20, 23, 24] (i := 16) (v := ?_) (by kernel_rfl) (by kernel_rfl) (by kernel_rfl) rfl (by kernel_rfl) (by kernel_rfl) (by kernel_rfl) (fun _ _ _ h => h) (Or.inl ⟨by rfl, ?_⟩) hHeld ?_
      rotate_left
      · (intro w hSw; (try dsimp only at hSw); obtain ⟨s0, s1⟩ := hSw; go_simp; try with_reducible rfl)
      try simp only [Act.put, List.setIfInBounds_toArray, List.set_cons_zero, List.set_cons_succ, List.getElem_toArray, List.getElem_cons_zero, List.getElem_cons_succ]
      refine wpAnyL_take [18, 19, 20, 23, 24] (i := 17) (v := ?_) (by kernel_rfl) (by kernel_rfl) (by kernel_rfl) rfl (by kernel_rfl) (by kernel_rfl) (by kernel_rfl) (fun _ _ _ h => h) (Or.inl ⟨by rfl, ?_⟩) hHeld ?_
      rotate_left
      · (intro w hSw; (try dsimp only at hSw); obtain ⟨s0, s1⟩ := hSw; go_simp; try with_reducible rfl)
      try simp only [Act.put, List.setIfInBounds_toArray, List.set_cons_zero, List.set_cons_succ, List.getElem_toArray, List.getElem_cons_zero, List.getElem_cons_succ]
      refine wpAnyL_one (i := 8) (by kernel_rfl) rfl (fun K hK => ?_)
      go_simp
      have s8 : (fun X => X.cell? ⟨c, 1, none⟩ = some (.slice (some ⟨g1, 0, none⟩) k vc) ∧ X.cell? ⟨g1, j, none⟩ = some (.slice a1 n1 d1)) (w1.drew.alloc (.cells #[] 5)) := ⟨cellK hHeld.1 (alloc_below _ _), cellK hHeld.2 (alloc_below _ _)⟩
      refine hK.out _ _ (fun _ => s8) ?_
      replace hHeld := s8
      clear hK K
      try simp only [Act.put, List.setIfInBounds_toArray, List.set_cons_zero, List.set_cons_succ, List.getElem_toArray, List.getElem_cons_zero, List.getElem_cons_succ]
      refine wpAnyL_one (i := 18) (by kernel_rfl) rfl (fun K hK => ?_)
      refine step_clone B rfl _ _ rfl _ rfl rfl a1 n1 d1 f rfl HFr.out.1 HFr.out.2.1 HFr.out.2.2 (fun v5 w5 hc5 => ?_)
      have HC5 : Hid (Cln B w1.drew w5 v5 f) := hc5
      have s10 : (fun X => X.cell? ⟨c, 1, none⟩ = some (.slice (some ⟨g1, 0, none⟩) k vc) ∧ X.cell? ⟨g1, j, none⟩ = some (.slice a1 n1 d1)) w5 := ⟨cellK HSd.out.1 hc5.bel, cellK HSd.out.2 hc5.bel⟩
      obtain ⟨a5, c5, hv5, _, _⟩ := id hc5.pc.1
      subst hv5
      clear hc5
      refine hK.out _ _ (fun _ => s10) ?_
      replace hHeld := s10
      clear hK K
      try simp only [Act.put, List.setIfInBounds_toArray, List.set_cons_zero, List.set_cons_succ, List.getElem_toArray, List.getElem_cons_zero, List.getElem_cons_succ]
      refine wpAnyL_one (i := 19) (by kernel_rfl) rfl (fun K hK => ?_)
      go_simp
      have s11 : (fun X => X.cell? ⟨c, 1, none⟩ = some (.slice (some ⟨g1, 0, none⟩) k vc) ∧ X.cell? ⟨g1, j, none⟩ = some (.slice a1 n1 d1)) (w5.alloc (.cells #[.slice a5 f.length c5] 37)) := ⟨cellK hHeld.1 (alloc_below _ _), cellK hHeld.2 (alloc_below _ _)⟩
      refine hK.out _ _ (fun _ => s11) ?_
      replace hHeld := s11
      clear hK K
      try simp only [Act.put, List.setIfInBounds_toArray, List.set_cons_zero, List.set_cons_succ, List.getElem_toArray, List.getElem_cons_zero, List.getElem_cons_succ]
      refine wpAnyL_one (i := 20) (by kernel_rfl) rfl (fun K hK => ?_)
      have hB5 : B ≤ w5.heap.size := Nat.le_trans HBd.out.1 HC5.out.bel.size
      refine step_row1 rfl _ _ rfl (.slice (some ⟨g1, 0, none⟩) k vc) (s.sel false) rfl ((HBd.out.2.2.1).over HBd.out.1 HC5.out.bel) (.slice a5 f.length c5) f HC5.out.pc _ rfl rfl (by have := HBd.out.2.2.2; have := HKk.out; omega) hB5 (fun v6 w6 ha6 => ?_)
      have ha7 : ApT B w1.drew w6 (.slice (some ⟨g1, 0, none⟩) k vc) v6 (s.sel false ++ [f]) := ⟨ha6.row, ha6.os.trans HC5.out.bel.os, ha6.tape.trans HC5.out.bel.tape, ha6.output.trans HC5.out.bel.output, Nat.le_trans HC5.out.bel.size ha6.size,
        fun i hi hne => (ha6.block i (Nat.lt_of_lt_of_le hi HC5.out.bel.size) hne).trans (HC5.out.bel.block i hi), by
          rcases ha6.own with e | ⟨g, e, hg⟩
          · exact .inl e
          · exact .inr ⟨g, e, Nat.le_trans HC5.out.bel.size hg⟩⟩
      obtain ⟨q1, q2, q3, q4⟩ := HPut.out w6 v6 _ ha7.w
      have HQ : Hid (RfV 35 B (w6.setCell ⟨c, 1, none⟩ v6) c (s.put false (s.sel false ++ [f])) ∧ Sk [37, 35] B w1.drew (w6.setCell ⟨c, 1, none⟩ v6)) := ⟨q3, q4⟩
      obtain ⟨a6, c6, hv6, _⟩ := ha6.row.slice
      rw [List.length_append, List.length_singleton, HKk.out] at hv6
      subst hv6
      clear ha6 ha7 q3 q4 hB5
      refine hK.out _ _ (fun h => by cases h) ?_
      clear hK K
      try simp only [Act.put, List.setIfInBounds_toArray, List.set_cons_zero, List.set_cons_succ, List.getElem_toArray, List.getElem_cons_zero, List.getElem_cons_succ]
      refine wpAnyL_one (i := 23) (by kernel_rfl) rfl (fun K hK => ?_)
      have q5 := q1
      go_simp
      refine hK.out _ _ (fun h => by cases h) ?_
      clear hK K
      try simp only [Act.put, List.setIfInBounds_toArray, List.set_cons_zero, List.set_cons_succ, List.getElem_toArray, List.getElem_cons_zero, List.getElem_cons_succ]
      refine wpAnyL_one (i := 24) (by kernel_rfl) rfl (fun K hK => ?_)
      have q5 := q2
      go_simp
      refine hK.out _ _ (fun h => by cases h) ?_
      clear hK K
      try simp only [Act.put, List.setIfInBounds_toArray, List.set_cons_zero, List.set_cons_succ, List.getElem_toArray, List.getElem_cons_zero, List.getElem_cons_succ]
      refine wpAnyL_done (by kernel_rfl) ?_ _
      go_wp2
      go_ret
      refine ⟨rfl, ?_, Sk.mono (M := [35, 37]) (HSk0.out.trans HQ.out.2) (by simp)⟩
      rw [HE.out]
      exact HQ.out.1

end Go.Proofs.Ytljceoojbppaeaa
