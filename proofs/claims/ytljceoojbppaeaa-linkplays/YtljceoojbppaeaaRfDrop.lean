/-
  The document's Drop.
-/
import Derived.Test.YtljceoojbppaeaaRfTake
namespace Go.Proofs.Ytljceoojbppaeaa
open Go.RowKit D

theorem where_no {B c : Nat} {s : Lk} {w : World} (h : RfV 35 B w c s) (ho : s.ok) {n : Int} (hn : n < 9223372036854775808) (hq : s.has n = false) :
    Calls Try.prog 33 #[.pointer (some ⟨c, 0, none⟩), .int .i64 n] w fun e w' => e = .returned (.tuple #[.int .i64 0, .int .i64 0, .bool false]) ∧ Below w.heap.size w w' := by
  have h1 := where_any B c s w h ho n hn
  unfold Lk.whereV at h1
  rw [hq, if_neg (by decide)] at h1
  exact h1
theorem where_to {B c : Nat} {s : Lk} {w : World} (h : RfV 35 B w c s) (ho : s.ok) {n : Int} (hn : n < 9223372036854775808) (hq : s.has n = true) {up : Bool} (hup : s.way n = up) : ∃ j : Nat, s.at n = (j : Int) ∧ j < (s.sel up).length ∧
    Calls Try.prog 33 #[.pointer (some ⟨c, 0, none⟩), .int .i64 n] w fun e w' => e = .returned (.tuple #[.int .i64 (if up then 0 else 1), .int .i64 j, .bool true]) ∧ Below w.heap.size w w' := by
  have h1 := where_any B c s w h ho n hn
  unfold Lk.whereV at h1
  rw [hq, if_pos rfl, hup] at h1
  have h2 := hasN_lt hq
  rw [hup] at h2
  refine ⟨(s.at n).toNat, by omega, h2.2, ?_⟩
  rw [show (((s.at n).toNat : Nat) : Int) = s.at n by omega]
  cases up <;> exact h1
set_option maxRecDepth 8000 in
set_option maxHeartbeats 8000000 in
theorem refDrop_any (B c : Nat) (s : Lk) (n : Int) (w : World) (h : RfV 35 B w c s) (ho : s.ok) (hB : B ≤ w.heap.size) (hn : n < 9223372036854775808) :
    Calls Try.prog 21 #[.pointer (some ⟨c, 0, none⟩), .int .i64 n] w fun e w' => e = .returned (.bool (s.has n)) ∧ RfV 35 B w' c (s.drop n) ∧ Sk [35, 37] B w w' := by
  cases hq : s.has n with
  | false =>
    have hw0 := where_no h ho hn hq
    have HF : Hid (RfV 35 B w c s ∧ B ≤ w.heap.size) := ⟨h, hB⟩
    have HE : Hid (s.drop n = s) := take_none hq
    clear h hq hB
    rw [HE.out]
    go_enter Try.func21, Try.ntmps21
    go_wp2_with (go_at_call 33; refine hw0.mono ?_; rintro e w1 ⟨rfl, hb1⟩)
    go_ret
    exact ⟨rfl, HF.out.1.over HF.out.2 hb1, sk_below hb1 HF.out.2⟩
  | true =>
    rw [← hq]
    cases hup : s.way n with
    | true =>
      obtain ⟨j, hj, hjl, hw0⟩ := where_to h ho hn hq (up := true) hup
      have hk64 : ((s.sel true).length : Int) ≤ 64 := by have := (Lk.ok_sel ho true).1; omega
      have HNl : Hid (j < (s.sel true).length ∧ (s.sel true).length ≤ 100) := ⟨hjl, by omega⟩
      have HF : Hid (RfV 35 B w c s) := h
      have HBw : Hid (B ≤ w.heap.size) := hB
      have HJ : Hid (s.at n = (j : Int) ∧ s.way n = true ∧ s.has n = true ∧ j < (s.sel true).length) := ⟨hj, hup, hq, hjl⟩
      clear h hj hup hq hB hjl
      have HE : Hid (s.drop n = s.put true ((s.sel true).eraseIdx j)) := by
        unfold Hid Lk.drop Lk.take
        rw [HJ.out.2.1, HJ.out.1, show hasN (s.sel true) (j : Int) = true from decide_eq_true (by have := HJ.out.2.2.2; omega), if_pos rfl, Int.toNat_natCast]
      rw [HJ.out.2.2.1]
      generalize s.drop n = s' at *
      go_enter Try.func21, Try.ntmps21
      go_upto_region 2 with (go_at_call 33; refine hw0.mono ?_; rintro e w1 ⟨rfl, hb1⟩)
      have HFd : Hid (RfV 35 B w1.drew c s) := (HF.out.over HBw.out hb1).over (Nat.le_trans HBw.out hb1.size) (Below.refl _ _).drew
      have HBs : Hid (B ≤ w1.drew.heap.size) := Nat.le_trans HBw.out hb1.size
      have HSk0 : Hid (Sk [37, 35] B w w1.drew) := sk_below hb1.drew HBw.out
      obtain ⟨vx, xx, rx, _⟩ := HFd.out.selW HBs.out (by decide) (by decide) true
      change w1.drew.cell? ⟨c, 0, none⟩ = some vx at xx
      obtain ⟨va, vc, hvx, _⟩ := rx.slice
      subst hvx
      have HX0 : Hid (w1.drew.cell? ⟨c, 0, none⟩ = some (.slice va (s.sel true).length vc)) := xx
      clear rx xx hb1
      obtain ⟨vd, xd, rd, hputd⟩ := HFd.out.selW HBs.out (by decide) (by decide) true
      change w1.drew.cell? ⟨c, 0, none⟩ = some vd at xd
      have hvd : vd = .slice va (s.sel true).length vc := by
        have h1 := HX0.out
        rw [xd] at h1
        injection h1
      subst hvd
      have HPut : Hid (∀ (W1 : World) (v' : Value) (l : List (List Int)), ApW B w1.drew W1 (.slice va (s.sel true).length vc) v' l → W1.cell? ⟨c, 0, none⟩ = some (.slice va (s.sel true).length vc) ∧ W1.frozen? ⟨c, 0, none⟩ = false ∧ RfV 35 B (W1.setCell ⟨c, 0, none⟩ v') c (s.put true l) ∧ Sk [37, 35] B w1.drew (W1.setCell ⟨c, 0, none⟩ v')) := hputd
      have HBd : Hid (B ≤ w1.drew.heap.size ∧ j < (s.sel true).length ∧ RowS B w1.drew (.slice va (s.sel true).length vc) (s.sel true) ∧ (s.sel true).length ≤ 100) := ⟨HBs.out, HNl.out.1, rd, HNl.out.2⟩
      have HSd : Hid (w1.drew.cell? ⟨c, 0, none⟩ = some (.slice va (s.sel true).length vc)) := xd
      clear xd rd hputd
      clear HFd HX0
      go_upto_region 3 with fail
      generalize hk : (s.sel true).length = k at *
      have HKk : Hid ((s.sel true).length = k) := hk
      clear hk hw0
      refine wp_region_late (E := [13]) (S := (fun X => X.cell? ⟨c, 0, none⟩ = some (.slice va k vc))) (by kernel_rfl) (HSd.out) (fun hHeld => ?_)
      simp only [List.size_toArray, List.length_cons, List.length_nil, Nat.reduceAdd]
      refine wpAnyL_take [10, 11, 12, 13] (i := 0) (v := ?_) (by kernel_rfl) (by kernel_rfl) (by kernel_rfl) rfl (by kernel_rfl) (by kernel_rfl) (by kernel_rfl) (fun _ _ _ h => h) (Or.inl ⟨by rfl, ?_⟩) hHeld ?_
      rotate_left
      · (intro w hSw; (try dsimp only at hSw); go_simp; try with_reducible rfl)
      try simp only [Act.put, List.setIfInBounds_toArray, List.set_cons_zero, List.set_cons_succ, List.getElem_toArray, List.getElem_cons_zero]
      refine wpAnyL_take [12, 13] (i := 1) (v := ?_) (by kernel_rfl) (by kernel_rfl) (by kernel_rfl) rfl (by kernel_rfl) (by kernel_rfl) (by kernel_rfl) (fun _ _ _ h => h) (Or.inl ⟨by rfl, ?_⟩) hHeld ?_
      rotate_left
      · (intro w hSw; (try dsimp only at hSw); go_simp; try with_reducible rfl)
      try simp only [Act.put, List.setIfInBounds_toArray, List.set_cons_zero, List.set_cons_succ, List.getElem_toArray, List.getElem_cons_zero, List.getElem_cons_succ]
      refine wpAnyL_take [4, 5, 6, 7, 9, 13] (i := 2) (v := ?_) (by kernel_rfl) (by kernel_rfl) (by kernel_rfl) rfl (by kernel_rfl) (by kernel_rfl) (by kernel_rfl) (fun _ _ _ h => h) (Or.inl ⟨by rfl, ?_⟩) hHeld ?_
      rotate_left
      · (intro w hSw; (try dsimp only at hSw); go_simp; try with_reducible rfl)
      try simp only [Act.put, List.setIfInBounds_toArray, List.set_cons_zero, List.set_cons_succ, List.getElem_toArray, List.getElem_cons_zero, List.getElem_cons_succ]
      refine wpAnyL_take [6, 7, 9, 13] (i := 3) (v := ?_) (by kernel_rfl) (by kernel_rfl) (by kernel_rfl) rfl (by kernel_rfl) (by kernel_rfl) (by kernel_rfl) (fun _ _ _ h => h) (Or.inl ⟨by rfl, ?_⟩) hHeld ?_
      rotate_left
      · (intro w hSw; (try dsimp only at hSw); go_simp; try with_reducible rfl)
      try simp only [Act.put, List.setIfInBounds_toArray, List.set_cons_zero, List.set_cons_succ, List.getElem_toArray, List.getElem_cons_zero, List.getElem_cons_succ]
      refine wpAnyL_take [5, 6, 7, 9, 13] (i := 4) (v := ?_) (by kernel_rfl) (by kernel_rfl) (by kernel_rfl) rfl (by kernel_rfl) (by kernel_rfl) (by kernel_rfl) (fun _ _ _ h => h) (Or.inl ⟨by rfl, ?_⟩) hHeld ?_
      rotate_left
      · (intro w hSw; (try dsimp only at hSw); go_simp; try with_reducible rfl)
      try simp only [Act.put, List.setIfInBounds_toArray, List.set_cons_zero, List.set_cons_succ, List.getElem_toArray, List.getElem_cons_zero, List.getElem_cons_succ]
      refine wpAnyL_take [6, 7, 9, 13] (i := 5) (v := ?_) (by kernel_rfl) (by kernel_rfl) (by kernel_rfl) rfl (by kernel_rfl) (by kernel_rfl) (by kernel_rfl) (fun _ _ _ h => h) (Or.inl ⟨by rfl, ?_⟩) hHeld ?_
      rotate_left
      · (intro w hSw; (try dsimp only at hSw); go_simp; try with_reducible rfl)
      try simp only [Act.put, List.setIfInBounds_toArray, List.set_cons_zero, List.set_cons_succ, List.getElem_toArray, List.getElem_cons_zero, List.getElem_cons_succ]
      refine wpAnyL_take [7, 9, 13] (i := 6) (v := ?_) (by kernel_rfl) (by kernel_rfl) (by kernel_rfl) rfl (by kernel_rfl) (by kernel_rfl) (by kernel_rfl) (fun _ _ _ h => h) (Or.inl ⟨by rfl, ?_⟩) hHeld ?_
      rotate_left
      · (intro w hSw; (try dsimp only at hSw); go_simp; try with_reducible rfl)
      try simp only [Act.put, List.setIfInBounds_toArray, List.set_cons_zero, List.set_cons_succ, List.getElem_toArray, List.getElem_cons_zero, List.getElem_cons_succ]
      refine wpAnyL_take [9, 13] (i := 7) (v := ?_) (by kernel_rfl) (by kernel_rfl) (by kernel_rfl) rfl (by kernel_rfl) (by kernel_rfl) (by kernel_rfl) (fun _ _ _ h => h) (Or.inl ⟨by rfl, ?_⟩) hHeld ?_
      rotate_left
      · (intro w hSw; (try dsimp only at hSw); go_simp; try with_reducible rfl)
      try simp only [Act.put, List.setIfInBounds_toArray, List.set_cons_zero, List.set_cons_succ, List.getElem_toArray, List.getElem_cons_zero, List.getElem_cons_succ]
      refine wpAnyL_take [9, 13] (i := 8) (v := ?_) (by kernel_rfl) (by kernel_rfl) (by kernel_rfl) rfl (by kernel_rfl) (by kernel_rfl) (by kernel_rfl) (fun _ _ _ h => h) (Or.inl ⟨by rfl, ?_⟩) hHeld ?_
      rotate_left
      · (intro w hSw; (try dsimp only at hSw); go_simp; try with_reducible rfl)
      try simp only [Act.put, List.setIfInBounds_toArray, List.set_cons_zero, List.set_cons_succ, List.getElem_toArray, List.getElem_cons_zero, List.getElem_cons_succ]
      refine wpAnyL_take [11, 12, 13] (i := 10) (v := ?_) (by kernel_rfl) (by kernel_rfl) (by kernel_rfl) rfl (by kernel_rfl) (by kernel_rfl) (by kernel_rfl) (fun _ _ _ h => h) (Or.inl ⟨by rfl, ?_⟩) hHeld ?_
      rotate_left
      · (intro w hSw; (try dsimp only at hSw); go_simp; try with_reducible rfl)
      try simp only [Act.put, List.setIfInBounds_toArray, List.set_cons_zero, List.set_cons_succ, List.getElem_toArray, List.getElem_cons_zero, List.getElem_cons_succ]
      refine wpAnyL_take [12, 13] (i := 11) (v := ?_) (by kernel_rfl) (by kernel_rfl) (by kernel_rfl) rfl (by kernel_rfl) (by kernel_rfl) (by kernel_rfl) (fun _ _ _ h => h) (Or.inl ⟨by rfl, ?_⟩) hHeld ?_
      rotate_left
      · (intro w hSw; (try dsimp only at hSw); go_simp; try with_reducible rfl)
      try simp only [Act.put, List.setIfInBounds_toArray, List.set_cons_zero, List.set_cons_succ, List.getElem_toArray, List.getElem_cons_zero, List.getElem_cons_succ]
      refine wpAnyL_one (i := 9) (by kernel_rfl) rfl (fun K hK => ?_)
      go_simp
      go_at_call 32
      refine (cut_any B w1.drew _ (s.sel true) j HBd.out.2.2.1 (by rw [HKk.out]; exact HBd.out.2.1) (by rw [HKk.out]; exact HBd.out.2.2.2) HBd.out.1).mono ?_
      rintro e w5 ⟨v5, rfl, r5, n5, b5⟩
      have ha7 : ApW B w1.drew w5 (.slice va k vc) v5 ((s.sel true).eraseIdx j) := apw_new r5 n5 b5
      obtain ⟨q1, q2, q3, q4⟩ := HPut.out w5 v5 _ ha7
      have HQ : Hid (RfV 35 B (w5.setCell ⟨c, 0, none⟩ v5) c (s.put true ((s.sel true).eraseIdx j)) ∧ Sk [37, 35] B w1.drew (w5.setCell ⟨c, 0, none⟩ v5) ∧ Below w1.drew.heap.size w1.drew w5) := ⟨q3, q4, b5⟩
      have s9 : (fun X => X.cell? ⟨c, 0, none⟩ = some (.slice va k vc)) w5 := q1
      obtain ⟨a5, c5, hv5, _⟩ := r5.slice
      subst hv5
      clear ha7 q1 q3 q4 r5 n5 b5
      refine hK.out _ _ (fun _ => s9) ?_
      replace hHeld := s9
      clear hK K
      try simp only [Act.put, List.setIfInBounds_toArray, List.set_cons_zero, List.set_cons_succ, List.getElem_toArray, List.getElem_cons_zero, List.getElem_cons_succ]
      refine wpAnyL_take [13] (i := 12) (v := ?_) (by kernel_rfl) (by kernel_rfl) (by kernel_rfl) rfl (by kernel_rfl) (by kernel_rfl) (by kernel_rfl) (fun _ _ _ h => h) (Or.inl ⟨by rfl, ?_⟩) hHeld ?_
      rotate_left
      · (intro w hSw; (try dsimp only at hSw); go_simp; try with_reducible rfl)
      try simp only [Act.put, List.setIfInBounds_toArray, List.set_cons_zero, List.set_cons_succ, List.getElem_toArray, List.getElem_cons_zero, List.getElem_cons_succ]
      refine wpAnyL_one (i := 13) (by kernel_rfl) rfl (fun K hK => ?_)
      try dsimp only at hHeld
      go_simp
      refine hK.out _ _ (fun h => by cases h) ?_
      clear hK K
      try simp only [Act.put, List.setIfInBounds_toArray, List.set_cons_zero, List.set_cons_succ, List.getElem_toArray, List.getElem_cons_zero, List.getElem_cons_succ]
      refine wpAnyL_done (by kernel_rfl) ?_ _
      go_wp2
      go_ret
      have hsk : Sk [37, 35] B w (w5.setCell ⟨c, 0, none⟩ (.slice a5 ((s.sel true).eraseIdx j).length c5)) := HSk0.out.trans HQ.out.2.1
      refine ⟨rfl, ?_, Sk.mono (M := [35, 37]) hsk (by simp)⟩
      rw [HE.out]
      exact HQ.out.1
    | false =>
      obtain ⟨j, hj, hjl, hw0⟩ := where_to h ho hn hq (up := false) hup
      have hk64 : ((s.sel false).length : Int) ≤ 64 := by have := (Lk.ok_sel ho false).1; omega
      have HNl : Hid (j < (s.sel false).length ∧ (s.sel false).length ≤ 100) := ⟨hjl, by omega⟩
      have HF : Hid (RfV 35 B w c s) := h
      have HBw : Hid (B ≤ w.heap.size) := hB
      have HJ : Hid (s.at n = (j : Int) ∧ s.way n = false ∧ s.has n = true ∧ j < (s.sel false).length) := ⟨hj, hup, hq, hjl⟩
      clear h hj hup hq hB hjl
      have HE : Hid (s.drop n = s.put false ((s.sel false).eraseIdx j)) := by
        unfold Hid Lk.drop Lk.take
        rw [HJ.out.2.1, HJ.out.1, show hasN (s.sel false) (j : Int) = true from decide_eq_true (by have := HJ.out.2.2.2; omega), if_pos rfl, Int.toNat_natCast]
      rw [HJ.out.2.2.1]
      generalize s.drop n = s' at *
      go_enter Try.func21, Try.ntmps21
      go_upto_region 2 with (go_at_call 33; refine hw0.mono ?_; rintro e w1 ⟨rfl, hb1⟩)
      have HFd : Hid (RfV 35 B w1.drew c s) := (HF.out.over HBw.out hb1).over (Nat.le_trans HBw.out hb1.size) (Below.refl _ _).drew
      have HBs : Hid (B ≤ w1.drew.heap.size) := Nat.le_trans HBw.out hb1.size
      have HSk0 : Hid (Sk [37, 35] B w w1.drew) := sk_below hb1.drew HBw.out
      obtain ⟨vx, xx, rx, _⟩ := HFd.out.selW HBs.out (by decide) (by decide) false
      change w1.drew.cell? ⟨c, 1, none⟩ = some vx at xx
      obtain ⟨va, vc, hvx, _⟩ := rx.slice
      subst hvx
      have HX0 : Hid (w1.drew.cell? ⟨c, 1, none⟩ = some (.slice va (s.sel false).length vc)) := xx
      clear rx xx hb1
      obtain ⟨vd, xd, rd, hputd⟩ := HFd.out.selW HBs.out (by decide) (by decide) false
      change w1.drew.cell? ⟨c, 1, none⟩ = some vd at xd
      have hvd : vd = .slice va (s.sel false).length vc := by
        have h1 := HX0.out
        rw [xd] at h1
        injection h1
      subst hvd
      have HPut : Hid (∀ (W1 : World) (v' : Value) (l : List (List Int)), ApW B w1.drew W1 (.slice va (s.sel false).length vc) v' l → W1.cell? ⟨c, 1, none⟩ = some (.slice va (s.sel false).length vc) ∧ W1.frozen? ⟨c, 1, none⟩ = false ∧ RfV 35 B (W1.setCell ⟨c, 1, none⟩ v') c (s.put false l) ∧ Sk [37, 35] B w1.drew (W1.setCell ⟨c, 1, none⟩ v')) := hputd
      have HBd : Hid (B ≤ w1.drew.heap.size ∧ j < (s.sel false).length ∧ RowS B w1.drew (.slice va (s.sel false).length vc) (s.sel false) ∧ (s.sel false).length ≤ 100) := ⟨HBs.out, HNl.out.1, rd, HNl.out.2⟩
      have HSd : Hid (w1.drew.cell? ⟨c, 1, none⟩ = some (.slice va (s.sel false).length vc)) := xd
      clear xd rd hputd
      clear HFd HX0
      go_upto_region 3 with fail
      generalize hk : (s.sel false).length = k at *
      have HKk : Hid ((s.sel false).length = k) := hk
      clear hk hw0
      refine wp_region_late (E := [13]) (S := (fun X => X.cell? ⟨c, 1, none⟩ = some (.slice va k vc))) (by kernel_rfl) (HSd.out) (fun hHeld => ?_)
      simp only [List.size_toArray, List.length_cons, List.length_nil, Nat.reduceAdd]
      refine wpAnyL_take [10, 11, 12, 13] (i := 0) (v := ?_) (by kernel_rfl) (by kernel_rfl) (by kernel_rfl) rfl (by kernel_rfl) (by kernel_rfl) (by kernel_rfl) (fun _ _ _ h => h) (Or.inl ⟨by rfl, ?_⟩) hHeld ?_
      rotate_left
      · (intro w hSw; (try dsimp only at hSw); go_simp; try with_reducible rfl)
      try simp only [Act.put, List.setIfInBounds_toArray, List.set_cons_zero, List.set_cons_succ, List.getElem_toArray, List.getElem_cons_zero]
      refine wpAnyL_take [12, 13] (i := 1) (v := ?_) (by kernel_rfl) (by kernel_rfl) (by kernel_rfl) rfl (by kernel_rfl) (by kernel_rfl) (by kernel_rfl) (fun _ _ _ h => h) (Or.inl ⟨by rfl, ?_⟩) hHeld ?_
      rotate_left
      · (intro w hSw; (try dsimp only at hSw); go_simp; try with_reducible rfl)
      try simp only [Act.put, List.setIfInBounds_toArray, List.set_cons_zero, List.set_cons_succ, List.getElem_toArray, List.getElem_cons_zero, List.getElem_cons_succ]
      refine wpAnyL_take [4, 5, 6, 7, 9, 13] (i := 2) (v := ?_) (by kernel_rfl) (by kernel_rfl) (by kernel_rfl) rfl (by kernel_rfl) (by kernel_rfl) (by kernel_rfl) (fun _ _ _ h => h) (Or.inl ⟨by rfl, ?_⟩) hHeld ?_
      rotate_left
      · (intro w hSw; (try dsimp only at hSw); go_simp; try with_reducible rfl)
      try simp only [Act.put, List.setIfInBounds_toArray, List.set_cons_zero, List.set_cons_succ, List.getElem_toArray, List.getElem_cons_zero, List.getElem_cons_succ]
      refine wpAnyL_take [6, 7, 9, 13] (i := 3) (v := ?_) (by kernel_rfl) (by kernel_rfl) (by kernel_rfl) rfl (by kernel_rfl) (by kernel_rfl) (by kernel_rfl) (fun _ _ _ h => h) (Or.inl ⟨by rfl, ?_⟩) hHeld ?_
      rotate_left
      · (intro w hSw; (try dsimp only at hSw); go_simp; try with_reducible rfl)
      try simp only [Act.put, List.setIfInBounds_toArray, List.set_cons_zero, List.set_cons_succ, List.getElem_toArray, List.getElem_cons_zero, List.getElem_cons_succ]
      refine wpAnyL_take [5, 6, 7, 9, 13] (i := 4) (v := ?_) (by kernel_rfl) (by kernel_rfl) (by kernel_rfl) rfl (by kernel_rfl) (by kernel_rfl) (by kernel_rfl) (fun _ _ _ h => h) (Or.inl ⟨by rfl, ?_⟩) hHeld ?_
      rotate_left
      · (intro w hSw; (try dsimp only at hSw); go_simp; try with_reducible rfl)
      try simp only [Act.put, List.setIfInBounds_toArray, List.set_cons_zero, List.set_cons_succ, List.getElem_toArray, List.getElem_cons_zero, List.getElem_cons_succ]
      refine wpAnyL_take [6, 7, 9, 13] (i := 5) (v := ?_) (by kernel_rfl) (by kernel_rfl) (by kernel_rfl) rfl (by kernel_rfl) (by kernel_rfl) (by kernel_rfl) (fun _ _ _ h => h) (Or.inl ⟨by rfl, ?_⟩) hHeld ?_
      rotate_left
      · (intro w hSw; (try dsimp only at hSw); go_simp; try with_reducible rfl)
      try simp only [Act.put, List.setIfInBounds_toArray, List.set_cons_zero, List.set_cons_succ, List.getElem_toArray, List.getElem_cons_zero, List.getElem_cons_succ]
      refine wpAnyL_take [7, 9, 13] (i := 6) (v := ?_) (by kernel_rfl) (by kernel_rfl) (by kernel_rfl) rfl (by kernel_rfl) (by kernel_rfl) (by kernel_rfl) (fun _ _ _ h => h) (Or.inl ⟨by rfl, ?_⟩) hHeld ?_
      rotate_left
      · (intro w hSw; (try dsimp only at hSw); go_simp; try with_reducible rfl)
      try simp only [Act.put, List.setIfInBounds_toArray, List.set_cons_zero, List.set_cons_succ, List.getElem_toArray, List.getElem_cons_zero, List.getElem_cons_succ]
      refine wpAnyL_take [9, 13] (i := 7) (v := ?_) (by kernel_rfl) (by kernel_rfl) (by kernel_rfl) rfl (by kernel_rfl) (by kernel_rfl) (by kernel_rfl) (fun _ _ _ h => h) (Or.inl ⟨by rfl, ?_⟩) hHeld ?_
      rotate_left
      · (intro w hSw; (try dsimp only at hSw); go_simp; try with_reducible rfl)
      try simp only [Act.put, List.setIfInBounds_toArray, List.set_cons_zero, List.set_cons_succ, List.getElem_toArray, List.getElem_cons_zero, List.getElem_cons_succ]
      refine wpAnyL_take [9, 13] (i := 8) (v := ?_) (by kernel_rfl) (by kernel_rfl) (by kernel_rfl) rfl (by kernel_rfl) (by kernel_rfl) (by kernel_rfl) (fun _ _ _ h => h) (Or.inl ⟨by rfl, ?_⟩) hHeld ?_
      rotate_left
      · (intro w hSw; (try dsimp only at hSw); go_simp; try with_reducible rfl)
      try simp only [Act.put, List.setIfInBounds_toArray, List.set_cons_zero, List.set_cons_succ, List.getElem_toArray, List.getElem_cons_zero, List.getElem_cons_succ]
      refine wpAnyL_take [11, 12, 13] (i := 10) (v := ?_) (by kernel_rfl) (by kernel_rfl) (by kernel_rfl) rfl (by kernel_rfl) (by kernel_rfl) (by kernel_rfl) (fun _ _ _ h => h) (Or.inl ⟨by rfl, ?_⟩) hHeld ?_
      rotate_left
      · (intro w hSw; (try dsimp only at hSw); go_simp; try with_reducible rfl)
      try simp only [Act.put, List.setIfInBounds_toArray, List.set_cons_zero, List.set_cons_succ, List.getElem_toArray, List.getElem_cons_zero, List.getElem_cons_succ]
      refine wpAnyL_take [12, 13] (i := 11) (v := ?_) (by kernel_rfl) (by kernel_rfl) (by kernel_rfl) rfl (by kernel_rfl) (by kernel_rfl) (by kernel_rfl) (fun _ _ _ h => h) (Or.inl ⟨by rfl, ?_⟩) hHeld ?_
      rotate_left
      · (intro w hSw; (try dsimp only at hSw); go_simp; try with_reducible rfl)
      try simp only [Act.put, List.setIfInBounds_toArray, List.set_cons_zero, List.set_cons_succ, List.getElem_toArray, List.getElem_cons_zero, List.getElem_cons_succ]
      refine wpAnyL_one (i := 9) (by kernel_rfl) rfl (fun K hK => ?_)
      go_simp
      go_at_call 32
      refine (cut_any B w1.drew _ (s.sel false) j HBd.out.2.2.1 (by rw [HKk.out]; exact HBd.out.2.1) (by rw [HKk.out]; exact HBd.out.2.2.2) HBd.out.1).mono ?_
      rintro e w5 ⟨v5, rfl, r5, n5, b5⟩
      have ha7 : ApW B w1.drew w5 (.slice va k vc) v5 ((s.sel false).eraseIdx j) := apw_new r5 n5 b5
      obtain ⟨q1, q2, q3, q4⟩ := HPut.out w5 v5 _ ha7
      have HQ : Hid (RfV 35 B (w5.setCell ⟨c, 1, none⟩ v5) c (s.put false ((s.sel false).eraseIdx j)) ∧ Sk [37, 35] B w1.drew (w5.setCell ⟨c, 1, none⟩ v5) ∧ Below w1.drew.heap.size w1.drew w5) := ⟨q3, q4, b5⟩
      have s9 : (fun X => X.cell? ⟨c, 1, none⟩ = some (.slice va k vc)) w5 := q1
      obtain ⟨a5, c5, hv5, _⟩ := r5.slice
      subst hv5
      clear ha7 q1 q3 q4 r5 n5 b5
      refine hK.out _ _ (fun _ => s9) ?_
      replace hHeld := s9
      clear hK K
      try simp only [Act.put, List.setIfInBounds_toArray, List.set_cons_zero, List.set_cons_succ, List.getElem_toArray, List.getElem_cons_zero, List.getElem_cons_succ]
      refine wpAnyL_take [13] (i := 12) (v := ?_) (by kernel_rfl) (by kernel_rfl) (by kernel_rfl) rfl (by kernel_rfl) (by kernel_rfl) (by kernel_rfl) (fun _ _ _ h => h) (Or.inl ⟨by rfl, ?_⟩) hHeld ?_
      rotate_left
      · (intro w hSw; (try dsimp only at hSw); go_simp; try with_reducible rfl)
      try simp only [Act.put, List.setIfInBounds_toArray, List.set_cons_zero, List.set_cons_succ, List.getElem_toArray, List.getElem_cons_zero, List.getElem_cons_succ]
      refine wpAnyL_one (i := 13) (by kernel_rfl) rfl (fun K hK => ?_)
      try dsimp only at hHeld
      go_simp
      refine hK.out _ _ (fun h => by cases h) ?_
      clear hK K
      try simp only [Act.put, List.setIfInBounds_toArray, List.set_cons_zero, List.set_cons_succ, List.getElem_toArray, List.getElem_cons_zero, List.getElem_cons_succ]
      refine wpAnyL_done (by kernel_rfl) ?_ _
      go_wp2
      go_ret
      have hsk : Sk [37, 35] B w (w5.setCell ⟨c, 1, none⟩ (.slice a5 ((s.sel false).eraseIdx j).length c5)) := HSk0.out.trans HQ.out.2.1
      refine ⟨rfl, ?_, Sk.mono (M := [35, 37]) hsk (by simp)⟩
      rw [HE.out]
      exact HQ.out.1

end Go.Proofs.Ytljceoojbppaeaa
