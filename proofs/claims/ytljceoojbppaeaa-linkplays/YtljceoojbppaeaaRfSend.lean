/-
  The document's Send.
-/
import Derived.Test.YtljceoojbppaeaaRfClone
import Derived.Test.YtljceoojbppaeaaLkAwk
namespace Go.Proofs.Ytljceoojbppaeaa
open Go.RowKit D

theorem refRow_true (w : World) : Calls Try.prog 31 #[.bool true] w fun e w' => e = .returned (.int .i64 0) ∧ w' = w := refRow_any true w
theorem refRow_false (w : World) : Calls Try.prog 31 #[.bool false] w fun e w' => e = .returned (.int .i64 1) ∧ w' = w := refRow_any false w
set_option maxRecDepth 8000 in
set_option maxHeartbeats 8000000 in
theorem refSend_any (B c : Nat) (s : Lk) (up : Bool) (a : Option Addr) (m cap : Nat) (f : List Int) (w : World) (h : RfV 35 B w c s) (ho : s.ok) (hb : Bs w a m f) (hB : B ≤ w.heap.size) :
    Calls Try.prog 19 #[.pointer (some ⟨c, 0, none⟩), .bool up, .slice a m cap] w fun e w' => e = .returned (.bool (maySend (s.sel up) f)) ∧ RfV 35 B w' c (s.send up f) ∧ Sk [35, 37] B w w' := by
  cases up with
  | true =>
    obtain ⟨v, x0, r0, hput⟩ := h.selW hB (by decide) (by decide) true
    change w.cell? ⟨c, 0, none⟩ = some v at x0
    obtain ⟨va, vc, rfl, _⟩ := r0.slice
    have HK : Hid ((s.sel true).length = (s.sel true).length ∧ (s.sel true).length ≤ 64 ∧ f.length = m) := ⟨rfl, (Lk.ok_sel ho true).1, hb.1⟩
    have hk64 : ((s.sel true).length : Int) ≤ 64 := by have := HK.out.2.1; omega
    have HF : Hid (RfV 35 B w c s) := h
    have HBw : Hid (Bs w a m f) := hb
    have X0 : Hid (w.cell? ⟨c, 0, none⟩ = some (.slice va (s.sel true).length vc)) := x0
    have hm := hb.1
    by_cases h64 : 64 ≤ (s.sel true).length
    · have h65 : (64 : Int) ≤ ((s.sel true).length : Int) := by omega
      have h66 : decide ((64 : Int) ≤ ((s.sel true).length : Int)) = true := decide_eq_true h65
      have HN : Hid (maySend (s.sel true) f = false) := decide_eq_false fun e => by omega
      rw [HN.out, Lk.send_no HN.out]
      clear hb hput r0 hm h HK HN HBw
      generalize (s.sel true).length = k at *
      go_enter Try.func19, Try.ntmps19
      go_wp2_with (go_at_call 31; refine (refRow_true _).mono ?_; rintro e w1 ⟨rfl, hw1⟩; subst w1)
      go_ret
      exact ⟨rfl, HF.out, Sk.refl _ _ _⟩
    have h65 : ¬ (64 : Int) ≤ ((s.sel true).length : Int) := by omega
    have h66 : decide ((64 : Int) ≤ ((s.sel true).length : Int)) = false := decide_eq_false h65
    by_cases hm0 : m = 0
    · have HN : Hid (maySend (s.sel true) f = false) := decide_eq_false fun e => by omega
      rw [HN.out, Lk.send_no HN.out]
      subst hm0
      clear hb hput r0 hm h HK HN HBw
      generalize (s.sel true).length = k at *
      go_enter Try.func19, Try.ntmps19
      go_wp2_with (go_at_call 31; refine (refRow_true _).mono ?_; rintro e w1 ⟨rfl, hw1⟩; subst w1)
      go_ret
      exact ⟨rfl, HF.out, Sk.refl _ _ _⟩
    have hm1 : ((m : Int) == 0) = false := beq_eq_false_iff_ne.2 (by omega)
    have hm2 : ¬ (m : Int) = 0 := by omega
    by_cases hm3 : 1024 < m
    · have hm4 : (1024 : Int) < (m : Int) := by omega
      have hm5 : decide ((1024 : Int) < (m : Int)) = true := decide_eq_true hm4
      have HN : Hid (maySend (s.sel true) f = false) := decide_eq_false fun e => by omega
      rw [HN.out, Lk.send_no HN.out]
      clear hb hput r0 hm h HK HN HBw
      generalize (s.sel true).length = k at *
      go_enter Try.func19, Try.ntmps19
      go_wp2_with (go_at_call 31; refine (refRow_true _).mono ?_; rintro e w1 ⟨rfl, hw1⟩; subst w1)
      go_ret
      exact ⟨rfl, HF.out, Sk.refl _ _ _⟩
    have hm4 : ¬ (1024 : Int) < (m : Int) := by omega
    have hm5 : decide ((1024 : Int) < (m : Int)) = false := decide_eq_false hm4
    have HN : Hid (maySend (s.sel true) f = true) := decide_eq_true ⟨by omega, by omega, by omega⟩
    have HE : Hid (s.send true f = s.put true (s.sel true ++ [f])) := by unfold Hid Lk.send; rw [HN.out, if_pos rfl]
    rw [HN.out]
    have HSz : Hid ((s.sel true).length < 64 ∧ B ≤ w.heap.size) := ⟨by omega, hB⟩
    have HFd : Hid (RfV 35 B w.drew c s) := h.over hB (Below.refl _ _).drew
    clear hput hb hm h x0 r0
    generalize s.send true f = s' at *
    have x0 : w.cell? ⟨c, 0, none⟩ = some (.slice va (s.sel true).length vc) := X0.out
    have HBd0 : Hid (Bs w.drew a m f) := HBw.out.below (Below.refl _ _).drew
    have hBd : B ≤ w.drew.heap.size := HSz.out.2
    obtain ⟨vd, xd, rd, hputd⟩ := HFd.out.selW hBd (by decide) (by decide) true
    change w.drew.cell? ⟨c, 0, none⟩ = some vd at xd
    have hvd : vd = .slice va (s.sel true).length vc := by
      have h1 := cellK x0 (Below.refl w.heap.size w).drew
      rw [xd] at h1
      injection h1
    subst hvd
    have HPut : Hid (∀ (w1 : World) (v' : Value) (l : List (List Int)), ApW B w.drew w1 (.slice va (s.sel true).length vc) v' l → w1.cell? ⟨c, 0, none⟩ = some (.slice va (s.sel true).length vc) ∧ w1.frozen? ⟨c, 0, none⟩ = false ∧ RfV 35 B (w1.setCell ⟨c, 0, none⟩ v') c (s.put true l) ∧ Sk [37, 35] B w.drew (w1.setCell ⟨c, 0, none⟩ v')) := hputd
    have HBd : Hid (Bs w.drew a m f ∧ B ≤ w.drew.heap.size ∧ RowS B w.drew (.slice va (s.sel true).length vc) (s.sel true) ∧ (s.sel true).length < 64) := ⟨HBd0.out, hBd, rd, HSz.out.1⟩
    have HSd : Hid (w.drew.cell? ⟨c, 0, none⟩ = some (.slice va (s.sel true).length vc)) := xd
    have HSk0 : Hid (Sk [37, 35] B w w.drew) := sk_below (Below.refl _ _).drew HSz.out.2
    clear xd rd hputd hBd HBd0 HFd
    go_enter Try.func19, Try.ntmps19
    go_upto_region 4 with (go_at_call 31; refine (refRow_true _).mono ?_; rintro e w1 ⟨rfl, hw1⟩; subst w1)
    generalize hk : (s.sel true).length = k at *
    have HKk : Hid ((s.sel true).length = k) := hk
    clear hk
    refine wp_region_late (E := [16]) (S := (fun X => X.cell? ⟨c, 0, none⟩ = some (.slice va k vc))) (by kernel_rfl) (HSd.out) (fun hHeld => ?_)
    simp only [List.size_toArray, List.length_cons, List.length_nil, Nat.reduceAdd]
    refine wpAnyL_take [13, 14, 15, 16] (i := 0) (v := ?_) (by kernel_rfl) (by kernel_rfl) (by kernel_rfl) rfl (by kernel_rfl) (by kernel_rfl) (by kernel_rfl) (fun _ _ _ h => h) (Or.inl ⟨by rfl, ?_⟩) hHeld ?_
    rotate_left
    · (intro w hSw; (try dsimp only at hSw); go_simp; try with_reducible rfl)
    try simp only [Act.put, List.setIfInBounds_toArray, List.set_cons_zero, List.set_cons_succ, List.getElem_toArray, List.getElem_cons_zero]
    refine wpAnyL_take [15, 16] (i := 1) (v := ?_) (by kernel_rfl) (by kernel_rfl) (by kernel_rfl) rfl (by kernel_rfl) (by kernel_rfl) (by kernel_rfl) (fun _ _ _ h => h) (Or.inl ⟨by rfl, ?_⟩) hHeld ?_
    rotate_left
    · (intro w hSw; (try dsimp only at hSw); go_simp; try with_reducible rfl)
    try simp only [Act.put, List.setIfInBounds_toArray, List.set_cons_zero, List.set_cons_succ, List.getElem_toArray, List.getElem_cons_zero, List.getElem_cons_succ]
    refine wpAnyL_take [4, 5, 6, 7, 12, 16] (i := 2) (v := ?_) (by kernel_rfl) (by kernel_rfl) (by kernel_rfl) rfl (by kernel_rfl) (by kernel_rfl) (by kernel_rfl) (fun _ _ _ h => h) (Or.inl ⟨by rfl, ?_⟩) hHeld ?_
    rotate_left
    · (intro w hSw; (try dsimp only at hSw); go_simp; try with_reducible rfl)
    try simp only [Act.put, List.setIfInBounds_toArray, List.set_cons_zero, List.set_cons_succ, List.getElem_toArray, List.getElem_cons_zero, List.getElem_cons_succ]
    refine wpAnyL_take [6, 7, 12, 16] (i := 3) (v := ?_) (by kernel_rfl) (by kernel_rfl) (by kernel_rfl) rfl (by kernel_rfl) (by kernel_rfl) (by kernel_rfl) (fun _ _ _ h => h) (Or.inl ⟨by rfl, ?_⟩) hHeld ?_
    rotate_left
    · (intro w hSw; (try dsimp only at hSw); go_simp; try with_reducible rfl)
    try simp only [Act.put, List.setIfInBounds_toArray, List.set_cons_zero, List.set_cons_succ, List.getElem_toArray, List.getElem_cons_zero, List.getElem_cons_succ]
    refine wpAnyL_take [5, 6, 7, 12, 16] (i := 4) (v := ?_) (by kernel_rfl) (by kernel_rfl) (by kernel_rfl) rfl (by kernel_rfl) (by kernel_rfl) (by kernel_rfl) (fun _ _ _ h => h) (Or.inl ⟨by rfl, ?_⟩) hHeld ?_
    rotate_left
    · (intro w hSw; (try dsimp only at hSw); go_simp; try with_reducible rfl)
    try simp only [Act.put, List.setIfInBounds_toArray, List.set_cons_zero, List.set_cons_succ, List.getElem_toArray, List.getElem_cons_zero, List.getElem_cons_succ]
    refine wpAnyL_take [6, 7, 12, 16] (i := 5) (v := ?_) (by kernel_rfl) (by kernel_rfl) (by kernel_rfl) rfl (by kernel_rfl) (by kernel_rfl) (by kernel_rfl) (fun _ _ _ h => h) (Or.inl ⟨by rfl, ?_⟩) hHeld ?_
    rotate_left
    · (intro w hSw; (try dsimp only at hSw); go_simp; try with_reducible rfl)
    try simp only [Act.put, List.setIfInBounds_toArray, List.set_cons_zero, List.set_cons_succ, List.getElem_toArray, List.getElem_cons_zero, List.getElem_cons_succ]
    refine wpAnyL_take [7, 12, 16] (i := 6) (v := ?_) (by kernel_rfl) (by kernel_rfl) (by kernel_rfl) rfl (by kernel_rfl) (by kernel_rfl) (by kernel_rfl) (fun _ _ _ h => h) (Or.inl ⟨by rfl, ?_⟩) hHeld ?_
    rotate_left
    · (intro w hSw; (try dsimp only at hSw); go_simp; try with_reducible rfl)
    try simp only [Act.put, List.setIfInBounds_toArray, List.set_cons_zero, List.set_cons_succ, List.getElem_toArray, List.getElem_cons_zero, List.getElem_cons_succ]
    refine wpAnyL_take [12, 16] (i := 7) (v := ?_) (by kernel_rfl) (by kernel_rfl) (by kernel_rfl) rfl (by kernel_rfl) (by kernel_rfl) (by kernel_rfl) (fun _ _ _ h => h) (Or.inl ⟨by rfl, ?_⟩) hHeld ?_
    rotate_left
    · (intro w hSw; (try dsimp only at hSw); go_simp; try with_reducible rfl)
    try simp only [Act.put, List.setIfInBounds_toArray, List.set_cons_zero, List.set_cons_succ, List.getElem_toArray, List.getElem_cons_zero, List.getElem_cons_succ]
    refine wpAnyL_take [10, 11, 12, 16] (i := 9) (v := ?_) (by kernel_rfl) (by kernel_rfl) (by kernel_rfl) rfl (by kernel_rfl) (by kernel_rfl) (by kernel_rfl) (fun _ _ _ h => h) (Or.inl ⟨by rfl, ?_⟩) hHeld ?_
    rotate_left
    · (intro w hSw; (try dsimp only at hSw); go_simp; try with_reducible rfl)
    try simp only [Act.put, List.setIfInBounds_toArray, List.set_cons_zero, List.set_cons_succ, List.getElem_toArray, List.getElem_cons_zero, List.getElem_cons_succ]
    refine wpAnyL_take [14, 15, 16] (i := 13) (v := ?_) (by kernel_rfl) (by kernel_rfl) (by kernel_rfl) rfl (by kernel_rfl) (by kernel_rfl) (by kernel_rfl) (fun _ _ _ h => h) (Or.inl ⟨by rfl, ?_⟩) hHeld ?_
    rotate_left
    · (intro w hSw; (try dsimp only at hSw); go_simp; try with_reducible rfl)
    try simp only [Act.put, List.setIfInBounds_toArray, List.set_cons_zero, List.set_cons_succ, List.getElem_toArray, List.getElem_cons_zero, List.getElem_cons_succ]
    refine wpAnyL_take [15, 16] (i := 14) (v := ?_) (by kernel_rfl) (by kernel_rfl) (by kernel_rfl) rfl (by kernel_rfl) (by kernel_rfl) (by kernel_rfl) (fun _ _ _ h => h) (Or.inl ⟨by rfl, ?_⟩) hHeld ?_
    rotate_left
    · (intro w hSw; (try dsimp only at hSw); go_simp; try with_reducible rfl)
    try simp only [Act.put, List.setIfInBounds_toArray, List.set_cons_zero, List.set_cons_succ, List.getElem_toArray, List.getElem_cons_zero, List.getElem_cons_succ]
    refine wpAnyL_one (i := 8) (by kernel_rfl) rfl (fun K hK => ?_)
    go_simp
    have s8 : (fun X => X.cell? ⟨c, 0, none⟩ = some (.slice va k vc)) (w.drew.alloc (.cells #[] 5)) := cellK hHeld (alloc_below _ _)
    refine hK.out _ _ (fun _ => s8) ?_
    replace hHeld := s8
    clear hK K
    try simp only [Act.put, List.setIfInBounds_toArray, List.set_cons_zero, List.set_cons_succ, List.getElem_toArray, List.getElem_cons_zero, List.getElem_cons_succ]
    refine wpAnyL_one (i := 10) (by kernel_rfl) rfl (fun K hK => ?_)
    refine step_clone B rfl _ _ rfl _ rfl rfl a m cap f rfl HBd.out.1 (by omega) (by omega) (fun v5 w5 hc5 => ?_)
    have HC5 : Hid (Cln B w.drew w5 v5 f) := hc5
    have s10 : (fun X => X.cell? ⟨c, 0, none⟩ = some (.slice va k vc)) w5 := cellK HSd.out hc5.bel
    obtain ⟨a5, c5, hv5, _, _⟩ := id hc5.pc.1
    subst hv5
    clear hc5
    refine hK.out _ _ (fun _ => s10) ?_
    replace hHeld := s10
    clear hK K
    try simp only [Act.put, List.setIfInBounds_toArray, List.set_cons_zero, List.set_cons_succ, List.getElem_toArray, List.getElem_cons_zero, List.getElem_cons_succ]
    refine wpAnyL_one (i := 11) (by kernel_rfl) rfl (fun K hK => ?_)
    go_simp
    have s11 : (fun X => X.cell? ⟨c, 0, none⟩ = some (.slice va k vc)) (w5.alloc (.cells #[.slice a5 f.length c5] 37)) := cellK hHeld (alloc_below _ _)
    refine hK.out _ _ (fun _ => s11) ?_
    replace hHeld := s11
    clear hK K
    try simp only [Act.put, List.setIfInBounds_toArray, List.set_cons_zero, List.set_cons_succ, List.getElem_toArray, List.getElem_cons_zero, List.getElem_cons_succ]
    refine wpAnyL_one (i := 12) (by kernel_rfl) rfl (fun K hK => ?_)
    have hB5 : B ≤ w5.heap.size := Nat.le_trans HBd.out.2.1 HC5.out.bel.size
    refine step_row1 rfl _ _ rfl (.slice va k vc) (s.sel true) rfl ((HBd.out.2.2.1).over HBd.out.2.1 HC5.out.bel) (.slice a5 f.length c5) f HC5.out.pc _ rfl rfl (by have := HBd.out.2.2.2; have := HKk.out; omega) hB5 (fun v6 w6 ha6 => ?_)
    have ha7 : ApT B w.drew w6 (.slice va k vc) v6 (s.sel true ++ [f]) := ⟨ha6.row, ha6.os.trans HC5.out.bel.os, ha6.tape.trans HC5.out.bel.tape, ha6.output.trans HC5.out.bel.output, Nat.le_trans HC5.out.bel.size ha6.size,
      fun i hi hne => (ha6.block i (Nat.lt_of_lt_of_le hi HC5.out.bel.size) hne).trans (HC5.out.bel.block i hi), by
        rcases ha6.own with e | ⟨g, e, hg⟩
        · exact .inl e
        · exact .inr ⟨g, e, Nat.le_trans HC5.out.bel.size hg⟩⟩
    obtain ⟨q1, q2, q3, q4⟩ := HPut.out w6 v6 _ ha7.w
    have HQ : Hid (RfV 35 B (w6.setCell ⟨c, 0, none⟩ v6) c (s.put true (s.sel true ++ [f])) ∧ Sk [37, 35] B w.drew (w6.setCell ⟨c, 0, none⟩ v6)) := ⟨q3, q4⟩
    have s12 : (fun X => X.cell? ⟨c, 0, none⟩ = some (.slice va k vc)) w6 := q1
    obtain ⟨a6, c6, hv6, _⟩ := ha6.row.slice
    rw [List.length_append, List.length_singleton, HKk.out] at hv6
    subst hv6
    clear ha6 ha7 q1 q3 q4 hB5
    refine hK.out _ _ (fun _ => s12) ?_
    replace hHeld := s12
    clear hK K
    try simp only [Act.put, List.setIfInBounds_toArray, List.set_cons_zero, List.set_cons_succ, List.getElem_toArray, List.getElem_cons_zero, List.getElem_cons_succ]
    refine wpAnyL_take [16] (i := 15) (v := ?_) (by kernel_rfl) (by kernel_rfl) (by kernel_rfl) rfl (by kernel_rfl) (by kernel_rfl) (by kernel_rfl) (fun _ _ _ h => h) (Or.inl ⟨by rfl, ?_⟩) hHeld ?_
    rotate_left
    · (intro w hSw; (try dsimp only at hSw); go_simp; try with_reducible rfl)
    try simp only [Act.put, List.setIfInBounds_toArray, List.set_cons_zero, List.set_cons_succ, List.getElem_toArray, List.getElem_cons_zero, List.getElem_cons_succ]
    refine wpAnyL_one (i := 16) (by kernel_rfl) rfl (fun K hK => ?_)
    try dsimp only at hHeld
    go_simp
    refine hK.out _ _ (fun h => by cases h) ?_
    clear hK K
    try simp only [Act.put, List.setIfInBounds_toArray, List.set_cons_zero, List.set_cons_succ, List.getElem_toArray, List.getElem_cons_zero, List.getElem_cons_succ]
    refine wpAnyL_done (by kernel_rfl) ?_ _
    go_wp2
    go_ret
    refine ⟨rfl, ?_, ?_⟩
    · rw [HE.out]
      exact HQ.out.1
    · exact Sk.mono (M := [35, 37]) (HSk0.out.trans HQ.out.2) (by simp)
  | false =>
    obtain ⟨v, x0, r0, hput⟩ := h.selW hB (by decide) (by decide) false
    change w.cell? ⟨c, 1, none⟩ = some v at x0
    obtain ⟨va, vc, rfl, _⟩ := r0.slice
    have HK : Hid ((s.sel false).length = (s.sel false).length ∧ (s.sel false).length ≤ 64 ∧ f.length = m) := ⟨rfl, (Lk.ok_sel ho false).1, hb.1⟩
    have hk64 : ((s.sel false).length : Int) ≤ 64 := by have := HK.out.2.1; omega
    have HF : Hid (RfV 35 B w c s) := h
    have HBw : Hid (Bs w a m f) := hb
    have X0 : Hid (w.cell? ⟨c, 1, none⟩ = some (.slice va (s.sel false).length vc)) := x0
    have hm := hb.1
    by_cases h64 : 64 ≤ (s.sel false).length
    · have h65 : (64 : Int) ≤ ((s.sel false).length : Int) := by omega
      have h66 : decide ((64 : Int) ≤ ((s.sel false).length : Int)) = true := decide_eq_true h65
      have HN : Hid (maySend (s.sel false) f = false) := decide_eq_false fun e => by omega
      rw [HN.out, Lk.send_no HN.out]
      clear hb hput r0 hm h HK HN HBw
      generalize (s.sel false).length = k at *
      go_enter Try.func19, Try.ntmps19
      go_wp2_with (go_at_call 31; refine (refRow_false _).mono ?_; rintro e w1 ⟨rfl, hw1⟩; subst w1)
      go_ret
      exact ⟨rfl, HF.out, Sk.refl _ _ _⟩
    have h65 : ¬ (64 : Int) ≤ ((s.sel false).length : Int) := by omega
    have h66 : decide ((64 : Int) ≤ ((s.sel false).length : Int)) = false := decide_eq_false h65
    by_cases hm0 : m = 0
    · have HN : Hid (maySend (s.sel false) f = false) := decide_eq_false fun e => by omega
      rw [HN.out, Lk.send_no HN.out]
      subst hm0
      clear hb hput r0 hm h HK HN HBw
      generalize (s.sel false).length = k at *
      go_enter Try.func19, Try.ntmps19
      go_wp2_with (go_at_call 31; refine (refRow_false _).mono ?_; rintro e w1 ⟨rfl, hw1⟩; subst w1)
      go_ret
      exact ⟨rfl, HF.out, Sk.refl _ _ _⟩
    have hm1 : ((m : Int) == 0) = false := beq_eq_false_iff_ne.2 (by omega)
    have hm2 : ¬ (m : Int) = 0 := by omega
    by_cases hm3 : 1024 < m
    · have hm4 : (1024 : Int) < (m : Int) := by omega
      have hm5 : decide ((1024 : Int) < (m : Int)) = true := decide_eq_true hm4
      have HN : Hid (maySend (s.sel false) f = false) := decide_eq_false fun e => by omega
      rw [HN.out, Lk.send_no HN.out]
      clear hb hput r0 hm h HK HN HBw
      generalize (s.sel false).length = k at *
      go_enter Try.func19, Try.ntmps19
      go_wp2_with (go_at_call 31; refine (refRow_false _).mono ?_; rintro e w1 ⟨rfl, hw1⟩; subst w1)
      go_ret
      exact ⟨rfl, HF.out, Sk.refl _ _ _⟩
    have hm4 : ¬ (1024 : Int) < (m : Int) := by omega
    have hm5 : decide ((1024 : Int) < (m : Int)) = false := decide_eq_false hm4
    have HN : Hid (maySend (s.sel false) f = true) := decide_eq_true ⟨by omega, by omega, by omega⟩
    have HE : Hid (s.send false f = s.put false (s.sel false ++ [f])) := by unfold Hid Lk.send; rw [HN.out, if_pos rfl]
    rw [HN.out]
    have HSz : Hid ((s.sel false).length < 64 ∧ B ≤ w.heap.size) := ⟨by omega, hB⟩
    have HFd : Hid (RfV 35 B w.drew c s) := h.over hB (Below.refl _ _).drew
    clear hput hb hm h x0 r0
    generalize s.send false f = s' at *
    have x0 : w.cell? ⟨c, 1, none⟩ = some (.slice va (s.sel false).length vc) := X0.out
    have HBd0 : Hid (Bs w.drew a m f) := HBw.out.below (Below.refl _ _).drew
    have hBd : B ≤ w.drew.heap.size := HSz.out.2
    obtain ⟨vd, xd, rd, hputd⟩ := HFd.out.selW hBd (by decide) (by decide) false
    change w.drew.cell? ⟨c, 1, none⟩ = some vd at xd
    have hvd : vd = .slice va (s.sel false).length vc := by
      have h1 := cellK x0 (Below.refl w.heap.size w).drew
      rw [xd] at h1
      injection h1
    subst hvd
    have HPut : Hid (∀ (w1 : World) (v' : Value) (l : List (List Int)), ApW B w.drew w1 (.slice va (s.sel false).length vc) v' l → w1.cell? ⟨c, 1, none⟩ = some (.slice va (s.sel false).length vc) ∧ w1.frozen? ⟨c, 1, none⟩ = false ∧ RfV 35 B (w1.setCell ⟨c, 1, none⟩ v') c (s.put false l) ∧ Sk [37, 35] B w.drew (w1.setCell ⟨c, 1, none⟩ v')) := hputd
    have HBd : Hid (Bs w.drew a m f ∧ B ≤ w.drew.heap.size ∧ RowS B w.drew (.slice va (s.sel false).length vc) (s.sel false) ∧ (s.sel false).length < 64) := ⟨HBd0.out, hBd, rd, HSz.out.1⟩
    have HSd : Hid (w.drew.cell? ⟨c, 1, none⟩ = some (.slice va (s.sel false).length vc)) := xd
    have HSk0 : Hid (Sk [37, 35] B w w.drew) := sk_below (Below.refl _ _).drew HSz.out.2
    clear xd rd hputd hBd HBd0 HFd
    go_enter Try.func19, Try.ntmps19
    go_upto_region 4 with (go_at_call 31; refine (refRow_false _).mono ?_; rintro e w1 ⟨rfl, hw1⟩; subst w1)
    generalize hk : (s.sel false).length = k at *
    have HKk : Hid ((s.sel false).length = k) := hk
    clear hk
    refine wp_region_late (E := [16]) (S := (fun X => X.cell? ⟨c, 1, none⟩ = some (.slice va k vc))) (by kernel_rfl) (HSd.out) (fun hHeld => ?_)
    simp only [List.size_toArray, List.length_cons, List.length_nil, Nat.reduceAdd]
    refine wpAnyL_take [13, 14, 15, 16] (i := 0) (v := ?_) (by kernel_rfl) (by kernel_rfl) (by kernel_rfl) rfl (by kernel_rfl) (by kernel_rfl) (by kernel_rfl) (fun _ _ _ h => h) (Or.inl ⟨by rfl, ?_⟩) hHeld ?_
    rotate_left
    · (intro w hSw; (try dsimp only at hSw); go_simp; try with_reducible rfl)
    try simp only [Act.put, List.setIfInBounds_toArray, List.set_cons_zero, List.set_cons_succ, List.getElem_toArray, List.getElem_cons_zero]
    refine wpAnyL_take [15, 16] (i := 1) (v := ?_) (by kernel_rfl) (by kernel_rfl) (by kernel_rfl) rfl (by kernel_rfl) (by kernel_rfl) (by kernel_rfl) (fun _ _ _ h => h) (Or.inl ⟨by rfl, ?_⟩) hHeld ?_
    rotate_left
    · (intro w hSw; (try dsimp only at hSw); go_simp; try with_reducible rfl)
    try simp only [Act.put, List.setIfInBounds_toArray, List.set_cons_zero, List.set_cons_succ, List.getElem_toArray, List.getElem_cons_zero, List.getElem_cons_succ]
    refine wpAnyL_take [4, 5, 6, 7, 12, 16] (i := 2) (v := ?_) (by kernel_rfl) (by kernel_rfl) (by kernel_rfl) rfl (by kernel_rfl) (by kernel_rfl) (by kernel_rfl) (fun _ _ _ h => h) (Or.inl ⟨by rfl, ?_⟩) hHeld ?_
    rotate_left
    · (intro w hSw; (try dsimp only at hSw); go_simp; try with_reducible rfl)
    try simp only [Act.put, List.setIfInBounds_toArray, List.set_cons_zero, List.set_cons_succ, List.getElem_toArray, List.getElem_cons_zero, List.getElem_cons_succ]
    refine wpAnyL_take [6, 7, 12, 16] (i := 3) (v := ?_) (by kernel_rfl) (by kernel_rfl) (by kernel_rfl) rfl (by kernel_rfl) (by kernel_rfl) (by kernel_rfl) (fun _ _ _ h => h) (Or.inl ⟨by rfl, ?_⟩) hHeld ?_
    rotate_left
    · (intro w hSw; (try dsimp only at hSw); go_simp; try with_reducible rfl)
    try simp only [Act.put, List.setIfInBounds_toArray, List.set_cons_zero, List.set_cons_succ, List.getElem_toArray, List.getElem_cons_zero, List.getElem_cons_succ]
    refine wpAnyL_take [5, 6, 7, 12, 16] (i := 4) (v := ?_) (by kernel_rfl) (by kernel_rfl) (by kernel_rfl) rfl (by kernel_rfl) (by kernel_rfl) (by kernel_rfl) (fun _ _ _ h => h) (Or.inl ⟨by rfl, ?_⟩) hHeld ?_
    rotate_left
    · (intro w hSw; (try dsimp only at hSw); go_simp; try with_reducible rfl)
    try simp only [Act.put, List.setIfInBounds_toArray, List.set_cons_zero, List.set_cons_succ, List.getElem_toArray, List.getElem_cons_zero, List.getElem_cons_succ]
    refine wpAnyL_take [6, 7, 12, 16] (i := 5) (v := ?_) (by kernel_rfl) (by kernel_rfl) (by kernel_rfl) rfl (by kernel_rfl) (by kernel_rfl) (by kernel_rfl) (fun _ _ _ h => h) (Or.inl ⟨by rfl, ?_⟩) hHeld ?_
    rotate_left
    · (intro w hSw; (try dsimp only at hSw); go_simp; try with_reducible rfl)
    try simp only [Act.put, List.setIfInBounds_toArray, List.set_cons_zero, List.set_cons_succ, List.getElem_toArray, List.getElem_cons_zero, List.getElem_cons_succ]
    refine wpAnyL_take [7, 12, 16] (i := 6) (v := ?_) (by kernel_rfl) (by kernel_rfl) (by kernel_rfl) rfl (by kernel_rfl) (by kernel_rfl) (by kernel_rfl) (fun _ _ _ h => h) (Or.inl ⟨by rfl, ?_⟩) hHeld ?_
    rotate_left
    · (intro w hSw; (try dsimp only at hSw); go_simp; try with_reducible rfl)
    try simp only [Act.put, List.setIfInBounds_toArray, List.set_cons_zero, List.set_cons_succ, List.getElem_toArray, List.getElem_cons_zero, List.getElem_cons_succ]
    refine wpAnyL_take [12, 16] (i := 7) (v := ?_) (by kernel_rfl) (by kernel_rfl) (by kernel_rfl) rfl (by kernel_rfl) (by kernel_rfl) (by kernel_rfl) (fun _ _ _ h => h) (Or.inl ⟨by rfl, ?_⟩) hHeld ?_
    rotate_left
    · (intro w hSw; (try dsimp only at hSw); go_simp; try with_reducible rfl)
    try simp only [Act.put, List.setIfInBounds_toArray, List.set_cons_zero, List.set_cons_succ, List.getElem_toArray, List.getElem_cons_zero, List.getElem_cons_succ]
    refine wpAnyL_take [10, 11, 12, 16] (i := 9) (v := ?_) (by kernel_rfl) (by kernel_rfl) (by kernel_rfl) rfl (by kernel_rfl) (by kernel_rfl) (by kernel_rfl) (fun _ _ _ h => h) (Or.inl ⟨by rfl, ?_⟩) hHeld ?_
    rotate_left
    · (intro w hSw; (try dsimp only at hSw); go_simp; try with_reducible rfl)
    try simp only [Act.put, List.setIfInBounds_toArray, List.set_cons_zero, List.set_cons_succ, List.getElem_toArray, List.getElem_cons_zero, List.getElem_cons_succ]
    refine wpAnyL_take [14, 15, 16] (i := 13) (v := ?_) (by kernel_rfl) (by kernel_rfl) (by kernel_rfl) rfl (by kernel_rfl) (by kernel_rfl) (by kernel_rfl) (fun _ _ _ h => h) (Or.inl ⟨by rfl, ?_⟩) hHeld ?_
    rotate_left
    · (intro w hSw; (try dsimp only at hSw); go_simp; try with_reducible rfl)
    try simp only [Act.put, List.setIfInBounds_toArray, List.set_cons_zero, List.set_cons_succ, List.getElem_toArray, List.getElem_cons_zero, List.getElem_cons_succ]
    refine wpAnyL_take [15, 16] (i := 14) (v := ?_) (by kernel_rfl) (by kernel_rfl) (by kernel_rfl) rfl (by kernel_rfl) (by kernel_rfl) (by kernel_rfl) (fun _ _ _ h => h) (Or.inl ⟨by rfl, ?_⟩) hHeld ?_
    rotate_left
    · (intro w hSw; (try dsimp only at hSw); go_simp; try with_reducible rfl)
    try simp only [Act.put, List.setIfInBounds_toArray, List.set_cons_zero, List.set_cons_succ, List.getElem_toArray, List.getElem_cons_zero, List.getElem_cons_succ]
    refine wpAnyL_one (i := 8) (by kernel_rfl) rfl (fun K hK => ?_)
    go_simp
    have s8 : (fun X => X.cell? ⟨c, 1, none⟩ = some (.slice va k vc)) (w.drew.alloc (.cells #[] 5)) := cellK hHeld (alloc_below _ _)
    refine hK.out _ _ (fun _ => s8) ?_
    replace hHeld := s8
    clear hK K
    try simp only [Act.put, List.setIfInBounds_toArray, List.set_cons_zero, List.set_cons_succ, List.getElem_toArray, List.getElem_cons_zero, List.getElem_cons_succ]
    refine wpAnyL_one (i := 10) (by kernel_rfl) rfl (fun K hK => ?_)
    refine step_clone B rfl _ _ rfl _ rfl rfl a m cap f rfl HBd.out.1 (by omega) (by omega) (fun v5 w5 hc5 => ?_)
    have HC5 : Hid (Cln B w.drew w5 v5 f) := hc5
    have s10 : (fun X => X.cell? ⟨c, 1, none⟩ = some (.slice va k vc)) w5 := cellK HSd.out hc5.bel
    obtain ⟨a5, c5, hv5, _, _⟩ := id hc5.pc.1
    subst hv5
    clear hc5
    refine hK.out _ _ (fun _ => s10) ?_
    replace hHeld := s10
    clear hK K
    try simp only [Act.put, List.setIfInBounds_toArray, List.set_cons_zero, List.set_cons_succ, List.getElem_toArray, List.getElem_cons_zero, List.getElem_cons_succ]
    refine wpAnyL_one (i := 11) (by kernel_rfl) rfl (fun K hK => ?_)
    go_simp
    have s11 : (fun X => X.cell? ⟨c, 1, none⟩ = some (.slice va k vc)) (w5.alloc (.cells #[.slice a5 f.length c5] 37)) := cellK hHeld (alloc_below _ _)
    refine hK.out _ _ (fun _ => s11) ?_
    replace hHeld := s11
    clear hK K
    try simp only [Act.put, List.setIfInBounds_toArray, List.set_cons_zero, List.set_cons_succ, List.getElem_toArray, List.getElem_cons_zero, List.getElem_cons_succ]
    refine wpAnyL_one (i := 12) (by kernel_rfl) rfl (fun K hK => ?_)
    have hB5 : B ≤ w5.heap.size := Nat.le_trans HBd.out.2.1 HC5.out.bel.size
    refine step_row1 rfl _ _ rfl (.slice va k vc) (s.sel false) rfl ((HBd.out.2.2.1).over HBd.out.2.1 HC5.out.bel) (.slice a5 f.length c5) f HC5.out.pc _ rfl rfl (by have := HBd.out.2.2.2; have := HKk.out; omega) hB5 (fun v6 w6 ha6 => ?_)
    have ha7 : ApT B w.drew w6 (.slice va k vc) v6 (s.sel false ++ [f]) := ⟨ha6.row, ha6.os.trans HC5.out.bel.os, ha6.tape.trans HC5.out.bel.tape, ha6.output.trans HC5.out.bel.output, Nat.le_trans HC5.out.bel.size ha6.size,
      fun i hi hne => (ha6.block i (Nat.lt_of_lt_of_le hi HC5.out.bel.size) hne).trans (HC5.out.bel.block i hi), by
        rcases ha6.own with e | ⟨g, e, hg⟩
        · exact .inl e
        · exact .inr ⟨g, e, Nat.le_trans HC5.out.bel.size hg⟩⟩
    obtain ⟨q1, q2, q3, q4⟩ := HPut.out w6 v6 _ ha7.w
    have HQ : Hid (RfV 35 B (w6.setCell ⟨c, 1, none⟩ v6) c (s.put false (s.sel false ++ [f])) ∧ Sk [37, 35] B w.drew (w6.setCell ⟨c, 1, none⟩ v6)) := ⟨q3, q4⟩
    have s12 : (fun X => X.cell? ⟨c, 1, none⟩ = some (.slice va k vc)) w6 := q1
    obtain ⟨a6, c6, hv6, _⟩ := ha6.row.slice
    rw [List.length_append, List.length_singleton, HKk.out] at hv6
    subst hv6
    clear ha6 ha7 q1 q3 q4 hB5
    refine hK.out _ _ (fun _ => s12) ?_
    replace hHeld := s12
    clear hK K
    try simp only [Act.put, List.setIfInBounds_toArray, List.set_cons_zero, List.set_cons_succ, List.getElem_toArray, List.getElem_cons_zero, List.getElem_cons_succ]
    refine wpAnyL_take [16] (i := 15) (v := ?_) (by kernel_rfl) (by kernel_rfl) (by kernel_rfl) rfl (by kernel_rfl) (by kernel_rfl) (by kernel_rfl) (fun _ _ _ h => h) (Or.inl ⟨by rfl, ?_⟩) hHeld ?_
    rotate_left
    · (intro w hSw; (try dsimp only at hSw); go_simp; try with_reducible rfl)
    try simp only [Act.put, List.setIfInBounds_toArray, List.set_cons_zero, List.set_cons_succ, List.getElem_toArray, List.getElem_cons_zero, List.getElem_cons_succ]
    refine wpAnyL_one (i := 16) (by kernel_rfl) rfl (fun K hK => ?_)
    try dsimp only at hHeld
    go_simp
    refine hK.out _ _ (fun h => by cases h) ?_
    clear hK K
    try simp only [Act.put, List.setIfInBounds_toArray, List.set_cons_zero, List.set_cons_succ, List.getElem_toArray, List.getElem_cons_zero, List.getElem_cons_succ]
    refine wpAnyL_done (by kernel_rfl) ?_ _
    go_wp2
    go_ret
    refine ⟨rfl, ?_, ?_⟩
    · rw [HE.out]
      exact HQ.out.1
    · exact Sk.mono (M := [35, 37]) (HSk0.out.trans HQ.out.2) (by simp)

end Go.Proofs.Ytljceoojbppaeaa
