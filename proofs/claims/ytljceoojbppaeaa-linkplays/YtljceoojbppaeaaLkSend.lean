/-
  The methods of a link.
-/
import Derived.Test.YtljceoojbppaeaaLkSpoil
namespace Go.Proofs.Ytljceoojbppaeaa
open Go.RowKit D

theorem may_no {l : List (List Int)} {f : List Int} (h : ¬ (0 < f.length ∧ f.length ≤ 1024)) : maySend l f = false := decide_eq_false fun e => h e.2
theorem Lk.send_no {s : Lk} {up : Bool} {f : List Int} (h : maySend (s.sel up) f = false) : s.send up f = s := by
  unfold Lk.send
  rw [h, if_neg (by decide)]
set_option maxHeartbeats 4000000 in
theorem send_any (b : Nat) (s : Lk) (up : Bool) (a : Option Addr) (len c : Nat) (f : List Int) (w : World) (h : LkV w b s) (hb : Bs w a len f) :
    Calls Try.prog 13 #[.pointer (some ⟨b, 0, none⟩), .bool up, .slice a len c] w fun e w' => e = .returned (.bool (maySend (s.sel up) f)) ∧ LkV w' b (s.send up f) ∧ Kb b w w' := by
  have HL : Hid (LkV w b s) := h
  have HB : Hid (Bs w a len f) := hb
  have hlen := hb.1
  clear h hb
  by_cases h0 : len = 0
  · have HN : Hid (maySend (s.sel up) f = false) := may_no (by omega)
    rw [HN.out, Lk.send_no HN.out]
    subst h0
    go_enter Try.func13, Try.ntmps13
    go_wp2
    go_ret
    exact ⟨rfl, HL.out, Kb.refl _ _⟩
  · have h1 : ((len : Int) == 0) = false := beq_eq_false_iff_ne.2 (by omega)
    have h2 : ¬ (len : Int) = 0 := by omega
    by_cases h3 : 1024 < len
    · have HN : Hid (maySend (s.sel up) f = false) := may_no (by omega)
      rw [HN.out, Lk.send_no HN.out]
      have h4 : (1024 : Int) < (len : Int) := by omega
      clear hlen
      go_enter Try.func13, Try.ntmps13
      go_wp2
      go_ret
      exact ⟨rfl, HL.out, Kb.refl _ _⟩
    have h4 : ¬ (1024 : Int) < (len : Int) := by omega
    have HQ : Hid (maySend (s.sel up) f = decide ((s.sel up).length < 64)) := by
      unfold Hid maySend
      by_cases hl : (s.sel up).length < 64
      · rw [decide_eq_true hl, decide_eq_true ⟨hl, by omega, by omega⟩]
      · rw [decide_eq_false hl, decide_eq_false fun e => hl e.1]
    have HE : Hid (s.send up f = if maySend (s.sel up) f then s.put up (s.sel up ++ [f]) else s) := rfl
    have hx := run_text (HB.out.below (Below.refl _ _).drew) c
    clear hlen
    generalize maySend (s.sel up) f = q at *
    generalize s.send up f = s' at *
    go_enter Try.func13, Try.ntmps13
    have hS4 : (fun X => (convert 37 9 (.slice a len c)).run Try.prog X = .ok (.string (strOfNums f)) X ∧ Hid (Bs X a len f) ∧ Hid (LkV X b s) ∧ Hid (Below w.heap.size w X)) w.drew := ⟨hx, HB.out.below (Below.refl _ _).drew, HL.out.over (Below.refl _ _).drew, (Below.refl _ _).drew⟩
    clear hx
    go_upto_region 3 with fail
    refine wp_region_late (E := [6, 7]) (S := (fun X => (convert 37 9 (.slice a len c)).run Try.prog X = .ok (.string (strOfNums f)) X ∧ Hid (Bs X a len f) ∧ Hid (LkV X b s) ∧ Hid (Below w.heap.size w X))) (by kernel_rfl) (hS4) (fun hHeld => ?_)
    simp only [List.size_toArray, List.length_cons, List.length_nil, Nat.reduceAdd]
    refine wpAnyL_take [3, 6, 7] (i := 0) (v := ?_) (by kernel_rfl) (by kernel_rfl) (by kernel_rfl) rfl (by kernel_rfl) (by kernel_rfl) (by kernel_rfl) (fun _ _ _ h => h) (Or.inl ⟨by rfl, ?_⟩) hHeld ?_
    rotate_left
    · (intro w hSw; (try dsimp only at hSw); obtain ⟨s0, s1, s2, s3⟩ := hSw; go_simp; try with_reducible rfl)
    try simp only [Act.put, List.setIfInBounds_toArray, List.set_cons_zero, List.set_cons_succ, List.getElem_toArray, List.getElem_cons_zero]
    refine wpAnyL_take [2, 3, 6, 7] (i := 1) (v := ?_) (by kernel_rfl) (by kernel_rfl) (by kernel_rfl) rfl (by kernel_rfl) (by kernel_rfl) (by kernel_rfl) (fun _ _ _ h => h) (Or.inl ⟨by rfl, ?_⟩) hHeld ?_
    rotate_left
    · (intro w hSw; (try dsimp only at hSw); obtain ⟨s0, s1, s2, s3⟩ := hSw; go_simp; try with_reducible rfl)
    try simp only [Act.put, List.setIfInBounds_toArray, List.set_cons_zero, List.set_cons_succ, List.getElem_toArray, List.getElem_cons_zero, List.getElem_cons_succ]
    refine wpAnyL_take [5, 6, 7] (i := 4) (v := ?_) (by kernel_rfl) (by kernel_rfl) (by kernel_rfl) rfl (by kernel_rfl) (by kernel_rfl) (by kernel_rfl) (fun _ _ _ h => h) (Or.inl ⟨by rfl, ?_⟩) hHeld ?_
    rotate_left
    · (intro w hSw; (try dsimp only at hSw); obtain ⟨s0, s1, s2, s3⟩ := hSw; go_simp; try with_reducible rfl)
    try simp only [Act.put, List.setIfInBounds_toArray, List.set_cons_zero, List.set_cons_succ, List.getElem_toArray, List.getElem_cons_zero, List.getElem_cons_succ]
    refine wpAnyL_take [6, 7] (i := 5) (v := ?_) (by kernel_rfl) (by kernel_rfl) (by kernel_rfl) rfl (by kernel_rfl) (by kernel_rfl) (by kernel_rfl) (fun _ _ _ h => h) (Or.inl ⟨by rfl, ?_⟩) hHeld ?_
    rotate_left
    · (intro w hSw; (try dsimp only at hSw); obtain ⟨s0, s1, s2, s3⟩ := hSw; go_simp; try with_reducible rfl)
    try simp only [Act.put, List.setIfInBounds_toArray, List.set_cons_zero, List.set_cons_succ, List.getElem_toArray, List.getElem_cons_zero, List.getElem_cons_succ]
    refine wpAnyL_one (i := 2) (by kernel_rfl) rfl (fun K hK => ?_)
    go_simp
    go_at_call 26
    refine (wayOf_any up _).mono ?_
    rintro e w5 ⟨rfl, rfl⟩
    refine hK.out _ _ (fun _ => hHeld) ?_
    replace hHeld := hHeld
    clear hK K
    try simp only [Act.put, List.setIfInBounds_toArray, List.set_cons_zero, List.set_cons_succ, List.getElem_toArray, List.getElem_cons_zero, List.getElem_cons_succ]
    refine wpAnyL_one (i := 3) (by kernel_rfl) rfl (fun K hK => ?_)
    go_simp
    obtain ⟨s0, s1, s2, s3⟩ := hHeld
    go_at_call 25
    refine (row_any b up _).mono ?_
    rintro e w5 ⟨rfl, hb5⟩
    have b5 := s1.out.below hb5
    have s5 : (fun X => (convert 37 9 (.slice a len c)).run Try.prog X = .ok (.string (strOfNums f)) X ∧ Hid (Bs X a len f) ∧ Hid (LkV X b s) ∧ Hid (Below w.heap.size w X)) w5 := ⟨run_text b5 c, b5, s2.out.over hb5, s3.out.trans (hb5.mono s3.out.size)⟩
    clear s0 s1 s2 s3 b5
    refine hK.out _ _ (fun _ => s5) ?_
    replace hHeld := s5
    clear hK K
    try simp only [Act.put, List.setIfInBounds_toArray, List.set_cons_zero, List.set_cons_succ, List.getElem_toArray, List.getElem_cons_zero, List.getElem_cons_succ]
    refine wpAnyL_one (i := 6) (by kernel_rfl) rfl (fun K hK => ?_)
    go_simp
    obtain ⟨s0, s1, s2, s3⟩ := hHeld
    have HA := addL_any w5 b s up s2.out f ⟨HB.out.2.1, by have := HB.out.1; omega, by have := HB.out.1; omega⟩
    go_at_call 27
    refine HA.mono ?_
    rintro e w6 ⟨rfl, h6, k6⟩
    clear HA
    refine hK.out _ _ (fun h => by cases h) ?_
    clear hK K
    try simp only [Act.put, List.setIfInBounds_toArray, List.set_cons_zero, List.set_cons_succ, List.getElem_toArray, List.getElem_cons_zero, List.getElem_cons_succ]
    refine wpAnyL_one (i := 7) (by kernel_rfl) rfl (fun K hK => ?_)
    go_simp
    refine hK.out _ _ (fun h => by cases h) ?_
    clear hK K
    try simp only [Act.put, List.setIfInBounds_toArray, List.set_cons_zero, List.set_cons_succ, List.getElem_toArray, List.getElem_cons_zero, List.getElem_cons_succ]
    refine wpAnyL_done (by kernel_rfl) ?_ _
    go_wp2
    go_ret
    refine ⟨by rw [HQ.out]; rfl, ?_, (kb_below s3.out).trans k6⟩
    rw [HE.out, HQ.out]
    by_cases hl : (s.sel up).length < 64
    · rw [decide_eq_true hl, if_pos rfl]
      rw [if_pos hl] at h6
      exact h6
    · rw [decide_eq_false hl, if_neg (by decide)]
      rw [if_neg hl] at h6
      exact h6

end Go.Proofs.Ytljceoojbppaeaa
