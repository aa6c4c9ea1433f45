/-
  A frame that is there twice, and one of which a bit is turned.
-/
import Derived.Test.YtljceoojbppaeaaLkBef
import Derived.Test.YtljceoojbppaeaaLate
namespace Go.Proofs.Ytljceoojbppaeaa
open Go.RowKit D

theorem cellK {w w' : World} {a : Addr} {v : Value} (h : w.cell? a = some v) (hb : Below w.heap.size w w') : w'.cell? a = some v := by
  rw [World.cell?_of_block (hb.block a.block (World.block_lt_of_cell? w _ h))]
  exact h
/-- a frame in its cell; another one in its place. -/
theorem LkV.cell {w : World} {b : Nat} {s : Lk} (h : LkV w b s) (up : Bool) (n : Int) (hn : hasN (s.sel up) n = true) : ∃ k : Nat, n = (k : Int) ∧ k < 64 ∧ w.cell? ⟨b, offs up + k, none⟩ = some (.string (strOfNums ((s.sel up).getD k []))) ∧
    ∀ (w' : World) (f : List Int), okF f → Blk w' b 30 ((rowC s.u ++ rowC s.d).set (offs up + k) (.string (strOfNums f))) → LkV w' b (s.put up ((s.sel up).set k f)) := by
  have h1 := hasN_lt hn
  refine ⟨n.toNat, by omega, by have := (Lk.ok_sel h.ok up).1; omega, ?_, fun w' f hf hw => ?_⟩
  · obtain ⟨A, Z, hA, hR, _⟩ := h.row up
    rw [← hA]
    exact hR.frame h1.2
  · refine ⟨?_, Lk.ok_put h.ok up (okR_set (Lk.ok_sel h.ok up) _ hf)⟩
    have key : ∀ (l : List (List Int)) (T : List Value) (i : Nat), i < l.length → (rowC l ++ T).set i (.string (strOfNums f)) = rowC (l.set i f) ++ T := fun l T i hi => by
      have hs : (strC l).set i (.string (strOfNums f)) = strC (l.set i f) := by unfold strC; rw [List.map_set]
      unfold rowC
      rw [List.append_assoc, List.set_append_left _ _ (by rw [strC_len]; exact hi), hs, List.length_set]
      simp only [List.append_assoc]
    cases up with
    | true =>
      have e := key s.u (rowC s.d) n.toNat h1.2
      rw [show offs true + n.toNat = n.toNat from Nat.zero_add _, e] at hw
      exact hw
    | false =>
      have e := key s.d [] n.toNat h1.2
      rw [List.append_nil, List.append_nil] at e
      have hl := rowC_len h.ok.1.1
      rw [show offs false + n.toNat = (rowC s.u).length + n.toNat by rw [hl]; rfl, set_past, e] at hw
      exact hw

set_option maxHeartbeats 4000000 in
theorem twice_bef (b : Nat) (s : Lk) (w : World) (h : LkV w b s) (n : Int) (hn : n < 9223372036854775808) :
    Calls Try.prog 30 #[.pointer (some ⟨b, 0, none⟩), .int .i64 n, .iface 60 (.agg #[])] w fun e w' => e = .returned (.bool (s.mayTwice n)) ∧ LkV w' b (s.twice n) ∧ Kb b w w' := by
  have hta : ∀ W : World, (Instr.typeAssert (.iface 60 (.agg #[])) 70 59 true).run Try.prog W = .ok (.tuple #[.agg #[], .bool false]) W := fun W => by kernel_rfl
  have htb : ∀ W : World, (Instr.typeAssert (.iface 60 (.agg #[])) 70 60 true).run Try.prog W = .ok (.tuple #[.agg #[], .bool true]) W := fun W => by kernel_rfl
  have HF : Hid (Calls Try.prog 34 #[.pointer (some ⟨b, 0, none⟩), .int .i64 n] w fun e w' => e = .returned (.tuple #[wayV (s.way n), .int .i64 (s.at n)]) ∧ Below w.heap.size w w') := find_any b s w h n hn
  have HL : Hid (LkV w b s) := h
  have HO : Hid (hasN (s.sel (s.way n)) (s.at n) = true → okF (s.frame n)) := fun e => Lk.ok_frame h.ok e
  clear h
  have HD : Hid (s.has n = hasN (s.sel (s.way n)) (s.at n)) := rfl
  have HM : Hid (s.mayTwice n = (s.has n && decide ((s.sel (s.way n)).length < 64))) := rfl
  have HE : Hid (s.twice n = if s.mayTwice n then s.put (s.way n) (s.sel (s.way n) ++ [s.frame n]) else s) := rfl
  have HG : Hid (s.frame n = (s.sel (s.way n)).getD (s.at n).toNat []) := rfl
  generalize s.mayTwice n = q2 at *
  generalize s.has n = q at *
  generalize s.twice n = s' at *
  generalize s.frame n = f at *
  generalize s.at n = z at *
  generalize s.way n = up at *
  go_enter Try.func30, Try.ntmps30
  go_upto_region 2 with (go_at_call 34; refine HF.out.mono ?_; rintro e w1 ⟨rfl, hb1⟩)
  have HL1 : Hid (LkV w1 b s) := HL.out.over hb1
  go_upto_region 3 with (go_at_call 25; refine (row_any b up w1).mono ?_; rintro e w2 ⟨rfl, hb2⟩)
  have HL2 : Hid (LkV w2 b s) := HL1.out.over hb2
  have HB2 : Hid (Below w.heap.size w w2) := hb1.trans (hb2.mono hb1.size)
  have HH : Hid (Calls Try.prog 28 #[.pointer (some ⟨b, offs up, none⟩), .int .i64 z] w2 fun e w' => e = .returned (.bool q) ∧ w' = w2) := by
    have := hasL_any w2 b s up HL2.out z
    rw [← HD.out] at this
    exact this
  clear hb1 hb2
  cases q with
  | false =>
    go_wp2_with (go_at_call 28; refine HH.out.mono ?_; rintro e w3 ⟨rfl, rfl⟩)
    go_ret
    have h1 := HM.out
    rw [Bool.false_and] at h1
    refine ⟨by rw [h1]; rfl, ?_, kb_below HB2.out⟩
    rw [HE.out, h1, if_neg (by decide)]
    exact HL2.out
  | true =>
    have hb3 : Below w2.heap.size w2 (w2.alloc (.cells #[] 60)) := (Below.refl _ _).alloc (Nat.le_refl _) _
    have HL3 : Hid (LkV (w2.alloc (.cells #[] 60)) b s) := HL2.out.over hb3
    have HB3 : Hid (Below w.heap.size w (w2.alloc (.cells #[] 60))) := HB2.out.trans (hb3.mono HB2.out.size)
    obtain ⟨k, rfl, hk64, hc, _⟩ := HL3.out.cell up z HD.out.symm
    rw [show (s.sel up).getD k [] = f from HG.out.symm] at hc
    have HA : Hid (Calls Try.prog 27 #[.pointer (some ⟨b, offs up, none⟩), .string (strOfNums f)] (w2.alloc (.cells #[] 60)) fun e w' => e = .returned (.bool (decide ((s.sel up).length < 64))) ∧ LkV w' b (if (s.sel up).length < 64 then s.put up (s.sel up ++ [f]) else s) ∧ Kb b (w2.alloc (.cells #[] 60)) w') := addL_any _ b s up HL3.out f (HO.out HD.out.symm)
    have hki : (k : Int) < 64 := by omega
    clear hb3
    go_upto_region 11 with (go_at_call 28; refine HH.out.mono ?_; rintro e w3 ⟨rfl, rfl⟩)
    generalize w3.alloc (.cells #[] 60) = w4 at *
    generalize strOfNums f = sf at *
    generalize offs up = o at *
    go_wp2_with (go_at_call 27; refine HA.out.mono ?_; rintro e w5 ⟨rfl, h5, k5⟩)
    go_ret
    have h1 := HM.out
    rw [Bool.true_and] at h1
    refine ⟨by rw [h1]; rfl, ?_, (kb_below HB3.out).trans k5⟩
    rw [HE.out, h1]
    by_cases hl : (s.sel up).length < 64
    · rw [decide_eq_true hl, if_pos rfl]
      rw [if_pos hl] at h5
      exact h5
    · rw [decide_eq_false hl, if_neg (by decide)]
      rw [if_neg hl] at h5
      exact h5

set_option maxRecDepth 8000 in
set_option maxHeartbeats 4000000 in
theorem spoil_bef (b : Nat) (s : Lk) (w : World) (h : LkV w b s) (n bit : Int) (hn : n < 9223372036854775808) :
    Calls Try.prog 30 #[.pointer (some ⟨b, 0, none⟩), .int .i64 n, .iface 62 (.agg #[.int .i64 bit])] w fun e w' => e = .returned (.bool (s.has n)) ∧ LkV w' b (s.spoil n bit) ∧ Kb b w w' := by
  have hta : ∀ W : World, (Instr.typeAssert (.iface 62 (.agg #[.int .i64 bit])) 70 59 true).run Try.prog W = .ok (.tuple #[.agg #[], .bool false]) W := fun W => by kernel_rfl
  have htb : ∀ W : World, (Instr.typeAssert (.iface 62 (.agg #[.int .i64 bit])) 70 60 true).run Try.prog W = .ok (.tuple #[.agg #[], .bool false]) W := fun W => by kernel_rfl
  have htc : ∀ W : World, (Instr.typeAssert (.iface 62 (.agg #[.int .i64 bit])) 70 62 true).run Try.prog W = .ok (.tuple #[.agg #[.int .i64 bit], .bool true]) W := fun W => by kernel_rfl
  have HF : Hid (Calls Try.prog 34 #[.pointer (some ⟨b, 0, none⟩), .int .i64 n] w fun e w' => e = .returned (.tuple #[wayV (s.way n), .int .i64 (s.at n)]) ∧ Below w.heap.size w w') := find_any b s w h n hn
  have HL : Hid (LkV w b s) := h
  have HO : Hid (hasN (s.sel (s.way n)) (s.at n) = true → okF (s.frame n)) := fun e => Lk.ok_frame h.ok e
  clear h
  have HD : Hid (s.has n = hasN (s.sel (s.way n)) (s.at n)) := rfl
  have HE : Hid (s.spoil n bit = if s.has n then s.put (s.way n) ((s.sel (s.way n)).set (s.at n).toNat (turnF (s.frame n) bit)) else s) := rfl
  have HG : Hid (s.frame n = (s.sel (s.way n)).getD (s.at n).toNat []) := rfl
  generalize s.has n = q at *
  generalize s.spoil n bit = s' at *
  generalize s.frame n = f at *
  generalize s.at n = z at *
  generalize s.way n = up at *
  go_enter Try.func30, Try.ntmps30
  go_upto_region 2 with (go_at_call 34; refine HF.out.mono ?_; rintro e w1 ⟨rfl, hb1⟩)
  have HL1 : Hid (LkV w1 b s) := HL.out.over hb1
  go_upto_region 3 with (go_at_call 25; refine (row_any b up w1).mono ?_; rintro e w2 ⟨rfl, hb2⟩)
  have HL2 : Hid (LkV w2 b s) := HL1.out.over hb2
  have HB2 : Hid (Below w.heap.size w w2) := hb1.trans (hb2.mono hb1.size)
  have HH : Hid (Calls Try.prog 28 #[.pointer (some ⟨b, offs up, none⟩), .int .i64 z] w2 fun e w' => e = .returned (.bool q) ∧ w' = w2) := by
    have := hasL_any w2 b s up HL2.out z
    rw [← HD.out] at this
    exact this
  clear hb1 hb2
  cases q with
  | false =>
    go_wp2_with (go_at_call 28; refine HH.out.mono ?_; rintro e w3 ⟨rfl, rfl⟩)
    go_ret
    refine ⟨rfl, ?_, kb_below HB2.out⟩
    rw [HE.out, if_neg (by decide)]
    exact HL2.out
  | true =>
    have hb3 : Below w2.heap.size w2 (w2.alloc (.cells #[.int .i64 bit] 62)) := (Below.refl _ _).alloc (Nat.le_refl _) _
    have HL3 : Hid (LkV (w2.alloc (.cells #[.int .i64 bit] 62)) b s) := HL2.out.over hb3
    have HB3 : Hid (Below w.heap.size w (w2.alloc (.cells #[.int .i64 bit] 62))) := HB2.out.trans (hb3.mono HB2.out.size)
    obtain ⟨k, rfl, hk64, hc, hput⟩ := HL3.out.cell up z HD.out.symm
    rw [show (s.sel up).getD k [] = f from HG.out.symm] at hc
    have hcb : (w2.alloc (.cells #[.int .i64 bit] 62)).cell? ⟨w2.heap.size, 0, none⟩ = some (.int .i64 bit) := (blk_new w2 #[.int .i64 bit] 62).cell 0
    have HFk : Hid (okF f) := HO.out HD.out.symm
    have hki : (k : Int) < 64 := by omega
    have HC : Hid ((w2.alloc (.cells #[.int .i64 bit] 62)).cell? ⟨b, offs up + k, none⟩ = some (.string (strOfNums f)) ∧ (w2.alloc (.cells #[.int .i64 bit] 62)).cell? ⟨w2.heap.size, 0, none⟩ = some (.int .i64 bit)) := ⟨hc, hcb⟩
    have HP : Hid (∀ (w' : World), Blk w' b 30 ((rowC s.u ++ rowC s.d).set (offs up + k) (.string (strOfNums (turnF f bit)))) → LkV w' b s') := fun w' hw => by
      rw [HE.out, if_pos rfl]
      exact hput w' _ (turnF_ok HFk.out bit) hw
    clear hb3 hc hcb hput
    go_upto_region 14 with (go_at_call 28; refine HH.out.mono ?_; rintro e w3 ⟨rfl, rfl⟩)
    generalize w3.heap.size = c at *
    generalize w3.alloc (.cells #[.int .i64 bit] 62) = w4 at *
    have hS4 : (fun X => X.cell? ⟨b, offs up + k, none⟩ = some (.string (strOfNums f)) ∧ X.cell? ⟨c, 0, none⟩ = some (.int .i64 bit) ∧ Hid (LkV X b s) ∧ Hid (Below w.heap.size w X)) w4.drew := ⟨HC.out.1, HC.out.2, HL3.out.over (Below.refl _ _).drew, HB3.out.drew⟩
    refine wp_region_late (E := [14]) (S := (fun X => X.cell? ⟨b, offs up + k, none⟩ = some (.string (strOfNums f)) ∧ X.cell? ⟨c, 0, none⟩ = some (.int .i64 bit) ∧ Hid (LkV X b s) ∧ Hid (Below w.heap.size w X))) (by kernel_rfl) (hS4) (fun hHeld => ?_)
    simp only [List.size_toArray, List.length_cons, List.length_nil, Nat.reduceAdd]
    refine wpAnyL_take [11, 12, 13, 14] (i := 0) (v := ?_) (by kernel_rfl) (by kernel_rfl) (by kernel_rfl) rfl (by kernel_rfl) (by kernel_rfl) (by kernel_rfl) (fun _ _ _ h => h) (Or.inl ⟨by rfl, ?_⟩) hHeld ?_
    rotate_left
    · (intro w hSw; (try dsimp only at hSw); obtain ⟨s0, s1, s2, s3⟩ := hSw; go_simp; try with_reducible rfl)
    try simp only [Act.put, List.setIfInBounds_toArray, List.set_cons_zero, List.set_cons_succ, List.getElem_toArray, List.getElem_cons_zero]
    refine wpAnyL_take [13, 14] (i := 1) (v := ?_) (by kernel_rfl) (by kernel_rfl) (by kernel_rfl) rfl (by kernel_rfl) (by kernel_rfl) (by kernel_rfl) (fun _ _ _ h => h) (Or.inl ⟨by rfl, ?_⟩) hHeld ?_
    rotate_left
    · (intro w hSw; (try dsimp only at hSw); obtain ⟨s0, s1, s2, s3⟩ := hSw; go_simp; try with_reducible rfl)
    try simp only [Act.put, List.setIfInBounds_toArray, List.set_cons_zero, List.set_cons_succ, List.getElem_toArray, List.getElem_cons_zero, List.getElem_cons_succ]
    refine wpAnyL_take [4, 5, 6, 7, 10, 14] (i := 2) (v := ?_) (by kernel_rfl) (by kernel_rfl) (by kernel_rfl) rfl (by kernel_rfl) (by kernel_rfl) (by kernel_rfl) (fun _ _ _ h => h) (Or.inl ⟨by rfl, ?_⟩) hHeld ?_
    rotate_left
    · (intro w hSw; (try dsimp only at hSw); obtain ⟨s0, s1, s2, s3⟩ := hSw; go_simp; try with_reducible rfl)
    try simp only [Act.put, List.setIfInBounds_toArray, List.set_cons_zero, List.set_cons_succ, List.getElem_toArray, List.getElem_cons_zero, List.getElem_cons_succ]
    refine wpAnyL_take [6, 7, 10, 14] (i := 3) (v := ?_) (by kernel_rfl) (by kernel_rfl) (by kernel_rfl) rfl (by kernel_rfl) (by kernel_rfl) (by kernel_rfl) (fun _ _ _ h => h) (Or.inl ⟨by rfl, ?_⟩) hHeld ?_
    rotate_left
    · (intro w hSw; (try dsimp only at hSw); obtain ⟨s0, s1, s2, s3⟩ := hSw; go_simp; try with_reducible rfl)
    try simp only [Act.put, List.setIfInBounds_toArray, List.set_cons_zero, List.set_cons_succ, List.getElem_toArray, List.getElem_cons_zero, List.getElem_cons_succ]
    refine wpAnyL_take [5, 6, 7, 10, 14] (i := 4) (v := ?_) (by kernel_rfl) (by kernel_rfl) (by kernel_rfl) rfl (by kernel_rfl) (by kernel_rfl) (by kernel_rfl) (fun _ _ _ h => h) (Or.inl ⟨by rfl, ?_⟩) hHeld ?_
    rotate_left
    · (intro w hSw; (try dsimp only at hSw); obtain ⟨s0, s1, s2, s3⟩ := hSw; go_simp; try with_reducible rfl)
    try simp only [Act.put, List.setIfInBounds_toArray, List.set_cons_zero, List.set_cons_succ, List.getElem_toArray, List.getElem_cons_zero, List.getElem_cons_succ]
    refine wpAnyL_take [6, 7, 10, 14] (i := 5) (v := ?_) (by kernel_rfl) (by kernel_rfl) (by kernel_rfl) rfl (by kernel_rfl) (by kernel_rfl) (by kernel_rfl) (fun _ _ _ h => h) (Or.inl ⟨by rfl, ?_⟩) hHeld ?_
    rotate_left
    · (intro w hSw; (try dsimp only at hSw); obtain ⟨s0, s1, s2, s3⟩ := hSw; go_simp; try with_reducible rfl)
    try simp only [Act.put, List.setIfInBounds_toArray, List.set_cons_zero, List.set_cons_succ, List.getElem_toArray, List.getElem_cons_zero, List.getElem_cons_succ]
    refine wpAnyL_take [7, 10, 14] (i := 6) (v := ?_) (by kernel_rfl) (by kernel_rfl) (by kernel_rfl) rfl (by kernel_rfl) (by kernel_rfl) (by kernel_rfl) (fun _ _ _ h => h) (Or.inl ⟨by rfl, ?_⟩) hHeld ?_
    rotate_left
    · (intro w hSw; (try dsimp only at hSw); obtain ⟨s0, s1, s2, s3⟩ := hSw; go_simp; try with_reducible rfl)
    try simp only [Act.put, List.setIfInBounds_toArray, List.set_cons_zero, List.set_cons_succ, List.getElem_toArray, List.getElem_cons_zero, List.getElem_cons_succ]
    refine wpAnyL_take [10, 14] (i := 7) (v := ?_) (by kernel_rfl) (by kernel_rfl) (by kernel_rfl) rfl (by kernel_rfl) (by kernel_rfl) (by kernel_rfl) (fun _ _ _ h => h) (Or.inl ⟨by rfl, ?_⟩) hHeld ?_
    rotate_left
    · (intro w hSw; (try dsimp only at hSw); obtain ⟨s0, s1, s2, s3⟩ := hSw; go_simp; try with_reducible rfl)
    try simp only [Act.put, List.setIfInBounds_toArray, List.set_cons_zero, List.set_cons_succ, List.getElem_toArray, List.getElem_cons_zero, List.getElem_cons_succ]
    refine wpAnyL_take [9, 10, 14] (i := 8) (v := ?_) (by kernel_rfl) (by kernel_rfl) (by kernel_rfl) rfl (by kernel_rfl) (by kernel_rfl) (by kernel_rfl) (fun _ _ _ h => h) (Or.inl ⟨by rfl, ?_⟩) hHeld ?_
    rotate_left
    · (intro w hSw; (try dsimp only at hSw); obtain ⟨s0, s1, s2, s3⟩ := hSw; go_simp; try with_reducible rfl)
    try simp only [Act.put, List.setIfInBounds_toArray, List.set_cons_zero, List.set_cons_succ, List.getElem_toArray, List.getElem_cons_zero, List.getElem_cons_succ]
    refine wpAnyL_take [10, 14] (i := 9) (v := ?_) (by kernel_rfl) (by kernel_rfl) (by kernel_rfl) rfl (by kernel_rfl) (by kernel_rfl) (by kernel_rfl) (fun _ _ _ h => h) (Or.inl ⟨by rfl, ?_⟩) hHeld ?_
    rotate_left
    · (intro w hSw; (try dsimp only at hSw); obtain ⟨s0, s1, s2, s3⟩ := hSw; go_simp; try with_reducible rfl)
    try simp only [Act.put, List.setIfInBounds_toArray, List.set_cons_zero, List.set_cons_succ, List.getElem_toArray, List.getElem_cons_zero, List.getElem_cons_succ]
    refine wpAnyL_take [12, 13, 14] (i := 11) (v := ?_) (by kernel_rfl) (by kernel_rfl) (by kernel_rfl) rfl (by kernel_rfl) (by kernel_rfl) (by kernel_rfl) (fun _ _ _ h => h) (Or.inl ⟨by rfl, ?_⟩) hHeld ?_
    rotate_left
    · (intro w hSw; (try dsimp only at hSw); obtain ⟨s0, s1, s2, s3⟩ := hSw; go_simp; try with_reducible rfl)
    try simp only [Act.put, List.setIfInBounds_toArray, List.set_cons_zero, List.set_cons_succ, List.getElem_toArray, List.getElem_cons_zero, List.getElem_cons_succ]
    refine wpAnyL_take [13, 14] (i := 12) (v := ?_) (by kernel_rfl) (by kernel_rfl) (by kernel_rfl) rfl (by kernel_rfl) (by kernel_rfl) (by kernel_rfl) (fun _ _ _ h => h) (Or.inl ⟨by rfl, ?_⟩) hHeld ?_
    rotate_left
    · (intro w hSw; (try dsimp only at hSw); obtain ⟨s0, s1, s2, s3⟩ := hSw; go_simp; try with_reducible rfl)
    try simp only [Act.put, List.setIfInBounds_toArray, List.set_cons_zero, List.set_cons_succ, List.getElem_toArray, List.getElem_cons_zero, List.getElem_cons_succ]
    refine wpAnyL_one (i := 10) (by kernel_rfl) rfl (fun K hK => ?_)
    go_simp
    obtain ⟨s0, s1, s2, s3⟩ := hHeld
    go_at_call 35
    refine (turned_any _ f HFk.out bit).mono ?_
    rintro e w5 ⟨rfl, hb5⟩
    have s5 : (fun X => X.cell? ⟨b, offs up + k, none⟩ = some (.string (strOfNums f)) ∧ X.cell? ⟨c, 0, none⟩ = some (.int .i64 bit) ∧ Hid (LkV X b s) ∧ Hid (Below w.heap.size w X)) w5 := ⟨cellK s0 hb5, cellK s1 hb5, s2.out.over hb5, s3.out.trans (hb5.mono s3.out.size)⟩
    clear s0 s1 s2 s3
    refine hK.out _ _ (fun _ => s5) ?_
    replace hHeld := s5
    clear hK K
    try simp only [Act.put, List.setIfInBounds_toArray, List.set_cons_zero, List.set_cons_succ, List.getElem_toArray, List.getElem_cons_zero, List.getElem_cons_succ]
    refine wpAnyL_take [14] (i := 13) (v := ?_) (by kernel_rfl) (by kernel_rfl) (by kernel_rfl) rfl (by kernel_rfl) (by kernel_rfl) (by kernel_rfl) (fun _ _ _ h => h) (Or.inl ⟨by rfl, ?_⟩) hHeld ?_
    rotate_left
    · (intro w hSw; (try dsimp only at hSw); obtain ⟨s0, s1, s2, s3⟩ := hSw; go_simp; try with_reducible rfl)
    try simp only [Act.put, List.setIfInBounds_toArray, List.set_cons_zero, List.set_cons_succ, List.getElem_toArray, List.getElem_cons_zero, List.getElem_cons_succ]
    refine wpAnyL_one (i := 14) (by kernel_rfl) rfl (fun K hK => ?_)
    go_simp
    obtain ⟨s0, s1, s2, s3⟩ := hHeld
    have hfz : w5.frozen? ⟨b, offs up + k, none⟩ = false := s2.out.blk.f _
    go_simp
    refine hK.out _ _ (fun h => by cases h) ?_
    clear hK K
    try simp only [Act.put, List.setIfInBounds_toArray, List.set_cons_zero, List.set_cons_succ, List.getElem_toArray, List.getElem_cons_zero, List.getElem_cons_succ]
    refine wpAnyL_done (by kernel_rfl) ?_ _
    go_wp2
    go_ret
    exact ⟨rfl, HP.out _ (s2.out.blk.set _ _), (kb_below s3.out).trans (kb_set _ _ _ _)⟩

end Go.Proofs.Ytljceoojbppaeaa
