/-
  Files, call by call: the law's walk.
-/
import Derived.Test.YtcenjdpochjclaaDoes
namespace Go.Proofs.Ytcenjdpochjclaa
open Go.RowKit

theorem pl_get {w W : World} {b br : Nat} {l : Fd} {T : Tm} (z : Int) (h : Pl w W b br l T) : Calls Try.prog 12 #[.pointer (some ⟨b, 0, none⟩), .int .i64 z] W fun e w' => e = .returned (.tuple #[.int .i64 ((getF l z).getD 0), .bool (getF l z).isSome]) ∧ Pl w w' b br l T := by
  refine (get_any b z l W h.t.tb).mono ?_
  rintro e w' ⟨rfl, h1⟩
  exact ⟨rfl, h.over h1⟩
theorem pl_rget {w W : World} {b br : Nat} {l : Fd} {T : Tm} (z : Int) (h : Pl w W b br l T) : Calls Try.prog 13 #[.pointer (some ⟨br, 0, none⟩), .int .i64 z] W fun e w' => e = .returned (.tuple #[.int .i64 ((getF l z).getD 0), .bool (getF l z).isSome]) ∧ Pl w w' b br l T := by
  have := rget_any W w.heap.size br z T h.r (by have := h.rl.le; omega)
  rw [h.rl.look z] at this
  refine this.mono ?_
  rintro e w' ⟨rfl, rfl⟩
  exact ⟨rfl, h⟩

set_option maxHeartbeats 16000000 in
set_option maxRecDepth 8000 in
theorem plays_walk (w : World) (a : Option Addr) (len cap : Nat) (l : List (Int × Int)) (h : OpsR w a len l) : Calls Try.prog 3 #[.slice a len cap] w fun e w' => e = .returned (.bool true) ∧ Below w.heap.size w w' := by
  obtain rfl : len = l.length := h.1.symm
  have hmax : l.length ≤ 9223372036854775807 := by have := h.2.1; unfold maxLen at this; omega
  have HA : Hid (Calls Try.prog 7 #[] w fun e w' => e = .returned (.bool true) ∧ Below w.heap.size w w') := awake_any w
  have HR : Hid (OpsR w a l.length l) := h
  clear h
  go_enter Try.func3, Try.ntmps3
  go_wp2_with fail
  refine HA.out.mono ?_
  rintro e w1 ⟨rfl, hb1⟩
  go_wp2_with fail
  refine (new_f hb1).mono ?_
  rintro e w2 ⟨b, rfl, h2⟩
  have H2 : Hid (TbF w w2 b newF) := h2
  clear h2 hb1 HA
  go_wp2_with fail
  refine (rnew_any w2).mono ?_
  rintro e w3 ⟨br, rfl, h3, hb3⟩
  have H3 : Hid (Pl w w3 b br newF [(0, 0), (1, 1), (2, 2)]) := ⟨H2.out.over hb3, rft_lower h3 H2.out.bel.size, Rl.new⟩
  clear h3 hb3 H2
  go_wp2_with fail
  go_loopw [6] (fun v6 wr => ∃ (i : Nat) (L : Fd) (T : Tm), v6 = .int .i64 i ∧ i ≤ 200 ∧ Pl w wr b br L T) (fun v6 _ => 200 - (intOf v6).toNat)
  case atStart => exact ⟨0, _, _, rfl, Nat.zero_le _, H3.out⟩
  case round =>
    obtain ⟨i, L, T, rfl, hi, ht⟩ := hrel
    have HT : Hid (Pl w wr b br L T) := ht
    have HCR : Hid (OpsR wr a l.length l) := HR.out.below ht.t.bel
    clear ht H3
    by_cases hil : i < l.length
    · have hil1 : (i : Int) < (l.length : Int) := by omega
      have hil2 : decide ((i : Int) < (l.length : Int)) = true := decide_eq_true hil1
      by_cases h200 : i < 200
      · have h201 : (i : Int) < 200 := by omega
        have h202 : decide ((i : Int) < 200) = true := decide_eq_true h201
        obtain ⟨bb, oo, ea, cd, cz⟩ := HCR.out.at hil
        subst ea
        generalize l[i].1 = dd at *
        generalize l[i].2 = zz at *
        clear HCR
        go_wp2_with fail
        refine (does_any w wr b br dd zz L T HT.out).mono ?_
        rintro e w5 ⟨rfl, L', T', h5⟩
        clear cd cz HT
        have HP5 : Hid (Pl w w5 b br L' T') := h5
        obtain ⟨vi, vl, hr5⟩ := h5.r
        obtain ⟨pi, ci, hvi⟩ := row_slice hr5.ri
        obtain ⟨m, hm⟩ : ∃ m, lenF L' = m := ⟨_, rfl⟩
        have hk : (keys T').length = m := by rw [keys_len, h5.rl.len, hm]
        rw [hk] at hvi
        subst hvi
        have HPD : Hid (Pl w w5.drew b br L' T') := h5.over (Below.refl _ _).drew
        have HCI : Hid (∀ X, Below w5.drew.heap.size w5.drew X → X.cell? ⟨br, 0, none⟩ = some (.slice pi m ci)) := fun X hX => ((hr5.over (Below.refl _ _).drew).blk.over hX).cell 0
        have HLN : Hid (Calls Try.prog 11 #[.pointer (some ⟨b, 0, none⟩)] w5.drew fun e w' => e = .returned (.int .i64 m) ∧ Below w5.drew.heap.size w5.drew w') := by
          have := len_any b L' w5.drew HPD.out.t.tb
          rw [hm] at this
          exact this
        have r1 : ((m : Int) == (m : Int)) = true := by simp
        have r2 : ((m : Int) != (m : Int)) = false := by simp
        clear h5 hr5 hm hk HP5
        go_wp2_with fail
        refine wp_region_late (E := []) (S := fun X => Below w5.drew.heap.size w5.drew X) (by kernel_rfl) (Below.refl _ _) (fun hHeld => ?_)
        simp only [List.size_toArray, List.length_cons, List.length_nil, Nat.reduceAdd]
        generalize w5.drew = wd at *
        refine wpAnyL_take [1, 2, 11] (i := 0) (v := ?_) (by kernel_rfl) (by kernel_rfl) (by kernel_rfl) rfl (by kernel_rfl) (by kernel_rfl) (by kernel_rfl) (fun _ _ _ h => h) (Or.inl ⟨by rfl, ?_⟩) hHeld ?_
        rotate_left
        · (intro w hSw; (try dsimp only at hSw); go_simp; try with_reducible rfl)
        try simp only [Act.put, List.setIfInBounds_toArray, List.set_cons_zero, List.set_cons_succ, List.getElem_toArray, List.getElem_cons_zero]
        refine wpAnyL_take [2, 11] (i := 1) (v := ?_) (by kernel_rfl) (by kernel_rfl) (by kernel_rfl) rfl (by kernel_rfl) (by kernel_rfl) (by kernel_rfl) (fun _ _ _ h => h) (Or.inl ⟨by rfl, ?_⟩) hHeld ?_
        rotate_left
        · (intro w hSw; (try dsimp only at hSw); go_simp; try with_reducible rfl)
        try simp only [Act.put, List.setIfInBounds_toArray, List.set_cons_zero, List.set_cons_succ, List.getElem_toArray, List.getElem_cons_zero, List.getElem_cons_succ]
        refine wpAnyL_take [11] (i := 2) (v := ?_) (by kernel_rfl) (by kernel_rfl) (by kernel_rfl) rfl (by kernel_rfl) (by kernel_rfl) (by kernel_rfl) (fun _ _ _ h => h) (Or.inl ⟨by rfl, ?_⟩) hHeld ?_
        rotate_left
        · (intro w hSw; (try dsimp only at hSw); go_simp; try with_reducible rfl)
        try simp only [Act.put, List.setIfInBounds_toArray, List.set_cons_zero, List.set_cons_succ, List.getElem_toArray, List.getElem_cons_zero, List.getElem_cons_succ]
        refine wpAnyL_take [4, 10, 11] (i := 3) (v := ?_) (by kernel_rfl) (by kernel_rfl) (by kernel_rfl) rfl (by kernel_rfl) (by kernel_rfl) (by kernel_rfl) (fun _ _ _ h => h) (Or.inl ⟨by rfl, ?_⟩) hHeld ?_
        rotate_left
        · (intro w hSw; (try dsimp only at hSw); go_simp; try with_reducible rfl)
        try simp only [Act.put, List.setIfInBounds_toArray, List.set_cons_zero, List.set_cons_succ, List.getElem_toArray, List.getElem_cons_zero, List.getElem_cons_succ]
        refine wpAnyL_take [6, 7, 8, 9, 10, 11] (i := 5) (v := ?_) (by kernel_rfl) (by kernel_rfl) (by kernel_rfl) rfl (by kernel_rfl) (by kernel_rfl) (by kernel_rfl) (fun _ _ _ h => h) (Or.inl ⟨by rfl, ?_⟩) hHeld ?_
        rotate_left
        · (intro w hSw; (try dsimp only at hSw); go_simp; try with_reducible rfl)
        try simp only [Act.put, List.setIfInBounds_toArray, List.set_cons_zero, List.set_cons_succ, List.getElem_toArray, List.getElem_cons_zero, List.getElem_cons_succ]
        refine wpAnyL_take [7, 8, 9, 10, 11] (i := 6) (v := ?_) (by kernel_rfl) (by kernel_rfl) (by kernel_rfl) rfl (by kernel_rfl) (by kernel_rfl) (by kernel_rfl) (fun _ _ _ h => h) (Or.inl ⟨by rfl, ?_⟩) hHeld ?_
        rotate_left
        · (intro w hSw; (try dsimp only at hSw); go_simp; try with_reducible rfl)
        try simp only [Act.put, List.setIfInBounds_toArray, List.set_cons_zero, List.set_cons_succ, List.getElem_toArray, List.getElem_cons_zero, List.getElem_cons_succ]
        refine wpAnyL_take [8, 9, 10, 11] (i := 7) (v := ?_) (by kernel_rfl) (by kernel_rfl) (by kernel_rfl) rfl (by kernel_rfl) (by kernel_rfl) (by kernel_rfl) (fun _ _ _ h => h) (Or.inl ⟨by rfl, ?_⟩) hHeld ?_
        rotate_left
        · (intro w hSw; (try dsimp only at hSw); go_simp; try with_reducible rfl)
        try simp only [Act.put, List.setIfInBounds_toArray, List.set_cons_zero, List.set_cons_succ, List.getElem_toArray, List.getElem_cons_zero, List.getElem_cons_succ]
        refine wpAnyL_take [9, 10, 11] (i := 8) (v := ?_) (by kernel_rfl) (by kernel_rfl) (by kernel_rfl) rfl (by kernel_rfl) (by kernel_rfl) (by kernel_rfl) (fun _ _ _ h => h) (Or.inl ⟨by rfl, ?_⟩) hHeld ?_
        rotate_left
        · (intro w hSw; (try dsimp only at hSw); have hc := HCI.out w hSw; go_simp; try with_reducible rfl)
        try simp only [Act.put, List.setIfInBounds_toArray, List.set_cons_zero, List.set_cons_succ, List.getElem_toArray, List.getElem_cons_zero, List.getElem_cons_succ]
        refine wpAnyL_take [10, 11] (i := 9) (v := ?_) (by kernel_rfl) (by kernel_rfl) (by kernel_rfl) rfl (by kernel_rfl) (by kernel_rfl) (by kernel_rfl) (fun _ _ _ h => h) (Or.inl ⟨by rfl, ?_⟩) hHeld ?_
        rotate_left
        · (intro w hSw; (try dsimp only at hSw); go_simp; try with_reducible rfl)
        try simp only [Act.put, List.setIfInBounds_toArray, List.set_cons_zero, List.set_cons_succ, List.getElem_toArray, List.getElem_cons_zero, List.getElem_cons_succ]
        refine wpAnyL_one (i := 4) (by kernel_rfl) rfl (fun K hK => ?_)
        go_simp
        go_at_call 11
        refine (HLN.out).mono ?_
        rintro e w7 ⟨rfl, s1⟩
        refine hK.out _ _ (fun _ => s1) ?_
        replace hHeld := s1
        clear hK K
        try simp only [Act.put, List.setIfInBounds_toArray, List.set_cons_zero, List.set_cons_succ, List.getElem_toArray, List.getElem_cons_zero, List.getElem_cons_succ]
        refine wpAnyL_take [11] (i := 10) (v := ?_) (by kernel_rfl) (by kernel_rfl) (by kernel_rfl) rfl (by kernel_rfl) (by kernel_rfl) (by kernel_rfl) (fun _ _ _ h => h) (Or.inl ⟨by rfl, ?_⟩) hHeld ?_
        rotate_left
        · (intro w hSw; (try dsimp only at hSw); go_simp; try with_reducible rfl)
        try simp only [Act.put, List.setIfInBounds_toArray, List.set_cons_zero, List.set_cons_succ, List.getElem_toArray, List.getElem_cons_zero, List.getElem_cons_succ]
        refine wpAnyL_take [] (i := 11) (v := ?_) (by kernel_rfl) (by kernel_rfl) (by kernel_rfl) rfl (by kernel_rfl) (by kernel_rfl) (by kernel_rfl) (fun _ _ _ h => h) (Or.inl ⟨by rfl, ?_⟩) hHeld ?_
        rotate_left
        · (intro w hSw; (try dsimp only at hSw); go_simp; try with_reducible rfl)
        try simp only [Act.put, List.setIfInBounds_toArray, List.set_cons_zero, List.set_cons_succ, List.getElem_toArray, List.getElem_cons_zero, List.getElem_cons_succ]
        refine wpAnyL_done (by kernel_rfl) ?_ _
        have H7 : Hid (Pl w w7 b br L' T') := HPD.out.over s1
        clear s1 HPD HCI HLN hHeld r1 r2
        go_wp2_with fail
        go_loopw [8] (fun v8 wz => ∃ z : Int, -1 ≤ z ∧ z ≤ 17 ∧ v8 = .int .i64 z ∧ Pl w wz b br L' T') (fun v8 _ => (17 - intOf v8).toNat)
        case atStart => exact ⟨-1, by omega, by omega, rfl, H7.out⟩
        case round =>
          obtain ⟨z, hz1, hz2, rfl, hp⟩ := hrel
          have HP : Hid (Pl w wr b br L' T') := hp
          clear hp H7
          by_cases hz : z ≤ 16
          · have hz3 : decide (z ≤ 16) = true := decide_eq_true hz
            have HX := pl_get z HP.out
            have HY : Hid (∀ X, Pl w X b br L' T' → Calls Try.prog 13 #[.pointer (some ⟨br, 0, none⟩), .int .i64 z] X fun e w' => e = .returned (.tuple #[.int .i64 ((getF L' z).getD 0), .bool (getF L' z).isSome]) ∧ Pl w w' b br L' T') := fun X hX => pl_rget z hX
            have HXX : Hid (Calls Try.prog 12 #[.pointer (some ⟨b, 0, none⟩), .int .i64 z] wr fun e w' => e = .returned (.tuple #[.int .i64 ((getF L' z).getD 0), .bool (getF L' z).isSome]) ∧ Pl w w' b br L' T') := HX
            clear HX HP
            generalize (getF L' z).getD 0 = x at *
            generalize (getF L' z).isSome = p at *
            have r1 : (x == x) = true := by simp
            have r2 : (x != x) = false := by simp
            have r3 : (p != p) = false := by simp
            go_wp2_with fail
            refine HXX.out.mono ?_
            rintro e w8 ⟨rfl, h8⟩
            have H8 : Hid (Pl w w8 b br L' T') := h8
            clear h8 HXX
            go_wp2_with fail
            refine (HY.out w8 H8.out).mono ?_
            rintro e w9 ⟨rfl, h9⟩
            have H9 : Hid (Pl w w9 b br L' T') := h9
            clear h9 HY H8
            go_wp2_with fail
            go_roundw
            case rel => exact ⟨z + 1, by omega, by omega, by go_num, H9.out⟩
            case measure => simp [intOf]; omega
          · have hz3 : decide (z ≤ 16) = false := decide_eq_false hz
            go_wp2_with fail
            go_roundw
            case rel => exact ⟨i + 1, L', T', by go_num, h200, HP.out⟩
            case measure => simp [intOf]; omega
      · have h201 : ¬ (i : Int) < 200 := by omega
        have h202 : decide ((i : Int) < 200) = false := decide_eq_false h201
        clear HCR
        go_wp2_with fail
        go_ret
        exact ⟨rfl, HT.out.t.bel⟩
    · have hil1 : ¬ (i : Int) < (l.length : Int) := by omega
      have hil2 : decide ((i : Int) < (l.length : Int)) = false := decide_eq_false hil1
      clear HCR
      go_wp2_with fail
      go_ret
      exact ⟨rfl, HT.out.t.bel⟩

end Go.Proofs.Ytcenjdpochjclaa
