/-
  What was installed and closed leaves the files as they were: the law's walk.
-/
import Derived.Test.YtcenjdpochjclaaLaws1
import Derived.Test.YtcenjdpochjclaaOpen
import Derived.Test.YtcenjdpochjclaaSame
namespace Go.Proofs.Ytcenjdpochjclaa
open Go.RowKit

/-- two tables of the call's own. -/
structure Bk (w W : World) (b c : Nat) (l m : Fd) : Prop where
  t : TbF w W b l
  u : TbF w W c m
  ne : b ≠ c
section
variable {w W W' : World} {b c : Nat} {l m : Fd}
theorem Bk.over (h : Bk w W b c l m) (hb : Below W.heap.size W W') : Bk w W' b c l m := ⟨h.t.over hb, h.u.over hb, h.ne⟩
theorem Bk.step1 {l' : Fd} (h : Bk w W b c l m) (ht : TbV W' b l') (hf : Fr [] [b] 0 W W') : Bk w W' b c l' m :=
  ⟨h.t.step ht hf, ⟨h.u.tb.fr hf (by simp) (by simp; exact fun e => h.ne e.symm), (h.t.step ht hf).bel, h.u.b0⟩, h.ne⟩
theorem Bk.step2 {m' : Fd} (h : Bk w W b c l m) (ht : TbV W' c m') (hf : Fr [] [c] 0 W W') : Bk w W' b c l m' :=
  ⟨⟨h.t.tb.fr hf (by simp) (by simp; exact h.ne), (h.u.step ht hf).bel, h.t.b0⟩, h.u.step ht hf, h.ne⟩
theorem bk_install1 (v : Int) (h : Bk w W b c l m) : Calls Try.prog 14 #[.pointer (some ⟨b, 0, none⟩), .int .i64 v] W fun e w' => e = .returned (.tuple #[.int .i64 (spotF l), .int .i64 (fullF l)]) ∧ Bk w w' b c (instF l v) m := by
  refine (install_any b v l W h.t.tb).mono ?_
  rintro e w' ⟨rfl, h1, h2⟩
  exact ⟨rfl, h.step1 h1 h2⟩
theorem bk_install2 (v : Int) (h : Bk w W b c l m) : Calls Try.prog 14 #[.pointer (some ⟨c, 0, none⟩), .int .i64 v] W fun e w' => e = .returned (.tuple #[.int .i64 (spotF m), .int .i64 (fullF m)]) ∧ Bk w w' b c l (instF m v) := by
  refine (install_any c v m W h.u.tb).mono ?_
  rintro e w' ⟨rfl, h1, h2⟩
  exact ⟨rfl, h.step2 h1 h2⟩
theorem bk_close1 (z : Int) (h : Bk w W b c l m) : Calls Try.prog 15 #[.pointer (some ⟨b, 0, none⟩), .int .i64 z] W fun e w' => e = .returned (.int .i64 (noneF l z)) ∧ Bk w w' b c (shutF l z) m := by
  refine (close_any b z l W h.t.tb).mono ?_
  rintro e w' ⟨rfl, h1, h2⟩
  exact ⟨rfl, h.step1 h1 h2⟩
theorem bk_close2 (z : Int) (h : Bk w W b c l m) : Calls Try.prog 15 #[.pointer (some ⟨c, 0, none⟩), .int .i64 z] W fun e w' => e = .returned (.int .i64 (noneF m z)) ∧ Bk w w' b c l (shutF m z) := by
  refine (close_any c z m W h.u.tb).mono ?_
  rintro e w' ⟨rfl, h1, h2⟩
  exact ⟨rfl, h.step2 h1 h2⟩
theorem bk_get2 (z : Int) (h : Bk w W b c l m) : Calls Try.prog 12 #[.pointer (some ⟨c, 0, none⟩), .int .i64 z] W fun e w' => e = .returned (.tuple #[.int .i64 ((getF m z).getD 0), .bool (getF m z).isSome]) ∧ Bk w w' b c l m := by
  refine (get_any c z m W h.u.tb).mono ?_
  rintro e w' ⟨rfl, h1⟩
  exact ⟨rfl, h.over h1⟩
theorem bk_same (h : Bk w W b c l m) : Calls Try.prog 16 #[.pointer (some ⟨b, 0, none⟩), .pointer (some ⟨c, 0, none⟩)] W fun e w' => e = .returned (.bool (l == m)) ∧ Bk w w' b c l m := by
  refine (same_any b c l m W h.t.tb h.u.tb).mono ?_
  rintro e w' ⟨rfl, h1⟩
  exact ⟨rfl, h.over h1⟩
theorem bk_same' (h : Bk w W b c l m) : Calls Try.prog 16 #[.pointer (some ⟨c, 0, none⟩), .pointer (some ⟨b, 0, none⟩)] W fun e w' => e = .returned (.bool (m == l)) ∧ Bk w w' b c l m := by
  refine (same_any c b m l W h.u.tb h.t.tb).mono ?_
  rintro e w' ⟨rfl, h1⟩
  exact ⟨rfl, h.over h1⟩
end

set_option maxHeartbeats 16000000 in
set_option maxRecDepth 8000 in
theorem back_walk (w : World) (a : Option Addr) (len cap : Nat) (l : List (Int × Int)) (val : Int) (h : OpsR w a len l) : Calls Try.prog 5 #[.slice a len cap, .int .i64 val] w fun e w' => e = .returned (.bool true) ∧ Below w.heap.size w w' := by
  obtain rfl : len = l.length := h.1.symm
  have hmax : l.length ≤ 9223372036854775807 := by have := h.2.1; unfold maxLen at this; omega
  have HA : Hid (Calls Try.prog 7 #[] w fun e w' => e = .returned (.bool true) ∧ Below w.heap.size w w') := awake_any w
  have HR : Hid (OpsR w a l.length l) := h
  clear h
  go_enter Try.func5, Try.ntmps5
  go_wp2_with fail
  refine HA.out.mono ?_
  rintro e w1 ⟨rfl, hb1⟩
  go_wp2_with fail
  refine (new_f hb1).mono ?_
  rintro e w2 ⟨b, rfl, h2⟩
  have H2 : Hid (TbF w w2 b newF) := h2
  clear h2 hb1 HA
  go_wp2_with fail
  refine (new_any w2).mono ?_
  rintro e w3 ⟨c, hc, rfl, h3, hb3⟩
  have h4 : Bk w w3 b c newF newF := ⟨H2.out.over hb3, ⟨h3, H2.out.bel.trans (hb3.mono H2.out.bel.size), Nat.le_trans H2.out.bel.size hc⟩, by have := H2.out.tb.blk.lt; omega⟩
  have HS : Hid (Calls Try.prog 16 #[.pointer (some ⟨b, 0, none⟩), .pointer (some ⟨c, 0, none⟩)] w3 fun e w' => e = .returned (.bool true) ∧ Bk w w' b c newF newF) := by
    have := bk_same h4
    rw [beq_self_eq_true] at this
    exact this
  clear hc h3 hb3 h4 H2
  go_wp2_with fail
  refine HS.out.mono ?_
  rintro e w4 ⟨rfl, h5⟩
  have H5 : Hid (Bk w w4 b c newF newF) := h5
  clear h5 HS
  go_wp2_with fail
  refine (same_nil b w4).mono ?_
  rintro e w5 ⟨rfl, hb5⟩
  have H6 : Hid (Bk w w5 b c newF newF) := H5.out.over hb5
  clear hb5 H5
  go_wp2_with fail
  go_loopw [8] (fun v8 wr => ∃ (i : Nat) (L : Fd), v8 = .int .i64 i ∧ i ≤ 200 ∧ Bk w wr b c L L) (fun v8 _ => 200 - (intOf v8).toNat)
  case atStart => exact ⟨0, newF, rfl, Nat.zero_le _, H6.out⟩
  case round =>
    obtain ⟨i, L, rfl, hi, ht⟩ := hrel
    have HT : Hid (Bk w wr b c L L) := ht
    have HCR : Hid (OpsR wr a l.length l) := HR.out.below ht.t.bel
    clear ht H6
    by_cases hil : i < l.length
    · have hil1 : (i : Int) < (l.length : Int) := by omega
      have hil2 : decide ((i : Int) < (l.length : Int)) = true := decide_eq_true hil1
      by_cases h200 : i < 200
      · have h201 : (i : Int) < 200 := by omega
        have h202 : decide ((i : Int) < 200) = true := decide_eq_true h201
        obtain ⟨bb, oo, ea, cd, cz⟩ := HCR.out.at hil
        obtain ⟨bb', oo', ea', _, cz0⟩ := HR.out.at hil
        rw [ea] at ea'
        cases ea'
        subst ea
        have HCZ : Hid (∀ X, Below w.heap.size w X → X.cell? ⟨bb, oo + i * 2 + 1, none⟩ = some (.int .i64 l[i].2)) := fun X hX => by
          rw [hX.cell (p := ⟨bb, oo + i * 2 + 1, none⟩) (World.block_lt_of_cell? w _ cz0)]
          exact cz0
        clear cz0 HCR
        generalize l[i].1 = dd at *
        generalize l[i].2 = zz at *
        by_cases hd0 : dd = 0
        · have hd01 : (dd == 0) = true := by simp [hd0]
          clear hd0
          go_wp2_with fail
          refine (bk_install1 zz HT.out).mono ?_
          rintro e w3 ⟨rfl, h3⟩
          have H3 : Hid (Bk w w3 b c (instF L zz) L) := h3
          have cz3 : w3.cell? ⟨bb, oo + i * 2 + 1, none⟩ = some (.int .i64 zz) := HCZ.out w3 h3.t.bel
          clear h3 cd cz HT
          go_wp2_with fail
          refine (bk_install2 zz H3.out).mono ?_
          rintro e w4 ⟨rfl, h4⟩
          have H4 : Hid (Bk w w4 b c (instF L zz) (instF L zz)) := h4
          clear h4 cz3 H3
          go_wp2_with fail
          go_roundw
          case rel => exact ⟨i + 1, _, by go_num, h200, H4.out⟩
          case measure => simp [intOf]; omega
        · have hd01 : (dd == 0) = false := by simp [hd0]
          by_cases hd1 : dd = 1
          · have hd11 : (dd == 1) = true := by simp [hd1]
            clear hd0 hd1
            go_wp2_with fail
            refine (bk_install1 zz HT.out).mono ?_
            rintro e w3 ⟨rfl, h3⟩
            have H3 : Hid (Bk w w3 b c (instF L zz) L) := h3
            have cz3 : w3.cell? ⟨bb, oo + i * 2 + 1, none⟩ = some (.int .i64 zz) := HCZ.out w3 h3.t.bel
            clear h3 cd cz HT
            go_wp2_with fail
            refine (bk_install2 zz H3.out).mono ?_
            rintro e w4 ⟨rfl, h4⟩
            have H4 : Hid (Bk w w4 b c (instF L zz) (instF L zz)) := h4
            clear h4 cz3 H3
            go_wp2_with fail
            go_roundw
            case rel => exact ⟨i + 1, _, by go_num, h200, H4.out⟩
            case measure => simp [intOf]; omega
          · have hd11 : (dd == 1) = false := by simp [hd1]
            clear hd0 hd1
            go_wp2_with fail
            refine (bk_close1 zz HT.out).mono ?_
            rintro e w3 ⟨rfl, h3⟩
            have H3 : Hid (Bk w w3 b c (shutF L zz) L) := h3
            have cz3 : w3.cell? ⟨bb, oo + i * 2 + 1, none⟩ = some (.int .i64 zz) := HCZ.out w3 h3.t.bel
            clear h3 cd cz HT
            go_wp2_with fail
            refine (bk_close2 zz H3.out).mono ?_
            rintro e w4 ⟨rfl, h4⟩
            have H4 : Hid (Bk w w4 b c (shutF L zz) (shutF L zz)) := h4
            clear h4 cz3 H3
            go_wp2_with fail
            go_roundw
            case rel => exact ⟨i + 1, _, by go_num, h200, H4.out⟩
            case measure => simp [intOf]; omega
      · have h201 : ¬ (i : Int) < 200 := by omega
        have h202 : decide ((i : Int) < 200) = false := decide_eq_false h201
        clear HCR
        have hL := HT.out.t.tb.len
        by_cases hf : free L < L.length
        · have hsp : spotF L = (free L : Int) := if_pos hf
          have hfu : fullF L = 0 := if_pos hf
          have HI : Hid (Calls Try.prog 14 #[.pointer (some ⟨b, 0, none⟩), .int .i64 val] wr fun e w' => e = .returned (.tuple #[.int .i64 (free L : Int), .int .i64 0]) ∧ Bk w w' b c (instF L val) L) := by
            have := bk_install1 val HT.out
            rw [hsp, hfu] at this
            exact this
          have HG : Hid (getF L (free L : Int) = none ∧ noneF (instF L val) (free L : Int) = 0 ∧ shutF (instF L val) (free L : Int) = L ∧ (instF L val == L) = false) := by
            refine ⟨getF_free hf, ?_, shut_inst hf val, ?_⟩
            · unfold noneF
              rw [getF_inst hf, if_pos rfl]
              rfl
            · rw [beq_eq_false_iff_ne]
              exact inst_ne hf val
          clear hsp hfu hf hL HT
          generalize instF L val = L2 at *
          generalize free L = q at *
          go_wp2_with fail
          refine HI.out.mono ?_
          rintro e w5 ⟨rfl, h5⟩
          have HX : Hid (Calls Try.prog 12 #[.pointer (some ⟨c, 0, none⟩), .int .i64 q] w5 fun e w' => e = .returned (.tuple #[.int .i64 0, .bool false]) ∧ Bk w w' b c L2 L) := by
            have := bk_get2 (q : Int) h5
            rw [HG.out.1] at this
            exact this
          clear h5 HI
          go_wp2_with fail
          refine HX.out.mono ?_
          rintro e w6 ⟨rfl, h6⟩
          have HY : Hid (Calls Try.prog 16 #[.pointer (some ⟨b, 0, none⟩), .pointer (some ⟨c, 0, none⟩)] w6 fun e w' => e = .returned (.bool false) ∧ Bk w w' b c L2 L) := by
            have := bk_same h6
            rw [HG.out.2.2.2] at this
            exact this
          clear h6 HX
          go_wp2_with fail
          refine HY.out.mono ?_
          rintro e w7 ⟨rfl, h7⟩
          have HZ : Hid (Calls Try.prog 15 #[.pointer (some ⟨b, 0, none⟩), .int .i64 q] w7 fun e w' => e = .returned (.int .i64 0) ∧ Bk w w' b c L L) := by
            have := bk_close1 (q : Int) h7
            rw [HG.out.2.1, HG.out.2.2.1] at this
            exact this
          clear h7 HY
          go_wp2_with fail
          refine HZ.out.mono ?_
          rintro e w8 ⟨rfl, h8⟩
          have HS : Hid (Calls Try.prog 16 #[.pointer (some ⟨b, 0, none⟩), .pointer (some ⟨c, 0, none⟩)] w8 fun e w' => e = .returned (.bool true) ∧ Bk w w' b c L L) := by
            have := bk_same h8
            rw [beq_self_eq_true] at this
            exact this
          clear h8 HZ
          go_wp2_with fail
          refine HS.out.mono ?_
          rintro e w9 ⟨rfl, h9⟩
          have HR2 : Hid (Calls Try.prog 16 #[.pointer (some ⟨c, 0, none⟩), .pointer (some ⟨b, 0, none⟩)] w9 fun e w' => e = .returned (.bool true) ∧ Below w.heap.size w w') := by
            have := bk_same' h9
            rw [beq_self_eq_true] at this
            exact this.mono fun e w' ⟨h1, h2⟩ => ⟨h1, h2.t.bel⟩
          clear h9 HS
          go_wp2_with fail
          refine HR2.out.mono ?_
          rintro e w10 ⟨rfl, h10⟩
          have H10 : Hid (Below w.heap.size w w10) := h10
          clear h10 HR2
          go_wp2_with fail
          go_ret
          exact ⟨rfl, H10.out⟩
        · have hsp : spotF L = -1 := if_neg hf
          have hfu : fullF L = 16 := if_neg hf
          have HI : Hid (Calls Try.prog 14 #[.pointer (some ⟨b, 0, none⟩), .int .i64 val] wr fun e w' => e = .returned (.tuple #[.int .i64 (-1), .int .i64 16]) ∧ Bk w w' b c L L) := by
            have := bk_install1 val HT.out
            rw [hsp, hfu, instF_full hf] at this
            exact this
          clear hsp hfu hf hL HT
          go_wp2_with fail
          refine HI.out.mono ?_
          rintro e w5 ⟨rfl, h5⟩
          have HS : Hid (Calls Try.prog 16 #[.pointer (some ⟨b, 0, none⟩), .pointer (some ⟨c, 0, none⟩)] w5 fun e w' => e = .returned (.bool true) ∧ Below w.heap.size w w') := by
            have := bk_same h5
            rw [beq_self_eq_true] at this
            exact this.mono fun e w' ⟨h1, h2⟩ => ⟨h1, h2.t.bel⟩
          clear h5 HI
          go_wp2_with fail
          refine HS.out.mono ?_
          rintro e w6 ⟨rfl, h6⟩
          have H6 : Hid (Below w.heap.size w w6) := h6
          clear h6 HS
          go_wp2_with fail
          go_ret
          exact ⟨rfl, H6.out⟩
    · have hil1 : ¬ (i : Int) < (l.length : Int) := by omega
      have hil2 : decide ((i : Int) < (l.length : Int)) = false := decide_eq_false hil1
      clear HCR
      have hL := HT.out.t.tb.len
      by_cases hf : free L < L.length
      · have hsp : spotF L = (free L : Int) := if_pos hf
        have hfu : fullF L = 0 := if_pos hf
        have HI : Hid (Calls Try.prog 14 #[.pointer (some ⟨b, 0, none⟩), .int .i64 val] wr fun e w' => e = .returned (.tuple #[.int .i64 (free L : Int), .int .i64 0]) ∧ Bk w w' b c (instF L val) L) := by
          have := bk_install1 val HT.out
          rw [hsp, hfu] at this
          exact this
        have HG : Hid (getF L (free L : Int) = none ∧ noneF (instF L val) (free L : Int) = 0 ∧ shutF (instF L val) (free L : Int) = L ∧ (instF L val == L) = false) := by
          refine ⟨getF_free hf, ?_, shut_inst hf val, ?_⟩
          · unfold noneF
            rw [getF_inst hf, if_pos rfl]
            rfl
          · rw [beq_eq_false_iff_ne]
            exact inst_ne hf val
        clear hsp hfu hf hL HT
        generalize instF L val = L2 at *
        generalize free L = q at *
        go_wp2_with fail
        refine HI.out.mono ?_
        rintro e w5 ⟨rfl, h5⟩
        have HX : Hid (Calls Try.prog 12 #[.pointer (some ⟨c, 0, none⟩), .int .i64 q] w5 fun e w' => e = .returned (.tuple #[.int .i64 0, .bool false]) ∧ Bk w w' b c L2 L) := by
          have := bk_get2 (q : Int) h5
          rw [HG.out.1] at this
          exact this
        clear h5 HI
        go_wp2_with fail
        refine HX.out.mono ?_
        rintro e w6 ⟨rfl, h6⟩
        have HY : Hid (Calls Try.prog 16 #[.pointer (some ⟨b, 0, none⟩), .pointer (some ⟨c, 0, none⟩)] w6 fun e w' => e = .returned (.bool false) ∧ Bk w w' b c L2 L) := by
          have := bk_same h6
          rw [HG.out.2.2.2] at this
          exact this
        clear h6 HX
        go_wp2_with fail
        refine HY.out.mono ?_
        rintro e w7 ⟨rfl, h7⟩
        have HZ : Hid (Calls Try.prog 15 #[.pointer (some ⟨b, 0, none⟩), .int .i64 q] w7 fun e w' => e = .returned (.int .i64 0) ∧ Bk w w' b c L L) := by
          have := bk_close1 (q : Int) h7
          rw [HG.out.2.1, HG.out.2.2.1] at this
          exact this
        clear h7 HY
        go_wp2_with fail
        refine HZ.out.mono ?_
        rintro e w8 ⟨rfl, h8⟩
        have HS : Hid (Calls Try.prog 16 #[.pointer (some ⟨b, 0, none⟩), .pointer (some ⟨c, 0, none⟩)] w8 fun e w' => e = .returned (.bool true) ∧ Bk w w' b c L L) := by
          have := bk_same h8
          rw [beq_self_eq_true] at this
          exact this
        clear h8 HZ
        go_wp2_with fail
        refine HS.out.mono ?_
        rintro e w9 ⟨rfl, h9⟩
        have HR2 : Hid (Calls Try.prog 16 #[.pointer (some ⟨c, 0, none⟩), .pointer (some ⟨b, 0, none⟩)] w9 fun e w' => e = .returned (.bool true) ∧ Below w.heap.size w w') := by
          have := bk_same' h9
          rw [beq_self_eq_true] at this
          exact this.mono fun e w' ⟨h1, h2⟩ => ⟨h1, h2.t.bel⟩
        clear h9 HS
        go_wp2_with fail
        refine HR2.out.mono ?_
        rintro e w10 ⟨rfl, h10⟩
        have H10 : Hid (Below w.heap.size w w10) := h10
        clear h10 HR2
        go_wp2_with fail
        go_ret
        exact ⟨rfl, H10.out⟩
      · have hsp : spotF L = -1 := if_neg hf
        have hfu : fullF L = 16 := if_neg hf
        have HI : Hid (Calls Try.prog 14 #[.pointer (some ⟨b, 0, none⟩), .int .i64 val] wr fun e w' => e = .returned (.tuple #[.int .i64 (-1), .int .i64 16]) ∧ Bk w w' b c L L) := by
          have := bk_install1 val HT.out
          rw [hsp, hfu, instF_full hf] at this
          exact this
        clear hsp hfu hf hL HT
        go_wp2_with fail
        refine HI.out.mono ?_
        rintro e w5 ⟨rfl, h5⟩
        have HS : Hid (Calls Try.prog 16 #[.pointer (some ⟨b, 0, none⟩), .pointer (some ⟨c, 0, none⟩)] w5 fun e w' => e = .returned (.bool true) ∧ Below w.heap.size w w') := by
          have := bk_same h5
          rw [beq_self_eq_true] at this
          exact this.mono fun e w' ⟨h1, h2⟩ => ⟨h1, h2.t.bel⟩
        clear h5 HI
        go_wp2_with fail
        refine HS.out.mono ?_
        rintro e w6 ⟨rfl, h6⟩
        have H6 : Hid (Below w.heap.size w w6) := h6
        clear h6 HS
        go_wp2_with fail
        go_ret
        exact ⟨rfl, H6.out⟩

end Go.Proofs.Ytcenjdpochjclaa
