/-
  Below the place that Install tells none is free, and it changes no other place: the law's walk.
-/
import Derived.Test.YtcenjdpochjclaaLaws1
import Derived.Test.YtcenjdpochjclaaOpen
namespace Go.Proofs.Ytcenjdpochjclaa
open Go.RowKit

/-- what was kept of the first places. -/
def oldC (L : Fd) (k : Nat) : List Value := (List.range 16).map fun j => Value.int .i64 (if j < k then (getF L (j : Int)).getD 0 else 0)
def wasC (L : Fd) (k : Nat) : List Value := (List.range 16).map fun j => Value.bool (if j < k then (getF L (j : Int)).isSome else false)
theorem oldC_at (L : Fd) (k j : Nat) (h : j < 16) : (oldC L k)[j]? = some (.int .i64 (if j < k then (getF L (j : Int)).getD 0 else 0)) := by
  unfold oldC
  rw [List.getElem?_map, List.getElem?_range h]
  rfl
theorem wasC_at (L : Fd) (k j : Nat) (h : j < 16) : (wasC L k)[j]? = some (.bool (if j < k then (getF L (j : Int)).isSome else false)) := by
  unfold wasC
  rw [List.getElem?_map, List.getElem?_range h]
  rfl
theorem oldC_len (L : Fd) (k : Nat) : (oldC L k).length = 16 := by simp [oldC]
theorem wasC_len (L : Fd) (k : Nat) : (wasC L k).length = 16 := by simp [wasC]
theorem oldC_set (L : Fd) (k : Nat) (hk : k < 16) : (oldC L k).set k (.int .i64 ((getF L (k : Int)).getD 0)) = oldC L (k + 1) := by
  apply List.ext_getElem?
  intro j
  by_cases hj : j < 16
  · rw [oldC_at L (k + 1) j hj, List.getElem?_set]
    by_cases e : k = j
    · subst e
      rw [if_pos rfl, if_pos (by rw [oldC_len]; exact hk), if_pos (Nat.lt_succ_self k)]
    · rw [if_neg e, oldC_at L k j hj]
      by_cases h : j < k
      · rw [if_pos h, if_pos (by omega)]
      · rw [if_neg h, if_neg (by omega)]
  · rw [List.getElem?_eq_none (by rw [List.length_set, oldC_len]; omega), List.getElem?_eq_none (by rw [oldC_len]; omega)]
theorem wasC_set (L : Fd) (k : Nat) (hk : k < 16) : (wasC L k).set k (.bool (getF L (k : Int)).isSome) = wasC L (k + 1) := by
  apply List.ext_getElem?
  intro j
  by_cases hj : j < 16
  · rw [wasC_at L (k + 1) j hj, List.getElem?_set]
    by_cases e : k = j
    · subst e
      rw [if_pos rfl, if_pos (by rw [wasC_len]; exact hk), if_pos (Nat.lt_succ_self k)]
    · rw [if_neg e, wasC_at L k j hj]
      by_cases h : j < k
      · rw [if_pos h, if_pos (by omega)]
      · rw [if_neg h, if_neg (by omega)]
  · rw [List.getElem?_eq_none (by rw [List.length_set, wasC_len]; omega), List.getElem?_eq_none (by rw [wasC_len]; omega)]

theorem oldC_zero (L : Fd) : (oldC L 0).toArray = #[.int .i64 0, .int .i64 0, .int .i64 0, .int .i64 0, .int .i64 0, .int .i64 0, .int .i64 0, .int .i64 0, .int .i64 0, .int .i64 0, .int .i64 0, .int .i64 0, .int .i64 0, .int .i64 0, .int .i64 0, .int .i64 0] := rfl
theorem wasC_zero (L : Fd) : (wasC L 0).toArray = #[.bool false, .bool false, .bool false, .bool false, .bool false, .bool false, .bool false, .bool false, .bool false, .bool false, .bool false, .bool false, .bool false, .bool false, .bool false, .bool false] := rfl

/-- the table, and what was kept of it. -/
structure Lo (w W : World) (b bo bw : Nat) (l : Fd) (O Q : List Value) : Prop where
  tb : TbF w W b l
  old : Blk W bo 42 O
  was : Blk W bw 43 Q
  o0 : w.heap.size ≤ bo
  w0 : w.heap.size ≤ bw
  ne1 : b ≠ bo
  ne2 : b ≠ bw
  ne3 : bo ≠ bw
section
variable {w W W' : World} {b bo bw : Nat} {l l' : Fd} {O Q : List Value}
theorem Lo.over (h : Lo w W b bo bw l O Q) (hb : Below W.heap.size W W') : Lo w W' b bo bw l O Q := ⟨h.tb.over hb, h.old.over hb, h.was.over hb, h.o0, h.w0, h.ne1, h.ne2, h.ne3⟩
theorem Lo.step (h : Lo w W b bo bw l O Q) (ht : TbV W' b l') (hf : Fr [] [b] 0 W W') : Lo w W' b bo bw l' O Q :=
  ⟨h.tb.step ht hf, h.old.fr hf (by simp) (by simp; exact fun e => h.ne1 e.symm), h.was.fr hf (by simp) (by simp; exact fun e => h.ne2 e.symm), h.o0, h.w0, h.ne1, h.ne2, h.ne3⟩
theorem Lo.set {i j : Nat} {v u : Value} (h : Lo w W b bo bw l O Q) : Lo w ((W.setCell ⟨bo, i, none⟩ v).setCell ⟨bw, j, none⟩ u) b bo bw l (O.set i v) (Q.set j u) := by
  have h1 : Fr [] [bo, bw] 0 W ((W.setCell ⟨bo, i, none⟩ v).setCell ⟨bw, j, none⟩ u) := ((fr_set1 (b := bo)).mono (by simp) (by simp)).trans ((fr_set1 (b := bw)).mono (by simp) (by simp))
  refine ⟨⟨h.tb.tb.fr h1 (by simp) (by simp; exact ⟨h.ne1, h.ne2⟩), h.tb.bel.trans (fr_lift h1 (by simp; exact ⟨h.o0, h.w0⟩) h.tb.bel.size).bel, h.tb.b0⟩, ?_, ?_, h.o0, h.w0, h.ne1, h.ne2, h.ne3⟩
  · exact (h.old.set i v).other _ _ h.ne3
  · exact (h.was.other ⟨bo, i, none⟩ v (fun e => h.ne3 e.symm)).set j u
theorem lo_get (z : Int) (h : Lo w W b bo bw l O Q) : Calls Try.prog 12 #[.pointer (some ⟨b, 0, none⟩), .int .i64 z] W fun e w' => e = .returned (.tuple #[.int .i64 ((getF l z).getD 0), .bool (getF l z).isSome]) ∧ Lo w w' b bo bw l O Q := by
  refine (get_any b z l W h.tb.tb).mono ?_
  rintro e w' ⟨rfl, h1⟩
  exact ⟨rfl, h.over h1⟩
theorem lo_install (v : Int) (h : Lo w W b bo bw l O Q) : Calls Try.prog 14 #[.pointer (some ⟨b, 0, none⟩), .int .i64 v] W fun e w' => e = .returned (.tuple #[.int .i64 (spotF l), .int .i64 (fullF l)]) ∧ Lo w w' b bo bw (instF l v) O Q := by
  refine (install_any b v l W h.tb.tb).mono ?_
  rintro e w' ⟨rfl, h1, h2⟩
  exact ⟨rfl, h.step h1 h2⟩
end

set_option maxHeartbeats 16000000 in
set_option maxRecDepth 8000 in
theorem lowest_walk (w : World) (a : Option Addr) (len cap : Nat) (l : List (Int × Int)) (val : Int) (h : OpsR w a len l) : Calls Try.prog 4 #[.slice a len cap, .int .i64 val] w fun e w' => e = .returned (.bool true) ∧ Below w.heap.size w w' := by
  obtain rfl : len = l.length := h.1.symm
  have hmax : l.length ≤ 9223372036854775807 := by have := h.2.1; unfold maxLen at this; omega
  have HA : Hid (Calls Try.prog 7 #[] w fun e w' => e = .returned (.bool true) ∧ Below w.heap.size w w') := awake_any w
  have HR : Hid (OpsR w a l.length l) := h
  clear h
  go_enter Try.func4, Try.ntmps4
  go_wp2_with fail
  refine HA.out.mono ?_
  rintro e w1 ⟨rfl, hb1⟩
  go_wp2_with fail
  refine (new_f hb1).mono ?_
  rintro e w2 ⟨b, rfl, h2⟩
  have H2 : Hid (TbF w w2 b newF) := h2
  clear h2 hb1 HA
  go_wp2_with fail
  go_loopw [7] (fun v7 wr => ∃ (i : Nat) (L : Fd), v7 = .int .i64 i ∧ i ≤ 200 ∧ TbF w wr b L) (fun v7 _ => 200 - (intOf v7).toNat)
  case atStart => exact ⟨0, newF, rfl, Nat.zero_le _, H2.out⟩
  case round =>
    obtain ⟨i, L, rfl, hi, ht⟩ := hrel
    have HT : Hid (TbF w wr b L) := ht
    have HCR : Hid (OpsR wr a l.length l) := HR.out.below ht.bel
    clear ht H2
    by_cases hil : i < l.length
    · have hil1 : (i : Int) < (l.length : Int) := by omega
      have hil2 : decide ((i : Int) < (l.length : Int)) = true := decide_eq_true hil1
      by_cases h200 : i < 200
      · have h201 : (i : Int) < 200 := by omega
        have h202 : decide ((i : Int) < 200) = true := decide_eq_true h201
        obtain ⟨bb, oo, ea, cd, cz⟩ := HCR.out.at hil
        subst ea
        generalize l[i].1 = dd at *
        generalize l[i].2 = zz at *
        by_cases hd0 : dd = 0
        · have hd01 : (dd == 0) = true := by simp [hd0]
          clear hd0
          go_wp2_with fail
          refine (install_f zz HT.out).mono ?_
          rintro e w3 ⟨rfl, h3⟩
          have H3 : Hid (TbF w w3 b (instF L zz)) := h3
          clear h3 cd cz HT
          go_wp2_with fail
          go_roundw
          case rel => exact ⟨i + 1, _, by go_num, h200, H3.out⟩
          case measure => simp [intOf]; omega
        · have hd01 : (dd == 0) = false := by simp [hd0]
          by_cases hd1 : dd = 1
          · have hd11 : (dd == 1) = true := by simp [hd1]
            clear hd0 hd1
            go_wp2_with fail
            refine (install_f zz HT.out).mono ?_
            rintro e w3 ⟨rfl, h3⟩
            have H3 : Hid (TbF w w3 b (instF L zz)) := h3
            clear h3 cd cz HT
            go_wp2_with fail
            go_roundw
            case rel => exact ⟨i + 1, _, by go_num, h200, H3.out⟩
            case measure => simp [intOf]; omega
          · have hd11 : (dd == 1) = false := by simp [hd1]
            clear hd0 hd1
            go_wp2_with fail
            refine (close_f zz HT.out).mono ?_
            rintro e w3 ⟨rfl, h3⟩
            have H3 : Hid (TbF w w3 b (shutF L zz)) := h3
            clear h3 cd cz HT
            go_wp2_with fail
            go_roundw
            case rel => exact ⟨i + 1, _, by go_num, h200, H3.out⟩
            case measure => simp [intOf]; omega
      · have h201 : ¬ (i : Int) < 200 := by omega
        have h202 : decide ((i : Int) < 200) = false := decide_eq_false h201
        clear HCR
        have HBO : Hid (Blk (wr.alloc (.cells (oldC L 0).toArray 42)) wr.heap.size 42 (oldC L 0)) := blk_new _ _ _
        have HLO : Hid (Lo w ((wr.alloc (.cells (oldC L 0).toArray 42)).alloc (.cells (wasC L 0).toArray 43)) b wr.heap.size (wr.heap.size + 1) L (oldC L 0) (wasC L 0)) := by
          have h1 := HT.out.tb.blk.lt
          have h2 := HT.out.bel.size
          refine ⟨HT.out.over (room_below wr _ _), HBO.out.over (below_new _ _), blk_new' wr _ _ _, h2, by omega, by omega, by omega, by omega⟩
        rw [oldC_zero, wasC_zero] at HLO
        clear HBO HT
        go_wp2_with fail
        generalize ((wr.alloc (.cells #[.int .i64 0, .int .i64 0, .int .i64 0, .int .i64 0, .int .i64 0, .int .i64 0, .int .i64 0, .int .i64 0, .int .i64 0, .int .i64 0, .int .i64 0, .int .i64 0, .int .i64 0, .int .i64 0, .int .i64 0, .int .i64 0] 42)).alloc (.cells #[.bool false, .bool false, .bool false, .bool false, .bool false, .bool false, .bool false, .bool false, .bool false, .bool false, .bool false, .bool false, .bool false, .bool false, .bool false, .bool false] 43)) = W2 at *
        generalize wr.heap.size + 1 = bw at *
        generalize wr.heap.size = bo at *
        go_loopw [10, 11] (fun v10 v11 wz => ∃ k : Nat, v10 = .int .i64 (lenF (L.take k)) ∧ v11 = .int .i64 k ∧ k ≤ 16 ∧ Lo w wz b bo bw L (oldC L k) (wasC L k)) (fun _ v11 _ => 16 - (intOf v11).toNat)
        case atStart => exact ⟨0, rfl, rfl, Nat.zero_le _, HLO.out⟩
        case round =>
          obtain ⟨k, rfl, rfl, hk, hg⟩ := hrel
          have HG : Hid (Lo w wr b bo bw L (oldC L k) (wasC L k)) := hg
          clear hg HLO
          by_cases hk16 : k < 16
          · have hk1 : (k : Int) < 16 := by omega
            have hm := lenF_le (L.take k)
            have hkl : k < L.length := by have := HG.out.tb.tb.len; omega
            have HM : Hid (lenF (L.take (k + 1)) = lenF (L.take k) + if (getF L (k : Int)).isSome then 1 else 0) := by
              show _ = _
              rw [getF_at hkl]
              exact lenF_take L k hkl
            rw [List.length_take] at hm
            have hm2 : lenF (L.take k) ≤ 16 := by omega
            have HX := lo_get (k : Int) HG.out
            have HSET : Hid (∀ X, Lo w X b bo bw L (oldC L k) (wasC L k) → Lo w ((X.setCell ⟨bo, k, none⟩ (.int .i64 ((getF L (k : Int)).getD 0))).setCell ⟨bw, k, none⟩ (.bool (getF L (k : Int)).isSome)) b bo bw L (oldC L (k + 1)) (wasC L (k + 1))) := fun X hX => by
              have := hX.set (i := k) (j := k) (v := .int .i64 ((getF L (k : Int)).getD 0)) (u := .bool (getF L (k : Int)).isSome)
              rw [oldC_set L k hk16, wasC_set L k hk16] at this
              exact this
            have HOK : Hid ((∃ v, (oldC L k)[k]? = some v) ∧ (∃ v, (wasC L k)[k]? = some v)) := ⟨⟨_, oldC_at L k k hk16⟩, ⟨_, wasC_at L k k hk16⟩⟩
            have HXX : Hid (Calls Try.prog 12 #[.pointer (some ⟨b, 0, none⟩), .int .i64 k] wr fun e w' => e = .returned (.tuple #[.int .i64 ((getF L (k : Int)).getD 0), .bool (getF L (k : Int)).isSome]) ∧ Lo w w' b bo bw L (oldC L k) (wasC L k)) := HX
            clear HX hm hkl
            generalize (getF L (k : Int)).getD 0 = x at *
            generalize (getF L (k : Int)).isSome = p at *
            generalize lenF (L.take k) = m at *
            go_wp2_with fail
            refine HXX.out.mono ?_
            rintro e w5 ⟨rfl, h5⟩
            obtain ⟨⟨v1, ho⟩, ⟨v2, hw⟩⟩ := HOK.out
            have o1 : w5.cell? ⟨bo, k, none⟩ = some v1 := by rw [h5.old.cell]; exact ho
            have o2 : w5.frozen? ⟨bo, k, none⟩ = false := h5.old.f k
            have o3 : (w5.setCell ⟨bo, k, none⟩ (.int .i64 x)).cell? ⟨bw, k, none⟩ = some v2 := by rw [(h5.was.other ⟨bo, k, none⟩ (.int .i64 x) (fun e => h5.ne3 e.symm)).cell]; exact hw
            have o4 : (w5.setCell ⟨bo, k, none⟩ (.int .i64 x)).frozen? ⟨bw, k, none⟩ = false := (h5.was.other ⟨bo, k, none⟩ (.int .i64 x) (fun e => h5.ne3 e.symm)).f k
            have H5 : Hid (Lo w ((w5.setCell ⟨bo, k, none⟩ (.int .i64 x)).setCell ⟨bw, k, none⟩ (.bool p)) b bo bw L (oldC L (k + 1)) (wasC L (k + 1))) := HSET.out w5 h5
            clear h5 HSET HXX HG ho hw HOK
            cases p
            · go_wp2_with fail
              go_roundw
              case rel => exact ⟨k + 1, by rw [HM.out]; rfl, by go_num, hk16, H5.out⟩
              case measure => simp [intOf]; omega
            · go_wp2_with fail
              go_roundw
              case rel => exact ⟨k + 1, by rw [HM.out]; go_num, by go_num, hk16, H5.out⟩
              case measure => simp [intOf]; omega
          · have hk1 : ¬ (k : Int) < 16 := by omega
            obtain rfl : k = 16 := by omega
            have hL := HG.out.tb.tb.len
            rw [List.take_of_length_le (by omega : L.length ≤ 16)]
            by_cases hf : free L < L.length
            · have hq16 : free L < 16 := by omega
              have hml := lenF_inst hf val
              have hml2 := lenF_le (instF L val)
              rw [len_instF] at hml2
              have hsp : spotF L = (free L : Int) := if_pos hf
              have hfu : fullF L = 0 := if_pos hf
              have HXX : Hid (Calls Try.prog 14 #[.pointer (some ⟨b, 0, none⟩), .int .i64 val] wr fun e w' => e = .returned (.tuple #[.int .i64 (free L : Int), .int .i64 0]) ∧ Lo w w' b bo bw (instF L val) (oldC L 16) (wasC L 16)) := by
                have := lo_install val HG.out
                rw [hsp, hfu] at this
                exact this
              have HWQ : Hid ((wasC L 16)[free L]? = some (.bool false)) := by
                show _ = _
                rw [wasC_at L 16 _ hq16, if_pos hq16, getF_free hf]
                rfl
              have HLT : Hid (∀ k, k < free L → ∃ x, (oldC L 16)[k]? = some (.int .i64 x) ∧ (wasC L 16)[k]? = some (.bool true) ∧ getF (instF L val) (k : Int) = some x) := fun k hk => by
                obtain ⟨x, hx⟩ := free_some hk
                have hg : getF L (k : Int) = some x := by rw [getF_nat, hx]; rfl
                refine ⟨x, ?_, ?_, ?_⟩
                · rw [oldC_at L 16 k (by omega), if_pos (by omega), hg]; rfl
                · rw [wasC_at L 16 k (by omega), if_pos (by omega), hg]; rfl
                · rw [getF_inst hf, if_neg (by omega), hg]
              have HEQ : Hid (getF (instF L val) (free L : Int) = some val) := by
                show _ = _
                rw [getF_inst hf, if_pos rfl]
              have HGT : Hid (∀ k, free L < k → k < 16 → (oldC L 16)[k]? = some (.int .i64 ((getF (instF L val) (k : Int)).getD 0)) ∧ (wasC L 16)[k]? = some (.bool (getF (instF L val) (k : Int)).isSome)) := fun k hk hk2 => by
                rw [getF_inst hf, if_neg (by omega)]
                exact ⟨by rw [oldC_at L 16 k hk2, if_pos hk2], by rw [wasC_at L 16 k hk2, if_pos hk2]⟩
              have HLN : Hid (lenF (instF L val) = lenF L + 1) := hml
              have hm16 : lenF L < 16 := by omega
              generalize lenF L = m at *
              generalize instF L val = L2 at *
              generalize free L = q at *
              have hm1 : ((m : Int) == 16) = false := by simp; omega
              have q1 : decide ((q : Int) < 0) = false := decide_eq_false (by omega)
              have q2 : decide (15 < (q : Int)) = false := decide_eq_false (by omega)
              have q3 : (q : Int) < 16 := by omega
              clear hf hsp hfu hml hml2 HG hL
              go_wp2_with fail
              refine HXX.out.mono ?_
              rintro e w6 ⟨rfl, h6⟩
              have H6 : Hid (Lo w w6 b bo bw L2 (oldC L 16) (wasC L 16)) := h6
              have x1 : w6.cell? ⟨bw, q, none⟩ = some (.bool false) := by rw [h6.was.cell]; exact HWQ.out
              clear h6 HXX HWQ
              go_wp2_with fail
              clear x1
              go_loopw [16] (fun v16 wz => ∃ k : Nat, v16 = .int .i64 k ∧ k ≤ 16 ∧ Lo w wz b bo bw L2 (oldC L 16) (wasC L 16)) (fun v16 _ => 16 - (intOf v16).toNat)
              case atStart => exact ⟨0, rfl, Nat.zero_le _, H6.out⟩
              case round =>
                obtain ⟨k, rfl, hk, hg⟩ := hrel
                have HG : Hid (Lo w wr b bo bw L2 (oldC L 16) (wasC L 16)) := hg
                clear hg H6
                by_cases hk16 : k < 16
                · have hk2 : (k : Int) < 16 := by omega
                  by_cases hkq : k < q
                  · obtain ⟨x, ho, hw, hx⟩ := HLT.out k hkq
                    have HOW : Hid ((oldC L 16)[k]? = some (.int .i64 x) ∧ (wasC L 16)[k]? = some (.bool true)) := ⟨ho, hw⟩
                    have HXX : Hid (Calls Try.prog 12 #[.pointer (some ⟨b, 0, none⟩), .int .i64 k] wr fun e w' => e = .returned (.tuple #[.int .i64 x, .bool true]) ∧ Lo w w' b bo bw L2 (oldC L 16) (wasC L 16)) := by
                      have := lo_get (k : Int) HG.out
                      rw [hx] at this
                      exact this
                    have r1 : decide ((k : Int) < (q : Int)) = true := decide_eq_true (by omega)
                    have r2 : ((k : Int) == (q : Int)) = false := by simp; omega
                    have r3 : ((k : Int) != (q : Int)) = true := by simp; omega
                    have r4 : (x == x) = true := by simp
                    have r5 : (x != x) = false := by simp
                    clear ho hw hx HG
                    go_wp2_with fail
                    refine HXX.out.mono ?_
                    rintro e w7 ⟨rfl, h7⟩
                    have x1 : w7.cell? ⟨bo, k, none⟩ = some (.int .i64 x) := by rw [h7.old.cell]; exact HOW.out.1
                    have x2 : w7.cell? ⟨bw, k, none⟩ = some (.bool true) := by rw [h7.was.cell]; exact HOW.out.2
                    have H7 : Hid (Lo w w7 b bo bw L2 (oldC L 16) (wasC L 16)) := h7
                    clear h7 HXX HOW
                    go_wp2_with fail
                    go_roundw
                    case rel => exact ⟨k + 1, by go_num, hk16, H7.out⟩
                    case measure => simp [intOf]; omega
                  · by_cases hke : k = q
                    · subst hke
                      have HXX : Hid (Calls Try.prog 12 #[.pointer (some ⟨b, 0, none⟩), .int .i64 k] wr fun e w' => e = .returned (.tuple #[.int .i64 val, .bool true]) ∧ Lo w w' b bo bw L2 (oldC L 16) (wasC L 16)) := by
                        have := lo_get (k : Int) HG.out
                        rw [HEQ.out] at this
                        exact this
                      have r1 : decide ((k : Int) < (k : Int)) = false := decide_eq_false (by omega)
                      have r2 : ((k : Int) == (k : Int)) = true := by simp
                      have r3 : ((k : Int) != (k : Int)) = false := by simp
                      have r4 : (val == val) = true := by simp
                      have r5 : (val != val) = false := by simp
                      clear HG
                      go_wp2_with fail
                      refine HXX.out.mono ?_
                      rintro e w7 ⟨rfl, h7⟩
                      have H7 : Hid (Lo w w7 b bo bw L2 (oldC L 16) (wasC L 16)) := h7
                      clear h7 HXX
                      go_wp2_with fail
                      go_roundw
                      case rel => exact ⟨k + 1, by go_num, hk16, H7.out⟩
                      case measure => simp [intOf]; omega
                    · obtain ⟨ho, hw⟩ := HGT.out k (by omega) hk16
                      have HXX : Hid (Calls Try.prog 12 #[.pointer (some ⟨b, 0, none⟩), .int .i64 k] wr fun e w' => e = .returned (.tuple #[.int .i64 ((getF L2 (k : Int)).getD 0), .bool (getF L2 (k : Int)).isSome]) ∧ Lo w w' b bo bw L2 (oldC L 16) (wasC L 16)) := lo_get (k : Int) HG.out
                      have HOW : Hid ((oldC L 16)[k]? = some (.int .i64 ((getF L2 (k : Int)).getD 0)) ∧ (wasC L 16)[k]? = some (.bool (getF L2 (k : Int)).isSome)) := ⟨ho, hw⟩
                      generalize (getF L2 (k : Int)).getD 0 = x at *
                      generalize (getF L2 (k : Int)).isSome = p at *
                      have r1 : decide ((k : Int) < (q : Int)) = false := decide_eq_false (by omega)
                      have r2 : ((k : Int) == (q : Int)) = false := by simp; omega
                      have r3 : ((k : Int) != (q : Int)) = true := by simp; omega
                      have r4 : (x == x) = true := by simp
                      have r5 : (x != x) = false := by simp
                      have r6 : (p != p) = false := by simp
                      clear ho hw HG
                      go_wp2_with fail
                      refine HXX.out.mono ?_
                      rintro e w7 ⟨rfl, h7⟩
                      have x1 : w7.cell? ⟨bo, k, none⟩ = some (.int .i64 x) := by rw [h7.old.cell]; exact HOW.out.1
                      have x2 : w7.cell? ⟨bw, k, none⟩ = some (.bool p) := by rw [h7.was.cell]; exact HOW.out.2
                      have H7 : Hid (Lo w w7 b bo bw L2 (oldC L 16) (wasC L 16)) := h7
                      clear h7 HXX HOW
                      go_wp2_with fail
                      go_roundw
                      case rel => exact ⟨k + 1, by go_num, hk16, H7.out⟩
                      case measure => simp [intOf]; omega
                · have hk2 : ¬ (k : Int) < 16 := by omega
                  have HL2 : Hid (Calls Try.prog 11 #[.pointer (some ⟨b, 0, none⟩)] wr fun e w' => e = .returned (.int .i64 ((m : Int) + 1)) ∧ Below w.heap.size w w') := by
                    refine (len_f HG.out.tb).mono ?_
                    rintro e w' ⟨h1, h2⟩
                    refine ⟨?_, h2.bel⟩
                    rw [h1, HLN.out]
                    rfl
                  have s1 : ((m : Int) + 1 == (m : Int) + 1) = true := by simp
                  clear HG
                  go_wp2_with (first
                    | (go_at_call 11; refine HL2.out.mono ?_; rintro e w8 ⟨rfl, hb8⟩; have H8 : Hid (Below w.heap.size w w8) := hb8; clear hb8))
                  go_ret
                  exact ⟨rfl, H8.out⟩
            · have hm : lenF L = 16 := by rw [← hL]; exact lenF_full.2 hf
              have hsp : spotF L = -1 := if_neg hf
              have hfu : fullF L = 16 := if_neg hf
              have HXX : Hid (Calls Try.prog 14 #[.pointer (some ⟨b, 0, none⟩), .int .i64 val] wr fun e w' => e = .returned (.tuple #[.int .i64 (-1), .int .i64 16]) ∧ TbF w w' b L) := by
                have := install_f val HG.out.tb
                rw [hsp, hfu, instF_full hf] at this
                exact this
              have HM : Hid (lenF L = 16) := hm
              rw [hm]
              clear hm hsp hfu hf HG hL
              go_wp2_with fail
              refine HXX.out.mono ?_
              rintro e w6 ⟨rfl, h6⟩
              have HL2 : Hid (Calls Try.prog 11 #[.pointer (some ⟨b, 0, none⟩)] w6 fun e w' => e = .returned (.int .i64 16) ∧ Below w.heap.size w w') := by
                refine (len_f h6).mono ?_
                rintro e w' ⟨h1, h2⟩
                refine ⟨?_, h2.bel⟩
                rw [h1, HM.out]
                rfl
              clear h6 HXX
              go_wp2_with (first
                | (go_at_call 11; refine HL2.out.mono ?_; rintro e w8 ⟨rfl, hb8⟩; have H8 : Hid (Below w.heap.size w w8) := hb8; clear hb8))
              go_ret
              exact ⟨rfl, H8.out⟩
    · have hil1 : ¬ (i : Int) < (l.length : Int) := by omega
      have hil2 : decide ((i : Int) < (l.length : Int)) = false := decide_eq_false hil1
      clear HCR
      have HBO : Hid (Blk (wr.alloc (.cells (oldC L 0).toArray 42)) wr.heap.size 42 (oldC L 0)) := blk_new _ _ _
      have HLO : Hid (Lo w ((wr.alloc (.cells (oldC L 0).toArray 42)).alloc (.cells (wasC L 0).toArray 43)) b wr.heap.size (wr.heap.size + 1) L (oldC L 0) (wasC L 0)) := by
        have h1 := HT.out.tb.blk.lt
        have h2 := HT.out.bel.size
        refine ⟨HT.out.over (room_below wr _ _), HBO.out.over (below_new _ _), blk_new' wr _ _ _, h2, by omega, by omega, by omega, by omega⟩
      rw [oldC_zero, wasC_zero] at HLO
      clear HBO HT
      go_wp2_with fail
      generalize ((wr.alloc (.cells #[.int .i64 0, .int .i64 0, .int .i64 0, .int .i64 0, .int .i64 0, .int .i64 0, .int .i64 0, .int .i64 0, .int .i64 0, .int .i64 0, .int .i64 0, .int .i64 0, .int .i64 0, .int .i64 0, .int .i64 0, .int .i64 0] 42)).alloc (.cells #[.bool false, .bool false, .bool false, .bool false, .bool false, .bool false, .bool false, .bool false, .bool false, .bool false, .bool false, .bool false, .bool false, .bool false, .bool false, .bool false] 43)) = W2 at *
      generalize wr.heap.size + 1 = bw at *
      generalize wr.heap.size = bo at *
      go_loopw [10, 11] (fun v10 v11 wz => ∃ k : Nat, v10 = .int .i64 (lenF (L.take k)) ∧ v11 = .int .i64 k ∧ k ≤ 16 ∧ Lo w wz b bo bw L (oldC L k) (wasC L k)) (fun _ v11 _ => 16 - (intOf v11).toNat)
      case atStart => exact ⟨0, rfl, rfl, Nat.zero_le _, HLO.out⟩
      case round =>
        obtain ⟨k, rfl, rfl, hk, hg⟩ := hrel
        have HG : Hid (Lo w wr b bo bw L (oldC L k) (wasC L k)) := hg
        clear hg HLO
        by_cases hk16 : k < 16
        · have hk1 : (k : Int) < 16 := by omega
          have hm := lenF_le (L.take k)
          have hkl : k < L.length := by have := HG.out.tb.tb.len; omega
          have HM : Hid (lenF (L.take (k + 1)) = lenF (L.take k) + if (getF L (k : Int)).isSome then 1 else 0) := by
            show _ = _
            rw [getF_at hkl]
            exact lenF_take L k hkl
          rw [List.length_take] at hm
          have hm2 : lenF (L.take k) ≤ 16 := by omega
          have HX := lo_get (k : Int) HG.out
          have HSET : Hid (∀ X, Lo w X b bo bw L (oldC L k) (wasC L k) → Lo w ((X.setCell ⟨bo, k, none⟩ (.int .i64 ((getF L (k : Int)).getD 0))).setCell ⟨bw, k, none⟩ (.bool (getF L (k : Int)).isSome)) b bo bw L (oldC L (k + 1)) (wasC L (k + 1))) := fun X hX => by
            have := hX.set (i := k) (j := k) (v := .int .i64 ((getF L (k : Int)).getD 0)) (u := .bool (getF L (k : Int)).isSome)
            rw [oldC_set L k hk16, wasC_set L k hk16] at this
            exact this
          have HOK : Hid ((∃ v, (oldC L k)[k]? = some v) ∧ (∃ v, (wasC L k)[k]? = some v)) := ⟨⟨_, oldC_at L k k hk16⟩, ⟨_, wasC_at L k k hk16⟩⟩
          have HXX : Hid (Calls Try.prog 12 #[.pointer (some ⟨b, 0, none⟩), .int .i64 k] wr fun e w' => e = .returned (.tuple #[.int .i64 ((getF L (k : Int)).getD 0), .bool (getF L (k : Int)).isSome]) ∧ Lo w w' b bo bw L (oldC L k) (wasC L k)) := HX
          clear HX hm hkl
          generalize (getF L (k : Int)).getD 0 = x at *
          generalize (getF L (k : Int)).isSome = p at *
          generalize lenF (L.take k) = m at *
          go_wp2_with fail
          refine HXX.out.mono ?_
          rintro e w5 ⟨rfl, h5⟩
          obtain ⟨⟨v1, ho⟩, ⟨v2, hw⟩⟩ := HOK.out
          have o1 : w5.cell? ⟨bo, k, none⟩ = some v1 := by rw [h5.old.cell]; exact ho
          have o2 : w5.frozen? ⟨bo, k, none⟩ = false := h5.old.f k
          have o3 : (w5.setCell ⟨bo, k, none⟩ (.int .i64 x)).cell? ⟨bw, k, none⟩ = some v2 := by rw [(h5.was.other ⟨bo, k, none⟩ (.int .i64 x) (fun e => h5.ne3 e.symm)).cell]; exact hw
          have o4 : (w5.setCell ⟨bo, k, none⟩ (.int .i64 x)).frozen? ⟨bw, k, none⟩ = false := (h5.was.other ⟨bo, k, none⟩ (.int .i64 x) (fun e => h5.ne3 e.symm)).f k
          have H5 : Hid (Lo w ((w5.setCell ⟨bo, k, none⟩ (.int .i64 x)).setCell ⟨bw, k, none⟩ (.bool p)) b bo bw L (oldC L (k + 1)) (wasC L (k + 1))) := HSET.out w5 h5
          clear h5 HSET HXX HG ho hw HOK
          cases p
          · go_wp2_with fail
            go_roundw
            case rel => exact ⟨k + 1, by rw [HM.out]; rfl, by go_num, hk16, H5.out⟩
            case measure => simp [intOf]; omega
          · go_wp2_with fail
            go_roundw
            case rel => exact ⟨k + 1, by rw [HM.out]; go_num, by go_num, hk16, H5.out⟩
            case measure => simp [intOf]; omega
        · have hk1 : ¬ (k : Int) < 16 := by omega
          obtain rfl : k = 16 := by omega
          have hL := HG.out.tb.tb.len
          rw [List.take_of_length_le (by omega : L.length ≤ 16)]
          by_cases hf : free L < L.length
          · have hq16 : free L < 16 := by omega
            have hml := lenF_inst hf val
            have hml2 := lenF_le (instF L val)
            rw [len_instF] at hml2
            have hsp : spotF L = (free L : Int) := if_pos hf
            have hfu : fullF L = 0 := if_pos hf
            have HXX : Hid (Calls Try.prog 14 #[.pointer (some ⟨b, 0, none⟩), .int .i64 val] wr fun e w' => e = .returned (.tuple #[.int .i64 (free L : Int), .int .i64 0]) ∧ Lo w w' b bo bw (instF L val) (oldC L 16) (wasC L 16)) := by
              have := lo_install val HG.out
              rw [hsp, hfu] at this
              exact this
            have HWQ : Hid ((wasC L 16)[free L]? = some (.bool false)) := by
              show _ = _
              rw [wasC_at L 16 _ hq16, if_pos hq16, getF_free hf]
              rfl
            have HLT : Hid (∀ k, k < free L → ∃ x, (oldC L 16)[k]? = some (.int .i64 x) ∧ (wasC L 16)[k]? = some (.bool true) ∧ getF (instF L val) (k : Int) = some x) := fun k hk => by
              obtain ⟨x, hx⟩ := free_some hk
              have hg : getF L (k : Int) = some x := by rw [getF_nat, hx]; rfl
              refine ⟨x, ?_, ?_, ?_⟩
              · rw [oldC_at L 16 k (by omega), if_pos (by omega), hg]; rfl
              · rw [wasC_at L 16 k (by omega), if_pos (by omega), hg]; rfl
              · rw [getF_inst hf, if_neg (by omega), hg]
            have HEQ : Hid (getF (instF L val) (free L : Int) = some val) := by
              show _ = _
              rw [getF_inst hf, if_pos rfl]
            have HGT : Hid (∀ k, free L < k → k < 16 → (oldC L 16)[k]? = some (.int .i64 ((getF (instF L val) (k : Int)).getD 0)) ∧ (wasC L 16)[k]? = some (.bool (getF (instF L val) (k : Int)).isSome)) := fun k hk hk2 => by
              rw [getF_inst hf, if_neg (by omega)]
              exact ⟨by rw [oldC_at L 16 k hk2, if_pos hk2], by rw [wasC_at L 16 k hk2, if_pos hk2]⟩
            have HLN : Hid (lenF (instF L val) = lenF L + 1) := hml
            have hm16 : lenF L < 16 := by omega
            generalize lenF L = m at *
            generalize instF L val = L2 at *
            generalize free L = q at *
            have hm1 : ((m : Int) == 16) = false := by simp; omega
            have q1 : decide ((q : Int) < 0) = false := decide_eq_false (by omega)
            have q2 : decide (15 < (q : Int)) = false := decide_eq_false (by omega)
            have q3 : (q : Int) < 16 := by omega
            clear hf hsp hfu hml hml2 HG hL
            go_wp2_with fail
            refine HXX.out.mono ?_
            rintro e w6 ⟨rfl, h6⟩
            have H6 : Hid (Lo w w6 b bo bw L2 (oldC L 16) (wasC L 16)) := h6
            have x1 : w6.cell? ⟨bw, q, none⟩ = some (.bool false) := by rw [h6.was.cell]; exact HWQ.out
            clear h6 HXX HWQ
            go_wp2_with fail
            clear x1
            go_loopw [16] (fun v16 wz => ∃ k : Nat, v16 = .int .i64 k ∧ k ≤ 16 ∧ Lo w wz b bo bw L2 (oldC L 16) (wasC L 16)) (fun v16 _ => 16 - (intOf v16).toNat)
            case atStart => exact ⟨0, rfl, Nat.zero_le _, H6.out⟩
            case round =>
              obtain ⟨k, rfl, hk, hg⟩ := hrel
              have HG : Hid (Lo w wr b bo bw L2 (oldC L 16) (wasC L 16)) := hg
              clear hg H6
              by_cases hk16 : k < 16
              · have hk2 : (k : Int) < 16 := by omega
                by_cases hkq : k < q
                · obtain ⟨x, ho, hw, hx⟩ := HLT.out k hkq
                  have HOW : Hid ((oldC L 16)[k]? = some (.int .i64 x) ∧ (wasC L 16)[k]? = some (.bool true)) := ⟨ho, hw⟩
                  have HXX : Hid (Calls Try.prog 12 #[.pointer (some ⟨b, 0, none⟩), .int .i64 k] wr fun e w' => e = .returned (.tuple #[.int .i64 x, .bool true]) ∧ Lo w w' b bo bw L2 (oldC L 16) (wasC L 16)) := by
                    have := lo_get (k : Int) HG.out
                    rw [hx] at this
                    exact this
                  have r1 : decide ((k : Int) < (q : Int)) = true := decide_eq_true (by omega)
                  have r2 : ((k : Int) == (q : Int)) = false := by simp; omega
                  have r3 : ((k : Int) != (q : Int)) = true := by simp; omega
                  have r4 : (x == x) = true := by simp
                  have r5 : (x != x) = false := by simp
                  clear ho hw hx HG
                  go_wp2_with fail
                  refine HXX.out.mono ?_
                  rintro e w7 ⟨rfl, h7⟩
                  have x1 : w7.cell? ⟨bo, k, none⟩ = some (.int .i64 x) := by rw [h7.old.cell]; exact HOW.out.1
                  have x2 : w7.cell? ⟨bw, k, none⟩ = some (.bool true) := by rw [h7.was.cell]; exact HOW.out.2
                  have H7 : Hid (Lo w w7 b bo bw L2 (oldC L 16) (wasC L 16)) := h7
                  clear h7 HXX HOW
                  go_wp2_with fail
                  go_roundw
                  case rel => exact ⟨k + 1, by go_num, hk16, H7.out⟩
                  case measure => simp [intOf]; omega
                · by_cases hke : k = q
                  · subst hke
                    have HXX : Hid (Calls Try.prog 12 #[.pointer (some ⟨b, 0, none⟩), .int .i64 k] wr fun e w' => e = .returned (.tuple #[.int .i64 val, .bool true]) ∧ Lo w w' b bo bw L2 (oldC L 16) (wasC L 16)) := by
                      have := lo_get (k : Int) HG.out
                      rw [HEQ.out] at this
                      exact this
                    have r1 : decide ((k : Int) < (k : Int)) = false := decide_eq_false (by omega)
                    have r2 : ((k : Int) == (k : Int)) = true := by simp
                    have r3 : ((k : Int) != (k : Int)) = false := by simp
                    have r4 : (val == val) = true := by simp
                    have r5 : (val != val) = false := by simp
                    clear HG
                    go_wp2_with fail
                    refine HXX.out.mono ?_
                    rintro e w7 ⟨rfl, h7⟩
                    have H7 : Hid (Lo w w7 b bo bw L2 (oldC L 16) (wasC L 16)) := h7
                    clear h7 HXX
                    go_wp2_with fail
                    go_roundw
                    case rel => exact ⟨k + 1, by go_num, hk16, H7.out⟩
                    case measure => simp [intOf]; omega
                  · obtain ⟨ho, hw⟩ := HGT.out k (by omega) hk16
                    have HXX : Hid (Calls Try.prog 12 #[.pointer (some ⟨b, 0, none⟩), .int .i64 k] wr fun e w' => e = .returned (.tuple #[.int .i64 ((getF L2 (k : Int)).getD 0), .bool (getF L2 (k : Int)).isSome]) ∧ Lo w w' b bo bw L2 (oldC L 16) (wasC L 16)) := lo_get (k : Int) HG.out
                    have HOW : Hid ((oldC L 16)[k]? = some (.int .i64 ((getF L2 (k : Int)).getD 0)) ∧ (wasC L 16)[k]? = some (.bool (getF L2 (k : Int)).isSome)) := ⟨ho, hw⟩
                    generalize (getF L2 (k : Int)).getD 0 = x at *
                    generalize (getF L2 (k : Int)).isSome = p at *
                    have r1 : decide ((k : Int) < (q : Int)) = false := decide_eq_false (by omega)
                    have r2 : ((k : Int) == (q : Int)) = false := by simp; omega
                    have r3 : ((k : Int) != (q : Int)) = true := by simp; omega
                    have r4 : (x == x) = true := by simp
                    have r5 : (x != x) = false := by simp
                    have r6 : (p != p) = false := by simp
                    clear ho hw HG
                    go_wp2_with fail
                    refine HXX.out.mono ?_
                    rintro e w7 ⟨rfl, h7⟩
                    have x1 : w7.cell? ⟨bo, k, none⟩ = some (.int .i64 x) := by rw [h7.old.cell]; exact HOW.out.1
                    have x2 : w7.cell? ⟨bw, k, none⟩ = some (.bool p) := by rw [h7.was.cell]; exact HOW.out.2
                    have H7 : Hid (Lo w w7 b bo bw L2 (oldC L 16) (wasC L 16)) := h7
                    clear h7 HXX HOW
                    go_wp2_with fail
                    go_roundw
                    case rel => exact ⟨k + 1, by go_num, hk16, H7.out⟩
                    case measure => simp [intOf]; omega
              · have hk2 : ¬ (k : Int) < 16 := by omega
                have HL2 : Hid (Calls Try.prog 11 #[.pointer (some ⟨b, 0, none⟩)] wr fun e w' => e = .returned (.int .i64 ((m : Int) + 1)) ∧ Below w.heap.size w w') := by
                  refine (len_f HG.out.tb).mono ?_
                  rintro e w' ⟨h1, h2⟩
                  refine ⟨?_, h2.bel⟩
                  rw [h1, HLN.out]
                  rfl
                have s1 : ((m : Int) + 1 == (m : Int) + 1) = true := by simp
                clear HG
                go_wp2_with (first
                  | (go_at_call 11; refine HL2.out.mono ?_; rintro e w8 ⟨rfl, hb8⟩; have H8 : Hid (Below w.heap.size w w8) := hb8; clear hb8))
                go_ret
                exact ⟨rfl, H8.out⟩
          · have hm : lenF L = 16 := by rw [← hL]; exact lenF_full.2 hf
            have hsp : spotF L = -1 := if_neg hf
            have hfu : fullF L = 16 := if_neg hf
            have HXX : Hid (Calls Try.prog 14 #[.pointer (some ⟨b, 0, none⟩), .int .i64 val] wr fun e w' => e = .returned (.tuple #[.int .i64 (-1), .int .i64 16]) ∧ TbF w w' b L) := by
              have := install_f val HG.out.tb
              rw [hsp, hfu, instF_full hf] at this
              exact this
            have HM : Hid (lenF L = 16) := hm
            rw [hm]
            clear hm hsp hfu hf HG hL
            go_wp2_with fail
            refine HXX.out.mono ?_
            rintro e w6 ⟨rfl, h6⟩
            have HL2 : Hid (Calls Try.prog 11 #[.pointer (some ⟨b, 0, none⟩)] w6 fun e w' => e = .returned (.int .i64 16) ∧ Below w.heap.size w w') := by
              refine (len_f h6).mono ?_
              rintro e w' ⟨h1, h2⟩
              refine ⟨?_, h2.bel⟩
              rw [h1, HM.out]
              rfl
            clear h6 HXX
            go_wp2_with (first
              | (go_at_call 11; refine HL2.out.mono ?_; rintro e w8 ⟨rfl, hb8⟩; have H8 : Hid (Below w.heap.size w w8) := hb8; clear hb8))
            go_ret
            exact ⟨rfl, H8.out⟩

end Go.Proofs.Ytcenjdpochjclaa
