/-
  ShowLines: a line for the default act, a line for each rule.
-/
import Derived.Test.YtcllgpbgikidjaaLMath
import Derived.Test.YtcllgpbgikidjaaSAwake
import Derived.Test.YtcllgpbgikidjaaSOpen
namespace Go.Proofs.Ytcllgpbgikidjaa
open Go.RowKit

theorem text_len {T : List Int} {w : World} {k a : Int} {v : Value} {l : List Xr} (h : RlR w v l) (hB : rulesB k a (l.map Xr.r) = true) (hin : ∀ x ∈ l, x.r.in) : (textT T k a (l.map Xr.r)).length ≤ 6500000130 := by
  obtain ⟨_, _, _, _, _, _, h4⟩ := h
  have hB2 : actB k a = true ∧ l.length ≤ 64 ∧ ∀ x ∈ l, ruleB x.r = true := by
    unfold rulesB at hB
    simp only [Bool.and_eq_true, decide_eq_true_eq, List.all_eq_true, List.mem_map, List.length_map] at hB
    exact ⟨hB.1.1, hB.1.2, fun x hx => hB.2 x.r ⟨x, hx, rfl⟩⟩
  have HD : (defT T k a).length ≤ 100000002 := lineT_len (flat_join (W := w) (fun y hy => by
      rcases List.mem_cons.1 hy with rfl | h1
      · exact ⟨trivial, (by decide : wDefaultB.size ≤ 100)⟩
      · rcases List.mem_cons.1 h1 with rfl | h2
        · exact ⟨actB_out hB2.1, trivial⟩
        · cases h2) (by simp))
  have key : ∀ m : List Xr, (∀ x ∈ m, ruleB x.r = true ∧ x.r.in ∧ StrR w x.vn x.r.names) → ((m.map Xr.r).flatMap (ruleT T)).length ≤ m.length * 100000002 := by
    intro m
    induction m with
    | nil => intro _; exact Nat.le_refl _
    | cons x m ih =>
      intro hm
      obtain ⟨g1, g2, g3⟩ := hm x List.mem_cons_self
      have e := lineT_len (flat_join (T := T) (W := w) (parts_ok (W := w) g1 g2 g3) (by have := (parts_len g1).2; omega))
      rw [parts_line] at e
      have := ih fun y hy => hm y (List.mem_cons_of_mem _ hy)
      rw [List.map_cons, List.flatMap_cons, List.length_append, List.length_cons]
      omega
  have := key l fun x hx => ⟨hB2.2.2 x hx, hin x hx, (h4 x hx).1⟩
  unfold textT
  rw [List.length_append]
  have h64 := hB2.2.1
  omega

theorem bar_at (TX : List UInt8) (i : Nat) (hs : i < (bar TX).size) (h : i < TX.length) : (bar TX)[i]'hs = TX[i]'h := by
  show (bar TX).data[i]'hs = _
  exact List.getElem_toArray h

theorem str_at {TX : List UInt8} {i : Nat} (h : i < TX.length) (c : Nat) (hc : (TX[i]'h).toNat = c) (W : World) : (Instr.index 9 (.string (bar TX)) (.int .i64 (i : Int))).run Try.prog W = .ok (.int .u8 (c : Int)) W := by
  have hs : i < (bar TX).size := by rw [bar_size]; exact h
  subst hc
  rw [run_index_string W 9 (bar TX) .i64 (i : Int) Try.underlying9, dif_pos ⟨by omega, by omega⟩]
  show Result.ok (Value.int .u8 ((bar TX)[i]'hs).toNat) W = _
  rw [bar_at TX i hs h]

set_option maxRecDepth 8000 in
set_option maxHeartbeats 8000000 in
theorem showLines_walk (T : List Int) (k a : Int) (v : Value) (l : List Xr) (w : World) (hr : RlIn w v l) (ht : Tb T w) :
    Calls Try.prog 5 #[.agg #[.int .i64 k, .int .i64 a, v]] w fun e w' => e = .returned (.bool true) ∧ Below w.heap.size w w' := by
  obtain ⟨p1, c1, rfl⟩ : ∃ p c, v = .slice p l.length c := by obtain ⟨⟨p, c, e, _⟩, _⟩ := hr; exact ⟨p, c, e⟩
  have be : Below w.heap.size w (w.alloc (Obj.cells #[.int .i64 k, .int .i64 a, .slice p1 l.length c1] 26)) := (Below.refl _ _).alloc (Nat.le_refl _) _
  have BE : Hid (Below w.heap.size w (w.alloc (Obj.cells #[.int .i64 k, .int .i64 a, .slice p1 l.length c1] 26))) := be
  have HK : Hid (Blk (w.alloc (Obj.cells #[.int .i64 k, .int .i64 a, .slice p1 l.length c1] 26)) w.heap.size 26 [.int .i64 k, .int .i64 a, .slice p1 l.length c1]) := blk_new w _ _
  have HT : Hid (Tb T (w.alloc (Obj.cells #[.int .i64 k, .int .i64 a, .slice p1 l.length c1] 26))) := ht.below be
  have SN : Hid (RlR (w.alloc (Obj.cells #[.int .i64 k, .int .i64 a, .slice p1 l.length c1] 26)) (.slice p1 l.length c1) l) := hr.1.below be
  have HU : Hid (∀ y ∈ l, ∀ c ∈ y.r.conds, U64 c.mask ∧ U64 c.val) := hr.2
  clear hr ht be
  go_enter Try.func5, Try.ntmps5
  go_wp2_with fail
  generalize (w.alloc (Obj.cells #[.int .i64 k, .int .i64 a, .slice p1 l.length c1] 26)) = X at *
  refine (awake_any T X HT.out).mono ?_
  rintro e w1 ⟨rfl, b1⟩
  have B1 : Hid (Below X.heap.size X w1) := b1
  have t0 : w1.cell? ⟨w.heap.size, 0, none⟩ = some (.int .i64 k) := (HK.out.over b1).cell 0
  have t1 : w1.cell? ⟨w.heap.size, 1, none⟩ = some (.int .i64 a) := (HK.out.over b1).cell 1
  have t2 : w1.cell? ⟨w.heap.size, 2, none⟩ = some (.slice p1 l.length c1) := (HK.out.over b1).cell 2
  have L1 := light_any w1 k a (.slice p1 l.length c1) l (SN.out.below b1)
  have HL1 : Hid (Calls Try.prog 7 #[.agg #[.int .i64 k, .int .i64 a, .slice p1 l.length c1]] w1 fun e w' => LightR w1 l e w') := L1
  clear L1 b1
  go_wp2_with fail
  refine HL1.out.mono ?_
  rintro e w2 ⟨bb, rfl, b2, hbb⟩
  have B2 : Hid (Below X.heap.size X w2) := B1.out.trans (b2.mono B1.out.size)
  clear t0 t1 t2 b2 B1 HL1
  rcases Bool.eq_false_or_eq_true bb with rfl | rfl
  · have HLt : Hid (Lt l) := hbb rfl
    clear hbb
    obtain ⟨l1, l2⟩ := lt_bounds HLt.out
    have t0 : w2.cell? ⟨w.heap.size, 0, none⟩ = some (.int .i64 k) := (HK.out.over B2.out).cell 0
    have t1 : w2.cell? ⟨w.heap.size, 1, none⟩ = some (.int .i64 a) := (HK.out.over B2.out).cell 1
    have t2 : w2.cell? ⟨w.heap.size, 2, none⟩ = some (.slice p1 l.length c1) := (HK.out.over B2.out).cell 2
    rcases Bool.eq_false_or_eq_true (rulesB k a (l.map Xr.r)) with hB | hB
    · have HTX : Hid (Calls Try.prog 8 #[.agg #[.int .i64 k, .int .i64 a, .slice p1 l.length c1]] w2 fun e w' => e = .returned (.tuple #[.string (bar (textT T k a (l.map Xr.r))), .int .i64 0]) ∧ Below w2.heap.size w2 w') := text_yes T w2 k a _ l (SN.out.below B2.out) l1 l2 hB (lt_in HLt.out HU.out) (HT.out.below B2.out)
      have hq : actB k a = true ∧ ∀ x ∈ l.map Xr.r, ruleB x = true ∧ x.in := by
        have hB' := hB
        unfold rulesB at hB'
        simp only [Bool.and_eq_true, decide_eq_true_eq, List.all_eq_true] at hB'
        refine ⟨hB'.1.1, fun x hx => ⟨hB'.2 x hx, ?_⟩⟩
        obtain ⟨y, hy, rfl⟩ := List.mem_map.1 hx
        exact lt_in HLt.out HU.out y hy
      have HC : Hid ((textT T k a (l.map Xr.r)).count 10 = 1 + l.length) := by have := text_count (T := T) hq.1 (l.map Xr.r) hq.2; rw [List.length_map] at this; exact this
      have HJ : Hid (∃ J, textT T k a (l.map Xr.r) = J ++ [10]) := text_last hq.1 (l.map Xr.r) hq.2
      have HN : Hid ((textT T k a (l.map Xr.r)).length ≤ 6500000130) := text_len SN.out hB (lt_in HLt.out HU.out)
      have HBB : Hid (rulesB k a (l.map Xr.r) = true) := hB
      have HLess : Hid (∀ m x, l = m ++ [x] → ∃ R, 2 ≤ R.length ∧ textT T k a (l.map Xr.r) = textT T k a (m.map Xr.r) ++ R) := fun m x e => ⟨_, ruleT_pos T x.r, by rw [e, List.map_append]; exact text_less _ _⟩
      clear hB l1 l2 hq
      generalize textT T k a (l.map Xr.r) = TX at *
      have hszI : ((bar TX).size : Int) = (TX.length : Int) := by rw [bar_size]
      have hszm : (TX.length : Int) ≤ 6500000130 := by have := HN.out; omega
      go_wp2_with fail
      refine HTX.out.mono ?_
      rintro e w3 ⟨rfl, b3⟩
      have B3 : Hid (Below X.heap.size X w3) := B2.out.trans (b3.mono B2.out.size)
      clear t0 t1 t2 b3 HTX
      have t0 : w3.cell? ⟨w.heap.size, 0, none⟩ = some (.int .i64 k) := (HK.out.over B3.out).cell 0
      have t1 : w3.cell? ⟨w.heap.size, 1, none⟩ = some (.int .i64 a) := (HK.out.over B3.out).cell 1
      have t2 : w3.cell? ⟨w.heap.size, 2, none⟩ = some (.slice p1 l.length c1) := (HK.out.over B3.out).cell 2
      go_wp2_with fail
      go_loop [7, 8] (fun vn vi => ∃ i : Nat, vn = .int .i64 ((TX.take i).count 10 : Nat) ∧ vi = .int .i64 i ∧ i ≤ TX.length) (fun _ vi => TX.length - (intOf vi).toNat)
      case atStart => exact ⟨0, rfl, rfl, Nat.zero_le _⟩
      case round =>
        obtain ⟨i, rfl, rfl, hi⟩ := hrel
        by_cases hlt : i < TX.length
        · have hi1 : (i : Int) < (TX.length : Int) := by omega
          have hcl : (TX.take i).count 10 ≤ TX.length := Nat.le_trans (List.count_le_length ..) (by rw [List.length_take]; omega)
          have hst := count_step hlt
          by_cases h10 : TX[i] = 10
          · have hix := str_at hlt 10 (by rw [h10]; rfl)
            rw [if_pos h10] at hst
            have HST : Hid ((TX.take (i + 1)).count 10 = (TX.take i).count 10 + 1) := hst
            clear hst h10
            generalize (TX.take i).count 10 = n at *
            go_wp2
            go_round
            case rel => exact ⟨i + 1, by rw [HST.out]; go_num, by go_num, hlt⟩
            case measure => simp [intOf]; omega
          · have hne : ¬ ((TX[i]).toNat : Int) = 10 := fun e => h10 (UInt8.toNat_inj.1 (by have : (TX[i]).toNat = 10 := by omega
                                                                                           rw [this]; rfl))
            have hix := str_at hlt _ rfl
            rw [if_neg h10] at hst
            have HST : Hid ((TX.take (i + 1)).count 10 = (TX.take i).count 10 + 0) := hst
            clear hst h10
            generalize (TX[i]).toNat = c at *
            generalize (TX.take i).count 10 = n at *
            go_wp2
            go_round
            case rel => exact ⟨i + 1, by rw [HST.out]; rfl, by go_num, hlt⟩
            case measure => simp [intOf]; omega
        · have hge : ¬ (i : Int) < (TX.length : Int) := by omega
          have htk : TX.take i = TX := List.take_of_length_le (by omega)
          have hcn : (TX.take i).count 10 = 1 + l.length := by rw [htk]; exact HC.out
          rw [hcn]
          have hl70 : (l.length : Int) ≤ 70 := by have := HLt.out.1; omega
          obtain ⟨J, hJ⟩ := HJ.out
          have hpos : 0 < TX.length := by rw [hJ]; simp
          have hlast : ∀ W : World, (Instr.index 9 (.string (bar TX)) (.int .i64 ((TX.length : Int) - 1))).run Try.prog W = .ok (.int .u8 10) W := fun W => by
            have h1 : TX.length - 1 < TX.length := by omega
            have h2 : (TX[TX.length - 1]'h1) = 10 := by
              have : TX.getLast? = some 10 := by rw [hJ]; simp
              rw [List.getLast?_eq_getElem?, List.getElem?_eq_getElem h1] at this
              exact Option.some.inj this
            have := str_at h1 10 (by rw [h2]; rfl) W
            rw [show ((TX.length - 1 : Nat) : Int) = (TX.length : Int) - 1 from by omega] at this
            exact this
          clear hcn htk HC hJ HJ J
          rcases List.eq_nil_or_concat l with h0 | ⟨m, x, hmx⟩
          · have hl0 : (l.length : Int) = 0 := by rw [h0]; rfl
            go_wp2
            go_ret
            exact ⟨rfl, BE.out.trans (B3.out.mono BE.out.size)⟩
          · rw [List.concat_eq_append] at hmx
            have hln : l.length = m.length + 1 := by rw [hmx]; simp
            have hl1 : ¬ ((m.length : Int) + 1 = 0) := by omega
            have hcap : m.length + 1 ≤ c1 := by obtain ⟨p, c, e, g1, _⟩ := SN.out; injection e with e1 e2 e3; subst e3; omega
            have HMX : Hid (l = m ++ [x]) := hmx
            rw [hln] at t2 HK
            have bz : Below w3.heap.size w3 (w3.alloc (Obj.cells #[.int .i64 k, .int .i64 a, .slice p1 (m.length + 1) c1] 26)) := (Below.refl _ _).alloc (Nat.le_refl _) _
            have z2 : (w3.alloc (Obj.cells #[.int .i64 k, .int .i64 a, .slice p1 (m.length + 1) c1] 26)).cell? ⟨w.heap.size, 2, none⟩ = some (.slice p1 (m.length + 1) c1) := ((HK.out.over B3.out).over bz).cell 2
            have hsl : ∀ W : World, (Instr.slice 24 (.slice p1 (m.length + 1) c1) none (some (.int .i64 (m.length : Int))) none).run Try.prog W = .ok (.slice p1 m.length c1) W := fun W => by
              rw [run_slice_h W 24 p1 (m.length + 1) c1 (by simp [Program.elem, Try.underlying24]) .i64 (m.length : Int) (by omega) (by omega)]
              cases p1 <;> simp [sliced, sizeOf, go_sem]
            have by' : Below w3.heap.size w3 (w3.alloc (Obj.cells #[.int .i64 k, .int .i64 a, .slice p1 m.length c1] 26)) := (Below.refl _ _).alloc (Nat.le_refl _) _
            have B4 : Hid (Below X.heap.size X (w3.alloc (Obj.cells #[.int .i64 k, .int .i64 a, .slice p1 m.length c1] 26))) := B3.out.trans (by'.mono B3.out.size)
            have HTL : Hid (Calls Try.prog 8 #[.agg #[.int .i64 k, .int .i64 a, .slice p1 m.length c1]] (w3.alloc (Obj.cells #[.int .i64 k, .int .i64 a, .slice p1 m.length c1] 26)) fun e w' => e = .returned (.tuple #[.string (bar (textT T k a (m.map Xr.r))), .int .i64 0]) ∧ Below (w3.alloc (Obj.cells #[.int .i64 k, .int .i64 a, .slice p1 m.length c1] 26)).heap.size (w3.alloc (Obj.cells #[.int .i64 k, .int .i64 a, .slice p1 m.length c1] 26)) w') := by
              have sn := SN.out
              have hlt' := HLt.out
              have hu := HU.out
              have hb := HBB.out
              rw [hmx] at sn hlt' hu hb
              rw [List.map_append] at hb
              have lm := lt_less hlt'
              obtain ⟨m1, m2⟩ := lt_bounds lm
              exact text_yes T _ k a _ m ((rlR_less sn).below B4.out) m1 m2 (rulesB_less hb) (lt_in lm fun y hy => hu y (List.mem_append_left _ hy)) (HT.out.below B4.out)
            obtain ⟨R, hR2, hR⟩ := HLess.out m x hmx
            clear hmx bz by' HLess
            generalize textT T k a (m.map Xr.r) = TL at *
            have hsT : ((bar TL).size : Int) = (TL.length : Int) := by rw [bar_size]
            have hTL : (TL.length : Int) < (TX.length : Int) := by rw [hR, List.length_append]; omega
            have hss : ∀ W : World, (Instr.slice 9 (.string (bar TX)) none (some (.int .i64 (TL.length : Int))) none).run Try.prog W = .ok (.string (bar TL)) W := fun W => by
              rw [run_slice_string_to_if W 9 (bar TX) .i64 (TL.length : Int) Try.underlying9]
              rw [if_pos ⟨by omega, by rw [hszI]; omega⟩]
              rw [show ((TL.length : Int)).toNat = TL.length from rfl, extract_bar, lst_bar, hR]
              simp
            clear hR hR2
            go_wp2_with fail
            refine HTL.out.mono ?_
            rintro e w5 ⟨rfl, b5⟩
            clear t0 t1 t2 z2 hlast
            go_wp2_with fail
            go_ret
            exact ⟨rfl, BE.out.trans ((B4.out.trans (b5.mono B4.out.size)).mono BE.out.size)⟩
    · have HTX : Hid (Calls Try.prog 8 #[.agg #[.int .i64 k, .int .i64 a, .slice p1 l.length c1]] w2 fun e w' => e = .returned (.tuple #[.string ⟨#[]⟩, .int .i64 1]) ∧ Below w2.heap.size w2 w') := text_no w2 k a _ l (SN.out.below B2.out) l1 l2 hB
      clear hB l1 l2
      go_wp2_with fail
      refine HTX.out.mono ?_
      rintro e w3 ⟨rfl, b3⟩
      have B3 : Hid (Below X.heap.size X w3) := B2.out.trans (b3.mono B2.out.size)
      clear t0 t1 t2 b3 HTX
      go_wp2_with fail
      go_ret
      exact ⟨rfl, BE.out.trans (B3.out.mono BE.out.size)⟩
  · clear hbb
    go_wp2_with fail
    go_ret
    exact ⟨rfl, BE.out.trans (B2.out.mono BE.out.size)⟩

end Go.Proofs.Ytcllgpbgikidjaa
