/-
  The program's leave: K.
-/
import Derived.Test.YtlckconhhhllkaaTLv
namespace Go.Proofs.Ytlckconhhhllkaa
open Go.RowKit Go.Maps
open Go.Sort (PermIn SortedIn)

theorem meantK (t : Int) (c0 : Nat) (x : En) (w : World) (hc : Blk w c0 3 [.int .i64 t]) : Calls Try.prog 40 #[x.v, .pointer (some ⟨c0, 0, none⟩)] w fun e w' => e = .returned (.bool (x.ta == t)) ∧ Below w.heap.size w w' := by
  obtain ⟨a, b, c, d, k, v⟩ := x
  have HB : Hid (Below w.heap.size w (w.alloc (.cells #[.int .u64 a, .int .i64 b, .int .i64 c, .int .i64 d, .int .i64 k, .int .i64 v] 44))) := below_new w _
  have k0 := (hc.over (below_new w (.cells #[.int .u64 a, .int .i64 b, .int .i64 c, .int .i64 d, .int .i64 k, .int .i64 v] 44))).cell 0
  have k1 := hc.cell 0
  unfold En.v
  dsimp only
  go_enter Try.func40, Try.ntmps40
  go_wp2_with fail
  go_ret
  exact ⟨rfl, HB.out⟩

set_option maxHeartbeats 32000000 in
set_option maxRecDepth 8000 in
theorem leaveK (w : World) (b B : Nat) (s : Nt) (k : Int) (t : Int) (c0 : Nat) (h : TaV w b B s) (hu : s.L.Pairwise fun x y => x.id < y.id) (hi : ∀ x ∈ s.L, U64 x.id) (h8 : s.L.length ≤ 8) (hc0 : Blk w c0 3 [.int .i64 t]) :
    Calls Try.prog 37 #[.pointer (some ⟨b, 0, none⟩), .int .i64 k, .func (.func 40) #[] #[.pointer (some ⟨c0, 0, none⟩)]] w fun e w' => LvR w b B s (fun x => x.ta == t) k e w' := by
  have HT : Hid (TaV w b B s) := h
  have HS : Hid ((s.L.Pairwise fun x y => x.id < y.id) ∧ (∀ x ∈ s.L, U64 x.id) ∧ s.L.length ≤ 8) := ⟨hu, hi, h8⟩
  have HC0 : Hid (Blk w c0 3 [.int .i64 t]) := hc0
  clear hc0
  have c4 := h.blk.cell 4
  clear h hu hi h8
  go_enter Try.func37, Try.ntmps37
  go_wp2_with (first | (at_range; refine list_rangeE rfl _ rfl rfl HT.out.m ?_; intro D w2 hv0 hrg0 hg0 hs0) | go_in)
  go_frame
  clear c4
  obtain ⟨r, hr⟩ : ∃ k, w.heap.size = k := ⟨_, rfl⟩
  rw [hr] at hrg0 hs0 ⊢
  have HBB : Hid (B < w.heap.size ∧ w.heap.size = r ∧ w2.heap.size = r + 1) := ⟨HT.out.m.lt, hr, hs0⟩
  obtain ⟨base, hbase⟩ : ∃ k, w2.heap.size = k := ⟨_, rfl⟩
  have HBS : Hid (base = r + 1) := hbase.symm.trans hs0
  have H0 : Hid (LvM w w2 B r base s.L.length (.slice none 0 0) (has D) (Maps.size D) D []) := by
    refine ⟨hrg0, ⟨rfl, .inl ⟨rfl, rfl⟩⟩, ?_, by rw [hbase]; exact Nat.le_refl _⟩
    exact fr_below ((Below.refl _ _).grown hg0 (Nat.le_refl _) (fun _ e => by cases e)) (Nat.zero_le _)
  have HP0 : Hid (VwE D (turnL (lvF (fun x => x.ta == t) k) (fun z => !(has D (litU z))) s.L) ∧ ColE (fun x => x.ta == t) s.L (has D) []) := by
    refine ⟨?_, ColE.start hv0⟩
    rw [turnL_none fun x hx => by rw [(hv0.has x.id).2 ⟨x, hx, rfl⟩]; rfl]
    exact hv0
  have HSrt : Hid (∀ (g n cap : Nat) (tl : List Value) (d : Array Int) (W : World), Blk W g 23 (cellsA d ++ tl) → d.size = n → n ≤ 12 → Calls Try.prog 44 #[.slice (some ⟨g, 0, none⟩) n cap] W fun e w' => Srd W g 0 n tl d e w') := sort_any
  have HSn : Hid (∀ W, Calls Try.prog 44 #[.slice none 0 0] W fun e w' => e = .returned (.tuple #[]) ∧ w' = W) := sort_nil
  clear hv0 hr hg0 hs0 hrg0 hbase
  go_loopw [7] (fun v wr => ∃ (left : Lit → Bool) (cnt : Nat) (D : De) (ss : List Int), LvM w wr B r base s.L.length v left cnt D ss ∧ VwE D (turnL (lvF (fun x => x.ta == t) k) (fun z => !left (litU z)) s.L) ∧ ColE (fun x => x.ta == t) s.L left ss) (fun _ wr => wr.rangeLeft B r)
  case atStart => exact ⟨_, _, _, [], H0.out, HP0.out.1, HP0.out.2⟩
  case round =>
    clear H0 HP0
    obtain ⟨left, cnt, D, ss, hm, hvw, hcol⟩ := hrel
    have HM : Hid (LvM w wr B r base s.L.length _ left cnt D ss) := hm
    have HP : Hid (VwE D (turnL (lvF (fun x => x.ta == t) k) (fun z => !left (litU z)) s.L) ∧ ColE (fun x => x.ta == t) s.L left ss) := ⟨hvw, hcol⟩
    have HMS : Hid (wr.rangeLeft B r = cnt) := hm.rg.left_eq
    clear hm hvw hcol
    go_wp2_with (first | (at_next; refine list_nextE rfl _ rfl rfl HM.out.rg HP.out.1 ?_ ?_) | go_in)
    · intro hc0 hl0
      have HD : Hid (∀ z, z ∈ ss ↔ z ∈ lvI (fun x => x.ta == t) s.L) := HP.out.2.done hl0
      have HTA : Hid (VwE D (s.L.map (lvF (fun x => x.ta == t) k))) := by
        have := HP.out.1
        rw [turnL_all fun x _ => by rw [hl0]; rfl] at this
        exact this
      have HMP : Hid (MpE wr B (s.L.map (lvF (fun x => x.ta == t) k))) := mpE_of HM.out.rg.owns HTA.out
      have HRS : Hid (∀ W, Fr [] [r, B] 0 w W → MpE W B (s.L.map (lvF (fun x => x.ta == t) k)) → Rs w W b B { s with L := s.L.map (lvF (fun x => x.ta == t) k) }) := fun W hf hmp => by
        have h1 : Fr [] [B] 0 w W := hf.fresh fun x hx => by
          simp at hx ⊢
          rcases hx with rfl | rfl
          · exact .inr (by have := HBB.out; omega)
          · exact .inl rfl
        exact ⟨⟨HT.out.blk.fr h1 (by simp) (by simpa using HT.out.ne), hmp, HT.out.ne⟩, h1.mono (by simp) (by simp)⟩
      clear hc0 hl0
      rcases HM.out.row.2 with ⟨rfl, h0⟩ | ⟨g, cap, cur, rfl, hbase, hb, h1, h2, h3, h4⟩
      · obtain rfl : ss = [] := List.eq_nil_of_length_eq_zero h0
        clear h0
        go_wp2_with (first | (go_at_call 44; refine (HSn.out _).mono ?_; rintro e w3 ⟨rfl, hw3⟩; subst w3))
        go_ret
        have e1 : lvI (fun x => x.ta == t) s.L = [] := List.eq_nil_iff_forall_not_mem.2 fun z hz => by have := (HD.out z).2 hz; cases this
        refine ⟨_, rfl, ?_, HRS.out _ HM.out.fr HMP.out⟩
        rw [e1]
        exact ⟨rfl, .inl ⟨rfl, rfl⟩⟩
      · have hl8 : ss.length ≤ 12 := by have h9 := HP.out.2.len; have := HS.out.2.2; omega
        have HQ : Hid (Calls Try.prog 44 #[.slice (some ⟨g, 0, none⟩) ss.length cap] wr fun e w' => Srd wr g 0 ss.length (cur.toList.drop ss.length) ss.toArray e w') := HSrt.out g ss.length cap _ ss.toArray wr (blk_of_row hb h4) (by simp) hl8
        have HE : Hid (ss.length ≤ cap ∧ cap ≤ maxLen ∧ w.heap.size ≤ g ∧ cur.size = cap ∧ base ≤ g) := ⟨h1, h2, by have := HBB.out; have := HBS.out; omega, by rw [h3, Nat.mul_one], hbase⟩
        clear hb h1 h2 h3 h4 hbase hl8
        go_wp2_with (first | (go_at_call 44; refine HQ.out.mono ?_; rintro e w3 ⟨rfl, d', hp, hso, hsw⟩))
        go_ret
        obtain ⟨r1, r2, r3⟩ := rise_of HP.out.2.1 hp hso
        have e1 : lvI (fun x => x.ta == t) s.L = d'.toList := rise_ext (lvI_rise HS.out.1) r1 fun z => ((r2.mem_iff).trans (HD.out z)).symm
        refine ⟨_, rfl, ?_, ?_⟩
        · rw [e1]
          exact row_of_sw hsw r3 HE.out.1 HE.out.2.1 HE.out.2.2.1 HE.out.2.2.2.1 rfl
        · have hf : Fr [] [g] 0 wr w3 := fr_grown hsw.grow (Nat.zero_le _) (Nat.zero_le _) (by simp)
          have h1 : Fr [] [r, B] 0 w w3 := ((HM.out.fr.mono (by simp) (fun x hx => by simp at hx ⊢; rcases hx with e | e <;> simp [e])).trans (hf.mono (by simp) (fun x hx => by simp at hx ⊢; simp [hx]))).fresh (X := [r, B, g]) (Y := [r, B]) fun x hx => by
            simp at hx ⊢
            rcases hx with rfl | rfl | rfl
            · exact .inl (.inl rfl)
            · exact .inl (.inr rfl)
            · exact .inr HE.out.2.2.1
          exact HRS.out w3 h1 (HMP.out.fr hf (by have h2 := HBB.out; have h3 := HBS.out; have h4 := HE.out.2.2.2.2; simp; omega))
    · intro x w3 cnt3 hxL hlx hrg3 hlt hg3 hs3 hen
      have hxs := turnL_in (keeps_lvF (fun x => x.ta == t) k) hxL hlx
      obtain ⟨q1, q2, q3, q4, q5, q6⟩ := x
      dsimp only [En.v] at hen ⊢
      have HX : Hid ((⟨q1, q2, q3, q4, q5, q6⟩ : En) ∈ s.L ∧ left (litU q1) = true) := ⟨hxs, hlx⟩
      have HU : Hid (U64 q1) := HS.out.2.1 _ hxs
      have HLT : Hid (cnt3 < cnt) := hlt
      have HM3 := HM.out.next hg3 (by have := HBS.out; omega) hrg3
      have H4 : Hid (LvM w (w3.alloc (.cells #[.int .u64 q1, .int .i64 q2, .int .i64 q3, .int .i64 q4, .int .i64 q5, .int .i64 q6] 44)) B r base s.L.length _ (fun z => left z && !z.sameKey (litU q1)) cnt3 D ss ∧ Blk (w3.alloc (.cells #[.int .u64 q1, .int .i64 q2, .int .i64 q3, .int .i64 q4, .int .i64 q5, .int .i64 q6] 44)) w3.heap.size 44 [.int .u64 q1, .int .i64 q2, .int .i64 q3, .int .i64 q4, .int .i64 q5, .int .i64 q6]) := ⟨HM3.over (below_new _ _), blk_new _ _ _⟩
      have HEG : Hid _ := own_lt HM3.row
      have HEB : Hid (w.heap.size ≤ w3.heap.size ∧ r ≠ w3.heap.size ∧ B ≠ w3.heap.size) := by
        have h1 := HM3.sz
        have h2 := HBS.out
        have h3 := HBB.out
        exact ⟨by omega, by omega, by omega⟩
      have HC4 : Hid (Blk (w3.alloc (.cells #[.int .u64 q1, .int .i64 q2, .int .i64 q3, .int .i64 q4, .int .i64 q5, .int .i64 q6] 44)) c0 3 [.int .i64 t]) := HC0.out.fr (HM3.over (below_new w3 (.cells #[.int .u64 q1, .int .i64 q2, .int .i64 q3, .int .i64 q4, .int .i64 q5, .int .i64 q6] 44))).fr (by simp) (by have h1 := HBB.out; have h2 := HC0.out.lt; have h3 : c0 ≠ B := fun e => (by obtain ⟨D', ⟨es, c, h1, _⟩, _⟩ := HT.out.m; have h2 := HC0.out; unfold Blk at h2; rw [e, h1] at h2; cases h2); simp; omega)
      have HXW : Hid (∀ W, Calls Try.prog 36 #[.agg #[.int .u64 q1, .int .i64 q2, .int .i64 q3, .int .i64 q4, .int .i64 q5, .int .i64 q6]] W fun e w' => e = .returned (.bool (⟨q1, q2, q3, q4, q5, q6⟩ : En).waits) ∧ Below W.heap.size W w') := waits_any (⟨q1, q2, q3, q4, q5, q6⟩ : En)
      clear hxL hlx hrg3 hlt hg3 hs3 hxs HM3 HM
      go_upto_region 5 with fail
      generalize (w3.alloc (.cells #[.int .u64 q1, .int .i64 q2, .int .i64 q3, .int .i64 q4, .int .i64 q5, .int .i64 q6] 44)) = w4 at *
      generalize w3.heap.size = eb at *
      have m0 := H4.out.2.cell 0
      have m1 := H4.out.2.cell 1
      have m2 := H4.out.2.cell 2
      have m3 := H4.out.2.cell 3
      have m4 := H4.out.2.cell 4
      have m5 := H4.out.2.cell 5
      go_wp2_with fail
      refine (HXW.out w4).mono ?_
      rintro e w5 ⟨rfl, hb5⟩
      have H5 : Hid (LvM w w5 B r base s.L.length _ (fun z => left z && !z.sameKey (litU q1)) cnt3 D ss ∧ Blk w5 eb 44 [.int .u64 q1, .int .i64 q2, .int .i64 q3, .int .i64 q4, .int .i64 q5, .int .i64 q6]) := ⟨H4.out.1.over hb5, H4.out.2.over hb5⟩
      have HC5 : Hid (Blk w5 c0 3 [.int .i64 t]) := HC4.out.over hb5
      clear hb5 m0 m1 m2 m3 m4 m5 H4 HXW
      cases hw : (⟨q1, q2, q3, q4, q5, q6⟩ : En).waits with
      | false =>
        have HN : Hid (VwE D (turnL (lvF (fun x => x.ta == t) k) (fun z => !(left (litU z) && !(litU z).sameKey (litU q1))) s.L) ∧ ColE (fun x => x.ta == t) s.L (fun z => left z && !z.sameKey (litU q1)) ss) := by
          have hno : ((⟨q1, q2, q3, q4, q5, q6⟩ : En).waits && (fun x => x.ta == t) (⟨q1, q2, q3, q4, q5, q6⟩ : En)) = false := by rw [hw]; rfl
          have e1 := turnL_stay (f := lvF (fun x => x.ta == t) k) (left := left) HS.out.1 HX.out.1 (lvF_no hno)
          exact ⟨e1 ▸ HP.out.1, HP.out.2.no HS.out.1 HX.out.1 hno⟩
        clear hw HP
        go_wp2_with fail
        go_roundw
        case rel => exact ⟨_, cnt3, _, ss, H5.out.1, HN.out.1, HN.out.2⟩
        case measure => rw [H5.out.1.rg.left_eq, HMS.out]; exact HLT.out
      | true =>
        have HQ : Hid (∀ W, Blk W c0 3 [.int .i64 t] → Calls Try.prog 40 #[.agg #[.int .u64 q1, .int .i64 q2, .int .i64 q3, .int .i64 q4, .int .i64 q5, .int .i64 q6], .pointer (some ⟨c0, 0, none⟩)] W fun e w' => e = .returned (.bool ((fun x => x.ta == t) (⟨q1, q2, q3, q4, q5, q6⟩ : En))) ∧ Below W.heap.size W w') := fun W hc => meantK t c0 (⟨q1, q2, q3, q4, q5, q6⟩ : En) W hc
        have m0 := H5.out.2.cell 0
        have m1 := H5.out.2.cell 1
        have m2 := H5.out.2.cell 2
        have m3 := H5.out.2.cell 3
        have m4 := H5.out.2.cell 4
        have m5 := H5.out.2.cell 5
        cases hq : (fun x => x.ta == t) (⟨q1, q2, q3, q4, q5, q6⟩ : En) with
        | false =>
          have HN : Hid (VwE D (turnL (lvF (fun x => x.ta == t) k) (fun z => !(left (litU z) && !(litU z).sameKey (litU q1))) s.L) ∧ ColE (fun x => x.ta == t) s.L (fun z => left z && !z.sameKey (litU q1)) ss) := by
            have hno : ((⟨q1, q2, q3, q4, q5, q6⟩ : En).waits && (fun x => x.ta == t) (⟨q1, q2, q3, q4, q5, q6⟩ : En)) = false := by rw [hw, hq]; rfl
            have e1 := turnL_stay (f := lvF (fun x => x.ta == t) k) (left := left) HS.out.1 HX.out.1 (lvF_no hno)
            exact ⟨e1 ▸ HP.out.1, HP.out.2.no HS.out.1 HX.out.1 hno⟩
          rw [hq] at HQ
          clear hw hq HP
          go_wp2_with fail
          refine (HQ.out w5 HC5.out).mono ?_
          rintro e w6 ⟨rfl, hb6⟩
          have H6 : Hid (LvM w w6 B r base s.L.length _ (fun z => left z && !z.sameKey (litU q1)) cnt3 D ss) := H5.out.1.over hb6
          clear hb6 m0 m1 m2 m3 m4 m5
          go_wp2_with fail
          go_roundw
          case rel => exact ⟨_, cnt3, _, ss, H6.out, HN.out.1, HN.out.2⟩
          case measure => rw [H6.out.rg.left_eq, HMS.out]; exact HLT.out
        | true =>
          have HYS : Hid (((⟨q1, q2, q3, q4, q5, q6⟩ : En).waits && (fun x => x.ta == t) (⟨q1, q2, q3, q4, q5, q6⟩ : En)) = true) := by show _ = _; rw [hw, hq]; rfl
          have HLF : Hid (lvF (fun x => x.ta == t) k (⟨q1, q2, q3, q4, q5, q6⟩ : En) = ⟨q1, q2, 4, q4, k, 0⟩) := lvF_yes hw hq
          rw [hq] at HQ
          clear hw hq
          go_wp2_with fail
          refine (HQ.out w5 HC5.out).mono ?_
          rintro e w6 ⟨rfl, hb6⟩
          have H6 : Hid (LvM w w6 B r base s.L.length _ (fun z => left z && !z.sameKey (litU q1)) cnt3 D ss ∧ Blk w6 eb 44 [.int .u64 q1, .int .i64 q2, .int .i64 q3, .int .i64 q4, .int .i64 q5, .int .i64 q6]) := ⟨H5.out.1.over hb6, H5.out.2.over hb6⟩
          clear hb6 m0 m1 m2 m3 m4 m5 H5
          have m0 := H6.out.2.cell 0
          have m1 := H6.out.2.cell 1
          have m2 := H6.out.2.cell 2
          have m3 := H6.out.2.cell 3
          have m4 := H6.out.2.cell 4
          have m5 := H6.out.2.cell 5
          have f0 := H6.out.2.f 0
          have f1 := H6.out.2.f 1
          have f2 := H6.out.2.f 2
          have f3 := H6.out.2.f 3
          have f4 := H6.out.2.f 4
          have f5 := H6.out.2.f 5
          have e4 := fun g hg => Nat.ne_of_lt (HEG.out g hg)
          have hm7 := ((H6.out.1.cell (i := 2) (u := .int .i64 4) HEB.out.1 HEB.out.2.1 HEB.out.2.2 e4).cell (i := 4) (u := .int .i64 k) HEB.out.1 HEB.out.2.1 HEB.out.2.2 e4).cell (i := 5) (u := .int .i64 0) HEB.out.1 HEB.out.2.1 HEB.out.2.2 e4
          have H7 : Hid (LvM w (((w6.setCell ⟨eb, 2, none⟩ (.int .i64 4)).setCell ⟨eb, 4, none⟩ (.int .i64 k)).setCell ⟨eb, 5, none⟩ (.int .i64 0)) B r base s.L.length _ (fun z => left z && !z.sameKey (litU q1)) cnt3 D ss ∧ Blk (((w6.setCell ⟨eb, 2, none⟩ (.int .i64 4)).setCell ⟨eb, 4, none⟩ (.int .i64 k)).setCell ⟨eb, 5, none⟩ (.int .i64 0)) eb 44 [.int .u64 q1, .int .i64 q2, .int .i64 4, .int .i64 q4, .int .i64 k, .int .i64 0] ∧ TaB (((w6.setCell ⟨eb, 2, none⟩ (.int .i64 4)).setCell ⟨eb, 4, none⟩ (.int .i64 k)).setCell ⟨eb, 5, none⟩ (.int .i64 0)) b B s) := ⟨hm7, ((H6.out.2.set 2 _).set 4 _).set 5 _, TaB.of HT.out hm7.fr (by have := HBB.out; have := HT.out.blk.lt; omega)⟩
          clear e4 hm7
          go_upto_region 7 with fail
          generalize (((w6.setCell ⟨eb, 2, none⟩ (.int .i64 4)).setCell ⟨eb, 4, none⟩ (.int .i64 k)).setCell ⟨eb, 5, none⟩ (.int .i64 0)) = w7 at *
          clear m0 m1 m2 m3 m4 m5 f0 f1 f2 f3 f4 f5
          have m0 := H7.out.2.1.cell 0
          have m1 := H7.out.2.1.cell 1
          have m2 := H7.out.2.1.cell 2
          have m3 := H7.out.2.1.cell 3
          have m4 := H7.out.2.1.cell 4
          have m5 := H7.out.2.1.cell 5
          have c4 := H7.out.2.2.c4
          have H7d : Hid (LvM w w7.drew B r base s.L.length _ (fun z => left z && !z.sameKey (litU q1)) cnt3 D ss) := H7.out.1.over (Below.refl _ _).drew
          have HHAS : Hid (∃ y ∈ turnL (lvF (fun x => x.ta == t) k) (fun z => !left (litU z)) s.L, y.id = q1) := turnL_has (keeps_lvF (fun x => x.ta == t) k) HX.out.1
          obtain ⟨w8, hrun, hrg8, ht8⟩ := ranges_store H7d.out.rg lawU Try.underlying60 (by have := HS.out.2.2; unfold maxLen; omega) (key_u HU.out) ((HP.out.1.has _).2 HHAS.out) (readE_v ⟨q1, q2, 4, q4, k, 0⟩)
          dsimp only [En.v] at hrun
          have H8 : Hid (LvM w w8 B r base s.L.length _ (fun z => left z && !z.sameKey (litU q1)) cnt3 (D.put (litU q1) (.held ⟨q1, q2, 4, q4, k, 0⟩)) ss) := H7d.out.turned (by have := HBB.out; have := HBS.out; omega) ht8 hrg8
          have HN : Hid (VwE (D.put (litU q1) (.held ⟨q1, q2, 4, q4, k, 0⟩)) (turnL (lvF (fun x => x.ta == t) k) (fun z => !(left (litU z) && !(litU z).sameKey (litU q1))) s.L) ∧ ColE (fun x => x.ta == t) s.L (fun z => left z && !z.sameKey (litU q1)) (ss ++ [q1])) := by
            have h1 := HP.out.1.put (x := ⟨q1, q2, 4, q4, k, 0⟩) HHAS.out
            have h2 := turnL_step (keeps_lvF (fun x => x.ta == t) k) (left := left) HS.out.1 HX.out.1
            rw [HLF.out] at h2
            exact ⟨h2 ▸ h1, HP.out.2.yes HX.out.2 HX.out.1 HYS.out⟩
          have HLN : Hid (ss.length ≤ 8) := Nat.le_trans HP.out.2.len HS.out.2.2
          clear hrg8 ht8 H7d HP
          go_big_region
          clear m0 m1 m2 m3 m4 m5 c4 hrun
          have H8A : Hid (LvM w (w8.alloc (.cells #[.int .u64 q1] 23)) B r base s.L.length _ (fun z => left z && !z.sameKey (litU q1)) cnt3 (D.put (litU q1) (.held ⟨q1, q2, 4, q4, k, 0⟩)) ss) := H8.out.over (below_new _ _)
          go_wp2_with (first
            | (at_builtin; refine list_app (ys := cellsU [q1]) ety_u rfl _ _ rfl rfl rfl H8A.out.row (sc_one _ _ _) (one_u _) (by have := HLN.out; simp [cellsU]; omega) H8A.out.sz ?_; intro v9 w9 ha9; have HA9 : Hid (App 23 base (w8.alloc (.cells #[.int .u64 q1] 23)) w9 _ v9 (cellsU ss ++ cellsU [q1])) := ha9; clear ha9)
            | go_in)
          have H9 : Hid (LvM w w9 B r base s.L.length v9 (fun z => left z && !z.sameKey (litU q1)) cnt3 (D.put (litU q1) (.held ⟨q1, q2, 4, q4, k, 0⟩)) (ss ++ [q1])) := H8A.out.app (by have := HBB.out; have := HBS.out; omega) HA9.out
          go_roundw
          case rel => exact ⟨_, cnt3, _, ss ++ [q1], H9.out, HN.out.1, HN.out.2⟩
          case measure => rw [H9.out.rg.left_eq, HMS.out]; exact HLT.out

end Go.Proofs.Ytlckconhhhllkaa
