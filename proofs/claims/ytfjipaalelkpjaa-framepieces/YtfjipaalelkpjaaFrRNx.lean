/-
  Next, by the document's answer.
-/
import Derived.Test.YtfjipaalelkpjaaFrRef
import Derived.Test.YtfjipaalelkpjaaFrNext
namespace Go.Proofs.Ytfjipaalelkpjaa
open Go.RowKit D

/-- the document's reader as it lies. -/
structure RRd (w : World) (b : Nat) (v : Value) (l : List Int) (n : Nat) : Prop where
  blk : Blk w b 34 [v, .int .i64 n]
  wt : Wt w v l
  ap : v.ownBlock ≠ some b
theorem RRd.kp {X : Nat → Prop} {w w' : World} {b n : Nat} {v : Value} {l : List Int} (h : RRd w b v l n) (hk : Kp X w w') (hb : ¬ X b) (hX : ∀ k, v.ownBlock = some k → ¬ X k) : RRd w' b v l n := ⟨blk_kp h.blk hk hb, h.wt.kp hk hX, h.ap⟩
theorem RRd.over {w w' : World} {b n : Nat} {v : Value} {l : List Int} (h : RRd w b v l n) (hb : Below w.heap.size w w') : RRd w' b v l n := h.kp (X := fun _ => False) (kp_below hb) id fun _ _ => id
theorem RRd.cl {w : World} {b n : Nat} {v : Value} {l : List Int} (h : RRd w b v l n) : Cl w b v n := ⟨h.blk.cell 0, h.blk.cell 1, h.blk.f 0, h.blk.f 1⟩
/-- what is told at the end. -/
def RxT (b n : Nat) (l : List Int) (w : World) (e : Ending) (w' : World) : Prop :=
  NxR w.heap.size e w' (nxt sm l).2.1 ∧ ∃ v', RRd w' b v' (nxt sm l).2.2 (n + (nxt sm l).1) ∧ Own w.heap.size v' ∧ Kp (· = b) w w'
/-- where it is. -/
def At (l : List Int) (i : Nat) : Prop := nxt sm l = ((nxt sm (l.drop i)).1 + i, (nxt sm (l.drop i)).2)
theorem at_pass {l : List Int} {i : Nat} (h : At l i) (hi : i < l.length) (h1 : ¬ Std sm (l.drop i)) (h2 : ¬ Mgt (l.drop i)) : At l (i + 1) := by
  unfold At at h ⊢
  rw [h]
  rw [List.drop_eq_getElem_cons hi] at h1 h2 ⊢
  rw [nxt_lose h1 h2]
  dsimp only
  rw [Nat.add_assoc, Nat.add_comm 1 i]
theorem at_mgt {l : List Int} {i : Nat} (h : At l i) (hm : nxt sm (l.drop i) = (0, none, l.drop i)) : nxt sm l = (i, none, l.drop i) := by
  unfold At at h
  rw [hm] at h
  rw [h, Nat.zero_add]
theorem at_std {l : List Int} {i : Nat} (h : At l i) (e : Std sm (l.drop i)) : nxt sm l = (i, some (body (l.drop i)), l.drop (i + 8 + told (l.drop i))) := by
  unfold At at h
  rw [nxt_std e] at h
  have e2 : (l.drop i).drop (told (l.drop i) + 8) = l.drop (i + 8 + told (l.drop i)) := by
    rw [List.drop_drop]
    congr 1
    omega
  rw [h, Nat.zero_add, e2]
/-- a row that is put into the reader, with what is lost. -/
theorem rx_put {W : World} {b n k : Nat} {l m : List Int} {v v2 : Value} {B : Nat} (h : RRd W b v l n) (hw : Wt W v2 m) (ho : Own B v2) (hbB : b < B) :
    RRd ((W.setCell ⟨b, 0, none⟩ v2).setCell ⟨b, 1, none⟩ (.int .i64 (n + k : Nat))) b v2 m (n + k) := by
  have hk : Kp (· = b) W ((W.setCell ⟨b, 0, none⟩ v2).setCell ⟨b, 1, none⟩ (.int .i64 (n + k : Nat))) := (kp_set W b 0 _).trans (kp_set _ b 1 _)
  have hap : v2.ownBlock ≠ some b := fun e => absurd (ho b e) (Nat.not_le.2 hbB)
  exact ⟨(h.blk.set 0 v2).set 1 _, hw.kp hk fun k e1 e2 => hap (by rw [← e2]; exact e1), hap⟩

set_option maxRecDepth 100000 in
set_option maxHeartbeats 8000000 in
theorem rnext_any (b n : Nat) (v : Value) (l : List Int) (w : World) (h : RRd w b v l n) (hn : l.length ≤ 100000) (hn2 : n + l.length ≤ 1000000) :
    Calls Try.prog 15 #[.pointer (some ⟨b, 0, none⟩)] w (RxT b n l w) := by
  have HR : Hid (RRd w b v l n) := h
  have hbl := h.blk.lt
  have HA : Hid (At l 0) := rfl
  obtain ⟨a, cap, rfl, hbs, h1, h2, h3⟩ := h.wt.slice
  have HBs : Hid (Bs w a l.length l ∧ l.length ≤ cap ∧ (a = none → cap = 0)) := ⟨hbs, h1, h3⟩
  have HLN : Hid (l.length ≤ 100000 ∧ n + l.length ≤ 1000000) := ⟨hn, hn2⟩
  clear h hbs h1 h2 h3 hn hn2
  go_enter Try.func15, Try.ntmps15
  go_wp2
  go_loopg [4] l.length (fun k iv wr => ∃ i : Nat, iv = .int .i64 i ∧ i + k = l.length ∧ Hid (Below w.heap.size w wr ∧ At l i))
  case atStart => exact ⟨0, rfl, Nat.zero_add _, Below.refl _ _, HA.out⟩
  case round =>
    obtain ⟨i, rfl, hik, hg⟩ := hrel
    have HR1 : Hid (RRd wr b (.slice a l.length cap) l n) := HR.out.over hg.out.1
    obtain ⟨c0, c1, f0, f1⟩ := HR1.out.cl
    rcases Nat.lt_or_ge i l.length with hi | hi
    case inr =>
      obtain rfl : i = l.length := by omega
      have hwr : IntKind.i64.wrap ((n : Int) + (l.length : Int)) = (n : Int) + (l.length : Int) := by have := HLN.out; rw [IntKind.wrap_i64]; omega
      have hlt : ¬ (l.length : Int) < (l.length : Int) := by omega
      go_upto_region 13 with fail
      go_region
      have HY : Hid (Blk (wr.setCell ⟨b, 1, none⟩ (.int .i64 ((n : Int) + (l.length : Int)))).drew b 34 [.slice a l.length cap, .int .i64 ((n : Int) + (l.length : Int))] ∧ Kp (· = b) w (wr.setCell ⟨b, 1, none⟩ (.int .i64 ((n : Int) + (l.length : Int)))).drew) :=
        ⟨(HR1.out.blk.set 1 (.int .i64 ((n : Int) + (l.length : Int)))).drew, ((kp_below (X := (· = b)) hg.out.1).trans (kp_set wr b 1 _)).trans (kp_below (Below.refl _ _).drew)⟩
      generalize (wr.setCell ⟨b, 1, none⟩ (.int .i64 ((n : Int) + (l.length : Int)))).drew = Y at *
      have d0 : Y.cell? ⟨b, 0, none⟩ = some (.slice a l.length cap) := HY.out.1.cell 0
      have g0 : Y.frozen? ⟨b, 0, none⟩ = false := HY.out.1.f 0
      clear c0 c1 f0 f1 hik hi hlt hwr
      go_wp2
      go_ret2
      have he : nxt sm l = (l.length, none, []) := by
        have := hg.out.2
        unfold At at this
        rw [List.drop_length] at this
        rw [this]
        show (0 + l.length, none, []) = _
        rw [Nat.zero_add]
      unfold RxT
      rw [he]
      refine ⟨rfl, .slice none 0 0, ⟨?_, wt_nil _, fun e => by cases e⟩, (fun k e => by cases e), HY.out.2.trans (kp_set Y b 0 _)⟩
      have := HY.out.1.set 0 (.slice none 0 0)
      rw [← Int.natCast_add] at this
      exact this
    · have hpos : 0 < l.length := by omega
      obtain ⟨v2, hw2, ho2, hcut⟩ := cut_wt HR1.out.wt i hpos (by omega)
      obtain ⟨a2, c2, rfl, hbs2, hc2, _, ha2⟩ := hw2.slice
      have hdl : (l.drop i).length = l.length - i := List.length_drop
      have hdp : 0 < (l.drop i).length := by omega
      have hdm : (l.drop i).length ≤ 100000 := by have := HLN.out; omega
      have HS : Hid (Calls Try.prog 26 #[.slice a2 (l.drop i).length c2] wr fun e w' => StR wr.heap.size w' (l.drop i) e ∧ Below wr.heap.size wr w') := stands_any a2 _ c2 (l.drop i) wr hc2 hdm hbs2
      have HM : Hid (∀ W, Below wr.heap.size wr W → Calls Try.prog 27 #[.slice a2 (l.drop i).length c2] W fun e w' => e = .returned (.bool (mgtB (l.drop i))) ∧ Below W.heap.size W w') := fun W hW => might_any a2 _ c2 (l.drop i) W (hbs2.below hW)
      have HW2 : Hid (Wt wr (.slice a2 (l.drop i).length c2) (l.drop i)) := hw2
      have ii : (i : Int) < (l.length : Int) := by omega
      have hwi : (n : Int) + (i : Int) ≤ 1000000 := by have := HLN.out; omega
      clear hbs2 hc2 ha2 hw2 ho2
      by_cases e1 : Std sm (l.drop i)
      · have HE : Hid (nxt sm l = (i, some (body (l.drop i)), l.drop (i + 8 + told (l.drop i)))) := at_std hg.out.2 e1
        have hblen := body_len e1
        have hb3 := e1.2.2.1
        have hb4 := e1.1
        have hb5 := e1.2.1
        rw [hdl] at hb3
        obtain ⟨v6, hw6, ho6, hcut6⟩ := cut_wt HR1.out.wt (i + 8 + told (l.drop i)) hpos (by omega)
        rw [show ((i + 8 + told (l.drop i) : Nat) : Int) = (i : Int) + 8 + (told (l.drop i) : Int) by omega] at hcut6
        have HW6 : Hid (Wt wr v6 (l.drop (i + 8 + told (l.drop i)))) := hw6
        have HST : Hid (Std sm (l.drop i)) := e1
        have HTl : Hid ((l.drop (i + 8 + told (l.drop i))).length ≤ 100000) := by have := HLN.out; unfold Hid; rw [List.length_drop]; omega
        have HBl : Hid ((body (l.drop i)).length = told (l.drop i)) := hblen
        have hq : (i : Int) + 8 + (told (l.drop i) : Int) ≤ 200000 := by have := HLN.out; omega
        have ht1 : (0 : Int) < (told (l.drop i) : Int) := by omega
        clear e1 hblen hb3 hb4 hb5 hdl hdp hdm hw6 ho6
        generalize (l.drop i).length = dn at *
        generalize hlen : l.length = len at *
        generalize hbd : body (l.drop i) = bd at *
        have HBd : Hid (body (l.drop i) = bd) := hbd
        clear hbd
        generalize told (l.drop i) = t at *
        generalize l.drop (i + 8 + t) = tl at *
        clear hlen hik hi
        go_upto_region 5 with (go_at_call 26; refine HS.out.mono ?_; rintro e w1 ⟨hst, hb1⟩; obtain ⟨_, u, rfl, hu, hou⟩ | ⟨hs, _⟩ := hst; rotate_left; exact absurd HST.out hs)
        rw [HBd.out] at hu
        have hB1 := hg.out.1.trans (hb1.mono hg.out.1.size)
        have HB1 : Hid (Below w.heap.size w w1) := hB1
        have HR2 : Hid (RRd w1 b (.slice a len cap) l n) := HR1.out.over hb1
        have HU : Hid (Wt w1 u bd ∧ Own wr.heap.size u) := ⟨hu, hou⟩
        obtain ⟨ua, uc, rfl, _⟩ := hu.slice' t HBl.out
        have hb3 : Below w1.heap.size w1 (w1.alloc (.cells #[] 5)) := (Below.refl _ _).alloc (Nat.le_refl _) _
        have HR4 : Hid (RRd (w1.alloc (.cells #[] 5)) b (.slice a len cap) l n) := HR2.out.over hb3
        have we := wt_empty w1
        have hw7 : Wt (w1.alloc (.cells #[] 5)) v6 tl := (HW6.out.over hb1).over hb3
        obtain ⟨k0, k1, m0, m1⟩ := HR4.out.cl
        clear c0 c1 f0 f1 hou hu hB1
        go_upto_region 7 with
          (refine append_wt2 rfl (.tmp 26) (.tmp 36) rfl (.slice (some ⟨w1.heap.size, 0, none⟩) 0 0) [] rfl we v6 tl rfl hw7 (by have := HTl.out; rw [List.length_nil]; omega) ?_; intro v5 w5 hw5 hg5 ho5
           replace hw5 : Wt w5 v5 tl := hw5
           have HB5 : Hid (Below w1.heap.size w1 w5) := hb3.grown hg5 (by simp) (fun k hk => by cases hk; exact Nat.le_refl _)
           have HO5 : Hid (Own w1.heap.size v5) := (own_at _ _ _ _ _ (Nat.le_refl _)).next (by simp) ho5
           have HR5 : Hid (RRd w5 b (.slice a len cap) l n) := HR2.out.over HB5.out
           have HW5 : Hid (Wt w5 v5 tl) := hw5
           obtain ⟨p0, p1, r0, r1⟩ := HR5.out.cl
           obtain ⟨va, vc, rfl, _⟩ := hw5.slice)
        go_wp2
        go_ret2
        unfold RxT
        rw [HE.out]
        have hbb : b < w1.heap.size := Nat.lt_of_lt_of_le hbl HB1.out.size
        have hk6 : Kp (· = b) w5 ((w5.setCell ⟨b, 0, none⟩ (.slice va tl.length vc)).setCell ⟨b, 1, none⟩ (.int .i64 (n + i : Nat))) := (kp_set w5 b 0 _).trans (kp_set _ b 1 _)
        refine ⟨⟨_, rfl, (HU.out.1.over HB5.out).kp hk6 fun k hk e => ?_, HU.out.2.mono hg.out.1.size⟩, _, rx_put HR5.out HW5.out HO5.out hbb, HO5.out.mono HB1.out.size, (kp_below (X := (· = b)) (HB1.out.trans (HB5.out.mono HB1.out.size))).trans hk6⟩
        subst e
        exact absurd (HU.out.2 k hk) (Nat.not_le.2 HR1.out.blk.lt)
      have HNS : Hid (¬ Std sm (l.drop i)) := e1
      clear e1
      by_cases e2 : mgtB (l.drop i) = true
      · rw [e2] at HM
        have HMg : Hid (nxt sm (l.drop i) = (0, none, l.drop i)) := by
          have hm := mgtB_iff.1 e2
          have hns := HNS.out
          rw [List.drop_eq_getElem_cons hi] at hm hns ⊢
          exact nxt_mgt hns hm
        have HE : Hid (nxt sm l = (i, none, l.drop i)) := at_mgt hg.out.2 HMg.out
        clear e2 hdl hdp HMg
        have HDM : Hid ((l.drop i).length ≤ 100000) := hdm
        clear hdm
        generalize l.drop i = dl at *
        generalize hdn : dl.length = dn at *
        have HDN : Hid (dl.length = dn) := hdn
        generalize hlen : l.length = len at *
        clear hlen hik hi hdn
        go_upto_region 5 with (go_at_call 26; refine HS.out.mono ?_; rintro e w1 ⟨hst, hb1⟩; obtain ⟨hs, _⟩ | ⟨_, rfl⟩ := hst; exact absurd hs HNS.out)
        have HR2 : Hid (RRd w1 b (.slice a len cap) l n) := HR1.out.over hb1
        obtain ⟨d0, d1, g0, g1⟩ := HR2.out.cl
        clear c0 c1 f0 f1
        go_upto_region 10 with (go_at_call 27; refine (HM.out _ hb1).mono ?_; rintro e w2 ⟨rfl, hb2⟩)
        have HB2 : Hid (Below w.heap.size w w2) := hg.out.1.trans ((hb1.trans (hb2.mono hb1.size)).mono hg.out.1.size)
        have hb3 : Below w2.heap.size w2 (w2.alloc (.cells #[] 5)) := (Below.refl _ _).alloc (Nat.le_refl _) _
        have HR4 : Hid (RRd (w2.alloc (.cells #[] 5)) b (.slice a len cap) l n) := (HR2.out.over hb2).over hb3
        have we := wt_empty w2
        have hw4 : Wt (w2.alloc (.cells #[] 5)) (.slice a2 dn c2) dl := ((HW2.out.over hb1).over hb2).over hb3
        obtain ⟨k0, k1, m0, m1⟩ := HR4.out.cl
        clear d0 d1 g0 g1
        go_upto_region 11 with
          (refine append_wt2 rfl (.tmp 58) (.tmp 64) rfl (.slice (some ⟨w2.heap.size, 0, none⟩) 0 0) [] rfl we (.slice a2 dn c2) dl rfl hw4 (by have := HDM.out; have := HDN.out; rw [List.length_nil]; omega) ?_; intro v5 w5 hw5 hg5 ho5
           have HB5 : Hid (Below w2.heap.size w2 w5) := hb3.grown hg5 (by simp) (fun k hk => by cases hk; exact Nat.le_refl _)
           have HO5 : Hid (Own w2.heap.size v5) := (own_at _ _ _ _ _ (Nat.le_refl _)).next (by simp) ho5
           have HR5 : Hid (RRd w5 b (.slice a len cap) l n) := (HR2.out.over hb2).over HB5.out
           replace hw5 : Wt w5 v5 dl := hw5
           have HW5 : Hid (Wt w5 v5 dl) := hw5
           obtain ⟨p0, p1, r0, r1⟩ := HR5.out.cl
           obtain ⟨va, vc, rfl, _⟩ := hw5.slice' dn HDN.out)
        go_wp2
        go_ret2
        unfold RxT
        rw [HE.out]
        have hbb : b < w2.heap.size := Nat.lt_of_lt_of_le hbl HB2.out.size
        refine ⟨rfl, _, rx_put HR5.out HW5.out HO5.out hbb, HO5.out.mono HB2.out.size, (kp_below (X := (· = b)) (HB2.out.trans (HB5.out.mono HB2.out.size))).trans ((kp_set w5 b 0 _).trans (kp_set _ b 1 _))⟩
      · replace e2 : mgtB (l.drop i) = false := by
          cases hq : mgtB (l.drop i) with
          | false => rfl
          | true => exact absurd hq e2
        rw [e2] at HM
        have HP : Hid (At l (i + 1)) := at_pass hg.out.2 hi HNS.out fun h => by rw [mgtB_iff.2 h] at e2; cases e2
        have hgk : Hid (gk - 1 < gk ∧ i + 1 + (gk - 1) = l.length) := ⟨by omega, by omega⟩
        clear e2 hdl hdp hdm
        generalize (l.drop i).length = dn at *
        generalize hlen : l.length = len at *
        have HLE : Hid (l.length = len) := hlen
        clear hlen hik hi
        go_upto_region 5 with (go_at_call 26; refine HS.out.mono ?_; rintro e w1 ⟨hst, hb1⟩; obtain ⟨hs, _⟩ | ⟨_, rfl⟩ := hst; exact absurd hs HNS.out)
        have HR2 : Hid (RRd w1 b (.slice a len cap) l n) := HR1.out.over hb1
        obtain ⟨d0, d1, g0, g1⟩ := HR2.out.cl
        clear c0 c1 f0 f1
        go_wp2_with (go_at_call 27; refine (HM.out _ hb1).mono ?_; rintro e w2 ⟨rfl, hb2⟩)
        go_roundg (gk - 1)
        case measure => exact hgk.out.1
        case rel => exact ⟨i + 1, rfl, hgk.out.2, hg.out.1.trans ((hb1.trans (hb2.mono hb1.size)).mono hg.out.1.size), HP.out⟩

end Go.Proofs.Ytfjipaalelkpjaa
