/-
  TwWalk.
-/
import Derived.Test.YtmcgcbgblgmmkaaGreatDoorQ41
import Derived.Test.YtmcgcbgblgmmkaaGreatDoorQ0
set_option maxRecDepth 100000
set_option maxHeartbeats 16000000
namespace Go.Proofs.YtmcgcbgblgmmkaaGreatDoor
open M (below_new)
open Go.RowKit
open G (Mg wp_region_late wpAnyL_take wpAnyL_one wpAnyL_done)
structure Kn (m : Mg) : Prop where
 hz : (Tryz.prog.info? 36).map (·.size) = some m.cells.toArray.size
 h1 : m.cells.toArray.all (·.oneCell') = true
 hs : G.zero15.toArray.size = m.cells.toArray.size
 hn : m.cells.toArray.size = 15
 ne : ∀ W : World, (binOp .neq 36 (.agg m.cells.toArray) (.agg m.cells.toArray)).run Tryz.prog W = .ok (.bool false) W
 gd : ∀ (W : World) (x y : Operand), (eqGuard .neq 36 x y (.agg m.cells.toArray) (.agg m.cells.toArray)).run Tryz.prog W = .ok () W
theorem kn_of {m : Mg} (h : m.ok) : Kn m := by
 have hl := m.cells_len h.2.2.1
 refine ⟨m.size h.2.2.1, m.cells_one, by rw [List.size_toArray, List.size_toArray, hl]; rfl, by rw [List.size_toArray, hl], fun W => ?_, fun W x y => G.guard_mg .neq x y m m W (.inr rfl)⟩
 have := G.neq_mg m m W h.2.2.1 h.2.2.1 h.2.2.2 h.2.2.2
 rw [(G.Mg.same_iff _ _).2 rfl] at this
 exact this
theorem enc_to {m : Mg} (W : World) (h : m.ok) : Calls Tryz.prog 5 #[.agg m.cells.toArray] W fun e w' => Below W.heap.size W w' /\ ((G.rightB m = true /\ Ok m /\ ∃ a c, e = .returned (.tuple #[.slice a (G.encM m).length c, .int .i64 0]) /\ F.D.Bs w' a (G.encM m).length (G.encM m)) \/ (G.rightB m = false /\ ∃ v, e = .returned (.tuple #[v, .int .i64 1]))) := by
 refine (G.encode_any m W h).mono ?_
 rintro e w' ⟨hb, v, rfl, ho⟩
 refine ⟨hb, ?_⟩
 cases hq : G.rightB m with
 | true =>
  have hr := (G.rightB_iff m).1 hq
  have e1 : G.encL m = G.encM m := if_pos hq
  have e2 : G.encE m = 0 := if_pos hq
  rw [e1] at ho
  rw [e2]
  obtain ⟨a, c, rfl, hbs, _⟩ := G.K.owns_bs ho (G.enc_byt hr h)
  exact .inl ⟨rfl, ⟨hr, h⟩, a, c, rfl, bs_gf hbs⟩
 | false =>
  have e2 : G.encE m = 1 := if_neg (by rw [hq]; decide)
  rw [e2]
  exact .inr ⟨rfl, v, rfl⟩
theorem frame_to {m : Mg} (W : World) (h : Ok m) {a : Option Addr} {c : Nat} (hb : F.D.Bs W a (G.encM m).length (G.encM m)) : Calls Tryz.prog 6 #[.slice a (G.encM m).length c] W fun e w' => ∃ a' c', e = .returned (.tuple #[.slice a' (fr m).length c', .int .i64 0]) /\ L.D.Bs w' a' (fr m).length (fr m) /\ Below W.heap.size W w' := by
 obtain ⟨q1, q2, q3⟩ := fr_len h
 refine (F.frame_any a _ c _ W q2 q3 hb).mono ?_
 rintro e w' ⟨v, rfl, hw, hb2, _⟩
 obtain ⟨a', c', rfl, hbs, _⟩ := hw.slice
 exact ⟨a', c', rfl, bs_fl hbs, hb2⟩
theorem dec_to {m : Mg} (W : World) (h : Ok m) {u : Value} (hw : F.Wt W u (G.encM m)) : ∃ a c, u = .slice a (G.encM m).length c /\ Calls Tryz.prog 12 #[.slice a (G.encM m).length c] W fun e w' => e = .returned (.tuple #[.agg m.cells.toArray, .int .i64 0]) /\ Below W.heap.size W w' := by
 obtain ⟨q1, q2, q3⟩ := fr_len h
 obtain ⟨a, c, rfl, hbs, _⟩ := hw.slice
 refine ⟨a, c, rfl, ?_⟩
 have := G.decode_any a _ c _ W (by omega) (bs_fg hbs)
 rw [G.dec_enc h.1 h.2] at this
 exact this
theorem sum_fr {ms : List Mg} (h : ∀ m ∈ ms, Ok m) : ((ms.map fr).flatten).length <= ms.length * 520 := by
 induction ms with
 | nil => exact Nat.le_refl _
 | cons m ms ih =>
  have h1 := fr_len (h m List.mem_cons_self)
  have h2 := ih fun x hx => h x (List.mem_cons_of_mem _ hx)
  rw [List.map_cons, List.flatten_cons, List.length_append, List.length_cons]
  omega
theorem wire_walk (w : World) (v : Value) (ls : List Mg) (hv : P.Vars w) (h : MsR w v ls) :
  Calls Tryz.prog 3 #[v] w fun e w' => e = .returned (.bool true) /\ Below w.heap.size w w' := by
 obtain ⟨p1, c1, rfl⟩ : ∃ p c, v = .slice p ls.length c := by obtain ⟨p, c, e, _⟩ := h; exact ⟨p, c, e⟩
 have HS : Hid (∀ W, Below w.heap.size w W -> MsR W (.slice p1 ls.length c1) ls) := fun W hW => h.below hW
 have HA : Hid (Calls Tryz.prog 4 #[] w fun e w' => e = .returned (.bool true) /\ Below w.heap.size w w') := awake_any w hv
 have hzv : ∀ W, (zeroValue 29).run Tryz.prog W = .ok (.agg L.zeroLk) W := L.zero_run
 have HN : Hid (∀ W, L.LkV (W.alloc (.cells L.zeroLk 29)) W.heap.size (lkU []) /\ Below W.heap.size W (W.alloc (.cells L.zeroLk 29))) := fun W => ⟨L.lk_new W, below_new W _⟩
 have HZN : Hid (∀ W : World, G.D.Blk (W.alloc (Obj.cells G.zero15.toArray 36)) W.heap.size 36 G.zero15) := fun W => G.D.blk_new W _ 36
 have HKN : Hid (∀ m : Mg, m.ok -> Kn m) := fun m h => kn_of h
 generalize L.zeroLk = Z at *
 clear h hv
 unfold G.zero15 at *
 go_enter Tryz.func3, Tryz.ntmps3
 go_upto_region 2 with (first | (go_at_call 4; refine HA.out.mono ?_; rintro e w1 ⟨rfl, b1⟩))
 by_cases h30 : 30 < ls.length
 ·have h31 : (30 : Int) < (ls.length : Int) := by omega
  go_wp2_with fail
  go_ret
  exact ⟨rfl, b1⟩
 have h31 : ¬ (30 : Int) < (ls.length : Int) := by omega
 have HL30 : Hid (ls.length <= 30) := by show ls.length <= 30; omega
 have HO : Hid (S1 w (w1.alloc (.cells Z 29)) w1.heap.size (.slice none 0 0) [] []) := ⟨(HN.out w1).1, ⟨rfl, .inl ⟨rfl, rfl⟩⟩, b1.trans ((HN.out w1).2.mono b1.size), b1.size, fun m hm => by cases hm⟩
 clear b1 HA HN h30
 go_upto_region 6 with fail
 clear hzv
 generalize (w1.alloc (.cells Z 29)) = w2 at *
 generalize w1.heap.size = b at *
 go_wp2
 go_loopw [5, 6] (fun v5 v6 wr => ∃ (i : Nat) (ms : List Mg), v6 = .int .i64 i /\ i <= ls.length /\ ms.length <= i /\ S1 w wr b v5 (ms.map fr) ms) (fun _ v6 _ => ls.length - (intOf v6).toNat)
 case atStart => exact ⟨0, [], rfl, Nat.zero_le _, Nat.le_refl _, HO.out⟩
 case round =>
  obtain ⟨i, ms, rfl, hi, hmi, hs⟩ := hrel
  have HG : Hid (S1 w wr b u5 (ms.map fr) ms) := hs
  clear hs HO
  by_cases hlt : i < ls.length
  ·have hi1 : (i : Int) < (ls.length : Int) := by omega
   have HMI : Hid (ms.length <= i /\ i < ls.length) := ⟨hmi, hlt⟩
   obtain ⟨gi, oi, rfl, hra, hok⟩ := (HS.out w (Below.refl _ _)).at hlt
   have HRA : Hid (∀ W, Below w.heap.size w W -> W.rangeAt gi (oi + i * 15) ls[i].cells) := fun W hW => range_below hra hW
   have HOk : Hid (ls[i].ok) := hok
   have HK : Hid (Kn ls[i]) := HKN.out _ hok
   have HC : Hid (ls[i].cells[14]? = some (.string (strOfNums ls[i].path))) := ls[i].c14 hok.2.2.1
   clear hra hok hmi
   generalize ls[i] = m at *
   obtain ⟨s, hsq⟩ : ∃ s, strOfNums m.path = s := ⟨_, rfl⟩
   rw [hsq] at HC
   have HCS : Hid (∀ W, Below w.heap.size w W -> W.cell? ⟨gi, oi + i * 15 + 14, none⟩ = some (.string s)) := fun W hW => HRA.out W hW 14 _ HC.out
   have hcs := HCS.out wr HG.out.bel
   clear hsq
   by_cases hp : 300 < s.size
   ·have hp1 : (300 : Int) < (s.size : Int) := by omega
    have hp2 : decide (300 < s.size) = true := decide_eq_true hp
    have hp3 : decide ((300 : Int) < (s.size : Int)) = true := decide_eq_true hp1
    go_wp2
    go_ret
    exact ⟨rfl, HG.out.bel⟩
   ·have hp1 : ¬ (300 : Int) < (s.size : Int) := by omega
    have hp2 : decide (300 < s.size) = false := decide_eq_false hp
    have hp3 : decide ((300 : Int) < (s.size : Int)) = false := decide_eq_false hp1
    have hr0 := HRA.out wr HG.out.bel
    go_wp2_with (refine G.at_op (.load 36 (.tmp 47)) rfl ?_; refine wpList_load_mid rfl 36 (.tmp 47) rfl gi (oi + i * 15) rfl m.cells _ hr0 Tryz.underlying36 rfl HK.out.hz ?_)
    refine (enc_to wr HOk.out).mono ?_
    rintro e w3 ⟨b3, ⟨hq, hr, a3, c3, rfl, hbs3⟩ | ⟨hq, v3, rfl⟩⟩
    ·have HR : Hid (Ok m) := hr
     have HG3 : Hid (S1 w w3 b u5 (ms.map fr) ms) := HG.out.over b3
     have HB3 : Hid (F.D.Bs w3 a3 (G.encM m).length (G.encM m)) := hbs3
     have HF : Hid ((fr m).length = (G.encM m).length + 8 /\ 1 <= (G.encM m).length /\ (G.encM m).length <= 512) := fr_len hr
     clear b3 hq hr hbs3 hcs hr0
     have HFr := frame_to w3 HR.out (c := c3) HB3.out
     have HFR : Hid (Calls Tryz.prog 6 #[.slice a3 (G.encM m).length c3] w3 fun e w' => ∃ a' c', e = .returned (.tuple #[.slice a' (fr m).length c', .int .i64 0]) /\ L.D.Bs w' a' (fr m).length (fr m) /\ Below w3.heap.size w3 w') := HFr
     clear HFr
     generalize (G.encM m).length = en at *
     go_wp2_with fail
     refine HFR.out.mono ?_
     rintro e w4 ⟨a4, c4, rfl, hbs4, b4⟩
     have HG4 : Hid (S1 w w4 b u5 (ms.map fr) ms) := HG3.out.over b4
     have HMay := lk_may (fs := ms.map fr) (f := fr m) (by rw [List.length_map]; have := HMI.out; have := HL30.out; omega) (by have := HF.out; omega) (by have := HF.out; omega)
     have HSd := lk_send (fs := ms.map fr) (f := fr m) (by rw [List.length_map]; have := HMI.out; have := HL30.out; omega) (by have := HF.out; omega) (by have := HF.out; omega)
     have HSE : Hid (Calls Tryz.prog 7 #[.pointer (some ⟨b, 0, none⟩), .bool true, .slice a4 (fr m).length c4] w4 fun e w' => e = .returned (.bool true) /\ L.LkV w' b (lkU (ms.map fr ++ [fr m])) /\ L.Kb b w4 w') := L.send_to HG4.out.lk hbs4 HMay HSd
     have HFM : Hid ((ms ++ [m]).map fr = ms.map fr ++ [fr m]) := by show _ = _; rw [List.map_append]; rfl
     clear b4 hbs4 HMay HSd HFR HG3 HB3 HF
     generalize (fr m).length = fn at *
     go_upto_region 16 with (first | (go_at_call 7; refine HSE.out.mono ?_; rintro e w5 ⟨rfl, hl5, hk5⟩))
     have HG5 : Hid (S1 w w5 b u5 (ms.map fr ++ [fr m]) ms) := HG4.out.link hl5 hk5
     have hr5 := HRA.out w5 HG5.out.bel
     have HG6 : Hid (∀ o, S1 w (w5.alloc o) b u5 (ms.map fr ++ [fr m]) ms) := fun o => HG5.out.over (below_new _ _)
     clear hl5 hk5 HSE HG4
     go_wp2_with (first
      | (refine G.at_op (.load 36 (.tmp 70)) rfl ?_; refine wpList_load_mid rfl 36 (.tmp 70) rfl gi (oi + i * 15) rfl m.cells _ hr5 Tryz.underlying36 rfl HK.out.hz ?_)
      | (refine G.at_op (.buildSlice 22 1 #[(0, .tmp 71)]) rfl ?_; refine list_one rfl (.tmp 71) rfl m.cells.toArray rfl HK.out.hn ?_)
      | (at_builtin; refine list_appM (B := w.heap.size) (l := ms) (m := m) rfl _ _ rfl rfl rfl (HG6.out _).ro rfl (fun j x hj => by rw [Nat.zero_add]; exact (G.D.blk_new w5 m.cells.toArray 36).cell j |>.trans hj) HOk.out (by have := HMI.out; have := HL30.out; omega) (HG6.out (Obj.cells m.cells.toArray 36)).bel.size ?_; intro v7 w7 ha7; have HG7 : Hid (S1 w w7 b v7 ((ms ++ [m]).map fr) (ms ++ [m])) := (by rw [HFM.out]; exact (HG6.out _).app ha7 HR.out); clear ha7))
     go_roundw
     case rel => exact ⟨i + 1, ms ++ [m], by go_num, hlt, by rw [List.length_append, List.length_singleton]; have := HMI.out; omega, HG7.out⟩
     case measure => simp [intOf]; have := HMI.out; omega
    ·have HG3 : Hid (S1 w w3 b u5 (ms.map fr) ms) := HG.out.over b3
     clear b3 hq hcs hr0
     go_wp2_with fail
     go_roundw
     case rel => exact ⟨i + 1, ms, by go_num, hlt, by have := HMI.out; omega, HG3.out⟩
     case measure => simp [intOf]; have := HMI.out; omega
  ·have hi1 : ¬ (i : Int) < (ls.length : Int) := by omega
   have HML : Hid (ms.length <= 30) := by show ms.length <= 30; have := HL30.out; omega
   clear HS HKN
   obtain ⟨p5, c5, rfl⟩ := rowM_slice HG.out.ro
   by_cases hn0 : 0 < ms.length
   ·have hn1 : (0 : Int) < (ms.length : Int) := by omega
    obtain ⟨m0, hm0⟩ : ∃ m, ms[0] = m := ⟨_, rfl⟩
    have hok0 : Ok m0 := by rw [<- hm0]; exact HG.out.ok _ (List.getElem_mem hn0)
    have HOk : Hid (Ok m0) := hok0
    have HK : Hid (Kn m0) := kn_of hok0.2
    obtain ⟨g5, rfl, _, hra⟩ := rowM_at HG.out.ro HG.out.oks hn0
    have HM0 : Hid (ms[0]? = some m0) := by show _ = _; rw [List.getElem?_eq_getElem hn0, hm0]
    have HRG : Hid (∀ W fs, S1 w W b (.slice (some ⟨g5, 0, none⟩) ms.length c5) fs ms -> W.rangeAt g5 0 m0.cells) := fun W fs hW => by
     obtain ⟨g', e', _, hq⟩ := rowM_at hW.ro hW.oks hn0
     cases e'
     rw [Nat.zero_mul, hm0] at hq
     exact hq
    have HTw : Hid (Calls Tryz.prog 8 #[.pointer (some ⟨b, 0, none⟩), .int .i64 0] wr fun e w' => e = .returned (.bool true) /\ L.LkV w' b (lkU (ms.map fr ++ [fr m0])) /\ L.Kb b wr w') := by
     obtain ⟨q1, q2⟩ := lk_twice (fs := ms.map fr) (f := fr m0) (by rw [List.length_map]; have := HML.out; omega) (by rw [List.getElem?_map, HM0.out]; rfl)
     exact L.twice_to HG.out.lk (by decide) q1 q2
    have HFM : Hid ((ms ++ [m0]).map fr = ms.map fr ++ [fr m0]) := by show _ = _; rw [List.map_append]; rfl
    clear hm0 hra hok0
    obtain ⟨k, hk⟩ : ∃ k, ms.length = k := ⟨_, rfl⟩
    have HKL : Hid (ms.length = k /\ k <= 30) := ⟨hk, hk ▸ HML.out⟩
    rw [hk] at HG HRG hn1 hn0
    simp only [hk]
    clear hk HML
    go_wp2_with fail
    refine HTw.out.mono ?_
    rintro e w3 ⟨rfl, hl3, hk3⟩
    have HG3 : Hid (S1 w w3 b (.slice (some ⟨g5, 0, none⟩) k c5) (ms.map fr ++ [fr m0]) ms) := HG.out.link hl3 hk3
    have hr3 := HRG.out w3 _ HG3.out
    have HG6 : Hid (∀ o, S1 w (w3.alloc o) b (.slice (some ⟨g5, 0, none⟩) k c5) (ms.map fr ++ [fr m0]) ms) := fun o => HG3.out.over (below_new _ _)
    clear hl3 hk3 HTw HG
    go_upto_region 22 with (first
     | (refine G.at_op (.load 36 (.tmp 83)) rfl ?_; refine wpList_load_mid rfl 36 (.tmp 83) rfl g5 0 rfl m0.cells _ hr3 Tryz.underlying36 rfl HK.out.hz ?_)
     | (refine G.at_op (.buildSlice 22 1 #[(0, .tmp 84)]) rfl ?_; refine list_one rfl (.tmp 84) rfl m0.cells.toArray rfl HK.out.hn ?_)
     | (at_builtin; refine list_appM (B := w.heap.size) (l := ms) (m := m0) rfl _ _ rfl rfl rfl (by have := (HG6.out (Obj.cells m0.cells.toArray 36)).ro; rw [HKL.out.1] at this; exact this) HKL.out.1 (fun j x hj => by rw [Nat.zero_add]; exact (G.D.blk_new w3 m0.cells.toArray 36).cell j |>.trans hj) HOk.out.2 (by have := HKL.out; omega) (HG6.out (Obj.cells m0.cells.toArray 36)).bel.size ?_; intro v7 w7 ha7; have HG7 : Hid (S1 w w7 b v7 ((ms ++ [m0]).map fr) (ms ++ [m0])) := (by rw [HFM.out]; exact (HG6.out _).app ha7 HOk.out); obtain ⟨p7, c7, hv7⟩ := rowM_slice HG7.out.ro; obtain ⟨n, hn⟩ : ∃ n, (ms ++ [m0]).length = n := ⟨_, rfl⟩; have HNL : Hid ((ms ++ [m0]).length = n /\ n <= 31) := ⟨hn, by rw [<- hn, List.length_append, List.length_singleton]; have := HKL.out; omega⟩; rw [hn] at hv7; subst hv7; clear ha7 hn))
    clear hr3 HG3 HG6 HRG HK HOk HM0 HFM HKL hn0 hn1
    generalize ms ++ [m0] = ns at *
    generalize p7 = p5 at *
    generalize c7 = c5 at *
    have hn31 : n <= 31 := HNL.out.2
    have HT0 : Hid (S2 w (w7.alloc (.cells #[.slice none 0 0, .int .i64 0] 45)) b w7.heap.size (.slice p5 n c5) (.slice none 0 0) (ns.map fr) ns []) := ⟨HG7.out.over (below_new _ _), ⟨F.D.blk_new _ _ 45, F.wt_nil _, fun e => by cases e⟩, HG7.out.bel.size, fun k e => by cases e⟩
    clear HG7
    go_upto_region 23 with fail
    generalize (w7.alloc (.cells #[.slice none 0 0, .int .i64 0] 45)) = wA at *
    generalize w7.heap.size = rb at *
    go_wp2
    go_loopw [13] (fun v13 wz => ∃ (i : Nat) (rv : Value), v13 = .int .i64 i /\ i <= n /\ S2 w wz b rb (.slice p5 n c5) rv ((ns.map fr).drop i) ns ((ns.map fr).take i).flatten) (fun v13 _ => n - (intOf v13).toNat)
    case atStart => exact ⟨0, _, rfl, Nat.zero_le _, HT0.out⟩
    case round =>
     obtain ⟨i, rv, rfl, hi, ht⟩ := hrel
     have HT : Hid (S2 w wr b rb (.slice p5 n c5) rv ((ns.map fr).drop i) ns ((ns.map fr).take i).flatten) := ht
     clear ht HT0
     by_cases hin : i < n
     ·have hin1 : (i : Int) < (n : Int) := by omega
      have hif : i < (ns.map fr).length := by rw [List.length_map, HNL.out.1]; exact hin
      obtain ⟨f, hf⟩ : ∃ f, (ns.map fr)[i] = f := ⟨_, rfl⟩
      have HD : Hid ((ns.map fr).drop i = f :: (ns.map fr).drop (i + 1)) := by show _ = _; rw [List.drop_eq_getElem_cons hif, hf]
      have HTK : Hid (((ns.map fr).take (i + 1)).flatten = ((ns.map fr).take i).flatten ++ f) := by show _ = _; rw [List.take_succ_eq_append_getElem hif, List.flatten_append, hf]; simp
      have HFL : Hid (f.length <= 520 /\ ((ns.map fr).take i).flatten.length <= 20000) := by
       constructor
       ·rw [<- hf, List.getElem_map]
        have := fr_len (HT.out.s.ok _ (List.getElem_mem (show i < ns.length by rw [HNL.out.1]; exact hin)))
        omega
       ·have h1 := sum_fr (ms := ns.take i) (fun m hm => HT.out.s.ok m (List.mem_of_mem_take hm))
        rw [List.map_take] at h1
        have h2 : (ns.take i).length <= 31 := by rw [List.length_take]; have := HNL.out; omega
        have h3 : (ns.take i).length * 520 <= 31 * 520 := Nat.mul_le_mul h2 (Nat.le_refl _)
        omega
      have HTa : Hid (Calls Tryz.prog 9 #[.pointer (some ⟨b, 0, none⟩), .bool true, .int .i64 0] wr fun e w' => ∃ v, e = .returned (.tuple #[v, .bool true]) /\ L.PcV w' v f /\ L.New wr.heap.size v /\ L.LkV w' b (lkU ((ns.map fr).drop (i + 1))) /\ L.Kb b wr w') := by
       obtain ⟨q1, q2, q3⟩ := lk_take f ((ns.map fr).drop (i + 1))
       have hlk := HT.out.s.lk
       rw [HD.out] at hlk
       exact L.take_to hlk q1 q2 q3
      clear hf hif
      go_wp2_with fail
      refine HTa.out.mono ?_
      rintro e w8 ⟨v8, rfl, ⟨a8, c8, rfl, hb8, hn8⟩, _, hl8, hk8⟩
      have HT8 : Hid (S2 w w8 b rb (.slice p5 n c5) rv ((ns.map fr).drop (i + 1)) ns ((ns.map fr).take i).flatten) := HT.out.link hl8 hk8
      have HFe : Hid (Calls Tryz.prog 10 #[.pointer (some ⟨rb, 0, none⟩), .slice a8 f.length c8] w8 fun e w' => e = .returned (.tuple #[]) /\ ∃ v', F.Rdr w' rb v' (((ns.map fr).take i).flatten ++ f) 0 /\ (v'.ownBlock = rv.ownBlock \/ v'.ownBlock = some w8.heap.size) /\ F.Kp (fun i => i = rb \/ rv.ownBlock = some i) w8 w') := F.feed_any rb 0 rv _ w8 HT8.out.rd a8 f.length c8 f (bs_lf hb8) hn8 (by have := HFL.out; omega)
      clear hb8 hn8 hl8 hk8 HTa HT
      generalize f.length = fn at *
      go_wp2_with fail
      refine HFe.out.mono ?_
      rintro e w9 ⟨rfl, rv9, hr9, ho9, hk9⟩
      have HT9 : Hid (S2 w w9 b rb (.slice p5 n c5) rv9 ((ns.map fr).drop (i + 1)) ns ((ns.map fr).take (i + 1)).flatten) := HT8.out.feed (by rw [HTK.out]; exact hr9) ho9 hk9
      clear hr9 ho9 hk9 HFe HT8
      go_wp2_with fail
      go_roundw
      case rel => exact ⟨i + 1, rv9, by go_num, hin, HT9.out⟩
      case measure => simp [intOf]; omega
     ·have hin1 : ¬ (i : Int) < (n : Int) := by omega
      obtain rfl : i = n := by omega
      have HU0 : Hid (S2 w wr b rb (.slice p5 i c5) rv [] ns (ns.map fr).flatten) := by
       have := HT.out
       rw [List.drop_of_length_le (by rw [List.length_map, HNL.out.1]; exact Nat.le_refl _), List.take_of_length_le (by rw [List.length_map, HNL.out.1]; exact Nat.le_refl _)] at this
       exact this
      clear HT hi
      generalize i = n at *
      go_wp2
      go_loopw [16] (fun v16 wz => ∃ (i : Nat) (rv : Value), v16 = .int .i64 i /\ i <= n /\ S2 w wz b rb (.slice p5 n c5) rv [] ns ((ns.drop i).map fr).flatten) (fun v16 _ => n - (intOf v16).toNat)
      case atStart => exact ⟨0, _, rfl, Nat.zero_le _, HU0.out⟩
      case round =>
       obtain ⟨i, rv, rfl, hi, ht⟩ := hrel
       have HT : Hid (S2 w wr b rb (.slice p5 n c5) rv [] ns ((ns.drop i).map fr).flatten) := ht
       clear ht HU0
       by_cases hin : i < n
       ·have hin1 : (i : Int) < (n : Int) := by omega
        have hif : i < ns.length := by rw [HNL.out.1]; exact hin
        have hok : Ok ns[i] := HT.out.s.ok _ (List.getElem_mem hif)
        obtain ⟨g5, rfl, _, hra⟩ := rowM_at (by have := HT.out.s.ro; rw [HNL.out.1] at this; exact this) HT.out.s.oks hif
        have HRG : Hid (∀ W rv l, S2 w W b rb (.slice (some ⟨g5, 0, none⟩) n c5) rv [] ns l -> W.rangeAt g5 (i * 15) ns[i].cells) := fun W rv l hW => by
         obtain ⟨g', e', _, hq⟩ := rowM_at (by have := hW.s.ro; rw [HNL.out.1] at this; exact this) hW.s.oks hif
         cases e'
         exact hq
        have HOk : Hid (Ok ns[i]) := hok
        have HKm : Hid (Kn ns[i]) := kn_of hok.2
        have HDr : Hid (((ns.drop i).map fr).flatten = fr ns[i] ++ ((ns.drop (i + 1)).map fr).flatten) := by show _ = _; rw [List.drop_eq_getElem_cons hif, List.map_cons, List.flatten_cons]
        have HSz : Hid (((ns.drop i).map fr).flatten.length <= 100000) := by
         have h1 := sum_fr (ms := ns.drop i) (fun m hm => HT.out.s.ok m (List.mem_of_mem_drop hm))
         have h2 : (ns.drop i).length <= 31 := by rw [List.length_drop]; have := HNL.out; omega
         have h3 : (ns.drop i).length * 520 <= 31 * 520 := Nat.mul_le_mul h2 (Nat.le_refl _)
         show _ <= _
         omega
        clear hra hok
        generalize ns[i] = m at *
        clear hif
        have HNx : Hid (Calls Tryz.prog 11 #[.pointer (some ⟨rb, 0, none⟩)] wr fun e w' => ∃ u rv', e = .returned (.tuple #[u, .bool true]) /\ F.Wt w' u (G.encM m) /\ F.Rdr w' rb rv' ((ns.drop (i + 1)).map fr).flatten 0 /\ rv'.ownBlock = rv.ownBlock /\ F.Kp (· = rb) wr w') := next_fr (by have := HT.out.rd; rw [HDr.out] at this; exact this) HOk.out (by rw [<- HDr.out]; exact HSz.out)
        go_wp2_with fail
        refine HNx.out.mono ?_
        rintro e w8 ⟨u8, rv8, rfl, hw8, hr8, ho8, hk8⟩
        have HT8 : Hid (S2 w w8 b rb (.slice (some ⟨g5, 0, none⟩) n c5) rv8 [] ns ((ns.drop (i + 1)).map fr).flatten) := HT.out.next hr8 ho8 hk8
        obtain ⟨a8, c8, rfl, hde⟩ := dec_to w8 HOk.out hw8
        have HDe : Hid (Calls Tryz.prog 12 #[.slice a8 (G.encM m).length c8] w8 fun e w' => e = .returned (.tuple #[.agg m.cells.toArray, .int .i64 0]) /\ Below w8.heap.size w8 w') := hde
        clear hw8 hr8 ho8 hk8 hde HNx HT
        generalize (G.encM m).length = en at *
        go_wp2_with fail
        refine HDe.out.mono ?_
        rintro e w9 ⟨rfl, b9⟩
        have HT9 : Hid (S2 w w9 b rb (.slice (some ⟨g5, 0, none⟩) n c5) rv8 [] ns ((ns.drop (i + 1)).map fr).flatten) := HT8.out.over b9
        have Z9 := HZN.out w9
        clear b9 HDe HT8
        have HZ : Hid ((Tryz.prog.info? 36).map (·.size) = some m.cells.toArray.size) := HKm.out.hz
        have HQ : Hid (∀ W : World, (binOp .neq 36 (.agg m.cells.toArray) (.agg m.cells.toArray)).run Tryz.prog W = .ok (.bool false) W) := HKm.out.ne
        have HGd : Hid (∀ (W : World) (x y : Operand), (eqGuard .neq 36 x y (.agg m.cells.toArray) (.agg m.cells.toArray)).run Tryz.prog W = .ok () W) := HKm.out.gd
        have H1 : Hid (m.cells.toArray.all (·.oneCell') = true) := HKm.out.h1
        have HZS : Hid (G.zero15.toArray.size = m.cells.toArray.size) := HKm.out.hs
        unfold G.zero15 at HZS
        generalize m.cells = R at *
        go_wp2_with (refine G.at_op (.store 36 (.tmp 19) (.tmp 115)) rfl ?_; refine G.wpList_store_r rfl 36 (.tmp 19) (.tmp 115) rfl w9.heap.size R.toArray rfl rfl 36 _ Z9 HZ.out HZS.out H1.out ?_; intro X hX; have kX : Below w9.heap.size w9 X := hX ▸ below_setRow (G.room1 w9 _) (Nat.le_refl _) _; have zX : G.D.Blk X w9.heap.size 36 R := hX ▸ G.D.Blk.row Z9 _; have HTX : Hid (S2 w X b rb (.slice (some ⟨g5, 0, none⟩) n c5) rv8 [] ns ((ns.drop (i + 1)).map fr).flatten) := HT9.out.over kX; clear hX kX Z9)
        have HTD : Hid (S2 w X.drew b rb (.slice (some ⟨g5, 0, none⟩) n c5) rv8 [] ns ((ns.drop (i + 1)).map fr).flatten) := HTX.out.over (Below.refl _ _).drew
        generalize w9.heap.size = mb at *
        have hS7 : (fun X => G.D.Blk X mb 36 R /\ X.rangeAt g5 (i * 15) R) X.drew := ⟨zX.drew, HRG.out _ _ _ HTD.out⟩
        clear zX HT9 HTX
        refine wp_region_late (E := []) (S := (fun X => G.D.Blk X mb 36 R /\ X.rangeAt g5 (i * 15) R)) (by kernel_rfl) (hS7) (fun hHeld => ?_)
        simp only [List.size_toArray, List.length_cons, List.length_nil, Nat.reduceAdd]
        refine wpAnyL_take [1, 2, 5, 6, 13] (i := 0) (v := ?_) (by kernel_rfl) (by kernel_rfl) (by kernel_rfl) rfl (by kernel_rfl) (by kernel_rfl) (by kernel_rfl) (fun _ _ _ h => h) (Or.inl ⟨by rfl, ?_⟩) hHeld ?_
        rotate_left
        ·(intro w hSw; (try dsimp only at hSw); go_simp; try with_reducible rfl)
        try simp only [Act.put, zA, zB, zC, zD, zE]
        refine wpAnyL_take [2, 5, 6, 13] (i := 1) (v := ?_) (by kernel_rfl) (by kernel_rfl) (by kernel_rfl) rfl (by kernel_rfl) (by kernel_rfl) (by kernel_rfl) (fun _ _ _ h => h) (Or.inl ⟨by rfl, ?_⟩) hHeld ?_
        rotate_left
        ·(intro w hSw; (try dsimp only at hSw); go_simp; try with_reducible rfl)
        try simp only [Act.put, zA, zB, zC, zD, zE, zF]
        refine wpAnyL_take [5, 6, 13] (i := 2) (v := ?_) (by kernel_rfl) (by kernel_rfl) (by kernel_rfl) rfl (by kernel_rfl) (by kernel_rfl) (by kernel_rfl) (fun _ _ _ h => h) (Or.inl ⟨by rfl, ?_⟩) hHeld ?_
        rotate_left
        ·(intro w hSw; (try dsimp only at hSw); go_simp; try with_reducible rfl)
        try simp only [Act.put, zA, zB, zC, zD, zE, zF]
        refine wpAnyL_take [4, 5, 6, 13] (i := 3) (v := ?_) (by kernel_rfl) (by kernel_rfl) (by kernel_rfl) rfl (by kernel_rfl) (by kernel_rfl) (by kernel_rfl) (fun _ _ _ h => h) (Or.inl ⟨by rfl, ?_⟩) hHeld ?_
        rotate_left
        ·(intro w hSw; (try dsimp only at hSw); go_simp; try with_reducible rfl)
        try simp only [Act.put, zA, zB, zC, zD, zE, zF]
        refine wpAnyL_take [5, 6, 13] (i := 4) (v := ?_) (by kernel_rfl) (by kernel_rfl) (by kernel_rfl) rfl (by kernel_rfl) (by kernel_rfl) (by kernel_rfl) (fun _ _ _ h => h) (Or.inl ⟨by rfl, ?_⟩) hHeld ?_
        rotate_left
        ·(intro w hSw; (try dsimp only at hSw); go_simp; try with_reducible rfl)
        try simp only [Act.put, zA, zB, zC, zD, zE, zF]
        refine wpAnyL_take [6, 13] (i := 5) (v := ?_) (by kernel_rfl) (by kernel_rfl) (by kernel_rfl) rfl (by kernel_rfl) (by kernel_rfl) (by kernel_rfl) (fun _ _ _ h => h) (Or.inl ⟨by rfl, ?_⟩) hHeld ?_
        rotate_left
        ·(intro w hSw; (try dsimp only at hSw); go_simp; try with_reducible rfl)
        try simp only [Act.put, zA, zB, zC, zD, zE, zF]
        refine wpAnyL_take [13] (i := 6) (v := ?_) (by kernel_rfl) (by kernel_rfl) (by kernel_rfl) rfl (by kernel_rfl) (by kernel_rfl) (by kernel_rfl) (fun _ _ _ h => h) (Or.inl ⟨by rfl, ?_⟩) hHeld ?_
        rotate_left
        ·(intro w hSw; (try dsimp only at hSw); go_simp; try with_reducible rfl)
        try simp only [Act.put, zA, zB, zC, zD, zE, zF]
        refine wpAnyL_take [12, 13] (i := 7) (v := _) (by kernel_rfl) (by kernel_rfl) (by kernel_rfl) rfl (by kernel_rfl) (by kernel_rfl) (by kernel_rfl) (fun _ _ _ h => h) (Or.inl ⟨by rfl, fun w hSw => G.exec_load_mg rfl rfl hSw.1 HZ.out⟩) hHeld ?_
        try simp only [Act.put, zA, zB, zC, zD, zE, zF]
        refine wpAnyL_take [10, 11, 12, 13] (i := 8) (v := ?_) (by kernel_rfl) (by kernel_rfl) (by kernel_rfl) rfl (by kernel_rfl) (by kernel_rfl) (by kernel_rfl) (fun _ _ _ h => h) (Or.inl ⟨by rfl, ?_⟩) hHeld ?_
        rotate_left
        ·(intro w hSw; (try dsimp only at hSw); go_simp; try with_reducible rfl)
        try simp only [Act.put, zA, zB, zC, zD, zE, zF]
        refine wpAnyL_take [10, 11, 12, 13] (i := 9) (v := ?_) (by kernel_rfl) (by kernel_rfl) (by kernel_rfl) rfl (by kernel_rfl) (by kernel_rfl) (by kernel_rfl) (fun _ _ _ h => h) (Or.inl ⟨by rfl, ?_⟩) hHeld ?_
        rotate_left
        ·(intro w hSw; (try dsimp only at hSw); go_simp; try with_reducible rfl)
        try simp only [Act.put, zA, zB, zC, zD, zE, zF]
        refine wpAnyL_take [11, 12, 13] (i := 10) (v := ?_) (by kernel_rfl) (by kernel_rfl) (by kernel_rfl) rfl (by kernel_rfl) (by kernel_rfl) (by kernel_rfl) (fun _ _ _ h => h) (Or.inl ⟨by rfl, ?_⟩) hHeld ?_
        rotate_left
        ·(intro w hSw; (try dsimp only at hSw); go_simp; try with_reducible rfl)
        try simp only [Act.put, zA, zB, zC, zD, zE, zF]
        refine wpAnyL_take [12, 13] (i := 11) (v := _) (by kernel_rfl) (by kernel_rfl) (by kernel_rfl) rfl (by kernel_rfl) (by kernel_rfl) (by kernel_rfl) (fun _ _ _ h => h) (Or.inl ⟨by rfl, fun w hSw => exec_load_mid rfl rfl hSw.2 HZ.out⟩) hHeld ?_
        try simp only [Act.put, zA, zB, zC, zD, zE, zF]
        refine wpAnyL_take [13] (i := 12) (v := ?_) (by kernel_rfl) (by kernel_rfl) (by kernel_rfl) rfl (by kernel_rfl) (by kernel_rfl) (by kernel_rfl) (fun _ _ _ h => h) (Or.inl ⟨by rfl, ?_⟩) hHeld ?_
        rotate_left
        ·(intro w hSw; (try dsimp only at hSw); have q0 := HQ.out; have q1 := HGd.out; go_simp; try with_reducible rfl)
        try simp only [Act.put, zA, zB, zC, zD, zE, zF]
        refine wpAnyL_take [] (i := 13) (v := ?_) (by kernel_rfl) (by kernel_rfl) (by kernel_rfl) rfl (by kernel_rfl) (by kernel_rfl) (by kernel_rfl) (fun _ _ _ h => h) (Or.inl ⟨by rfl, ?_⟩) hHeld ?_
        rotate_left
        ·(intro w hSw; (try dsimp only at hSw); go_simp; try with_reducible rfl)
        try simp only [Act.put, zA, zB, zC, zD, zE, zF]
        refine wpAnyL_done (by kernel_rfl) ?_ _
        generalize X.drew = wd at *
        go_wp2_with fail
        go_roundw
        case rel => exact ⟨i + 1, rv8, by go_num, hin, HTD.out⟩
        case measure => simp [intOf]; omega
       ·have hin1 : ¬ (i : Int) < (n : Int) := by omega
        obtain rfl : i = n := by omega
        have HU1 : Hid (S2 w wr b rb (.slice p5 i c5) rv [] ns []) := by
         have := HT.out
         rw [List.drop_of_length_le (by rw [HNL.out.1]; exact Nat.le_refl _)] at this
         exact this
        clear HT hi
        generalize i = n at *
        go_wp2_with fail
        refine (next_end HU1.out.rd).mono ?_
        rintro e w8 ⟨rv8, rfl, hr8, ho8, hk8⟩
        have HT8 : Hid (S2 w w8 b rb (.slice p5 n c5) rv8 [] ns []) := HU1.out.next hr8 ho8 hk8
        clear hr8 ho8 hk8 HU1
        go_wp2_with (first | (go_at_call 13; refine (F.lost_any rb 0 rv8 [] _ HT8.out.rd).mono ?_; rintro e w9 ⟨rfl, hw9⟩; subst hw9))
        go_ret
        exact ⟨rfl, HT8.out.s.bel⟩
   ·have hn1 : ¬ (0 : Int) < (ms.length : Int) := by omega
    obtain ⟨n, hn⟩ : ∃ n, ms.length = n := ⟨_, rfl⟩
    have HNL : Hid (ms.length = n /\ n <= 31) := ⟨hn, by have := HML.out; omega⟩
    rw [hn] at HG hn1 hn0
    simp only [hn]
    clear hn HML
    generalize ms = ns at *
    go_upto_region 22 with fail
    clear hn0 hn1
    have hn31 : n <= 31 := HNL.out.2
    have HT0 : Hid (S2 w (wr.alloc (.cells #[.slice none 0 0, .int .i64 0] 45)) b wr.heap.size (.slice p5 n c5) (.slice none 0 0) (ns.map fr) ns []) := ⟨HG.out.over (below_new _ _), ⟨F.D.blk_new _ _ 45, F.wt_nil _, fun e => by cases e⟩, HG.out.bel.size, fun k e => by cases e⟩
    clear HG
    go_upto_region 23 with fail
    generalize (wr.alloc (.cells #[.slice none 0 0, .int .i64 0] 45)) = wA at *
    generalize wr.heap.size = rb at *
    go_wp2
    go_loopw [13] (fun v13 wz => ∃ (i : Nat) (rv : Value), v13 = .int .i64 i /\ i <= n /\ S2 w wz b rb (.slice p5 n c5) rv ((ns.map fr).drop i) ns ((ns.map fr).take i).flatten) (fun v13 _ => n - (intOf v13).toNat)
    case atStart => exact ⟨0, _, rfl, Nat.zero_le _, HT0.out⟩
    case round =>
     obtain ⟨i, rv, rfl, hi, ht⟩ := hrel
     have HT : Hid (S2 w wr b rb (.slice p5 n c5) rv ((ns.map fr).drop i) ns ((ns.map fr).take i).flatten) := ht
     clear ht HT0
     by_cases hin : i < n
     ·have hin1 : (i : Int) < (n : Int) := by omega
      have hif : i < (ns.map fr).length := by rw [List.length_map, HNL.out.1]; exact hin
      obtain ⟨f, hf⟩ : ∃ f, (ns.map fr)[i] = f := ⟨_, rfl⟩
      have HD : Hid ((ns.map fr).drop i = f :: (ns.map fr).drop (i + 1)) := by show _ = _; rw [List.drop_eq_getElem_cons hif, hf]
      have HTK : Hid (((ns.map fr).take (i + 1)).flatten = ((ns.map fr).take i).flatten ++ f) := by show _ = _; rw [List.take_succ_eq_append_getElem hif, List.flatten_append, hf]; simp
      have HFL : Hid (f.length <= 520 /\ ((ns.map fr).take i).flatten.length <= 20000) := by
       constructor
       ·rw [<- hf, List.getElem_map]
        have := fr_len (HT.out.s.ok _ (List.getElem_mem (show i < ns.length by rw [HNL.out.1]; exact hin)))
        omega
       ·have h1 := sum_fr (ms := ns.take i) (fun m hm => HT.out.s.ok m (List.mem_of_mem_take hm))
        rw [List.map_take] at h1
        have h2 : (ns.take i).length <= 31 := by rw [List.length_take]; have := HNL.out; omega
        have h3 : (ns.take i).length * 520 <= 31 * 520 := Nat.mul_le_mul h2 (Nat.le_refl _)
        omega
      have HTa : Hid (Calls Tryz.prog 9 #[.pointer (some ⟨b, 0, none⟩), .bool true, .int .i64 0] wr fun e w' => ∃ v, e = .returned (.tuple #[v, .bool true]) /\ L.PcV w' v f /\ L.New wr.heap.size v /\ L.LkV w' b (lkU ((ns.map fr).drop (i + 1))) /\ L.Kb b wr w') := by
       obtain ⟨q1, q2, q3⟩ := lk_take f ((ns.map fr).drop (i + 1))
       have hlk := HT.out.s.lk
       rw [HD.out] at hlk
       exact L.take_to hlk q1 q2 q3
      clear hf hif
      go_wp2_with fail
      refine HTa.out.mono ?_
      rintro e w8 ⟨v8, rfl, ⟨a8, c8, rfl, hb8, hn8⟩, _, hl8, hk8⟩
      have HT8 : Hid (S2 w w8 b rb (.slice p5 n c5) rv ((ns.map fr).drop (i + 1)) ns ((ns.map fr).take i).flatten) := HT.out.link hl8 hk8
      have HFe : Hid (Calls Tryz.prog 10 #[.pointer (some ⟨rb, 0, none⟩), .slice a8 f.length c8] w8 fun e w' => e = .returned (.tuple #[]) /\ ∃ v', F.Rdr w' rb v' (((ns.map fr).take i).flatten ++ f) 0 /\ (v'.ownBlock = rv.ownBlock \/ v'.ownBlock = some w8.heap.size) /\ F.Kp (fun i => i = rb \/ rv.ownBlock = some i) w8 w') := F.feed_any rb 0 rv _ w8 HT8.out.rd a8 f.length c8 f (bs_lf hb8) hn8 (by have := HFL.out; omega)
      clear hb8 hn8 hl8 hk8 HTa HT
      generalize f.length = fn at *
      go_wp2_with fail
      refine HFe.out.mono ?_
      rintro e w9 ⟨rfl, rv9, hr9, ho9, hk9⟩
      have HT9 : Hid (S2 w w9 b rb (.slice p5 n c5) rv9 ((ns.map fr).drop (i + 1)) ns ((ns.map fr).take (i + 1)).flatten) := HT8.out.feed (by rw [HTK.out]; exact hr9) ho9 hk9
      clear hr9 ho9 hk9 HFe HT8
      go_wp2_with fail
      go_roundw
      case rel => exact ⟨i + 1, rv9, by go_num, hin, HT9.out⟩
      case measure => simp [intOf]; omega
     ·have hin1 : ¬ (i : Int) < (n : Int) := by omega
      obtain rfl : i = n := by omega
      have HU0 : Hid (S2 w wr b rb (.slice p5 i c5) rv [] ns (ns.map fr).flatten) := by
       have := HT.out
       rw [List.drop_of_length_le (by rw [List.length_map, HNL.out.1]; exact Nat.le_refl _), List.take_of_length_le (by rw [List.length_map, HNL.out.1]; exact Nat.le_refl _)] at this
       exact this
      clear HT hi
      generalize i = n at *
      go_wp2
      go_loopw [16] (fun v16 wz => ∃ (i : Nat) (rv : Value), v16 = .int .i64 i /\ i <= n /\ S2 w wz b rb (.slice p5 n c5) rv [] ns ((ns.drop i).map fr).flatten) (fun v16 _ => n - (intOf v16).toNat)
      case atStart => exact ⟨0, _, rfl, Nat.zero_le _, HU0.out⟩
      case round =>
       obtain ⟨i, rv, rfl, hi, ht⟩ := hrel
       have HT : Hid (S2 w wr b rb (.slice p5 n c5) rv [] ns ((ns.drop i).map fr).flatten) := ht
       clear ht HU0
       by_cases hin : i < n
       ·have hin1 : (i : Int) < (n : Int) := by omega
        have hif : i < ns.length := by rw [HNL.out.1]; exact hin
        have hok : Ok ns[i] := HT.out.s.ok _ (List.getElem_mem hif)
        obtain ⟨g5, rfl, _, hra⟩ := rowM_at (by have := HT.out.s.ro; rw [HNL.out.1] at this; exact this) HT.out.s.oks hif
        have HRG : Hid (∀ W rv l, S2 w W b rb (.slice (some ⟨g5, 0, none⟩) n c5) rv [] ns l -> W.rangeAt g5 (i * 15) ns[i].cells) := fun W rv l hW => by
         obtain ⟨g', e', _, hq⟩ := rowM_at (by have := hW.s.ro; rw [HNL.out.1] at this; exact this) hW.s.oks hif
         cases e'
         exact hq
        have HOk : Hid (Ok ns[i]) := hok
        have HKm : Hid (Kn ns[i]) := kn_of hok.2
        have HDr : Hid (((ns.drop i).map fr).flatten = fr ns[i] ++ ((ns.drop (i + 1)).map fr).flatten) := by show _ = _; rw [List.drop_eq_getElem_cons hif, List.map_cons, List.flatten_cons]
        have HSz : Hid (((ns.drop i).map fr).flatten.length <= 100000) := by
         have h1 := sum_fr (ms := ns.drop i) (fun m hm => HT.out.s.ok m (List.mem_of_mem_drop hm))
         have h2 : (ns.drop i).length <= 31 := by rw [List.length_drop]; have := HNL.out; omega
         have h3 : (ns.drop i).length * 520 <= 31 * 520 := Nat.mul_le_mul h2 (Nat.le_refl _)
         show _ <= _
         omega
        clear hra hok
        generalize ns[i] = m at *
        clear hif
        have HNx : Hid (Calls Tryz.prog 11 #[.pointer (some ⟨rb, 0, none⟩)] wr fun e w' => ∃ u rv', e = .returned (.tuple #[u, .bool true]) /\ F.Wt w' u (G.encM m) /\ F.Rdr w' rb rv' ((ns.drop (i + 1)).map fr).flatten 0 /\ rv'.ownBlock = rv.ownBlock /\ F.Kp (· = rb) wr w') := next_fr (by have := HT.out.rd; rw [HDr.out] at this; exact this) HOk.out (by rw [<- HDr.out]; exact HSz.out)
        go_wp2_with fail
        refine HNx.out.mono ?_
        rintro e w8 ⟨u8, rv8, rfl, hw8, hr8, ho8, hk8⟩
        have HT8 : Hid (S2 w w8 b rb (.slice (some ⟨g5, 0, none⟩) n c5) rv8 [] ns ((ns.drop (i + 1)).map fr).flatten) := HT.out.next hr8 ho8 hk8
        obtain ⟨a8, c8, rfl, hde⟩ := dec_to w8 HOk.out hw8
        have HDe : Hid (Calls Tryz.prog 12 #[.slice a8 (G.encM m).length c8] w8 fun e w' => e = .returned (.tuple #[.agg m.cells.toArray, .int .i64 0]) /\ Below w8.heap.size w8 w') := hde
        clear hw8 hr8 ho8 hk8 hde HNx HT
        generalize (G.encM m).length = en at *
        go_wp2_with fail
        refine HDe.out.mono ?_
        rintro e w9 ⟨rfl, b9⟩
        have HT9 : Hid (S2 w w9 b rb (.slice (some ⟨g5, 0, none⟩) n c5) rv8 [] ns ((ns.drop (i + 1)).map fr).flatten) := HT8.out.over b9
        have Z9 := HZN.out w9
        clear b9 HDe HT8
        have HZ : Hid ((Tryz.prog.info? 36).map (·.size) = some m.cells.toArray.size) := HKm.out.hz
        have HQ : Hid (∀ W : World, (binOp .neq 36 (.agg m.cells.toArray) (.agg m.cells.toArray)).run Tryz.prog W = .ok (.bool false) W) := HKm.out.ne
        have HGd : Hid (∀ (W : World) (x y : Operand), (eqGuard .neq 36 x y (.agg m.cells.toArray) (.agg m.cells.toArray)).run Tryz.prog W = .ok () W) := HKm.out.gd
        have H1 : Hid (m.cells.toArray.all (·.oneCell') = true) := HKm.out.h1
        have HZS : Hid (G.zero15.toArray.size = m.cells.toArray.size) := HKm.out.hs
        unfold G.zero15 at HZS
        generalize m.cells = R at *
        go_wp2_with (refine G.at_op (.store 36 (.tmp 19) (.tmp 115)) rfl ?_; refine G.wpList_store_r rfl 36 (.tmp 19) (.tmp 115) rfl w9.heap.size R.toArray rfl rfl 36 _ Z9 HZ.out HZS.out H1.out ?_; intro X hX; have kX : Below w9.heap.size w9 X := hX ▸ below_setRow (G.room1 w9 _) (Nat.le_refl _) _; have zX : G.D.Blk X w9.heap.size 36 R := hX ▸ G.D.Blk.row Z9 _; have HTX : Hid (S2 w X b rb (.slice (some ⟨g5, 0, none⟩) n c5) rv8 [] ns ((ns.drop (i + 1)).map fr).flatten) := HT9.out.over kX; clear hX kX Z9)
        have HTD : Hid (S2 w X.drew b rb (.slice (some ⟨g5, 0, none⟩) n c5) rv8 [] ns ((ns.drop (i + 1)).map fr).flatten) := HTX.out.over (Below.refl _ _).drew
        generalize w9.heap.size = mb at *
        have hS7 : (fun X => G.D.Blk X mb 36 R /\ X.rangeAt g5 (i * 15) R) X.drew := ⟨zX.drew, HRG.out _ _ _ HTD.out⟩
        clear zX HT9 HTX
        refine wp_region_late (E := []) (S := (fun X => G.D.Blk X mb 36 R /\ X.rangeAt g5 (i * 15) R)) (by kernel_rfl) (hS7) (fun hHeld => ?_)
        simp only [List.size_toArray, List.length_cons, List.length_nil, Nat.reduceAdd]
        refine wpAnyL_take [1, 2, 5, 6, 13] (i := 0) (v := ?_) (by kernel_rfl) (by kernel_rfl) (by kernel_rfl) rfl (by kernel_rfl) (by kernel_rfl) (by kernel_rfl) (fun _ _ _ h => h) (Or.inl ⟨by rfl, ?_⟩) hHeld ?_
        rotate_left
        ·(intro w hSw; (try dsimp only at hSw); go_simp; try with_reducible rfl)
        try simp only [Act.put, zA, zB, zC, zD, zE]
        refine wpAnyL_take [2, 5, 6, 13] (i := 1) (v := ?_) (by kernel_rfl) (by kernel_rfl) (by kernel_rfl) rfl (by kernel_rfl) (by kernel_rfl) (by kernel_rfl) (fun _ _ _ h => h) (Or.inl ⟨by rfl, ?_⟩) hHeld ?_
        rotate_left
        ·(intro w hSw; (try dsimp only at hSw); go_simp; try with_reducible rfl)
        try simp only [Act.put, zA, zB, zC, zD, zE, zF]
        refine wpAnyL_take [5, 6, 13] (i := 2) (v := ?_) (by kernel_rfl) (by kernel_rfl) (by kernel_rfl) rfl (by kernel_rfl) (by kernel_rfl) (by kernel_rfl) (fun _ _ _ h => h) (Or.inl ⟨by rfl, ?_⟩) hHeld ?_
        rotate_left
        ·(intro w hSw; (try dsimp only at hSw); go_simp; try with_reducible rfl)
        try simp only [Act.put, zA, zB, zC, zD, zE, zF]
        refine wpAnyL_take [4, 5, 6, 13] (i := 3) (v := ?_) (by kernel_rfl) (by kernel_rfl) (by kernel_rfl) rfl (by kernel_rfl) (by kernel_rfl) (by kernel_rfl) (fun _ _ _ h => h) (Or.inl ⟨by rfl, ?_⟩) hHeld ?_
        rotate_left
        ·(intro w hSw; (try dsimp only at hSw); go_simp; try with_reducible rfl)
        try simp only [Act.put, zA, zB, zC, zD, zE, zF]
        refine wpAnyL_take [5, 6, 13] (i := 4) (v := ?_) (by kernel_rfl) (by kernel_rfl) (by kernel_rfl) rfl (by kernel_rfl) (by kernel_rfl) (by kernel_rfl) (fun _ _ _ h => h) (Or.inl ⟨by rfl, ?_⟩) hHeld ?_
        rotate_left
        ·(intro w hSw; (try dsimp only at hSw); go_simp; try with_reducible rfl)
        try simp only [Act.put, zA, zB, zC, zD, zE, zF]
        refine wpAnyL_take [6, 13] (i := 5) (v := ?_) (by kernel_rfl) (by kernel_rfl) (by kernel_rfl) rfl (by kernel_rfl) (by kernel_rfl) (by kernel_rfl) (fun _ _ _ h => h) (Or.inl ⟨by rfl, ?_⟩) hHeld ?_
        rotate_left
        ·(intro w hSw; (try dsimp only at hSw); go_simp; try with_reducible rfl)
        try simp only [Act.put, zA, zB, zC, zD, zE, zF]
        refine wpAnyL_take [13] (i := 6) (v := ?_) (by kernel_rfl) (by kernel_rfl) (by kernel_rfl) rfl (by kernel_rfl) (by kernel_rfl) (by kernel_rfl) (fun _ _ _ h => h) (Or.inl ⟨by rfl, ?_⟩) hHeld ?_
        rotate_left
        ·(intro w hSw; (try dsimp only at hSw); go_simp; try with_reducible rfl)
        try simp only [Act.put, zA, zB, zC, zD, zE, zF]
        refine wpAnyL_take [12, 13] (i := 7) (v := _) (by kernel_rfl) (by kernel_rfl) (by kernel_rfl) rfl (by kernel_rfl) (by kernel_rfl) (by kernel_rfl) (fun _ _ _ h => h) (Or.inl ⟨by rfl, fun w hSw => G.exec_load_mg rfl rfl hSw.1 HZ.out⟩) hHeld ?_
        try simp only [Act.put, zA, zB, zC, zD, zE, zF]
        refine wpAnyL_take [10, 11, 12, 13] (i := 8) (v := ?_) (by kernel_rfl) (by kernel_rfl) (by kernel_rfl) rfl (by kernel_rfl) (by kernel_rfl) (by kernel_rfl) (fun _ _ _ h => h) (Or.inl ⟨by rfl, ?_⟩) hHeld ?_
        rotate_left
        ·(intro w hSw; (try dsimp only at hSw); go_simp; try with_reducible rfl)
        try simp only [Act.put, zA, zB, zC, zD, zE, zF]
        refine wpAnyL_take [10, 11, 12, 13] (i := 9) (v := ?_) (by kernel_rfl) (by kernel_rfl) (by kernel_rfl) rfl (by kernel_rfl) (by kernel_rfl) (by kernel_rfl) (fun _ _ _ h => h) (Or.inl ⟨by rfl, ?_⟩) hHeld ?_
        rotate_left
        ·(intro w hSw; (try dsimp only at hSw); go_simp; try with_reducible rfl)
        try simp only [Act.put, zA, zB, zC, zD, zE, zF]
        refine wpAnyL_take [11, 12, 13] (i := 10) (v := ?_) (by kernel_rfl) (by kernel_rfl) (by kernel_rfl) rfl (by kernel_rfl) (by kernel_rfl) (by kernel_rfl) (fun _ _ _ h => h) (Or.inl ⟨by rfl, ?_⟩) hHeld ?_
        rotate_left
        ·(intro w hSw; (try dsimp only at hSw); go_simp; try with_reducible rfl)
        try simp only [Act.put, zA, zB, zC, zD, zE, zF]
        refine wpAnyL_take [12, 13] (i := 11) (v := _) (by kernel_rfl) (by kernel_rfl) (by kernel_rfl) rfl (by kernel_rfl) (by kernel_rfl) (by kernel_rfl) (fun _ _ _ h => h) (Or.inl ⟨by rfl, fun w hSw => exec_load_mid rfl rfl hSw.2 HZ.out⟩) hHeld ?_
        try simp only [Act.put, zA, zB, zC, zD, zE, zF]
        refine wpAnyL_take [13] (i := 12) (v := ?_) (by kernel_rfl) (by kernel_rfl) (by kernel_rfl) rfl (by kernel_rfl) (by kernel_rfl) (by kernel_rfl) (fun _ _ _ h => h) (Or.inl ⟨by rfl, ?_⟩) hHeld ?_
        rotate_left
        ·(intro w hSw; (try dsimp only at hSw); have q0 := HQ.out; have q1 := HGd.out; go_simp; try with_reducible rfl)
        try simp only [Act.put, zA, zB, zC, zD, zE, zF]
        refine wpAnyL_take [] (i := 13) (v := ?_) (by kernel_rfl) (by kernel_rfl) (by kernel_rfl) rfl (by kernel_rfl) (by kernel_rfl) (by kernel_rfl) (fun _ _ _ h => h) (Or.inl ⟨by rfl, ?_⟩) hHeld ?_
        rotate_left
        ·(intro w hSw; (try dsimp only at hSw); go_simp; try with_reducible rfl)
        try simp only [Act.put, zA, zB, zC, zD, zE, zF]
        refine wpAnyL_done (by kernel_rfl) ?_ _
        generalize X.drew = wd at *
        go_wp2_with fail
        go_roundw
        case rel => exact ⟨i + 1, rv8, by go_num, hin, HTD.out⟩
        case measure => simp [intOf]; omega
       ·have hin1 : ¬ (i : Int) < (n : Int) := by omega
        obtain rfl : i = n := by omega
        have HU1 : Hid (S2 w wr b rb (.slice p5 i c5) rv [] ns []) := by
         have := HT.out
         rw [List.drop_of_length_le (by rw [HNL.out.1]; exact Nat.le_refl _)] at this
         exact this
        clear HT hi
        generalize i = n at *
        go_wp2_with fail
        refine (next_end HU1.out.rd).mono ?_
        rintro e w8 ⟨rv8, rfl, hr8, ho8, hk8⟩
        have HT8 : Hid (S2 w w8 b rb (.slice p5 n c5) rv8 [] ns []) := HU1.out.next hr8 ho8 hk8
        clear hr8 ho8 hk8 HU1
        go_wp2_with (first | (go_at_call 13; refine (F.lost_any rb 0 rv8 [] _ HT8.out.rd).mono ?_; rintro e w9 ⟨rfl, hw9⟩; subst hw9))
        go_ret
        exact ⟨rfl, HT8.out.s.bel⟩
end Go.Proofs.YtmcgcbgblgmmkaaGreatDoor
