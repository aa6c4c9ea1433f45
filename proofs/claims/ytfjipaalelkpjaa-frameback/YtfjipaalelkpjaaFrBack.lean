/-
  The walk of FrameBack.
-/
import Derived.Test.YtfjipaalelkpjaaFrCounts
namespace Go.Proofs.Ytfjipaalelkpjaa
open Go.RowKit D

/-- bodies that may be framed. -/
def okB (l : List Int) : Bool := decide (1 ≤ l.length ∧ l.length ≤ 512)
theorem filt_step {ls : List (List Int)} {i : Nat} (h : i < ls.length) : (ls.take (i + 1)).filter okB = (ls.take i).filter okB ++ (if okB ls[i] = true then [ls[i]] else []) := by
  rw [List.take_succ_eq_append_getElem h, List.filter_append, List.filter_cons, List.filter_nil]
theorem filt_yes {ls : List (List Int)} {i : Nat} (h : i < ls.length) (hb : okB ls[i] = true) : (ls.take (i + 1)).filter okB = (ls.take i).filter okB ++ [ls[i]] := by rw [filt_step h, if_pos hb]
theorem filt_no {ls : List (List Int)} {i : Nat} (h : i < ls.length) (hb : ¬ okB ls[i] = true) : (ls.take (i + 1)).filter okB = (ls.take i).filter okB := by rw [filt_step h, if_neg hb, List.append_nil]
/-- their frames, one behind the other. -/
def frms (ds : List (List Int)) : List Int := (ds.map (frm sm)).flatten
theorem frms_more (ds : List (List Int)) (d : List Int) : frms (ds ++ [d]) = frms ds ++ frm sm d := by simp [frms]
theorem frms_len (ds : List (List Int)) : (frms ds).length = sz ds := by
  unfold frms sz
  induction ds with
  | nil => rfl
  | cons d ds ih => rw [List.map_cons, List.flatten_cons, List.length_append, ih, frm_len, List.map_cons, List.sum_cons]
theorem sz_filt (ls : List (List Int)) : sz (ls.filter okB) ≤ tot ls + 8 * ls.length := by
  unfold sz tot
  induction ls with
  | nil => exact Nat.le_refl _
  | cons d ds ih =>
    rw [List.filter_cons, List.map_cons, List.sum_cons, List.length_cons]
    split
    · rw [List.map_cons, List.sum_cons]; omega
    · omega
theorem filt_len (ls : List (List Int)) : (ls.filter okB).length ≤ ls.length := List.length_filter_le _ _
theorem take_filt_sz (ls : List (List Int)) (i : Nat) : sz ((ls.take i).filter okB) ≤ tot ls + 8 * ls.length := by
  have h1 := sz_filt (ls.take i)
  have h2 := tot_le ls i
  have h3 : (ls.take i).length ≤ ls.length := by rw [List.length_take]; exact Nat.min_le_right _ _
  omega
/-- a row of bodies, where a reader was fed. -/
theorem Rw.turn {b : Nat} {v v' o : Value} {w w' : World} {ds : List (List Int)} {vs : List Value} (h : Rw (fun k => k = b ∨ v.ownBlock = some k) w o ds vs) (hk : Kp (fun k => k = b ∨ v.ownBlock = some k) w w') (hov : v'.ownBlock = v.ownBlock ∨ v'.ownBlock = some w.heap.size) : Rw (fun k => k = b ∨ v'.ownBlock = some k) w' o ds vs := by
  have h1 : Rw (fun k => (k = b ∨ v.ownBlock = some k) ∨ w.heap.size ≤ k) w o ds vs := h.mono fun k hk e => e.elim id fun e => absurd hk (Nat.not_lt.2 e)
  refine (h1.kp hk fun k _ e => .inl e).mono fun k _ e => ?_
  rcases e with e | e
  · exact .inl (.inl e)
  · rcases hov with e2 | e2
    · exact .inl (.inr (by rw [← e2]; exact e))
    · rw [e2] at e
      cases e
      exact .inr (Nat.le_refl _)
/-- on the way. -/
structure Bk (w wr : World) (b : Nat) (v o : Value) (ds : List (List Int)) (vs : List Value) : Prop where
  fd : Fd w.heap.size w wr b v (frms ds) 0
  rw : Rw (fun k => k = b ∨ v.ownBlock = some k) wr o ds vs
  lo : Own w.heap.size o
theorem Bk.more {w wr w2 w3 w4 : World} {b : Nat} {v v' o o' u : Value} {ds : List (List Int)} {vs : List Value} {l : List Int} (h : Bk w wr b v o ds vs) (hb2 : Below wr.heap.size wr w2) (hrw : Rw (fun k => k = b ∨ v.ownBlock = some k) w3 o' (ds ++ [l]) (vs ++ [u])) (hk3 : Kp (fun k => o.ownBlock = some k) w2 w3) (ho3 : o'.ownBlock = o.ownBlock ∨ o'.ownBlock = some (w2.heap.size + 1))
    (hr : Rdr w4 b v' (frms ds ++ frm sm l) 0) (hov : v'.ownBlock = v.ownBlock ∨ v'.ownBlock = some w3.heap.size) (hk4 : Kp (fun k => k = b ∨ v.ownBlock = some k) w3 w4) : Bk w w4 b v' o' (ds ++ [l]) (vs ++ [u]) := by
  have hsz : w.heap.size ≤ w2.heap.size := Nat.le_trans h.fd.bel.size hb2.size
  have hB3 : Below w.heap.size w w3 := (h.fd.bel.trans (hb2.mono h.fd.bel.size)).trans (hk3.below hsz fun k hk e => by have := h.lo k e; omega)
  have hf3 : Fd w.heap.size w w3 b v (frms ds) 0 := ⟨(h.fd.r.over hb2).kp hk3 (fun e => h.rw.ap b e (.inl rfl)) fun k e1 e2 => h.rw.ap k e2 (.inr e1), h.fd.lo, h.fd.own, hB3, Nat.le_refl _⟩
  have hf4 := hf3.feed hr hov hk4
  refine ⟨by rw [frms_more]; exact hf4, ?_, ?_⟩
  · exact hrw.turn hk4 hov
  · refine h.lo.next (n := w2.heap.size + 1) (by omega) ho3

set_option maxRecDepth 100000 in
set_option maxHeartbeats 8000000 in
theorem back_walk (w : World) (v : Value) (ls : List (List Int)) (h : PcR w v ls) :
    Calls Try.prog 5 #[v] w fun e w' => e = .returned (.bool true) ∧ Below w.heap.size w w' := by
  obtain ⟨p1, c1, rfl⟩ : ∃ p c, v = .slice p ls.length c := by obtain ⟨p, c, e, _⟩ := h; exact ⟨p, c, e⟩
  have HF : Hid (∀ W, Below w.heap.size w W → PcR W (.slice p1 ls.length c1) ls) := fun W hW => h.below hW
  clear h
  go_enter Try.func5, Try.ntmps5
  go_upto_region 3 with (first
    | (go_at_call 9; refine (awake_any _).mono ?_; rintro e w1 ⟨rfl, hb1⟩)
    | (go_at_call 12; refine (light_any _ _ ls (HF.out _ hb1)).mono ?_; rintro e w2 ⟨bb, rfl, hb2, hbb⟩))
  have HB2 : Hid (Below w.heap.size w w2) := hb1.trans (hb2.mono hb1.size)
  clear hb1 hb2
  cases bb with
  | false =>
    clear hbb
    go_wp2
    go_ret
    exact ⟨rfl, HB2.out⟩
  | true =>
    have hbb2 := hbb rfl
    have HL : Hid (ls.length ≤ 100 ∧ tot ls ≤ 3000) := hbb2
    clear hbb hbb2
    have HD0 : Hid (Bk w (w2.alloc (.cells #[.slice none 0 0, .int .i64 0] 32)) w2.heap.size (.slice none 0 0) (.slice none 0 0) [] []) := ⟨fd_new _ _ _ HB2.out (Nat.le_refl _), rw_nil _ _, fun k e => by cases e⟩
    go_upto_region 6 with fail
    generalize w2.alloc (.cells #[.slice none 0 0, .int .i64 0] 32) = w3 at *
    generalize w2.heap.size = b at *
    go_wp2
    go_loopg [6, 7] ls.length (fun g vo vi wr => ∃ (i : Nat) (v' : Value) (vs : List Value), vi = .int .i64 i ∧ i + g = ls.length ∧ Hid (Bk w wr b v' vo ((ls.take i).filter okB) vs))
    case atStart => exact ⟨0, .slice none 0 0, [], rfl, Nat.zero_add _, HD0.out⟩
    case round =>
      obtain ⟨i, v', vs, rfl, hig, hg⟩ := hrel
      have HSZ : Hid (sz ((ls.take i).filter okB) ≤ 3800) := by have := take_filt_sz ls i; have := HL.out; unfold Hid; omega
      have HLN : Hid (((ls.take i).filter okB).length ≤ 100) := by
        have h1 := filt_len (ls.take i)
        have h2 : (ls.take i).length ≤ ls.length := by rw [List.length_take]; exact Nat.min_le_right _ _
        have := HL.out
        unfold Hid
        omega
      rcases Nat.lt_or_ge i ls.length with hlt | hge
      · have hi1 : (i : Int) < (ls.length : Int) := by omega
        have hi100 : (i : Int) ≤ 100 := by have := HL.out.1; omega
        obtain ⟨pb, po, a', c', rfl, x0, y0, y2⟩ := pcR_at (HF.out w (Below.refl _ _)) hlt
        have HPc : Hid (∀ W, Below w.heap.size w W → W.cell? ⟨pb, po + i, none⟩ = some (.slice a' ls[i].length c')) := fun W hW => cellK x0 hW
        have x1 := HPc.out wr hg.out.fd.bel
        have hgk : Hid (gk - 1 < gk ∧ i + 1 + (gk - 1) = ls.length) := ⟨by omega, by omega⟩
        have HBS : Hid (Bs w a' ls[i].length ls[i] ∧ (a' = none → c' = 0)) := ⟨y0, y2⟩
        have HLi : Hid (ls[i].length = ls[i].length) := rfl
        by_cases hok : 1 ≤ ls[i].length ∧ ls[i].length ≤ 512
        · have HFi : Hid ((ls.take (i + 1)).filter okB = (ls.take i).filter okB ++ [ls[i]]) := filt_yes hlt (decide_eq_true hok)
          clear x0 y0 y2 hig
          generalize (ls.take i).filter okB = ds at *
          obtain ⟨hok1, hok2⟩ := hok
          generalize hli : ls[i].length = n at *
          generalize ls[i] = li at *
          clear hlt
          have HLn : Hid (li.length = n) := hli
          clear hli HLi
          generalize ls.length = len at *
          have hn1 : (1 : Int) ≤ (n : Int) := by omega
          have hn2 : (n : Int) ≤ 512 := by omega
          go_upto_region 11 with (go_at_call 10; refine (frame_any a' n c' li _ hok1 hok2 (HBS.out.1.below hg.out.fd.bel)).mono ?_; rintro e w4 ⟨f, rfl, hf, hb4, hof⟩)
          have HF4 : Hid (Wt w4 f (frm sm li) ∧ Own wr.heap.size f ∧ Below wr.heap.size wr w4) := ⟨hf, hof, hb4⟩
          have HB4 : Hid (Below w.heap.size w w4) := hg.out.fd.bel.trans (hb4.mono hg.out.fd.bel.size)
          have x4 := HPc.out w4 HB4.out
          have HR4 : Hid (Rw (fun k => k = b ∨ v'.ownBlock = some k) w4 u6 ds vs) := hg.out.rw.over hb4
          have HU4 : Hid (Bd (fun k => (k = b ∨ v'.ownBlock = some k) ∨ u6.ownBlock = some k) w4 (.slice a' n c') li) := by
            refine ⟨a', c', by rw [HLn.out], by rw [HLn.out]; exact HBS.out.1.below HB4.out, HBS.out.2, fun h0 ad e hx => ?_⟩
            obtain ⟨q, off, e2, hc⟩ := HBS.out.1.2.2 (by omega)
            rw [e] at e2
            cases e2
            have hlt := World.block_lt_of_cell? w _ (hc 0 (by omega))
            have hlt2 : q < w.heap.size := hlt
            rcases hx with (hx | hx) | hx
            · have := hg.out.fd.lo; dsimp only at hx; omega
            · have := hg.out.fd.own _ hx; dsimp only at this; omega
            · have := hg.out.lo _ hx; dsimp only at this; omega
          have HS4 : Hid (b < w4.heap.size ∧ ∀ k, v'.ownBlock = some k → k < w4.heap.size) := ⟨Nat.lt_of_lt_of_le hg.out.fd.r.blk.lt hb4.size, fun k e => Nat.lt_of_lt_of_le (hg.out.fd.r.wt.lt k e) hb4.size⟩
          clear hf hof hb4 x1
          go_upto_region 15 with
            (refine app_one rfl (.tmp 51) (.tmp 56) rfl u6 ds vs rfl HR4.out (.slice a' n c') li HU4.out _ rfl rfl (by have := HLN.out; omega) ⟨fun e => ?_, fun e => ?_⟩ ?_
             · rcases e with e | e
               · have := HS4.out.1; omega
               · have := HS4.out.2 _ e; omega
             · rcases e with e | e
               · have := HS4.out.1; omega
               · have := HS4.out.2 _ e; omega
             intro o' w5 hr5 hk5 ho5
             have HO5 : Hid (Rw (fun k => k = b ∨ v'.ownBlock = some k) w5 o' (ds ++ [li]) (vs ++ [.slice a' n c']) ∧ Kp (fun k => u6.ownBlock = some k) w4 w5 ∧ (o'.ownBlock = u6.ownBlock ∨ o'.ownBlock = some (w4.heap.size + 1))) := ⟨hr5, hk5, ho5⟩
             clear hr5 hk5 ho5)
          have HR5 : Hid (Rdr w5 b v' (frms ds) 0) := (hg.out.fd.r.over HF4.out.2.2).kp HO5.out.2.1 (fun e => hg.out.rw.ap b e (.inl rfl)) fun k e1 e2 => hg.out.rw.ap k e2 (.inr e1)
          have HF5 : Hid (Wt w5 f (frm sm li)) := HF4.out.1.kp HO5.out.2.1 fun k e1 e2 => absurd (HF4.out.2.1 k e1) (Nat.not_le.2 (hg.out.rw.lt k e2))
          go_wp2_with (go_at_call 13; refine (feed_wt b 0 v' (frms ds) _ HR5.out f (frm sm li) HF5.out (by rw [frms_len, frm_len, HLn.out]; have := HSZ.out; omega)).mono ?_; rintro e w6 ⟨rfl, v6, hr6, ho6, hk6⟩)
          go_roundg (gk - 1)
          case measure => exact hgk.out.1
          case rel => exact ⟨i + 1, v6, vs ++ [.slice a' n c'], by go_num, hgk.out.2, by rw [HFi.out]; exact hg.out.more HF4.out.2.2 HO5.out.1 HO5.out.2.1 HO5.out.2.2 hr6 ho6 hk6⟩
        · have HFi : Hid ((ls.take (i + 1)).filter okB = (ls.take i).filter okB) := filt_no hlt fun e => hok (of_decide_eq_true e)
          clear x0 y0 y2 hig HLi
          generalize (ls.take i).filter okB = ds at *
          generalize ls[i].length = n at *
          generalize ls[i] = li at *
          clear hlt
          generalize ls.length = len at *
          rcases Nat.eq_zero_or_pos n with h0 | h0
          · subst h0
            go_upto_region 11 with (go_at_call 10; refine (frame_none a' c' _).mono ?_; rintro e w4 ⟨rfl, rfl⟩)
            go_wp2
            go_roundg (gk - 1)
            case measure => exact hgk.out.1
            case rel => exact ⟨i + 1, v', vs, by go_num, hgk.out.2, by rw [HFi.out]; exact hg.out⟩
          · have h5 : 512 < n := by omega
            have hn1 : (1 : Int) ≤ (n : Int) := by omega
            have hn2 : ¬ (n : Int) ≤ 512 := by omega
            clear hok
            go_upto_region 11 with (go_at_call 10; refine (frame_long a' n c' _ h5).mono ?_; rintro e w4 ⟨rfl, rfl⟩)
            go_wp2
            go_roundg (gk - 1)
            case measure => exact hgk.out.1
            case rel => exact ⟨i + 1, v', vs, by go_num, hgk.out.2, by rw [HFi.out]; exact hg.out⟩
      · have hi1 : ¬ (i : Int) < (ls.length : Int) := by omega
        obtain rfl : i = ls.length := by omega
        have hok : ∀ d ∈ (ls.take ls.length).filter okB, 1 ≤ d.length ∧ d.length ≤ 512 := fun d hd => of_decide_eq_true (List.mem_filter.1 hd).2
        generalize (ls.take ls.length).filter okB = ds at *
        have hall : all sm (frms ds) = (ds, 0, []) := by
          have := all_frames sm ds hok
          rw [List.flatMap_def] at this
          exact this
        have HDr : Hid (Calls Try.prog 18 #[.pointer (some ⟨b, 0, none⟩)] wr fun e w' => ∃ u us v2, e = .returned u ∧ DrT b 0 v' (frms ds) wr u us v2 w') := drained_any b 0 v' _ wr hg.out.fd.r (by rw [frms_len]; have := HSZ.out; omega) (by rw [frms_len]; have := HSZ.out; omega)
        have HA : Hid (all sm (frms ds) = (ds, 0, [])) := hall
        clear hok hall hig
        go_upto_region 17 with (go_at_call 18; refine HDr.out.mono ?_; rintro e w6 ⟨u, us, v2, rfl, ht6⟩)
        have HD6 : Hid (Fd w.heap.size w w6 b v2 (all sm (frms ds)).2.2 (0 + (all sm (frms ds)).2.1)) := hg.out.fd.drain ht6
        have HG : Hid (PcR w6 u ds) := by
          have := ht6.rw.pcR
          rw [HA.out] at this
          exact this
        have HW : Hid (PcR w6 u6 ds) := (hg.out.rw.kp ht6.k fun k _ e => .inl e).pcR
        rw [HA.out] at HD6
        have HLf6 : Hid (∀ W, Below w6.heap.size w6 W → Calls Try.prog 16 #[.pointer (some ⟨b, 0, none⟩)] W fun e w' => e = .returned (.int .i64 0) ∧ w' = W) := fun W h => left_any b _ v2 _ W (HD6.out.r.over h)
        have HLo6 : Hid (∀ W, Below w6.heap.size w6 W → Calls Try.prog 17 #[.pointer (some ⟨b, 0, none⟩)] W fun e w' => e = .returned (.int .i64 0) ∧ w' = W) := fun W h => lost_any b _ v2 _ W (HD6.out.r.over h)
        clear ht6 HDr
        go_upto_region 18 with (go_at_call 19; refine (alike_any _ u u6 ds ds HG.out HW.out (by have := HLN.out; omega) rfl).mono ?_; rintro e w7 ⟨rfl, hb7⟩)
        go_wp2_with (first
          | (go_at_call 16; refine (HLf6.out _ hb7).mono ?_; rintro e w8 ⟨rfl, rfl⟩)
          | (go_at_call 17; refine (HLo6.out _ hb7).mono ?_; rintro e w9 ⟨rfl, rfl⟩))
        go_ret
        exact ⟨rfl, HD6.out.bel.trans (hb7.mono HD6.out.bel.size)⟩

end Go.Proofs.Ytfjipaalelkpjaa
