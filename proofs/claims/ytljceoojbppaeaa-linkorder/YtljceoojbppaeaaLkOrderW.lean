/-
  The walk of LinkOrder.
-/
import Derived.Test.YtljceoojbppaeaaLkPair
import Derived.Test.YtljceoojbppaeaaLkAwk
import Derived.Test.YtljceoojbppaeaaLate
namespace Go.Proofs.Ytljceoojbppaeaa
open Go.RowKit D

/-- a link of which the first frames were taken, row by row. -/
def Lk.left (s : Lk) (up : Bool) (i : Nat) : Lk := if up then ⟨s.u.drop i, s.d⟩ else ⟨[], s.d.drop i⟩
def outK (s : Lk) (k : Nat) : Lk := match k with | 0 => s | 1 => ⟨[], s.d⟩ | _ => lk0
theorem left_all (s : Lk) : outK s 1 = s.left true (s.sel true).length ∧ outK s 2 = s.left false (s.sel false).length := by
  refine ⟨?_, ?_⟩
  · show (⟨[], s.d⟩ : Lk) = ⟨s.u.drop s.u.length, s.d⟩
    rw [List.drop_length]
  · show lk0 = ⟨[], s.d.drop s.d.length⟩
    rw [List.drop_length]
    rfl
theorem left_sel (s : Lk) (up : Bool) (i : Nat) : (s.left up i).sel up = (s.sel up).drop i := by cases up <;> rfl
theorem left_take (s : Lk) (up : Bool) (i : Nat) (hi : i < (s.sel up).length) : hasN ((s.left up i).sel up) 0 = true ∧ (s.left up i).came up 0 = (s.sel up)[i] ∧ (s.left up i).take up 0 = s.left up (i + 1) := by
  have h1 : hasN ((s.left up i).sel up) 0 = true := by
    rw [left_sel]
    unfold hasN
    rw [List.length_drop]
    exact decide_eq_true (by omega)
  refine ⟨h1, ?_, ?_⟩
  · unfold Lk.came
    rw [h1, if_pos rfl, left_sel, Int.toNat_zero, List.getD_eq_getElem?_getD, List.getElem?_drop, Nat.add_zero, List.getElem?_eq_getElem hi]
    rfl
  · unfold Lk.take
    rw [h1, if_pos rfl, left_sel, Int.toNat_zero, List.eraseIdx_zero, List.tail_drop]
    cases up <;> rfl
theorem may_room {l : List (List Int)} {f : List Int} (h : l.length < 64) : maySend l f = decide (0 < f.length ∧ f.length ≤ 1024) := by
  unfold maySend
  by_cases e : 0 < f.length ∧ f.length ≤ 1024
  · rw [decide_eq_true e, decide_eq_true ⟨h, e⟩]
  · rw [decide_eq_false e, decide_eq_false fun x => e x.2]
/-- what is sent so far. -/
structure Ord (w wr : World) (b c i : Nat) (s : Lk) : Prop where
  lk : LkV wr b s
  rf : RfV 33 w.heap.size wr c s
  bel : Below w.heap.size w wr
  cnt : s.u.length + s.d.length ≤ i
  lo : w.heap.size ≤ b
theorem Ord.sel {w wr : World} {b c i : Nat} {s : Lk} (h : Ord w wr b c i s) (up : Bool) : (s.sel up).length ≤ i := by
  have := h.cnt
  cases up
  · show s.d.length ≤ i; omega
  · show s.u.length ≤ i; omega
theorem put_cnt (s : Lk) (up : Bool) (f : List Int) : (s.put up (s.sel up ++ [f])).u.length + (s.put up (s.sel up ++ [f])).d.length = s.u.length + s.d.length + 1 := by
  cases up
  · show s.u.length + (s.d ++ [f]).length = _
    rw [List.length_append, List.length_singleton]; omega
  · show (s.u ++ [f]).length + s.d.length = _
    rw [List.length_append, List.length_singleton]; omega

set_option maxRecDepth 20000 in
set_option maxHeartbeats 16000000 in
theorem order_walk (w : World) (v vb : Value) (ls : List (List Int)) (bs : List Bool) (h : PcR w v ls) (hbs : BoR w vb bs) :
    Calls Try.prog 4 #[v, vb] w fun e w' => e = .returned (.bool true) ∧ Below w.heap.size w w' := by
  obtain ⟨p1, c1, rfl⟩ : ∃ p c, v = .slice p ls.length c := by obtain ⟨p, c, e, _⟩ := h; exact ⟨p, c, e⟩
  obtain ⟨p2, c2, rfl⟩ : ∃ p c, vb = .slice p bs.length c := by obtain ⟨p, c, e, _⟩ := hbs; exact ⟨p, c, e⟩
  have HF : Hid (∀ W, Below w.heap.size w W → PcR W (.slice p1 ls.length c1) ls ∧ BoR W (.slice p2 bs.length c2) bs) := fun W hW => ⟨h.over hW, hbs.over hW⟩
  have HI : Hid (∀ u l, PcV w u l → PcT w.heap.size w u l) := fun u l hu => pcT_in hu (Nat.le_refl _)
  have HF0 : Hid (PcR w (.slice p1 ls.length c1) ls) := h
  clear h hbs
  by_cases h64 : 64 < ls.length
  · have h65 : (64 : Int) < (ls.length : Int) := by omega
    clear HI HF0 HF
    generalize ls.length = n at *
    generalize bs.length = m at *
    go_enter Try.func4, Try.ntmps4
    go_wp2_with (go_at_call 8; refine (awake_any _).mono ?_; rintro e w1 ⟨rfl, hb1⟩)
    go_ret
    exact ⟨rfl, hb1⟩
  have h65 : ¬ (64 : Int) < (ls.length : Int) := by omega
  have h66 : (ls.length : Int) ≤ 64 := by omega
  have hzv : ∀ W, (zeroValue 30).run Try.prog W = .ok (.agg zeroLk) W := zero_run
  have HN : Hid (∀ W, LkV (W.alloc (.cells zeroLk 30)) W.heap.size lk0 ∧ Below W.heap.size W (W.alloc (.cells zeroLk 30))) := fun W => ⟨lk_new W, alloc_below W _⟩
  clear h64
  generalize zeroLk = Z at *
  go_enter Try.func4, Try.ntmps4
  go_upto_region 6 with (go_at_call 8; refine (awake_any _).mono ?_; rintro e w1 ⟨rfl, hb1⟩)
  have HO : Hid (Ord w ((w1.alloc (.cells Z 30)).alloc (.cells #[.slice none 0 0, .slice none 0 0] 33)) w1.heap.size (w1.alloc (.cells Z 30)).heap.size 0 lk0) := by
    have hb2 := hb1.trans ((HN.out w1).2.mono hb1.size)
    have hb3 := alloc_below (w1.alloc (.cells Z 30)) (.cells #[.slice none 0 0, .slice none 0 0] 33)
    exact ⟨(HN.out w1).1.over hb3, rf_new 33 _ _ hb2.size, hb2.trans (hb3.mono hb2.size), Nat.le_refl _, hb1.size⟩
  rw [size_alloc'] at HO
  clear HN hzv hb1
  generalize ((w1.alloc (.cells Z 30)).alloc (.cells #[.slice none 0 0, .slice none 0 0] 33)) = w2 at *
  generalize w1.heap.size + 1 = c at *
  generalize w1.heap.size = b at *
  go_wp2
  go_loopg [8] ls.length (fun g vi wr => ∃ (i : Nat) (s : Lk), vi = .int .i64 i ∧ i + g = ls.length ∧ Hid (Ord w wr b c i s))
  case atStart => exact ⟨0, lk0, rfl, Nat.zero_add _, HO.out⟩
  case round =>
    obtain ⟨i, s, rfl, hig, hg⟩ := hrel
    have hgk : Hid (i + gk = ls.length) := hig
    rcases Nat.lt_or_ge i ls.length with hlt | hge
    · have hi1 : (i : Int) < (ls.length : Int) := by omega
      have hi64 : (i : Int) < 64 := by omega
      obtain ⟨pb, po, a', c', rfl, x0, y0, y1⟩ := pcR_at HF0.out hlt
      have HPc : Hid (∀ W, Below w.heap.size w W → W.cell? ⟨pb, po + i, none⟩ = some (.slice a' ls[i].length c') ∧ Bs W a' ls[i].length ls[i]) := fun W hW => ⟨cellK x0 hW, y0.below hW⟩
      have HPt : Hid (PcT w.heap.size w (.slice a' ls[i].length c') ls[i]) := HI.out _ _ ⟨a', c', rfl, y0, y1⟩
      have hx := (HPc.out wr hg.out.bel).1
      clear hig x0 y0 y1
      generalize hnn : ls[i].length = n at *
      generalize ls[i] = f at *
      have HNn : Hid (f.length = n ∧ i < ls.length) := ⟨hnn, hlt⟩
      clear hlt hnn
      generalize ls.length = len at *
      rcases Nat.lt_or_ge 2000 n with h2 | h2
      · have h3 : (2000 : Int) < (n : Int) := by omega
        go_wp2
        go_ret
        exact ⟨rfl, hg.out.bel⟩
      have h3 : ¬ (2000 : Int) < (n : Int) := by omega
      have HUp : Hid (∃ up : Bool, up = bs.getD i false) := ⟨_, rfl⟩
      by_cases hib : i < bs.length
      · have hib1 : (i : Int) < (bs.length : Int) := by omega
        obtain ⟨q, qc, hq1, hq3⟩ := (HF.out wr hg.out.bel).2
        cases hq1
        obtain ⟨qb, qo, rfl, hq4⟩ := hq3 i hib
        generalize bs.getD i false = up at *
        clear hq3
        generalize bs.length = bn at *
        cases up with
        | true =>
          go_upto_region 15 with fail
          have HSel : Hid ((s.sel true).length ≤ i) := hg.out.sel true
          have HMay : Hid (maySend (s.sel true) f = decide (0 < f.length ∧ f.length ≤ 1024)) := may_room (by have := HSel.out; omega)
          rcases (show n = 0 ∨ 1024 < n ∨ (0 < n ∧ n ≤ 1024) by omega) with hn | hn | hn
          · have Hn : Hid (n = 0) := hn
            have hn1 : ¬ (0 : Int) < (n : Int) := by omega
            have hn2 : decide ((0 : Int) < (n : Int)) = false := decide_eq_false hn1
            have HS := send_to (up := true) (c := c') hg.out.lk (HPc.out wr hg.out.bel).2 (HMay.out.trans (decide_eq_false (by have := HNn.out.1; have := Hn.out; omega))) rfl
            have HE : Hid (s.send true f = s) := Lk.send_no (HMay.out.trans (decide_eq_false (by have := HNn.out.1; have := Hn.out; omega)))
            generalize s.send true f = s' at HS HE
            clear HMay HSel hn
            go_upto_region 16 with (go_at_call 13; refine HS.mono ?_; rintro e w4 ⟨rfl, h4, k4⟩)
            rw [HE.out] at h4
            have hs4 : Sk [30] w.heap.size wr w4 := sk_kb k4 hg.out.lk.blk (by simp) hg.out.lo
            have HO4 : Hid (Ord w w4 b c (i + 1) s) := ⟨h4, hg.out.rf.sk hs4 (by simp) (by simp) (by simp), hg.out.bel.trans hs4.bel, Nat.le_succ_of_le hg.out.cnt, hg.out.lo⟩
            have hx4 := (HPc.out w4 HO4.out.bel).1
            clear HS h4 k4 hs4 hx
            go_wp2
            go_roundg (gk - 1)
            case measure => (have := hgk.out; have := HNn.out.2; omega)
            case rel => exact ⟨i + 1, s, by go_num, by have := hgk.out; have := HNn.out.2; omega, HO4.out⟩
          · have Hn : Hid (1024 < n) := hn
            have hn1 : (0 : Int) < (n : Int) := by omega
            have hn2 : ¬ (n : Int) ≤ 1024 := by omega
            have hn3 : decide ((0 : Int) < (n : Int)) = true := decide_eq_true hn1
            have hn4 : decide ((n : Int) ≤ 1024) = false := decide_eq_false hn2
            have HS := send_to (up := true) (c := c') hg.out.lk (HPc.out wr hg.out.bel).2 (HMay.out.trans (decide_eq_false (by have := HNn.out.1; have := Hn.out; omega))) rfl
            have HE : Hid (s.send true f = s) := Lk.send_no (HMay.out.trans (decide_eq_false (by have := HNn.out.1; have := Hn.out; omega)))
            generalize s.send true f = s' at HS HE
            clear HMay HSel hn
            go_upto_region 16 with (go_at_call 13; refine HS.mono ?_; rintro e w4 ⟨rfl, h4, k4⟩)
            rw [HE.out] at h4
            have hs4 : Sk [30] w.heap.size wr w4 := sk_kb k4 hg.out.lk.blk (by simp) hg.out.lo
            have HO4 : Hid (Ord w w4 b c (i + 1) s) := ⟨h4, hg.out.rf.sk hs4 (by simp) (by simp) (by simp), hg.out.bel.trans hs4.bel, Nat.le_succ_of_le hg.out.cnt, hg.out.lo⟩
            have hx4 := (HPc.out w4 HO4.out.bel).1
            clear HS h4 k4 hs4 hx
            go_wp2
            go_roundg (gk - 1)
            case measure => (have := hgk.out; have := HNn.out.2; omega)
            case rel => exact ⟨i + 1, s, by go_num, by have := hgk.out; have := HNn.out.2; omega, HO4.out⟩
          · have Hn : Hid (0 < n ∧ n ≤ 1024) := hn
            have hn1 : (0 : Int) < (n : Int) := by omega
            have hn2 : (n : Int) ≤ 1024 := by omega
            have hn3 : decide ((0 : Int) < (n : Int)) = true := decide_eq_true hn1
            have hn4 : decide ((n : Int) ≤ 1024) = true := decide_eq_true hn2
            have HS := send_to (up := true) (c := c') hg.out.lk (HPc.out wr hg.out.bel).2 (HMay.out.trans (decide_eq_true (by have := HNn.out.1; have := Hn.out; omega))) rfl
            have HE : Hid (s.send true f = s.put true (s.sel true ++ [f])) := by unfold Hid Lk.send; rw [HMay.out, decide_eq_true (by have := HNn.out.1; have := Hn.out; omega), if_pos rfl]
            generalize s.send true f = s' at HS HE
            clear HMay hn
            go_upto_region 16 with (go_at_call 13; refine HS.mono ?_; rintro e w4 ⟨rfl, h4, k4⟩)
            rw [HE.out] at h4
            have hs4 : Sk [30] w.heap.size wr w4 := sk_kb k4 hg.out.lk.blk (by simp) hg.out.lo
            have HB4 : Hid (Below w.heap.size w w4) := hg.out.bel.trans hs4.bel
            have HL4 : Hid (LkV w4 b (s.put true (s.sel true ++ [f]))) := h4
            have HR4 : Hid (RfV 33 w.heap.size w4.drew c s) := (hg.out.rf.sk hs4 (by simp) (by simp) (by simp)).over HB4.out.size (Below.refl _ _).drew
            have HBd : Hid (Below w.heap.size w w4.drew) := HB4.out.drew
            have hx4 := (HPc.out w4 HB4.out).1
            clear HS h4 k4 hs4 hx
            go_upto_region 19 with fail
            obtain ⟨v, hv, hrow, hput⟩ := HR4.out.sel HBd.out.size (by decide) (by decide) true
            have HRv : Hid (RowS w.heap.size w4.drew v (s.sel true) ∧ PcT w.heap.size w4.drew (.slice a' n c') f ∧ (s.sel true).length < 1000 ∧ w.heap.size ≤ w4.drew.heap.size) := ⟨hrow, by have := HPt.out.over (Nat.le_refl _) (HBd.out.mono (Nat.le_refl _)); exact this, by have := HSel.out; omega, HBd.out.size⟩
            have HPut : Hid (∀ (w1 : World) (v' : Value) (l : List (List Int)), ApT w.heap.size w4.drew w1 v v' l → w1.cell? ⟨c, 0, none⟩ = some v ∧ w1.frozen? ⟨c, 0, none⟩ = false ∧ RfV 33 w.heap.size (w1.setCell ⟨c, 0, none⟩ v') c (s.put true l) ∧ Sk [37, 33] w.heap.size w4.drew (w1.setCell ⟨c, 0, none⟩ v')) := hput
            have HPx : Hid (∀ W, Below w.heap.size w4.drew W → W.cell? ⟨pb, po + i, none⟩ = some (.slice a' n c')) := fun W hW => (HPc.out W (HBd.out.trans hW)).1
            have hS4 : (fun X => X.cell? ⟨c, 0, none⟩ = some v ∧ X.cell? ⟨pb, po + i, none⟩ = some (.slice a' n c')) w4.drew := ⟨hv, HPx.out _ (Below.refl _ _)⟩
            have HLd : Hid (LkV w4.drew b (s.put true (s.sel true ++ [f]))) := HL4.out.over (Below.refl _ _).drew
            obtain ⟨va, vc, hvs, _⟩ := hrow.slice
            rw [hvs] at HRv HPut hS4
            clear hv hvs hrow hput hx4
            refine wp_region_late (E := [11]) (S := (fun X => X.cell? ⟨c, 0, none⟩ = some (.slice va (s.sel true).length vc) ∧ X.cell? ⟨pb, po + i, none⟩ = some (.slice a' n c'))) (by kernel_rfl) (hS4) (fun hHeld => ?_)
            simp only [List.size_toArray, List.length_cons, List.length_nil, Nat.reduceAdd]
            refine wpAnyL_take [10, 11] (i := 0) (v := ?_) (by kernel_rfl) (by kernel_rfl) (by kernel_rfl) rfl (by kernel_rfl) (by kernel_rfl) (by kernel_rfl) (fun _ _ _ h => h) (Or.inl ⟨by rfl, ?_⟩) hHeld ?_
            rotate_left
            · (intro w hSw; (try dsimp only at hSw); obtain ⟨s0, s1⟩ := hSw; go_simp; try with_reducible rfl)
            try simp only [Act.put, List.setIfInBounds_toArray, List.set_cons_zero, List.set_cons_succ, List.getElem_toArray, List.getElem_cons_zero]
            refine wpAnyL_take [2, 3, 9, 11] (i := 1) (v := ?_) (by kernel_rfl) (by kernel_rfl) (by kernel_rfl) rfl (by kernel_rfl) (by kernel_rfl) (by kernel_rfl) (fun _ _ _ h => h) (Or.inl ⟨by rfl, ?_⟩) hHeld ?_
            rotate_left
            · (intro w hSw; (try dsimp only at hSw); obtain ⟨s0, s1⟩ := hSw; go_simp; try with_reducible rfl)
            try simp only [Act.put, List.setIfInBounds_toArray, List.set_cons_zero, List.set_cons_succ, List.getElem_toArray, List.getElem_cons_zero, List.getElem_cons_succ]
            refine wpAnyL_take [3, 9, 11] (i := 2) (v := ?_) (by kernel_rfl) (by kernel_rfl) (by kernel_rfl) rfl (by kernel_rfl) (by kernel_rfl) (by kernel_rfl) (fun _ _ _ h => h) (Or.inl ⟨by rfl, ?_⟩) hHeld ?_
            rotate_left
            · (intro w hSw; (try dsimp only at hSw); obtain ⟨s0, s1⟩ := hSw; go_simp; try with_reducible rfl)
            try simp only [Act.put, List.setIfInBounds_toArray, List.set_cons_zero, List.set_cons_succ, List.getElem_toArray, List.getElem_cons_zero, List.getElem_cons_succ]
            refine wpAnyL_take [9, 11] (i := 3) (v := ?_) (by kernel_rfl) (by kernel_rfl) (by kernel_rfl) rfl (by kernel_rfl) (by kernel_rfl) (by kernel_rfl) (fun _ _ _ h => h) (Or.inl ⟨by rfl, ?_⟩) hHeld ?_
            rotate_left
            · (intro w hSw; (try dsimp only at hSw); obtain ⟨s0, s1⟩ := hSw; go_simp; try with_reducible rfl)
            try simp only [Act.put, List.setIfInBounds_toArray, List.set_cons_zero, List.set_cons_succ, List.getElem_toArray, List.getElem_cons_zero, List.getElem_cons_succ]
            refine wpAnyL_take [6, 7, 8, 9, 11] (i := 4) (v := ?_) (by kernel_rfl) (by kernel_rfl) (by kernel_rfl) rfl (by kernel_rfl) (by kernel_rfl) (by kernel_rfl) (fun _ _ _ h => h) (Or.inl ⟨by rfl, ?_⟩) hHeld ?_
            rotate_left
            · (intro w hSw; (try dsimp only at hSw); obtain ⟨s0, s1⟩ := hSw; go_simp; try with_reducible rfl)
            try simp only [Act.put, List.setIfInBounds_toArray, List.set_cons_zero, List.set_cons_succ, List.getElem_toArray, List.getElem_cons_zero, List.getElem_cons_succ]
            refine wpAnyL_take [6, 7, 8, 9, 11] (i := 5) (v := ?_) (by kernel_rfl) (by kernel_rfl) (by kernel_rfl) rfl (by kernel_rfl) (by kernel_rfl) (by kernel_rfl) (fun _ _ _ h => h) (Or.inl ⟨by rfl, ?_⟩) hHeld ?_
            rotate_left
            · (intro w hSw; (try dsimp only at hSw); obtain ⟨s0, s1⟩ := hSw; go_simp; try with_reducible rfl)
            try simp only [Act.put, List.setIfInBounds_toArray, List.set_cons_zero, List.set_cons_succ, List.getElem_toArray, List.getElem_cons_zero, List.getElem_cons_succ]
            refine wpAnyL_take [7, 8, 9, 11] (i := 6) (v := ?_) (by kernel_rfl) (by kernel_rfl) (by kernel_rfl) rfl (by kernel_rfl) (by kernel_rfl) (by kernel_rfl) (fun _ _ _ h => h) (Or.inl ⟨by rfl, ?_⟩) hHeld ?_
            rotate_left
            · (intro w hSw; (try dsimp only at hSw); obtain ⟨s0, s1⟩ := hSw; go_simp; try with_reducible rfl)
            try simp only [Act.put, List.setIfInBounds_toArray, List.set_cons_zero, List.set_cons_succ, List.getElem_toArray, List.getElem_cons_zero, List.getElem_cons_succ]
            refine wpAnyL_take [8, 9, 11] (i := 7) (v := ?_) (by kernel_rfl) (by kernel_rfl) (by kernel_rfl) rfl (by kernel_rfl) (by kernel_rfl) (by kernel_rfl) (fun _ _ _ h => h) (Or.inl ⟨by rfl, ?_⟩) hHeld ?_
            rotate_left
            · (intro w hSw; (try dsimp only at hSw); obtain ⟨s0, s1⟩ := hSw; go_simp; try with_reducible rfl)
            try simp only [Act.put, List.setIfInBounds_toArray, List.set_cons_zero, List.set_cons_succ, List.getElem_toArray, List.getElem_cons_zero, List.getElem_cons_succ]
            refine wpAnyL_one (i := 8) (by kernel_rfl) rfl (fun K hK => ?_)
            go_simp
            have s8 : (fun X => X.cell? ⟨c, 0, none⟩ = some (.slice va (s.sel true).length vc) ∧ X.cell? ⟨pb, po + i, none⟩ = some (.slice a' n c')) (w4.drew.alloc (.cells #[.slice a' n c'] 37)) := ⟨cellK hHeld.1 (alloc_below _ _), cellK hHeld.2 (alloc_below _ _)⟩
            refine hK.out _ _ (fun _ => s8) ?_
            replace hHeld := s8
            clear hK K
            try simp only [Act.put, List.setIfInBounds_toArray, List.set_cons_zero, List.set_cons_succ, List.getElem_toArray, List.getElem_cons_zero, List.getElem_cons_succ]
            refine wpAnyL_one (i := 9) (by kernel_rfl) rfl (fun K hK => ?_)
            refine step_row1 rfl _ _ rfl _ _ rfl HRv.out.1 (.slice a' n c') f HRv.out.2.1 _ rfl rfl HRv.out.2.2.1 HRv.out.2.2.2 (fun u5 w5 ha5 => ?_)
            obtain ⟨q1, q2, q3, q4⟩ := HPut.out w5 u5 _ ha5
            have HQ : Hid (RfV 33 w.heap.size (w5.setCell ⟨c, 0, none⟩ u5) c (s.put true (s.sel true ++ [f])) ∧ Sk [37, 33] w.heap.size w4.drew (w5.setCell ⟨c, 0, none⟩ u5)) := ⟨q3, q4⟩
            have s9 : (fun X => X.cell? ⟨c, 0, none⟩ = some (.slice va (s.sel true).length vc) ∧ X.cell? ⟨pb, po + i, none⟩ = some (.slice a' n c')) w5 := ⟨q1, HPx.out w5 ((ha5.sk HRv.out.1 HRv.out.2.2.2).bel)⟩
            obtain ⟨ua, uc, hu5, _⟩ := ha5.row.slice
            rw [List.length_append, List.length_singleton] at hu5
            subst hu5
            clear ha5 q1 q3 q4
            refine hK.out _ _ (fun _ => s9) ?_
            replace hHeld := s9
            clear hK K
            try simp only [Act.put, List.setIfInBounds_toArray, List.set_cons_zero, List.set_cons_succ, List.getElem_toArray, List.getElem_cons_zero, List.getElem_cons_succ]
            refine wpAnyL_take [11] (i := 10) (v := ?_) (by kernel_rfl) (by kernel_rfl) (by kernel_rfl) rfl (by kernel_rfl) (by kernel_rfl) (by kernel_rfl) (fun _ _ _ h => h) (Or.inl ⟨by rfl, ?_⟩) hHeld ?_
            rotate_left
            · (intro w hSw; (try dsimp only at hSw); obtain ⟨s0, s1⟩ := hSw; go_simp; try with_reducible rfl)
            try simp only [Act.put, List.setIfInBounds_toArray, List.set_cons_zero, List.set_cons_succ, List.getElem_toArray, List.getElem_cons_zero, List.getElem_cons_succ]
            refine wpAnyL_one (i := 11) (by kernel_rfl) rfl (fun K hK => ?_)
            obtain ⟨s0, s1⟩ := hHeld
            go_simp
            refine hK.out _ _ (fun h => by cases h) ?_
            clear hK K
            try simp only [Act.put, List.setIfInBounds_toArray, List.set_cons_zero, List.set_cons_succ, List.getElem_toArray, List.getElem_cons_zero, List.getElem_cons_succ]
            refine wpAnyL_done (by kernel_rfl) ?_ _
            have HLf : Hid (LkV (w5.setCell ⟨c, 0, none⟩ (.slice ua ((s.sel true).length + 1) uc)) b (s.put true (s.sel true ++ [f])) ∧ Below w.heap.size w (w5.setCell ⟨c, 0, none⟩ (.slice ua ((s.sel true).length + 1) uc))) := ⟨HLd.out.sk HQ.out.2 (by simp), HBd.out.trans HQ.out.2.bel⟩
            have HO5 : Hid (Ord w (w5.setCell ⟨c, 0, none⟩ (.slice ua ((s.sel true).length + 1) uc)) b c (i + 1) (s.put true (s.sel true ++ [f]))) := ⟨HLf.out.1, HQ.out.1, HLf.out.2, by rw [put_cnt]; have := hg.out.cnt; omega, hg.out.lo⟩
            clear HLf HQ HLd
            generalize (w5.setCell ⟨c, 0, none⟩ (.slice ua ((s.sel true).length + 1) uc)) = w6 at *
            go_wp2
            go_roundg (gk - 1)
            case measure => (have := hgk.out; have := HNn.out.2; omega)
            case rel => exact ⟨i + 1, _, by go_num, by have := hgk.out; have := HNn.out.2; omega, HO5.out⟩
        | false =>
          go_upto_region 15 with fail
          have HSel : Hid ((s.sel false).length ≤ i) := hg.out.sel false
          have HMay : Hid (maySend (s.sel false) f = decide (0 < f.length ∧ f.length ≤ 1024)) := may_room (by have := HSel.out; omega)
          rcases (show n = 0 ∨ 1024 < n ∨ (0 < n ∧ n ≤ 1024) by omega) with hn | hn | hn
          · have Hn : Hid (n = 0) := hn
            have hn1 : ¬ (0 : Int) < (n : Int) := by omega
            have hn2 : decide ((0 : Int) < (n : Int)) = false := decide_eq_false hn1
            have HS := send_to (up := false) (c := c') hg.out.lk (HPc.out wr hg.out.bel).2 (HMay.out.trans (decide_eq_false (by have := HNn.out.1; have := Hn.out; omega))) rfl
            have HE : Hid (s.send false f = s) := Lk.send_no (HMay.out.trans (decide_eq_false (by have := HNn.out.1; have := Hn.out; omega)))
            generalize s.send false f = s' at HS HE
            clear HMay HSel hn
            go_upto_region 16 with (go_at_call 13; refine HS.mono ?_; rintro e w4 ⟨rfl, h4, k4⟩)
            rw [HE.out] at h4
            have hs4 : Sk [30] w.heap.size wr w4 := sk_kb k4 hg.out.lk.blk (by simp) hg.out.lo
            have HO4 : Hid (Ord w w4 b c (i + 1) s) := ⟨h4, hg.out.rf.sk hs4 (by simp) (by simp) (by simp), hg.out.bel.trans hs4.bel, Nat.le_succ_of_le hg.out.cnt, hg.out.lo⟩
            have hx4 := (HPc.out w4 HO4.out.bel).1
            clear HS h4 k4 hs4 hx
            go_wp2
            go_roundg (gk - 1)
            case measure => (have := hgk.out; have := HNn.out.2; omega)
            case rel => exact ⟨i + 1, s, by go_num, by have := hgk.out; have := HNn.out.2; omega, HO4.out⟩
          · have Hn : Hid (1024 < n) := hn
            have hn1 : (0 : Int) < (n : Int) := by omega
            have hn2 : ¬ (n : Int) ≤ 1024 := by omega
            have hn3 : decide ((0 : Int) < (n : Int)) = true := decide_eq_true hn1
            have hn4 : decide ((n : Int) ≤ 1024) = false := decide_eq_false hn2
            have HS := send_to (up := false) (c := c') hg.out.lk (HPc.out wr hg.out.bel).2 (HMay.out.trans (decide_eq_false (by have := HNn.out.1; have := Hn.out; omega))) rfl
            have HE : Hid (s.send false f = s) := Lk.send_no (HMay.out.trans (decide_eq_false (by have := HNn.out.1; have := Hn.out; omega)))
            generalize s.send false f = s' at HS HE
            clear HMay HSel hn
            go_upto_region 16 with (go_at_call 13; refine HS.mono ?_; rintro e w4 ⟨rfl, h4, k4⟩)
            rw [HE.out] at h4
            have hs4 : Sk [30] w.heap.size wr w4 := sk_kb k4 hg.out.lk.blk (by simp) hg.out.lo
            have HO4 : Hid (Ord w w4 b c (i + 1) s) := ⟨h4, hg.out.rf.sk hs4 (by simp) (by simp) (by simp), hg.out.bel.trans hs4.bel, Nat.le_succ_of_le hg.out.cnt, hg.out.lo⟩
            have hx4 := (HPc.out w4 HO4.out.bel).1
            clear HS h4 k4 hs4 hx
            go_wp2
            go_roundg (gk - 1)
            case measure => (have := hgk.out; have := HNn.out.2; omega)
            case rel => exact ⟨i + 1, s, by go_num, by have := hgk.out; have := HNn.out.2; omega, HO4.out⟩
          · have Hn : Hid (0 < n ∧ n ≤ 1024) := hn
            have hn1 : (0 : Int) < (n : Int) := by omega
            have hn2 : (n : Int) ≤ 1024 := by omega
            have hn3 : decide ((0 : Int) < (n : Int)) = true := decide_eq_true hn1
            have hn4 : decide ((n : Int) ≤ 1024) = true := decide_eq_true hn2
            have HS := send_to (up := false) (c := c') hg.out.lk (HPc.out wr hg.out.bel).2 (HMay.out.trans (decide_eq_true (by have := HNn.out.1; have := Hn.out; omega))) rfl
            have HE : Hid (s.send false f = s.put false (s.sel false ++ [f])) := by unfold Hid Lk.send; rw [HMay.out, decide_eq_true (by have := HNn.out.1; have := Hn.out; omega), if_pos rfl]
            generalize s.send false f = s' at HS HE
            clear HMay hn
            go_upto_region 16 with (go_at_call 13; refine HS.mono ?_; rintro e w4 ⟨rfl, h4, k4⟩)
            rw [HE.out] at h4
            have hs4 : Sk [30] w.heap.size wr w4 := sk_kb k4 hg.out.lk.blk (by simp) hg.out.lo
            have HB4 : Hid (Below w.heap.size w w4) := hg.out.bel.trans hs4.bel
            have HL4 : Hid (LkV w4 b (s.put false (s.sel false ++ [f]))) := h4
            have HR4 : Hid (RfV 33 w.heap.size w4.drew c s) := (hg.out.rf.sk hs4 (by simp) (by simp) (by simp)).over HB4.out.size (Below.refl _ _).drew
            have HBd : Hid (Below w.heap.size w w4.drew) := HB4.out.drew
            have hx4 := (HPc.out w4 HB4.out).1
            clear HS h4 k4 hs4 hx
            go_upto_region 19 with fail
            obtain ⟨v, hv, hrow, hput⟩ := HR4.out.sel HBd.out.size (by decide) (by decide) false
            have HRv : Hid (RowS w.heap.size w4.drew v (s.sel false) ∧ PcT w.heap.size w4.drew (.slice a' n c') f ∧ (s.sel false).length < 1000 ∧ w.heap.size ≤ w4.drew.heap.size) := ⟨hrow, by have := HPt.out.over (Nat.le_refl _) (HBd.out.mono (Nat.le_refl _)); exact this, by have := HSel.out; omega, HBd.out.size⟩
            have HPut : Hid (∀ (w1 : World) (v' : Value) (l : List (List Int)), ApT w.heap.size w4.drew w1 v v' l → w1.cell? ⟨c, 1, none⟩ = some v ∧ w1.frozen? ⟨c, 1, none⟩ = false ∧ RfV 33 w.heap.size (w1.setCell ⟨c, 1, none⟩ v') c (s.put false l) ∧ Sk [37, 33] w.heap.size w4.drew (w1.setCell ⟨c, 1, none⟩ v')) := hput
            have HPx : Hid (∀ W, Below w.heap.size w4.drew W → W.cell? ⟨pb, po + i, none⟩ = some (.slice a' n c')) := fun W hW => (HPc.out W (HBd.out.trans hW)).1
            have hS4 : (fun X => X.cell? ⟨c, 1, none⟩ = some v ∧ X.cell? ⟨pb, po + i, none⟩ = some (.slice a' n c')) w4.drew := ⟨hv, HPx.out _ (Below.refl _ _)⟩
            have HLd : Hid (LkV w4.drew b (s.put false (s.sel false ++ [f]))) := HL4.out.over (Below.refl _ _).drew
            obtain ⟨va, vc, hvs, _⟩ := hrow.slice
            rw [hvs] at HRv HPut hS4
            clear hv hvs hrow hput hx4
            refine wp_region_late (E := [11]) (S := (fun X => X.cell? ⟨c, 1, none⟩ = some (.slice va (s.sel false).length vc) ∧ X.cell? ⟨pb, po + i, none⟩ = some (.slice a' n c'))) (by kernel_rfl) (hS4) (fun hHeld => ?_)
            simp only [List.size_toArray, List.length_cons, List.length_nil, Nat.reduceAdd]
            refine wpAnyL_take [10, 11] (i := 0) (v := ?_) (by kernel_rfl) (by kernel_rfl) (by kernel_rfl) rfl (by kernel_rfl) (by kernel_rfl) (by kernel_rfl) (fun _ _ _ h => h) (Or.inl ⟨by rfl, ?_⟩) hHeld ?_
            rotate_left
            · (intro w hSw; (try dsimp only at hSw); obtain ⟨s0, s1⟩ := hSw; go_simp; try with_reducible rfl)
            try simp only [Act.put, List.setIfInBounds_toArray, List.set_cons_zero, List.set_cons_succ, List.getElem_toArray, List.getElem_cons_zero]
            refine wpAnyL_take [2, 3, 9, 11] (i := 1) (v := ?_) (by kernel_rfl) (by kernel_rfl) (by kernel_rfl) rfl (by kernel_rfl) (by kernel_rfl) (by kernel_rfl) (fun _ _ _ h => h) (Or.inl ⟨by rfl, ?_⟩) hHeld ?_
            rotate_left
            · (intro w hSw; (try dsimp only at hSw); obtain ⟨s0, s1⟩ := hSw; go_simp; try with_reducible rfl)
            try simp only [Act.put, List.setIfInBounds_toArray, List.set_cons_zero, List.set_cons_succ, List.getElem_toArray, List.getElem_cons_zero, List.getElem_cons_succ]
            refine wpAnyL_take [3, 9, 11] (i := 2) (v := ?_) (by kernel_rfl) (by kernel_rfl) (by kernel_rfl) rfl (by kernel_rfl) (by kernel_rfl) (by kernel_rfl) (fun _ _ _ h => h) (Or.inl ⟨by rfl, ?_⟩) hHeld ?_
            rotate_left
            · (intro w hSw; (try dsimp only at hSw); obtain ⟨s0, s1⟩ := hSw; go_simp; try with_reducible rfl)
            try simp only [Act.put, List.setIfInBounds_toArray, List.set_cons_zero, List.set_cons_succ, List.getElem_toArray, List.getElem_cons_zero, List.getElem_cons_succ]
            refine wpAnyL_take [9, 11] (i := 3) (v := ?_) (by kernel_rfl) (by kernel_rfl) (by kernel_rfl) rfl (by kernel_rfl) (by kernel_rfl) (by kernel_rfl) (fun _ _ _ h => h) (Or.inl ⟨by rfl, ?_⟩) hHeld ?_
            rotate_left
            · (intro w hSw; (try dsimp only at hSw); obtain ⟨s0, s1⟩ := hSw; go_simp; try with_reducible rfl)
            try simp only [Act.put, List.setIfInBounds_toArray, List.set_cons_zero, List.set_cons_succ, List.getElem_toArray, List.getElem_cons_zero, List.getElem_cons_succ]
            refine wpAnyL_take [6, 7, 8, 9, 11] (i := 4) (v := ?_) (by kernel_rfl) (by kernel_rfl) (by kernel_rfl) rfl (by kernel_rfl) (by kernel_rfl) (by kernel_rfl) (fun _ _ _ h => h) (Or.inl ⟨by rfl, ?_⟩) hHeld ?_
            rotate_left
            · (intro w hSw; (try dsimp only at hSw); obtain ⟨s0, s1⟩ := hSw; go_simp; try with_reducible rfl)
            try simp only [Act.put, List.setIfInBounds_toArray, List.set_cons_zero, List.set_cons_succ, List.getElem_toArray, List.getElem_cons_zero, List.getElem_cons_succ]
            refine wpAnyL_take [6, 7, 8, 9, 11] (i := 5) (v := ?_) (by kernel_rfl) (by kernel_rfl) (by kernel_rfl) rfl (by kernel_rfl) (by kernel_rfl) (by kernel_rfl) (fun _ _ _ h => h) (Or.inl ⟨by rfl, ?_⟩) hHeld ?_
            rotate_left
            · (intro w hSw; (try dsimp only at hSw); obtain ⟨s0, s1⟩ := hSw; go_simp; try with_reducible rfl)
            try simp only [Act.put, List.setIfInBounds_toArray, List.set_cons_zero, List.set_cons_succ, List.getElem_toArray, List.getElem_cons_zero, List.getElem_cons_succ]
            refine wpAnyL_take [7, 8, 9, 11] (i := 6) (v := ?_) (by kernel_rfl) (by kernel_rfl) (by kernel_rfl) rfl (by kernel_rfl) (by kernel_rfl) (by kernel_rfl) (fun _ _ _ h => h) (Or.inl ⟨by rfl, ?_⟩) hHeld ?_
            rotate_left
            · (intro w hSw; (try dsimp only at hSw); obtain ⟨s0, s1⟩ := hSw; go_simp; try with_reducible rfl)
            try simp only [Act.put, List.setIfInBounds_toArray, List.set_cons_zero, List.set_cons_succ, List.getElem_toArray, List.getElem_cons_zero, List.getElem_cons_succ]
            refine wpAnyL_take [8, 9, 11] (i := 7) (v := ?_) (by kernel_rfl) (by kernel_rfl) (by kernel_rfl) rfl (by kernel_rfl) (by kernel_rfl) (by kernel_rfl) (fun _ _ _ h => h) (Or.inl ⟨by rfl, ?_⟩) hHeld ?_
            rotate_left
            · (intro w hSw; (try dsimp only at hSw); obtain ⟨s0, s1⟩ := hSw; go_simp; try with_reducible rfl)
            try simp only [Act.put, List.setIfInBounds_toArray, List.set_cons_zero, List.set_cons_succ, List.getElem_toArray, List.getElem_cons_zero, List.getElem_cons_succ]
            refine wpAnyL_one (i := 8) (by kernel_rfl) rfl (fun K hK => ?_)
            go_simp
            have s8 : (fun X => X.cell? ⟨c, 1, none⟩ = some (.slice va (s.sel false).length vc) ∧ X.cell? ⟨pb, po + i, none⟩ = some (.slice a' n c')) (w4.drew.alloc (.cells #[.slice a' n c'] 37)) := ⟨cellK hHeld.1 (alloc_below _ _), cellK hHeld.2 (alloc_below _ _)⟩
            refine hK.out _ _ (fun _ => s8) ?_
            replace hHeld := s8
            clear hK K
            try simp only [Act.put, List.setIfInBounds_toArray, List.set_cons_zero, List.set_cons_succ, List.getElem_toArray, List.getElem_cons_zero, List.getElem_cons_succ]
            refine wpAnyL_one (i := 9) (by kernel_rfl) rfl (fun K hK => ?_)
            refine step_row1 rfl _ _ rfl _ _ rfl HRv.out.1 (.slice a' n c') f HRv.out.2.1 _ rfl rfl HRv.out.2.2.1 HRv.out.2.2.2 (fun u5 w5 ha5 => ?_)
            obtain ⟨q1, q2, q3, q4⟩ := HPut.out w5 u5 _ ha5
            have HQ : Hid (RfV 33 w.heap.size (w5.setCell ⟨c, 1, none⟩ u5) c (s.put false (s.sel false ++ [f])) ∧ Sk [37, 33] w.heap.size w4.drew (w5.setCell ⟨c, 1, none⟩ u5)) := ⟨q3, q4⟩
            have s9 : (fun X => X.cell? ⟨c, 1, none⟩ = some (.slice va (s.sel false).length vc) ∧ X.cell? ⟨pb, po + i, none⟩ = some (.slice a' n c')) w5 := ⟨q1, HPx.out w5 ((ha5.sk HRv.out.1 HRv.out.2.2.2).bel)⟩
            obtain ⟨ua, uc, hu5, _⟩ := ha5.row.slice
            rw [List.length_append, List.length_singleton] at hu5
            subst hu5
            clear ha5 q1 q3 q4
            refine hK.out _ _ (fun _ => s9) ?_
            replace hHeld := s9
            clear hK K
            try simp only [Act.put, List.setIfInBounds_toArray, List.set_cons_zero, List.set_cons_succ, List.getElem_toArray, List.getElem_cons_zero, List.getElem_cons_succ]
            refine wpAnyL_take [11] (i := 10) (v := ?_) (by kernel_rfl) (by kernel_rfl) (by kernel_rfl) rfl (by kernel_rfl) (by kernel_rfl) (by kernel_rfl) (fun _ _ _ h => h) (Or.inl ⟨by rfl, ?_⟩) hHeld ?_
            rotate_left
            · (intro w hSw; (try dsimp only at hSw); obtain ⟨s0, s1⟩ := hSw; go_simp; try with_reducible rfl)
            try simp only [Act.put, List.setIfInBounds_toArray, List.set_cons_zero, List.set_cons_succ, List.getElem_toArray, List.getElem_cons_zero, List.getElem_cons_succ]
            refine wpAnyL_one (i := 11) (by kernel_rfl) rfl (fun K hK => ?_)
            obtain ⟨s0, s1⟩ := hHeld
            go_simp
            refine hK.out _ _ (fun h => by cases h) ?_
            clear hK K
            try simp only [Act.put, List.setIfInBounds_toArray, List.set_cons_zero, List.set_cons_succ, List.getElem_toArray, List.getElem_cons_zero, List.getElem_cons_succ]
            refine wpAnyL_done (by kernel_rfl) ?_ _
            have HLf : Hid (LkV (w5.setCell ⟨c, 1, none⟩ (.slice ua ((s.sel false).length + 1) uc)) b (s.put false (s.sel false ++ [f])) ∧ Below w.heap.size w (w5.setCell ⟨c, 1, none⟩ (.slice ua ((s.sel false).length + 1) uc))) := ⟨HLd.out.sk HQ.out.2 (by simp), HBd.out.trans HQ.out.2.bel⟩
            have HO5 : Hid (Ord w (w5.setCell ⟨c, 1, none⟩ (.slice ua ((s.sel false).length + 1) uc)) b c (i + 1) (s.put false (s.sel false ++ [f]))) := ⟨HLf.out.1, HQ.out.1, HLf.out.2, by rw [put_cnt]; have := hg.out.cnt; omega, hg.out.lo⟩
            clear HLf HQ HLd
            generalize (w5.setCell ⟨c, 1, none⟩ (.slice ua ((s.sel false).length + 1) uc)) = w6 at *
            go_wp2
            go_roundg (gk - 1)
            case measure => (have := hgk.out; have := HNn.out.2; omega)
            case rel => exact ⟨i + 1, _, by go_num, by have := hgk.out; have := HNn.out.2; omega, HO5.out⟩
      · have hib1 : ¬ (i : Int) < (bs.length : Int) := by omega
        generalize bs.length = bn at *
        go_upto_region 15 with fail
        have HSel : Hid ((s.sel false).length ≤ i) := hg.out.sel false
        have HMay : Hid (maySend (s.sel false) f = decide (0 < f.length ∧ f.length ≤ 1024)) := may_room (by have := HSel.out; omega)
        rcases (show n = 0 ∨ 1024 < n ∨ (0 < n ∧ n ≤ 1024) by omega) with hn | hn | hn
        · have Hn : Hid (n = 0) := hn
          have hn1 : ¬ (0 : Int) < (n : Int) := by omega
          have hn2 : decide ((0 : Int) < (n : Int)) = false := decide_eq_false hn1
          have HS := send_to (up := false) (c := c') hg.out.lk (HPc.out wr hg.out.bel).2 (HMay.out.trans (decide_eq_false (by have := HNn.out.1; have := Hn.out; omega))) rfl
          have HE : Hid (s.send false f = s) := Lk.send_no (HMay.out.trans (decide_eq_false (by have := HNn.out.1; have := Hn.out; omega)))
          generalize s.send false f = s' at HS HE
          clear HMay HSel hn
          go_upto_region 16 with (go_at_call 13; refine HS.mono ?_; rintro e w4 ⟨rfl, h4, k4⟩)
          rw [HE.out] at h4
          have hs4 : Sk [30] w.heap.size wr w4 := sk_kb k4 hg.out.lk.blk (by simp) hg.out.lo
          have HO4 : Hid (Ord w w4 b c (i + 1) s) := ⟨h4, hg.out.rf.sk hs4 (by simp) (by simp) (by simp), hg.out.bel.trans hs4.bel, Nat.le_succ_of_le hg.out.cnt, hg.out.lo⟩
          have hx4 := (HPc.out w4 HO4.out.bel).1
          clear HS h4 k4 hs4 hx
          go_wp2
          go_roundg (gk - 1)
          case measure => (have := hgk.out; have := HNn.out.2; omega)
          case rel => exact ⟨i + 1, s, by go_num, by have := hgk.out; have := HNn.out.2; omega, HO4.out⟩
        · have Hn : Hid (1024 < n) := hn
          have hn1 : (0 : Int) < (n : Int) := by omega
          have hn2 : ¬ (n : Int) ≤ 1024 := by omega
          have hn3 : decide ((0 : Int) < (n : Int)) = true := decide_eq_true hn1
          have hn4 : decide ((n : Int) ≤ 1024) = false := decide_eq_false hn2
          have HS := send_to (up := false) (c := c') hg.out.lk (HPc.out wr hg.out.bel).2 (HMay.out.trans (decide_eq_false (by have := HNn.out.1; have := Hn.out; omega))) rfl
          have HE : Hid (s.send false f = s) := Lk.send_no (HMay.out.trans (decide_eq_false (by have := HNn.out.1; have := Hn.out; omega)))
          generalize s.send false f = s' at HS HE
          clear HMay HSel hn
          go_upto_region 16 with (go_at_call 13; refine HS.mono ?_; rintro e w4 ⟨rfl, h4, k4⟩)
          rw [HE.out] at h4
          have hs4 : Sk [30] w.heap.size wr w4 := sk_kb k4 hg.out.lk.blk (by simp) hg.out.lo
          have HO4 : Hid (Ord w w4 b c (i + 1) s) := ⟨h4, hg.out.rf.sk hs4 (by simp) (by simp) (by simp), hg.out.bel.trans hs4.bel, Nat.le_succ_of_le hg.out.cnt, hg.out.lo⟩
          have hx4 := (HPc.out w4 HO4.out.bel).1
          clear HS h4 k4 hs4 hx
          go_wp2
          go_roundg (gk - 1)
          case measure => (have := hgk.out; have := HNn.out.2; omega)
          case rel => exact ⟨i + 1, s, by go_num, by have := hgk.out; have := HNn.out.2; omega, HO4.out⟩
        · have Hn : Hid (0 < n ∧ n ≤ 1024) := hn
          have hn1 : (0 : Int) < (n : Int) := by omega
          have hn2 : (n : Int) ≤ 1024 := by omega
          have hn3 : decide ((0 : Int) < (n : Int)) = true := decide_eq_true hn1
          have hn4 : decide ((n : Int) ≤ 1024) = true := decide_eq_true hn2
          have HS := send_to (up := false) (c := c') hg.out.lk (HPc.out wr hg.out.bel).2 (HMay.out.trans (decide_eq_true (by have := HNn.out.1; have := Hn.out; omega))) rfl
          have HE : Hid (s.send false f = s.put false (s.sel false ++ [f])) := by unfold Hid Lk.send; rw [HMay.out, decide_eq_true (by have := HNn.out.1; have := Hn.out; omega), if_pos rfl]
          generalize s.send false f = s' at HS HE
          clear HMay hn
          go_upto_region 16 with (go_at_call 13; refine HS.mono ?_; rintro e w4 ⟨rfl, h4, k4⟩)
          rw [HE.out] at h4
          have hs4 : Sk [30] w.heap.size wr w4 := sk_kb k4 hg.out.lk.blk (by simp) hg.out.lo
          have HB4 : Hid (Below w.heap.size w w4) := hg.out.bel.trans hs4.bel
          have HL4 : Hid (LkV w4 b (s.put false (s.sel false ++ [f]))) := h4
          have HR4 : Hid (RfV 33 w.heap.size w4.drew c s) := (hg.out.rf.sk hs4 (by simp) (by simp) (by simp)).over HB4.out.size (Below.refl _ _).drew
          have HBd : Hid (Below w.heap.size w w4.drew) := HB4.out.drew
          have hx4 := (HPc.out w4 HB4.out).1
          clear HS h4 k4 hs4 hx
          go_upto_region 19 with fail
          obtain ⟨v, hv, hrow, hput⟩ := HR4.out.sel HBd.out.size (by decide) (by decide) false
          have HRv : Hid (RowS w.heap.size w4.drew v (s.sel false) ∧ PcT w.heap.size w4.drew (.slice a' n c') f ∧ (s.sel false).length < 1000 ∧ w.heap.size ≤ w4.drew.heap.size) := ⟨hrow, by have := HPt.out.over (Nat.le_refl _) (HBd.out.mono (Nat.le_refl _)); exact this, by have := HSel.out; omega, HBd.out.size⟩
          have HPut : Hid (∀ (w1 : World) (v' : Value) (l : List (List Int)), ApT w.heap.size w4.drew w1 v v' l → w1.cell? ⟨c, 1, none⟩ = some v ∧ w1.frozen? ⟨c, 1, none⟩ = false ∧ RfV 33 w.heap.size (w1.setCell ⟨c, 1, none⟩ v') c (s.put false l) ∧ Sk [37, 33] w.heap.size w4.drew (w1.setCell ⟨c, 1, none⟩ v')) := hput
          have HPx : Hid (∀ W, Below w.heap.size w4.drew W → W.cell? ⟨pb, po + i, none⟩ = some (.slice a' n c')) := fun W hW => (HPc.out W (HBd.out.trans hW)).1
          have hS4 : (fun X => X.cell? ⟨c, 1, none⟩ = some v ∧ X.cell? ⟨pb, po + i, none⟩ = some (.slice a' n c')) w4.drew := ⟨hv, HPx.out _ (Below.refl _ _)⟩
          have HLd : Hid (LkV w4.drew b (s.put false (s.sel false ++ [f]))) := HL4.out.over (Below.refl _ _).drew
          obtain ⟨va, vc, hvs, _⟩ := hrow.slice
          rw [hvs] at HRv HPut hS4
          clear hv hvs hrow hput hx4
          refine wp_region_late (E := [11]) (S := (fun X => X.cell? ⟨c, 1, none⟩ = some (.slice va (s.sel false).length vc) ∧ X.cell? ⟨pb, po + i, none⟩ = some (.slice a' n c'))) (by kernel_rfl) (hS4) (fun hHeld => ?_)
          simp only [List.size_toArray, List.length_cons, List.length_nil, Nat.reduceAdd]
          refine wpAnyL_take [10, 11] (i := 0) (v := ?_) (by kernel_rfl) (by kernel_rfl) (by kernel_rfl) rfl (by kernel_rfl) (by kernel_rfl) (by kernel_rfl) (fun _ _ _ h => h) (Or.inl ⟨by rfl, ?_⟩) hHeld ?_
          rotate_left
          · (intro w hSw; (try dsimp only at hSw); obtain ⟨s0, s1⟩ := hSw; go_simp; try with_reducible rfl)
          try simp only [Act.put, List.setIfInBounds_toArray, List.set_cons_zero, List.set_cons_succ, List.getElem_toArray, List.getElem_cons_zero]
          refine wpAnyL_take [2, 3, 9, 11] (i := 1) (v := ?_) (by kernel_rfl) (by kernel_rfl) (by kernel_rfl) rfl (by kernel_rfl) (by kernel_rfl) (by kernel_rfl) (fun _ _ _ h => h) (Or.inl ⟨by rfl, ?_⟩) hHeld ?_
          rotate_left
          · (intro w hSw; (try dsimp only at hSw); obtain ⟨s0, s1⟩ := hSw; go_simp; try with_reducible rfl)
          try simp only [Act.put, List.setIfInBounds_toArray, List.set_cons_zero, List.set_cons_succ, List.getElem_toArray, List.getElem_cons_zero, List.getElem_cons_succ]
          refine wpAnyL_take [3, 9, 11] (i := 2) (v := ?_) (by kernel_rfl) (by kernel_rfl) (by kernel_rfl) rfl (by kernel_rfl) (by kernel_rfl) (by kernel_rfl) (fun _ _ _ h => h) (Or.inl ⟨by rfl, ?_⟩) hHeld ?_
          rotate_left
          · (intro w hSw; (try dsimp only at hSw); obtain ⟨s0, s1⟩ := hSw; go_simp; try with_reducible rfl)
          try simp only [Act.put, List.setIfInBounds_toArray, List.set_cons_zero, List.set_cons_succ, List.getElem_toArray, List.getElem_cons_zero, List.getElem_cons_succ]
          refine wpAnyL_take [9, 11] (i := 3) (v := ?_) (by kernel_rfl) (by kernel_rfl) (by kernel_rfl) rfl (by kernel_rfl) (by kernel_rfl) (by kernel_rfl) (fun _ _ _ h => h) (Or.inl ⟨by rfl, ?_⟩) hHeld ?_
          rotate_left
          · (intro w hSw; (try dsimp only at hSw); obtain ⟨s0, s1⟩ := hSw; go_simp; try with_reducible rfl)
          try simp only [Act.put, List.setIfInBounds_toArray, List.set_cons_zero, List.set_cons_succ, List.getElem_toArray, List.getElem_cons_zero, List.getElem_cons_succ]
          refine wpAnyL_take [6, 7, 8, 9, 11] (i := 4) (v := ?_) (by kernel_rfl) (by kernel_rfl) (by kernel_rfl) rfl (by kernel_rfl) (by kernel_rfl) (by kernel_rfl) (fun _ _ _ h => h) (Or.inl ⟨by rfl, ?_⟩) hHeld ?_
          rotate_left
          · (intro w hSw; (try dsimp only at hSw); obtain ⟨s0, s1⟩ := hSw; go_simp; try with_reducible rfl)
          try simp only [Act.put, List.setIfInBounds_toArray, List.set_cons_zero, List.set_cons_succ, List.getElem_toArray, List.getElem_cons_zero, List.getElem_cons_succ]
          refine wpAnyL_take [6, 7, 8, 9, 11] (i := 5) (v := ?_) (by kernel_rfl) (by kernel_rfl) (by kernel_rfl) rfl (by kernel_rfl) (by kernel_rfl) (by kernel_rfl) (fun _ _ _ h => h) (Or.inl ⟨by rfl, ?_⟩) hHeld ?_
          rotate_left
          · (intro w hSw; (try dsimp only at hSw); obtain ⟨s0, s1⟩ := hSw; go_simp; try with_reducible rfl)
          try simp only [Act.put, List.setIfInBounds_toArray, List.set_cons_zero, List.set_cons_succ, List.getElem_toArray, List.getElem_cons_zero, List.getElem_cons_succ]
          refine wpAnyL_take [7, 8, 9, 11] (i := 6) (v := ?_) (by kernel_rfl) (by kernel_rfl) (by kernel_rfl) rfl (by kernel_rfl) (by kernel_rfl) (by kernel_rfl) (fun _ _ _ h => h) (Or.inl ⟨by rfl, ?_⟩) hHeld ?_
          rotate_left
          · (intro w hSw; (try dsimp only at hSw); obtain ⟨s0, s1⟩ := hSw; go_simp; try with_reducible rfl)
          try simp only [Act.put, List.setIfInBounds_toArray, List.set_cons_zero, List.set_cons_succ, List.getElem_toArray, List.getElem_cons_zero, List.getElem_cons_succ]
          refine wpAnyL_take [8, 9, 11] (i := 7) (v := ?_) (by kernel_rfl) (by kernel_rfl) (by kernel_rfl) rfl (by kernel_rfl) (by kernel_rfl) (by kernel_rfl) (fun _ _ _ h => h) (Or.inl ⟨by rfl, ?_⟩) hHeld ?_
          rotate_left
          · (intro w hSw; (try dsimp only at hSw); obtain ⟨s0, s1⟩ := hSw; go_simp; try with_reducible rfl)
          try simp only [Act.put, List.setIfInBounds_toArray, List.set_cons_zero, List.set_cons_succ, List.getElem_toArray, List.getElem_cons_zero, List.getElem_cons_succ]
          refine wpAnyL_one (i := 8) (by kernel_rfl) rfl (fun K hK => ?_)
          go_simp
          have s8 : (fun X => X.cell? ⟨c, 1, none⟩ = some (.slice va (s.sel false).length vc) ∧ X.cell? ⟨pb, po + i, none⟩ = some (.slice a' n c')) (w4.drew.alloc (.cells #[.slice a' n c'] 37)) := ⟨cellK hHeld.1 (alloc_below _ _), cellK hHeld.2 (alloc_below _ _)⟩
          refine hK.out _ _ (fun _ => s8) ?_
          replace hHeld := s8
          clear hK K
          try simp only [Act.put, List.setIfInBounds_toArray, List.set_cons_zero, List.set_cons_succ, List.getElem_toArray, List.getElem_cons_zero, List.getElem_cons_succ]
          refine wpAnyL_one (i := 9) (by kernel_rfl) rfl (fun K hK => ?_)
          refine step_row1 rfl _ _ rfl _ _ rfl HRv.out.1 (.slice a' n c') f HRv.out.2.1 _ rfl rfl HRv.out.2.2.1 HRv.out.2.2.2 (fun u5 w5 ha5 => ?_)
          obtain ⟨q1, q2, q3, q4⟩ := HPut.out w5 u5 _ ha5
          have HQ : Hid (RfV 33 w.heap.size (w5.setCell ⟨c, 1, none⟩ u5) c (s.put false (s.sel false ++ [f])) ∧ Sk [37, 33] w.heap.size w4.drew (w5.setCell ⟨c, 1, none⟩ u5)) := ⟨q3, q4⟩
          have s9 : (fun X => X.cell? ⟨c, 1, none⟩ = some (.slice va (s.sel false).length vc) ∧ X.cell? ⟨pb, po + i, none⟩ = some (.slice a' n c')) w5 := ⟨q1, HPx.out w5 ((ha5.sk HRv.out.1 HRv.out.2.2.2).bel)⟩
          obtain ⟨ua, uc, hu5, _⟩ := ha5.row.slice
          rw [List.length_append, List.length_singleton] at hu5
          subst hu5
          clear ha5 q1 q3 q4
          refine hK.out _ _ (fun _ => s9) ?_
          replace hHeld := s9
          clear hK K
          try simp only [Act.put, List.setIfInBounds_toArray, List.set_cons_zero, List.set_cons_succ, List.getElem_toArray, List.getElem_cons_zero, List.getElem_cons_succ]
          refine wpAnyL_take [11] (i := 10) (v := ?_) (by kernel_rfl) (by kernel_rfl) (by kernel_rfl) rfl (by kernel_rfl) (by kernel_rfl) (by kernel_rfl) (fun _ _ _ h => h) (Or.inl ⟨by rfl, ?_⟩) hHeld ?_
          rotate_left
          · (intro w hSw; (try dsimp only at hSw); obtain ⟨s0, s1⟩ := hSw; go_simp; try with_reducible rfl)
          try simp only [Act.put, List.setIfInBounds_toArray, List.set_cons_zero, List.set_cons_succ, List.getElem_toArray, List.getElem_cons_zero, List.getElem_cons_succ]
          refine wpAnyL_one (i := 11) (by kernel_rfl) rfl (fun K hK => ?_)
          obtain ⟨s0, s1⟩ := hHeld
          go_simp
          refine hK.out _ _ (fun h => by cases h) ?_
          clear hK K
          try simp only [Act.put, List.setIfInBounds_toArray, List.set_cons_zero, List.set_cons_succ, List.getElem_toArray, List.getElem_cons_zero, List.getElem_cons_succ]
          refine wpAnyL_done (by kernel_rfl) ?_ _
          have HLf : Hid (LkV (w5.setCell ⟨c, 1, none⟩ (.slice ua ((s.sel false).length + 1) uc)) b (s.put false (s.sel false ++ [f])) ∧ Below w.heap.size w (w5.setCell ⟨c, 1, none⟩ (.slice ua ((s.sel false).length + 1) uc))) := ⟨HLd.out.sk HQ.out.2 (by simp), HBd.out.trans HQ.out.2.bel⟩
          have HO5 : Hid (Ord w (w5.setCell ⟨c, 1, none⟩ (.slice ua ((s.sel false).length + 1) uc)) b c (i + 1) (s.put false (s.sel false ++ [f]))) := ⟨HLf.out.1, HQ.out.1, HLf.out.2, by rw [put_cnt]; have := hg.out.cnt; omega, hg.out.lo⟩
          clear HLf HQ HLd
          generalize (w5.setCell ⟨c, 1, none⟩ (.slice ua ((s.sel false).length + 1) uc)) = w6 at *
          go_wp2
          go_roundg (gk - 1)
          case measure => (have := hgk.out; have := HNn.out.2; omega)
          case rel => exact ⟨i + 1, _, by go_num, by have := hgk.out; have := HNn.out.2; omega, HO5.out⟩
    · have hi1 : ¬ (i : Int) < (ls.length : Int) := by omega
      have HO2 : Hid (Ord w wr b c i s) := hg.out
      have HLim : Hid (∀ up, (s.sel up).length ≤ 64) := fun up => (Lk.ok_sel hg.out.lk.ok up).1
      clear hig hgk
      generalize ls.length = len at *
      go_wp2
      go_loopg [12] 2 (fun g vk wr2 => ∃ k : Nat, vk = .int .i64 k ∧ k + g = 2 ∧ Hid (LkV wr2 b (outK s k) ∧ RfV 33 w.heap.size wr2 c s ∧ Below w.heap.size w wr2))
      case atStart => exact ⟨0, rfl, rfl, HO2.out.lk, HO2.out.rf, HO2.out.bel⟩
      case round =>
        obtain ⟨k, rfl, hig2, hg2⟩ := hrel
        have hLo : Hid (w.heap.size ≤ b) := HO2.out.lo
        clear hg HO2
        rcases (show k = 0 ∨ k = 1 ∨ k = 2 by omega) with rfl | rfl | rfl
        · rw [show outK s 0 = s.left true 0 from rfl] at hg2
          have hgo : Hid (gk - 1 < gk ∧ 0 + 1 + (gk - 1) = 2) := ⟨by omega, by omega⟩
          generalize gk - 1 = go at *
          have HSt := hg2
          clear hig2
          go_wp2
          go_loopg [13] (s.sel true).length (fun g vi wr3 => ∃ j : Nat, vi = .int .i64 j ∧ j + g = (s.sel true).length ∧ Hid (LkV wr3 b (s.left true j) ∧ RfV 33 w.heap.size wr3 c s ∧ Below w.heap.size w wr3))
          case atStart => exact ⟨0, rfl, Nat.zero_add _, HSt.out⟩
          case round =>
            obtain ⟨j, rfl, hjg, hg3⟩ := hrel
            obtain ⟨v, hcv, hrow, _⟩ := hg3.out.2.1.sel hg3.out.2.2.size (by decide) (by decide) true
            change wr.cell? ⟨c, 0, none⟩ = some v at hcv
            obtain ⟨pp, pc, rfl, _⟩ := hrow.slice
            have hjk : Hid (j + gk = (s.sel true).length) := hjg
            have HRow : Hid (RowS w.heap.size wr (.slice pp (s.sel true).length pc) (s.sel true)) := hrow
            have hsl : ((s.sel true).length : Int) ≤ 64 := by have := HLim.out true; omega
            clear hrow
            rcases Nat.lt_or_ge j (s.sel true).length with hlt | hge
            · have hj1 : (j : Int) < ((s.sel true).length : Int) := by omega
              obtain ⟨q1, q2, q3⟩ := left_take s true j hlt
              have HT := take_to (up := true) (n := 0) hg3.out.1 q1 q2 q3
              have HX : Hid (∀ W, Sk [30] w.heap.size wr W → ∃ g3 a3 c3, pp = some ⟨g3, 0, none⟩ ∧ W.cell? ⟨g3, j, none⟩ = some (.slice a3 (s.sel true)[j].length c3) ∧ Bs W a3 (s.sel true)[j].length (s.sel true)[j]) := fun W hW => by
                obtain ⟨g3, a3, c3, e, h1, _, _, h4, _⟩ := (HRow.out.sk7 hW (by simp) (by simp)).at hlt
                exact ⟨g3, a3, c3, e, h1, h4⟩
              have HCv : Hid (∀ W, Sk [30] w.heap.size wr W → W.cell? ⟨c, 0, none⟩ = some (.slice pp (s.sel true).length pc)) := fun W hW => by
                obtain ⟨_, v, u, hb, _⟩ := hg3.out.2.1
                have h1 := hb.cell 0
                rw [hcv] at h1
                have h2 := (hW.blk hb (by simp)).cell 0
                rw [h2, ← h1]
              generalize (s.sel true)[j] = f at *
              generalize hsn : s.left true (j + 1) = sn at *
              have HSn : Hid (s.left true (j + 1) = sn) := hsn
              clear hsn
              have HNx : Hid (j < (s.sel true).length) := hlt
              clear q1 q2 q3 hjg hlt
              generalize hln : (s.sel true).length = ln at *
              have hj0 : (0 : Int) ≤ (j : Int) := by omega
              go_upto_region 27 with (go_at_call 14; refine HT.mono ?_; rintro e w5 ⟨v5, rfl, hp5, hn5, h5, k5⟩)
              have hs5 : Sk [30] w.heap.size wr w5 := sk_kb k5 hg3.out.1.blk (by simp) hLo.out
              have HG5 : Hid (LkV w5.drew b sn ∧ RfV 33 w.heap.size w5.drew c s ∧ Below w.heap.size w w5.drew) := by
                have hb5 := hg3.out.2.2.trans hs5.bel
                exact ⟨h5.over (Below.refl _ _).drew, (hg3.out.2.1.sk hs5 (by simp) (by simp) (by simp)).over hb5.size (Below.refl _ _).drew, hb5.drew⟩
              obtain ⟨a5, c5, rfl, hb5, _⟩ := hp5
              obtain ⟨g3, a3, c3, rfl, x3, y3⟩ := HX.out w5 hs5
              have xc := HCv.out w5 hs5
              have s1 := run_text hb5 c5
              have s2 := run_text y3 c3
              have r1 := run_text (hb5.below (Below.refl _ _).drew) c5
              have r2 := run_text (y3.below (Below.refl _ _).drew) c3
              have z3 := cellK x3 (Below.refl w5.heap.size w5).drew
              have zc := cellK xc (Below.refl w5.heap.size w5).drew
              have hbq : ((strOfNums f).toList == (strOfNums f).toList) = true := beq_self_eq_true _
              clear hs5 hn5 h5 k5 hb5 y3 HX HCv HT HRow hcv
              generalize strOfNums f = sf at *
              generalize f.length = fl at *
              have hS0 : (fun X => X.cell? ⟨c, 0, none⟩ = some (.slice (some ⟨g3, 0, none⟩) ln pc) ∧ X.cell? ⟨g3, j, none⟩ = some (.slice a3 fl c3) ∧ (convert 37 9 (.slice a5 fl c5)).run Try.prog X = .ok (.string sf) X ∧ (convert 37 9 (.slice a3 fl c3)).run Try.prog X = .ok (.string sf) X) w5 := ⟨xc, x3, s1, s2⟩
              have hS1 : (fun X => X.cell? ⟨c, 0, none⟩ = some (.slice (some ⟨g3, 0, none⟩) ln pc) ∧ X.cell? ⟨g3, j, none⟩ = some (.slice a3 fl c3) ∧ (convert 37 9 (.slice a5 fl c5)).run Try.prog X = .ok (.string sf) X ∧ (convert 37 9 (.slice a3 fl c3)).run Try.prog X = .ok (.string sf) X) w5.drew := ⟨zc, z3, r1, r2⟩
              go_region_held3 (fun X => X.cell? ⟨c, 0, none⟩ = some (.slice (some ⟨g3, 0, none⟩) ln pc) ∧ X.cell? ⟨g3, j, none⟩ = some (.slice a3 fl c3) ∧ (convert 37 9 (.slice a5 fl c5)).run Try.prog X = .ok (.string sf) X ∧ (convert 37 9 (.slice a3 fl c3)).run Try.prog X = .ok (.string sf) X) (first | assumption | go_keep) (fail)
              go_wp2
              go_roundg (gk - 1)
              case measure => (have := hjk.out; have := HNx.out; omega)
              case rel => exact ⟨j + 1, by go_num, by have := hjk.out; have := HNx.out; omega, by rw [HSn.out]; exact HG5.out⟩
            · have hj1 : ¬ (j : Int) < ((s.sel true).length : Int) := by omega
              have hje : j = (s.sel true).length := by omega
              have HG5 : Hid (LkV wr b (outK s (0 + 1)) ∧ RfV 33 w.heap.size wr c s ∧ Below w.heap.size w wr) := by
                rw [show outK s (0 + 1) = s.left true j by rw [hje]; exact (left_all s).1]
                exact hg3.out
              clear hjg hge hje hg3 HRow
              generalize (s.sel true).length = ln at *
              go_wp2
              go_roundg go
              case measure => exact hgo.out.1
              case rel => exact ⟨0 + 1, by go_num, hgo.out.2, HG5.out⟩
        · rw [show outK s 1 = s.left false 0 from rfl] at hg2
          have hgo : Hid (gk - 1 < gk ∧ 1 + 1 + (gk - 1) = 2) := ⟨by omega, by omega⟩
          generalize gk - 1 = go at *
          have HSt := hg2
          clear hig2
          go_wp2
          go_loopg [13] (s.sel false).length (fun g vi wr3 => ∃ j : Nat, vi = .int .i64 j ∧ j + g = (s.sel false).length ∧ Hid (LkV wr3 b (s.left false j) ∧ RfV 33 w.heap.size wr3 c s ∧ Below w.heap.size w wr3))
          case atStart => exact ⟨0, rfl, Nat.zero_add _, HSt.out⟩
          case round =>
            obtain ⟨j, rfl, hjg, hg3⟩ := hrel
            obtain ⟨v, hcv, hrow, _⟩ := hg3.out.2.1.sel hg3.out.2.2.size (by decide) (by decide) false
            change wr.cell? ⟨c, 1, none⟩ = some v at hcv
            obtain ⟨pp, pc, rfl, _⟩ := hrow.slice
            have hjk : Hid (j + gk = (s.sel false).length) := hjg
            have HRow : Hid (RowS w.heap.size wr (.slice pp (s.sel false).length pc) (s.sel false)) := hrow
            have hsl : ((s.sel false).length : Int) ≤ 64 := by have := HLim.out false; omega
            clear hrow
            rcases Nat.lt_or_ge j (s.sel false).length with hlt | hge
            · have hj1 : (j : Int) < ((s.sel false).length : Int) := by omega
              obtain ⟨q1, q2, q3⟩ := left_take s false j hlt
              have HT := take_to (up := false) (n := 0) hg3.out.1 q1 q2 q3
              have HX : Hid (∀ W, Sk [30] w.heap.size wr W → ∃ g3 a3 c3, pp = some ⟨g3, 0, none⟩ ∧ W.cell? ⟨g3, j, none⟩ = some (.slice a3 (s.sel false)[j].length c3) ∧ Bs W a3 (s.sel false)[j].length (s.sel false)[j]) := fun W hW => by
                obtain ⟨g3, a3, c3, e, h1, _, _, h4, _⟩ := (HRow.out.sk7 hW (by simp) (by simp)).at hlt
                exact ⟨g3, a3, c3, e, h1, h4⟩
              have HCv : Hid (∀ W, Sk [30] w.heap.size wr W → W.cell? ⟨c, 1, none⟩ = some (.slice pp (s.sel false).length pc)) := fun W hW => by
                obtain ⟨_, v, u, hb, _⟩ := hg3.out.2.1
                have h1 := hb.cell 1
                rw [hcv] at h1
                have h2 := (hW.blk hb (by simp)).cell 1
                rw [h2, ← h1]
              generalize (s.sel false)[j] = f at *
              generalize hsn : s.left false (j + 1) = sn at *
              have HSn : Hid (s.left false (j + 1) = sn) := hsn
              clear hsn
              have HNx : Hid (j < (s.sel false).length) := hlt
              clear q1 q2 q3 hjg hlt
              generalize hln : (s.sel false).length = ln at *
              have hj0 : (0 : Int) ≤ (j : Int) := by omega
              go_upto_region 27 with (go_at_call 14; refine HT.mono ?_; rintro e w5 ⟨v5, rfl, hp5, hn5, h5, k5⟩)
              have hs5 : Sk [30] w.heap.size wr w5 := sk_kb k5 hg3.out.1.blk (by simp) hLo.out
              have HG5 : Hid (LkV w5.drew b sn ∧ RfV 33 w.heap.size w5.drew c s ∧ Below w.heap.size w w5.drew) := by
                have hb5 := hg3.out.2.2.trans hs5.bel
                exact ⟨h5.over (Below.refl _ _).drew, (hg3.out.2.1.sk hs5 (by simp) (by simp) (by simp)).over hb5.size (Below.refl _ _).drew, hb5.drew⟩
              obtain ⟨a5, c5, rfl, hb5, _⟩ := hp5
              obtain ⟨g3, a3, c3, rfl, x3, y3⟩ := HX.out w5 hs5
              have xc := HCv.out w5 hs5
              have s1 := run_text hb5 c5
              have s2 := run_text y3 c3
              have r1 := run_text (hb5.below (Below.refl _ _).drew) c5
              have r2 := run_text (y3.below (Below.refl _ _).drew) c3
              have z3 := cellK x3 (Below.refl w5.heap.size w5).drew
              have zc := cellK xc (Below.refl w5.heap.size w5).drew
              have hbq : ((strOfNums f).toList == (strOfNums f).toList) = true := beq_self_eq_true _
              clear hs5 hn5 h5 k5 hb5 y3 HX HCv HT HRow hcv
              generalize strOfNums f = sf at *
              generalize f.length = fl at *
              have hS0 : (fun X => X.cell? ⟨c, 1, none⟩ = some (.slice (some ⟨g3, 0, none⟩) ln pc) ∧ X.cell? ⟨g3, j, none⟩ = some (.slice a3 fl c3) ∧ (convert 37 9 (.slice a5 fl c5)).run Try.prog X = .ok (.string sf) X ∧ (convert 37 9 (.slice a3 fl c3)).run Try.prog X = .ok (.string sf) X) w5 := ⟨xc, x3, s1, s2⟩
              have hS1 : (fun X => X.cell? ⟨c, 1, none⟩ = some (.slice (some ⟨g3, 0, none⟩) ln pc) ∧ X.cell? ⟨g3, j, none⟩ = some (.slice a3 fl c3) ∧ (convert 37 9 (.slice a5 fl c5)).run Try.prog X = .ok (.string sf) X ∧ (convert 37 9 (.slice a3 fl c3)).run Try.prog X = .ok (.string sf) X) w5.drew := ⟨zc, z3, r1, r2⟩
              go_region_held3 (fun X => X.cell? ⟨c, 1, none⟩ = some (.slice (some ⟨g3, 0, none⟩) ln pc) ∧ X.cell? ⟨g3, j, none⟩ = some (.slice a3 fl c3) ∧ (convert 37 9 (.slice a5 fl c5)).run Try.prog X = .ok (.string sf) X ∧ (convert 37 9 (.slice a3 fl c3)).run Try.prog X = .ok (.string sf) X) (first | assumption | go_keep) (fail)
              go_wp2
              go_roundg (gk - 1)
              case measure => (have := hjk.out; have := HNx.out; omega)
              case rel => exact ⟨j + 1, by go_num, by have := hjk.out; have := HNx.out; omega, by rw [HSn.out]; exact HG5.out⟩
            · have hj1 : ¬ (j : Int) < ((s.sel false).length : Int) := by omega
              have hje : j = (s.sel false).length := by omega
              have HG5 : Hid (LkV wr b (outK s (1 + 1)) ∧ RfV 33 w.heap.size wr c s ∧ Below w.heap.size w wr) := by
                rw [show outK s (1 + 1) = s.left false j by rw [hje]; exact (left_all s).2]
                exact hg3.out
              clear hjg hge hje hg3 HRow
              generalize (s.sel false).length = ln at *
              go_wp2
              go_roundg go
              case measure => exact hgo.out.1
              case rel => exact ⟨1 + 1, by go_num, hgo.out.2, HG5.out⟩
        · have HA : Hid (∀ (u : Bool) (W : World), Below w.heap.size w W → LkV W b lk0 → Calls Try.prog 11 #[.pointer (some ⟨b, 0, none⟩), .bool u] W fun e w' => e = .returned (.int .i64 (0 : Nat)) ∧ LkV w' b lk0 ∧ Below w.heap.size w w') := fun u W hW hl =>
            (len_to (k := 0) hl (by cases u <;> rfl)).mono fun e w' ⟨h1, h2⟩ => ⟨h1, hl.over h2, hW.trans (h2.mono hW.size)⟩
          have hb9 := hg2.out.2.2
          have hl9 : LkV wr b lk0 := hg2.out.1
          clear hg2 hig2
          go_wp2_with (go_at_call 11; refine (HA.out _ _ (by assumption) (by assumption)).mono ?_; rintro e w9 ⟨rfl, hl9, hb9⟩)
          go_ret
          exact ⟨rfl, hb9⟩

end Go.Proofs.Ytljceoojbppaeaa
