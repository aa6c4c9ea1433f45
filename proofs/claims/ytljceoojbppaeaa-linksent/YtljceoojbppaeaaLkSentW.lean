/-
  The walk of LinkSent.
-/
import Derived.Test.YtljceoojbppaeaaLkSentM
namespace Go.Proofs.Ytljceoojbppaeaa
open Go.RowKit D

/-- what is sent, and what came, so far. -/
structure Snt (w wr : World) (b i : Nat) (s : Lk) (v u : Value) (S C : List (List Int)) : Prop where
  lk : LkV wr b s
  prs : Prs w.heap.size wr v u ⟨S, C⟩
  bel : Below w.heap.size w wr
  inv : SentI s S C
  n : S.length ≤ i ∧ C.length ≤ i
  lo : w.heap.size ≤ b
theorem Snt.over {w wr w' : World} {b i : Nat} {s : Lk} {v u : Value} {S C : List (List Int)} (h : Snt w wr b i s v u S C) (hb : Below wr.heap.size wr w') : Snt w w' b i s v u S C :=
  ⟨h.lk.over hb, h.prs.sk (L := []) (sk_below hb h.bel.size) (by simp) (by simp), h.bel.trans (hb.mono h.bel.size), h.inv, h.n, h.lo⟩
theorem Snt.next {w wr : World} {b i : Nat} {s : Lk} {v u : Value} {S C : List (List Int)} (h : Snt w wr b i s v u S C) : Snt w wr b (i + 1) s v u S C := ⟨h.lk, h.prs, h.bel, h.inv, ⟨Nat.le_succ_of_le h.n.1, Nat.le_succ_of_le h.n.2⟩, h.lo⟩
theorem Snt.turn {w wr w' : World} {b i : Nat} {s s' : Lk} {v u : Value} {S C : List (List Int)} (h : Snt w wr b i s v u S C) (hk : Kb b wr w') (hl : LkV w' b s') (hi : SentI s' S C) : Snt w w' b i s' v u S C ∧ Sk [30] w.heap.size wr w' := by
  have hs : Sk [30] w.heap.size wr w' := sk_kb hk h.lk.blk (by simp) h.lo
  exact ⟨⟨hl, h.prs.sk hs (by simp) (by simp), h.bel.trans hs.bel, hi, h.n, h.lo⟩, hs⟩
theorem Snt.ap0 {w wr w' : World} {b i : Nat} {s : Lk} {v v' u : Value} {S C : List (List Int)} {f : List Int} (h : Snt w wr b i s v u S C) (ha : ApT w.heap.size wr w' v v' (S ++ [f])) (hi : SentI s (S ++ [f]) C) : Snt w w' b (i + 1) s v' u (S ++ [f]) C := by
  obtain ⟨h1, h2⟩ := h.prs.app0 ha h.bel.size
  exact ⟨h.lk.sk h2 (by simp), h1, h.bel.trans h2.bel, hi, ⟨by rw [List.length_append, List.length_singleton]; have := h.n.1; omega, Nat.le_succ_of_le h.n.2⟩, h.lo⟩
theorem Snt.ap1 {w wr w' : World} {b i : Nat} {s : Lk} {v u u' : Value} {S C : List (List Int)} {f : List Int} (h : Snt w wr b i s v u S C) (ha : ApT w.heap.size wr w' u u' (C ++ [f])) (hi : SentI s S (C ++ [f])) : Snt w w' b (i + 1) s v u' S (C ++ [f]) := by
  obtain ⟨h1, h2⟩ := h.prs.app1 ha h.bel.size
  exact ⟨h.lk.sk h2 (by simp), h1, h.bel.trans h2.bel, hi, ⟨Nat.le_succ_of_le h.n.1, by rw [List.length_append, List.length_singleton]; have := h.n.2; omega⟩, h.lo⟩
/-- a link before its rows were told of it. -/
structure Sn0 (w wr : World) (b i : Nat) (s : Lk) (v u : Value) (S C : List (List Int)) : Prop where
  lk : LkV wr b s
  prs : Prs w.heap.size wr v u ⟨S, C⟩
  bel : Below w.heap.size w wr
  n : S.length ≤ i ∧ C.length ≤ i
  lo : w.heap.size ≤ b
theorem Snt.turn0 {w wr w' : World} {b i : Nat} {s s' : Lk} {v u : Value} {S C : List (List Int)} (h : Snt w wr b i s v u S C) (hk : Kb b wr w') (hl : LkV w' b s') : Sn0 w w' b i s' v u S C ∧ Sk [30] w.heap.size wr w' := by
  have hs : Sk [30] w.heap.size wr w' := sk_kb hk h.lk.blk (by simp) h.lo
  exact ⟨⟨hl, h.prs.sk hs (by simp) (by simp), h.bel.trans hs.bel, h.n, h.lo⟩, hs⟩
theorem Sn0.ap0 {w wr w' : World} {b i : Nat} {s : Lk} {v v' u : Value} {S C : List (List Int)} {f : List Int} (h : Sn0 w wr b i s v u S C) (ha : ApT w.heap.size wr w' v v' (S ++ [f])) (hi : SentI s (S ++ [f]) C) : Snt w w' b (i + 1) s v' u (S ++ [f]) C := by
  obtain ⟨h1, h2⟩ := h.prs.app0 ha h.bel.size
  exact ⟨h.lk.sk h2 (by simp), h1, h.bel.trans h2.bel, hi, ⟨by rw [List.length_append, List.length_singleton]; have := h.n.1; omega, Nat.le_succ_of_le h.n.2⟩, h.lo⟩
theorem Sn0.ap1 {w wr w' : World} {b i : Nat} {s : Lk} {v u u' : Value} {S C : List (List Int)} {f : List Int} (h : Sn0 w wr b i s v u S C) (ha : ApT w.heap.size wr w' u u' (C ++ [f])) (hi : SentI s S (C ++ [f])) : Snt w w' b (i + 1) s v u' S (C ++ [f]) := by
  obtain ⟨h1, h2⟩ := h.prs.app1 ha h.bel.size
  exact ⟨h.lk.sk h2 (by simp), h1, h.bel.trans h2.bel, hi, ⟨Nat.le_succ_of_le h.n.1, by rw [List.length_append, List.length_singleton]; have := h.n.2; omega⟩, h.lo⟩

theorem count_step (l : List (List Int)) (f : List Int) (k : Nat) (h : k < l.length) : List.count f (l.take (k + 1)) = List.count f (l.take k) + if l[k] = f then 1 else 0 := by
  rw [List.take_succ_eq_append_getElem h, List.count_append]
  congr 1
  by_cases e : l[k] = f
  · rw [if_pos e, e]
    exact List.count_singleton_self
  · rw [if_neg e]
    exact List.count_eq_zero.2 fun hm => e (List.mem_singleton.1 hm).symm

set_option maxRecDepth 20000 in
set_option maxHeartbeats 16000000 in
theorem sent_walk (w : World) (v : Value) (cs : List Cal) (h : CalS w v cs) :
    Calls Try.prog 5 #[v] w fun e w' => e = .returned (.bool true) ∧ Below w.heap.size w w' := by
  obtain ⟨p1, c1, rfl⟩ : ∃ p c, v = .slice p cs.length c := by obtain ⟨⟨p, c, e, _⟩, _⟩ := h; exact ⟨p, c, e⟩
  have HF : Hid (∀ W, Below w.heap.size w W → CalS W (.slice p1 cs.length c1) cs) := fun W hW => h.over hW
  have HI : Hid (∀ u l, PcV w u l → PcT w.heap.size w u l) := fun u l hu => pcT_in hu (Nat.le_refl _)
  clear h
  have hzv : ∀ W, (zeroValue 30).run Try.prog W = .ok (.agg zeroLk) W := zero_run
  have HN : Hid (∀ W, LkV (W.alloc (.cells zeroLk 30)) W.heap.size lk0 ∧ Below W.heap.size W (W.alloc (.cells zeroLk 30))) := fun W => ⟨lk_new W, alloc_below W _⟩
  generalize zeroLk = Z at *
  go_enter Try.func5, Try.ntmps5
  go_upto_region 3 with (first
    | (go_at_call 8; refine (awake_any _).mono ?_; rintro e w1 ⟨rfl, hb1⟩)
    | (go_at_call 9; refine (few_any _ _ cs (HF.out _ hb1)).mono ?_; rintro e w2 ⟨bb, rfl, hw2, hbb⟩; subst hw2))
  cases bb with
  | false =>
    clear hbb
    go_wp2
    go_ret
    exact ⟨rfl, hb1⟩
  | true =>
    have h200 : (cs.length : Int) ≤ 200 := by have := hbb rfl; omega
    have HO : Hid (Snt w (w2.alloc (.cells Z 30)) w2.heap.size 0 lk0 (.slice none 0 0) (.slice none 0 0) [] []) :=
      ⟨(HN.out w2).1, ⟨rowS_nil _ _, rowS_nil _ _, fun k e => by cases e⟩, hb1.trans ((HN.out w2).2.mono hb1.size), SentI.nil, ⟨Nat.le_refl _, Nat.le_refl _⟩, hb1.size⟩
    clear HN hbb hb1
    go_upto_region 6 with fail
    clear hzv
    generalize w2.alloc (.cells Z 30) = w3 at *
    generalize w2.heap.size = b at *
    go_wp2
    go_loopg [6, 7, 8] cs.length (fun g v6 v7 vi wr => ∃ (i : Nat) (s : Lk) (S C : List (List Int)), vi = .int .i64 i ∧ i + g = cs.length ∧ Hid (Snt w wr b i s v6 v7 S C))
    case atStart => exact ⟨0, lk0, [], [], rfl, Nat.zero_add _, HO.out⟩
    case round =>
      obtain ⟨i, s, S, C, rfl, hig, hg⟩ := hrel
      obtain ⟨sp, sc, rfl, _⟩ := hg.out.prs.r0.slice
      obtain ⟨tp, tc, rfl, _⟩ := hg.out.prs.r1.slice
      have hgk : Hid (i + gk = cs.length) := hig
      by_cases hlt : i < cs.length
      · have hi1 : (i : Int) < (cs.length : Int) := by omega
        have HLt : Hid (i < cs.length ∧ i < 200) := ⟨hlt, by omega⟩
        obtain ⟨pb, po, uv, rfl, hc0⟩ := calR_at (HF.out w (Below.refl _ _)).1 hlt
        have HPt : Hid (PcT w.heap.size w uv cs[i].b) := HI.out _ _ hc0.pc
        obtain ⟨a', c', huv, _, _⟩ := id hc0.pc
        subst huv
        have hc := hc0.over hg.out.bel
        obtain ⟨x0, x1, x2, x3, x4, x5, x6⟩ := hc
        generalize cs[i].act = act at *
        generalize cs[i].n = n at *
        generalize cs[i].bit = bit at *
        generalize cs[i].up = up at *
        generalize cs[i].b = f at *
        clear hc0 hig hlt x5
        have HNw : Hid (n < 9223372036854775808) := x6
        clear x6
        generalize cs.length = len at *
        have hi0 : (0 : Int) ≤ (i : Int) := by omega
        go_upto_region 12 with fail
        have HBx : Hid (Blk (wr.alloc (.cells #[.int .i64 act, .int .i64 n, .int .i64 bit, .bool up, .slice a' f.length c'] 39)) wr.heap.size 39 [.int .i64 act, .int .i64 n, .int .i64 bit, .bool up, .slice a' f.length c']) := blk_new wr _ _
        have HG3 : Hid (Snt w (wr.alloc (.cells #[.int .i64 act, .int .i64 n, .int .i64 bit, .bool up, .slice a' f.length c'] 39)) b i s (.slice sp S.length sc) (.slice tp C.length tc) S C) := hg.out.over (alloc_below wr _)
        have HBs : Hid (Bs (wr.alloc (.cells #[.int .i64 act, .int .i64 n, .int .i64 bit, .bool up, .slice a' f.length c'] 39)) a' f.length f) := by
          obtain ⟨_, _, e, hb, _⟩ := (HPt.out.1.over HG3.out.bel)
          cases e
          exact hb
        clear x0 x1 x2 x3 x4 hg
        generalize wr.alloc (.cells #[.int .i64 act, .int .i64 n, .int .i64 bit, .bool up, .slice a' f.length c'] 39) = w3 at *
        generalize wr.heap.size = q at *
        have z0 := HBx.out.cell 0
        have z1 := HBx.out.cell 1
        have z2 := HBx.out.cell 2
        have z3 := HBx.out.cell 3
        have z4 := HBx.out.cell 4
        simp only [List.getElem?_cons_zero, List.getElem?_cons_succ] at z0 z1 z2 z3 z4
        rcases (show act = 0 ∨ act = 1 ∨ act = 2 ∨ act = 3 ∨ (¬ act = 0 ∧ ¬ act = 1 ∧ ¬ act = 2 ∧ ¬ act = 3) by omega) with rfl | rfl | rfl | rfl | ⟨hA0, hA1, hA2, hA3⟩
        · go_upto_region 15 with fail
          cases hm : maySend (s.sel up) f with
          | true =>
            have HM : Hid (maySend (s.sel up) f = true) := hm
            have HS := send_to (up := up) (c := c') HG3.out.lk HBs.out HM.out rfl
            have HIv : Hid (SentI (s.send up f) (S ++ [f]) C) := HG3.out.inv.send up f HM.out
            clear hm
            generalize s.send up f = s' at *
            go_upto_region 16 with (go_at_call 13; refine HS.mono ?_; rintro e w4 ⟨rfl, h4, k4⟩)
            obtain ⟨HG4', hs4⟩ := HG3.out.turn0 k4 h4
            have HG4 : Hid (Sn0 w w4 b i s' (.slice sp S.length sc) (.slice tp C.length tc) S C) := HG4'
            have y4 := (hs4.blk HBx.out (by simp)).cell 4
            simp only [List.getElem?_cons_zero, List.getElem?_cons_succ] at y4
            clear HS h4 k4 hs4 HG4' z0 z1 z2 z3 z4
            have HPt4 : Hid (PcT w.heap.size w4 (.slice a' f.length c') f) := HPt.out.over (Nat.le_refl _) HG4.out.bel
            go_wp2_with (refine app_row1 rfl (.tmp 46) (.tmp 49) rfl (.slice sp S.length sc) S rfl HG4.out.prs.r0 (.slice a' f.length c') f HPt4.out _ rfl rfl (by have := HG4.out.n.1; have := HLt.out; omega) HG4.out.bel.size ?_; intro v5 w5 ha5)
            have HG5 : Hid (Snt w w5 b (i + 1) s' v5 (.slice tp C.length tc) (S ++ [f]) C) := HG4.out.ap0 ha5 HIv.out
            go_roundg (gk - 1)
            case measure => (have := hgk.out; have := HLt.out; omega)
            case rel => exact ⟨i + 1, _, _, _, by go_num, by have := hgk.out; have := HLt.out; omega, HG5.out⟩
          | false =>
            have HM : Hid (maySend (s.sel up) f = false) := hm
            have HS := send_to (up := up) (c := c') HG3.out.lk HBs.out HM.out rfl
            have HIv : Hid (SentI (s.send up f) S C) := by rw [show s.send up f = s from Lk.send_no HM.out]; exact HG3.out.inv
            clear hm
            generalize s.send up f = s' at *
            go_upto_region 16 with (go_at_call 13; refine HS.mono ?_; rintro e w4 ⟨rfl, h4, k4⟩)
            obtain ⟨HG4', hs4⟩ := HG3.out.turn0 k4 h4
            have HG4 : Hid (Sn0 w w4 b i s' (.slice sp S.length sc) (.slice tp C.length tc) S C) := HG4'
            have y4 := (hs4.blk HBx.out (by simp)).cell 4
            simp only [List.getElem?_cons_zero, List.getElem?_cons_succ] at y4
            clear HS h4 k4 hs4 HG4' z0 z1 z2 z3 z4
            have HG5 : Hid (Snt w w4 b (i + 1) s' (.slice sp S.length sc) (.slice tp C.length tc) S C) := Snt.next ⟨HG4.out.lk, HG4.out.prs, HG4.out.bel, HIv.out, HG4.out.n, HG4.out.lo⟩
            go_wp2
            go_roundg (gk - 1)
            case measure => (have := hgk.out; have := HLt.out; omega)
            case rel => exact ⟨i + 1, _, _, _, by go_num, by have := hgk.out; have := HLt.out; omega, HG5.out⟩
        · go_upto_region 15 with fail
          cases hm : maySend (s.sel up) f with
          | true =>
            have HM : Hid (maySend (s.sel up) f = true) := hm
            have HS := send_to (up := up) (c := c') HG3.out.lk HBs.out HM.out rfl
            have HIv : Hid (SentI (s.send up f) (S ++ [f]) C) := HG3.out.inv.send up f HM.out
            clear hm
            generalize s.send up f = s' at *
            go_upto_region 16 with (go_at_call 13; refine HS.mono ?_; rintro e w4 ⟨rfl, h4, k4⟩)
            obtain ⟨HG4', hs4⟩ := HG3.out.turn0 k4 h4
            have HG4 : Hid (Sn0 w w4 b i s' (.slice sp S.length sc) (.slice tp C.length tc) S C) := HG4'
            have y4 := (hs4.blk HBx.out (by simp)).cell 4
            simp only [List.getElem?_cons_zero, List.getElem?_cons_succ] at y4
            clear HS h4 k4 hs4 HG4' z0 z1 z2 z3 z4
            have HPt4 : Hid (PcT w.heap.size w4 (.slice a' f.length c') f) := HPt.out.over (Nat.le_refl _) HG4.out.bel
            go_wp2_with (refine app_row1 rfl (.tmp 46) (.tmp 49) rfl (.slice sp S.length sc) S rfl HG4.out.prs.r0 (.slice a' f.length c') f HPt4.out _ rfl rfl (by have := HG4.out.n.1; have := HLt.out; omega) HG4.out.bel.size ?_; intro v5 w5 ha5)
            have HG5 : Hid (Snt w w5 b (i + 1) s' v5 (.slice tp C.length tc) (S ++ [f]) C) := HG4.out.ap0 ha5 HIv.out
            go_roundg (gk - 1)
            case measure => (have := hgk.out; have := HLt.out; omega)
            case rel => exact ⟨i + 1, _, _, _, by go_num, by have := hgk.out; have := HLt.out; omega, HG5.out⟩
          | false =>
            have HM : Hid (maySend (s.sel up) f = false) := hm
            have HS := send_to (up := up) (c := c') HG3.out.lk HBs.out HM.out rfl
            have HIv : Hid (SentI (s.send up f) S C) := by rw [show s.send up f = s from Lk.send_no HM.out]; exact HG3.out.inv
            clear hm
            generalize s.send up f = s' at *
            go_upto_region 16 with (go_at_call 13; refine HS.mono ?_; rintro e w4 ⟨rfl, h4, k4⟩)
            obtain ⟨HG4', hs4⟩ := HG3.out.turn0 k4 h4
            have HG4 : Hid (Sn0 w w4 b i s' (.slice sp S.length sc) (.slice tp C.length tc) S C) := HG4'
            have y4 := (hs4.blk HBx.out (by simp)).cell 4
            simp only [List.getElem?_cons_zero, List.getElem?_cons_succ] at y4
            clear HS h4 k4 hs4 HG4' z0 z1 z2 z3 z4
            have HG5 : Hid (Snt w w4 b (i + 1) s' (.slice sp S.length sc) (.slice tp C.length tc) S C) := Snt.next ⟨HG4.out.lk, HG4.out.prs, HG4.out.bel, HIv.out, HG4.out.n, HG4.out.lo⟩
            go_wp2
            go_roundg (gk - 1)
            case measure => (have := hgk.out; have := HLt.out; omega)
            case rel => exact ⟨i + 1, _, _, _, by go_num, by have := hgk.out; have := HLt.out; omega, HG5.out⟩
        · go_upto_region 18 with fail
          cases hm : hasN (s.sel up) n with
          | true =>
            have HM : Hid (hasN (s.sel up) n = true) := hm
            have HS := take_tag_to (up := up) HG3.out.lk HM.out rfl rfl
            have HIv : Hid (SentI (s.take up n) S (C ++ [s.came up n])) := HG3.out.inv.took up n HM.out
            clear hm
            generalize s.take up n = s' at *
            generalize s.came up n = m at *
            go_upto_region 19 with (go_at_call 14; refine HS.mono ?_; rintro e w4 ⟨v4, rfl, hp4, hn4, h4, k4⟩)
            obtain ⟨HG4', hs4⟩ := HG3.out.turn0 k4 h4
            have HG4 : Hid (Sn0 w w4 b i s' (.slice sp S.length sc) (.slice tp C.length tc) S C) := HG4'
            have HPt4 : Hid (PcT w.heap.size w4 v4 m) := hp4 _
            obtain ⟨a4, c4, hv4, _, _⟩ := id HPt4.out.1
            subst hv4
            clear HS h4 k4 hs4 HG4' z0 z1 z2 z3 z4 hp4 hn4
            go_wp2_with (refine app_row1 rfl (.tmp 63) (.tmp 65) rfl (.slice tp C.length tc) C rfl HG4.out.prs.r1 (.slice a4 m.length c4) m HPt4.out _ rfl rfl (by have := HG4.out.n.2; have := HLt.out; omega) HG4.out.bel.size ?_; intro v5 w5 ha5)
            have HG5 : Hid (Snt w w5 b (i + 1) s' (.slice sp S.length sc) v5 S (C ++ [m])) := HG4.out.ap1 ha5 HIv.out
            go_roundg (gk - 1)
            case measure => (have := hgk.out; have := HLt.out; omega)
            case rel => exact ⟨i + 1, _, _, _, by go_num, by have := hgk.out; have := HLt.out; omega, HG5.out⟩
          | false =>
            have HM : Hid (hasN (s.sel up) n = false) := hm
            have HS := take_tag_to (up := up) HG3.out.lk HM.out rfl rfl
            have HIv : Hid (SentI (s.take up n) S C) := HG3.out.inv.lost up n
            clear hm
            generalize s.take up n = s' at *
            generalize s.came up n = m at *
            go_upto_region 19 with (go_at_call 14; refine HS.mono ?_; rintro e w4 ⟨v4, rfl, hp4, hn4, h4, k4⟩)
            obtain ⟨HG4', hs4⟩ := HG3.out.turn0 k4 h4
            have HG4 : Hid (Sn0 w w4 b i s' (.slice sp S.length sc) (.slice tp C.length tc) S C) := HG4'
            have HPt4 : Hid (PcT w.heap.size w4 v4 m) := hp4 _
            obtain ⟨a4, c4, hv4, _, _⟩ := id HPt4.out.1
            subst hv4
            clear HS h4 k4 hs4 HG4' z0 z1 z2 z3 z4 hp4 hn4
            have HG5 : Hid (Snt w w4 b (i + 1) s' (.slice sp S.length sc) (.slice tp C.length tc) S C) := Snt.next ⟨HG4.out.lk, HG4.out.prs, HG4.out.bel, HIv.out, HG4.out.n, HG4.out.lo⟩
            go_wp2
            go_roundg (gk - 1)
            case measure => (have := hgk.out; have := HLt.out; omega)
            case rel => exact ⟨i + 1, _, _, _, by go_num, by have := hgk.out; have := HLt.out; omega, HG5.out⟩
        · go_upto_region 22 with fail
          have HS := drop_any b s _ HG3.out.lk n HNw.out
          have HIv : Hid (SentI (s.drop n) S C) := HG3.out.inv.lost _ _
          generalize s.has n = q2 at *
          generalize s.drop n = s' at *
          go_wp2_with (go_at_call 15; refine HS.mono ?_; rintro e w4 ⟨rfl, h4, k4⟩)
          have HG5 : Hid (Snt w w4 b (i + 1) s' (.slice sp S.length sc) (.slice tp C.length tc) S C) := (HG3.out.turn k4 h4 HIv.out).1.next
          go_roundg (gk - 1)
          case measure => (have := hgk.out; have := HLt.out; omega)
          case rel => exact ⟨i + 1, _, _, _, by go_num, by have := hgk.out; have := HLt.out; omega, HG5.out⟩
        · have hB0 : (act == 0) = false := beq_eq_false_iff_ne.2 hA0
          have hB1 : (act == 1) = false := beq_eq_false_iff_ne.2 hA1
          have hB2 : (act == 2) = false := beq_eq_false_iff_ne.2 hA2
          have hB3 : (act == 3) = false := beq_eq_false_iff_ne.2 hA3
          have HG5 : Hid (Snt w w3 b (i + 1) s (.slice sp S.length sc) (.slice tp C.length tc) S C) := HG3.out.next
          go_wp2
          go_roundg (gk - 1)
          case measure => (have := hgk.out; have := HLt.out; omega)
          case rel => exact ⟨i + 1, _, _, _, by go_num, by have := hgk.out; have := HLt.out; omega, HG5.out⟩
      · have hi1 : ¬ (i : Int) < (cs.length : Int) := by omega
        have hi200 : i ≤ 200 := by omega
        have H200 : Hid (S.length ≤ 200 ∧ C.length ≤ 200) := ⟨Nat.le_trans hg.out.n.1 hi200, Nat.le_trans hg.out.n.2 hi200⟩
        have hs200 : (S.length : Int) ≤ 200 := by have := H200.out.1; omega
        have hc200 : (C.length : Int) ≤ 200 := by have := H200.out.2; omega
        clear hig hgk hlt
        generalize cs.length = len at *
        go_wp2
        go_loopg [12] C.length (fun g vj wr => ∃ j : Nat, vj = .int .i64 j ∧ j + g = C.length ∧ Hid (Snt w wr b i s (.slice sp S.length sc) (.slice tp C.length tc) S C))
        case atStart => exact ⟨0, rfl, Nat.zero_add _, hg.out⟩
        case round =>
          clear hg
          obtain ⟨j, rfl, hjg, hg2⟩ := hrel
          by_cases hj : j < C.length
          · have hj1 : (j : Int) < (C.length : Int) := by omega
            have HCj : Hid (j < C.length) := hj
            have hgo : Hid (gk - 1 < gk ∧ j + 1 + (gk - 1) = C.length) := ⟨by omega, by omega⟩
            generalize gk - 1 = go at *
            have HCnt : Hid (List.count C[j] C ≤ List.count C[j] S) := Nat.le_trans (Nat.le_add_right _ _) (hg2.out.inv.cnt C[j])
            clear hjg
            go_wp2
            go_loopg [13, 15] S.length (fun g va vk wr => ∃ k : Nat, vk = .int .i64 k ∧ va = .int .i64 (List.count C[j] (S.take k) : Nat) ∧ k + g = S.length ∧ Hid (Snt w wr b i s (.slice sp S.length sc) (.slice tp C.length tc) S C))
            case atStart => exact ⟨0, rfl, rfl, Nat.zero_add _, hg2.out⟩
            case round =>
              obtain ⟨k, rfl, rfl, hkg, hg3⟩ := hrel
              have hkk : Hid (k + gk = S.length) := hkg
              rcases Nat.lt_or_ge k S.length with hlt | hge
              · have hk1 : (k : Int) < (S.length : Int) := by omega
                have HLt : Hid (k < S.length) := hlt
                obtain ⟨g1, a1, d1, e1, x1, w01, w02, y1, w03⟩ := hg3.out.prs.r0.at hlt
                obtain ⟨g2, a2, d2, e2, x2, w04, w05, y2, w06⟩ := hg3.out.prs.r1.at HCj.out
                clear w01 w02 w03 w04 w05 w06
                dsimp only at e1 x1 y1 e2 x2 y2
                have HCn : Hid (List.count C[j] (S.take (k + 1)) = List.count C[j] (S.take k) + if S[k] = C[j] then 1 else 0) := count_step S C[j] k hlt
                have HCb : Hid (List.count C[j] (S.take k) ≤ 200) := Nat.le_trans List.count_le_length (by rw [List.length_take]; have := H200.out; omega)
                have HSt : Hid ((S[k] = C[j] → ((strOfNums S[k]).toList == (strOfNums C[j]).toList) = true) ∧ (¬ S[k] = C[j] → ((strOfNums S[k]).toList == (strOfNums C[j]).toList) = false)) :=
                  ⟨fun e => by rw [e]; exact beq_self_eq_true _, fun e => beq_eq_false_iff_ne.2 fun h => e (str_inj' y1.2.1 y2.2.1 h)⟩
                have HG4 : Hid (Snt w wr.drew b i s (.slice sp S.length sc) (.slice tp C.length tc) S C) := hg3.out.over (Below.refl _ _).drew
                have s1 := run_text y1 d1
                have s2 := run_text y2 d2
                have r1 := run_text (y1.below (Below.refl _ _).drew) d1
                have r2 := run_text (y2.below (Below.refl _ _).drew) d2
                have z1 := cellK x1 (Below.refl wr.heap.size wr).drew
                have z2 := cellK x2 (Below.refl wr.heap.size wr).drew
                have hk0 : (0 : Int) ≤ (k : Int) := by omega
                have hj0 : (0 : Int) ≤ (j : Int) := by omega
                have hj1 : (j : Int) < (C.length : Int) := by have := HCj.out; omega
                by_cases heq : S[k] = C[j]
                · have hbq := HSt.out.1 heq
                  rw [if_pos heq] at HCn
                  clear HSt heq y1 y2 hg3
                  generalize S[k].length = n1 at *
                  generalize strOfNums S[k] = t1 at *
                  generalize C[j].length = n2 at *
                  generalize strOfNums C[j] = t2 at *
                  generalize hca : List.count C[j] (S.take k) = ca at *
                  have HCa : Hid (List.count C[j] (S.take k) = ca) := hca
                  clear hca hkg hlt
                  subst e1 e2
                  have hcb : (ca : Int) ≤ 200 := by have := HCb.out; omega
                  have hS0 : (fun W => W.cell? ⟨g1, k, none⟩ = some (.slice a1 n1 d1) ∧ W.cell? ⟨g2, j, none⟩ = some (.slice a2 n2 d2) ∧ (convert 37 9 (.slice a1 n1 d1)).run Try.prog W = .ok (.string t1) W ∧ (convert 37 9 (.slice a2 n2 d2)).run Try.prog W = .ok (.string t2) W) wr := ⟨x1, x2, s1, s2⟩
                  have hS1 : (fun W => W.cell? ⟨g1, k, none⟩ = some (.slice a1 n1 d1) ∧ W.cell? ⟨g2, j, none⟩ = some (.slice a2 n2 d2) ∧ (convert 37 9 (.slice a1 n1 d1)).run Try.prog W = .ok (.string t1) W ∧ (convert 37 9 (.slice a2 n2 d2)).run Try.prog W = .ok (.string t2) W) wr.drew := ⟨z1, z2, r1, r2⟩
                  go_upto_region 31 with fail
                  go_region_held3 (fun W => W.cell? ⟨g1, k, none⟩ = some (.slice a1 n1 d1) ∧ W.cell? ⟨g2, j, none⟩ = some (.slice a2 n2 d2) ∧ (convert 37 9 (.slice a1 n1 d1)).run Try.prog W = .ok (.string t1) W ∧ (convert 37 9 (.slice a2 n2 d2)).run Try.prog W = .ok (.string t2) W) (first | assumption | go_keep) (fail)
                  go_wp2
                  go_roundg (gk - 1)
                  case measure => (have := hkk.out; have := HLt.out; omega)
                  case rel => exact ⟨k + 1, by go_num, by rw [HCn.out]; go_num, by have := hkk.out; have := HLt.out; omega, HG4.out⟩
                · have hbq := HSt.out.2 heq
                  rw [if_neg heq] at HCn
                  clear HSt heq y1 y2 hg3
                  generalize S[k].length = n1 at *
                  generalize strOfNums S[k] = t1 at *
                  generalize C[j].length = n2 at *
                  generalize strOfNums C[j] = t2 at *
                  generalize hca : List.count C[j] (S.take k) = ca at *
                  have HCa : Hid (List.count C[j] (S.take k) = ca) := hca
                  clear hca hkg hlt
                  subst e1 e2
                  have hcb : (ca : Int) ≤ 200 := by have := HCb.out; omega
                  have hS0 : (fun W => W.cell? ⟨g1, k, none⟩ = some (.slice a1 n1 d1) ∧ W.cell? ⟨g2, j, none⟩ = some (.slice a2 n2 d2) ∧ (convert 37 9 (.slice a1 n1 d1)).run Try.prog W = .ok (.string t1) W ∧ (convert 37 9 (.slice a2 n2 d2)).run Try.prog W = .ok (.string t2) W) wr := ⟨x1, x2, s1, s2⟩
                  have hS1 : (fun W => W.cell? ⟨g1, k, none⟩ = some (.slice a1 n1 d1) ∧ W.cell? ⟨g2, j, none⟩ = some (.slice a2 n2 d2) ∧ (convert 37 9 (.slice a1 n1 d1)).run Try.prog W = .ok (.string t1) W ∧ (convert 37 9 (.slice a2 n2 d2)).run Try.prog W = .ok (.string t2) W) wr.drew := ⟨z1, z2, r1, r2⟩
                  go_upto_region 31 with fail
                  go_region_held3 (fun W => W.cell? ⟨g1, k, none⟩ = some (.slice a1 n1 d1) ∧ W.cell? ⟨g2, j, none⟩ = some (.slice a2 n2 d2) ∧ (convert 37 9 (.slice a1 n1 d1)).run Try.prog W = .ok (.string t1) W ∧ (convert 37 9 (.slice a2 n2 d2)).run Try.prog W = .ok (.string t2) W) (first | assumption | go_keep) (fail)
                  go_wp2
                  go_roundg (gk - 1)
                  case measure => (have := hkk.out; have := HLt.out; omega)
                  case rel => exact ⟨k + 1, by go_num, by rw [HCn.out]; go_num, by have := hkk.out; have := HLt.out; omega, HG4.out⟩
              · have hk1 : ¬ (k : Int) < (S.length : Int) := by omega
                have hkl : k = S.length := by omega
                have hg2 : Hid (Snt w wr b i s (.slice sp S.length sc) (.slice tp C.length tc) S C) := hg3
                have HK : Hid (List.count C[j] (S.take k) = List.count C[j] S) := by rw [hkl, List.take_length]; rfl
                rw [HK.out]
                clear hkl hg3 HK hkg hge hkk
                go_wp2
                go_loopg [14, 16] C.length (fun g va vk wr => ∃ k : Nat, vk = .int .i64 k ∧ va = .int .i64 (List.count C[j] (C.take k) : Nat) ∧ k + g = C.length ∧ Hid (Snt w wr b i s (.slice sp S.length sc) (.slice tp C.length tc) S C))
                case atStart => exact ⟨0, rfl, rfl, Nat.zero_add _, hg2.out⟩
                case round =>
                  obtain ⟨k, rfl, rfl, hkg, hg3⟩ := hrel
                  have hkk : Hid (k + gk = C.length) := hkg
                  rcases Nat.lt_or_ge k C.length with hlt | hge
                  · have hk1 : (k : Int) < (C.length : Int) := by omega
                    have HLt : Hid (k < C.length) := hlt
                    obtain ⟨g1, a1, d1, e1, x1, w01, w02, y1, w03⟩ := hg3.out.prs.r1.at hlt
                    obtain ⟨g2, a2, d2, e2, x2, w04, w05, y2, w06⟩ := hg3.out.prs.r1.at HCj.out
                    clear w01 w02 w03 w04 w05 w06
                    dsimp only at e1 x1 y1 e2 x2 y2
                    have HCn : Hid (List.count C[j] (C.take (k + 1)) = List.count C[j] (C.take k) + if C[k] = C[j] then 1 else 0) := count_step C C[j] k hlt
                    have HCb : Hid (List.count C[j] (C.take k) ≤ 200) := Nat.le_trans List.count_le_length (by rw [List.length_take]; have := H200.out; omega)
                    have HSt : Hid ((C[k] = C[j] → ((strOfNums C[k]).toList == (strOfNums C[j]).toList) = true) ∧ (¬ C[k] = C[j] → ((strOfNums C[k]).toList == (strOfNums C[j]).toList) = false)) :=
                      ⟨fun e => by rw [e]; exact beq_self_eq_true _, fun e => beq_eq_false_iff_ne.2 fun h => e (str_inj' y1.2.1 y2.2.1 h)⟩
                    have HG4 : Hid (Snt w wr.drew b i s (.slice sp S.length sc) (.slice tp C.length tc) S C) := hg3.out.over (Below.refl _ _).drew
                    have s1 := run_text y1 d1
                    have s2 := run_text y2 d2
                    have r1 := run_text (y1.below (Below.refl _ _).drew) d1
                    have r2 := run_text (y2.below (Below.refl _ _).drew) d2
                    have z1 := cellK x1 (Below.refl wr.heap.size wr).drew
                    have z2 := cellK x2 (Below.refl wr.heap.size wr).drew
                    have hk0 : (0 : Int) ≤ (k : Int) := by omega
                    have hj0 : (0 : Int) ≤ (j : Int) := by omega
                    have hj1 : (j : Int) < (C.length : Int) := by have := HCj.out; omega
                    by_cases heq : C[k] = C[j]
                    · have hbq := HSt.out.1 heq
                      rw [if_pos heq] at HCn
                      clear HSt heq y1 y2 hg3
                      generalize C[k].length = n1 at *
                      generalize strOfNums C[k] = t1 at *
                      generalize C[j].length = n2 at *
                      generalize strOfNums C[j] = t2 at *
                      generalize hca : List.count C[j] (C.take k) = ca at *
                      have HCa : Hid (List.count C[j] (C.take k) = ca) := hca
                      clear hca hkg hlt
                      obtain rfl : g2 = g1 := by
                        have h := e1.symm.trans e2
                        injection h with h
                        injection h with h
                        exact h.symm
                      clear e2
                      subst e1
                      have hcb : (ca : Int) ≤ 200 := by have := HCb.out; omega
                      have hS0 : (fun W => W.cell? ⟨g2, k, none⟩ = some (.slice a1 n1 d1) ∧ W.cell? ⟨g2, j, none⟩ = some (.slice a2 n2 d2) ∧ (convert 37 9 (.slice a1 n1 d1)).run Try.prog W = .ok (.string t1) W ∧ (convert 37 9 (.slice a2 n2 d2)).run Try.prog W = .ok (.string t2) W) wr := ⟨x1, x2, s1, s2⟩
                      have hS1 : (fun W => W.cell? ⟨g2, k, none⟩ = some (.slice a1 n1 d1) ∧ W.cell? ⟨g2, j, none⟩ = some (.slice a2 n2 d2) ∧ (convert 37 9 (.slice a1 n1 d1)).run Try.prog W = .ok (.string t1) W ∧ (convert 37 9 (.slice a2 n2 d2)).run Try.prog W = .ok (.string t2) W) wr.drew := ⟨z1, z2, r1, r2⟩
                      go_upto_region 36 with fail
                      go_region_held3 (fun W => W.cell? ⟨g2, k, none⟩ = some (.slice a1 n1 d1) ∧ W.cell? ⟨g2, j, none⟩ = some (.slice a2 n2 d2) ∧ (convert 37 9 (.slice a1 n1 d1)).run Try.prog W = .ok (.string t1) W ∧ (convert 37 9 (.slice a2 n2 d2)).run Try.prog W = .ok (.string t2) W) (first | assumption | go_keep) (fail)
                      go_wp2
                      go_roundg (gk - 1)
                      case measure => (have := hkk.out; have := HLt.out; omega)
                      case rel => exact ⟨k + 1, by go_num, by rw [HCn.out]; go_num, by have := hkk.out; have := HLt.out; omega, HG4.out⟩
                    · have hbq := HSt.out.2 heq
                      rw [if_neg heq] at HCn
                      clear HSt heq y1 y2 hg3
                      generalize C[k].length = n1 at *
                      generalize strOfNums C[k] = t1 at *
                      generalize C[j].length = n2 at *
                      generalize strOfNums C[j] = t2 at *
                      generalize hca : List.count C[j] (C.take k) = ca at *
                      have HCa : Hid (List.count C[j] (C.take k) = ca) := hca
                      clear hca hkg hlt
                      obtain rfl : g2 = g1 := by
                        have h := e1.symm.trans e2
                        injection h with h
                        injection h with h
                        exact h.symm
                      clear e2
                      subst e1
                      have hcb : (ca : Int) ≤ 200 := by have := HCb.out; omega
                      have hS0 : (fun W => W.cell? ⟨g2, k, none⟩ = some (.slice a1 n1 d1) ∧ W.cell? ⟨g2, j, none⟩ = some (.slice a2 n2 d2) ∧ (convert 37 9 (.slice a1 n1 d1)).run Try.prog W = .ok (.string t1) W ∧ (convert 37 9 (.slice a2 n2 d2)).run Try.prog W = .ok (.string t2) W) wr := ⟨x1, x2, s1, s2⟩
                      have hS1 : (fun W => W.cell? ⟨g2, k, none⟩ = some (.slice a1 n1 d1) ∧ W.cell? ⟨g2, j, none⟩ = some (.slice a2 n2 d2) ∧ (convert 37 9 (.slice a1 n1 d1)).run Try.prog W = .ok (.string t1) W ∧ (convert 37 9 (.slice a2 n2 d2)).run Try.prog W = .ok (.string t2) W) wr.drew := ⟨z1, z2, r1, r2⟩
                      go_upto_region 36 with fail
                      go_region_held3 (fun W => W.cell? ⟨g2, k, none⟩ = some (.slice a1 n1 d1) ∧ W.cell? ⟨g2, j, none⟩ = some (.slice a2 n2 d2) ∧ (convert 37 9 (.slice a1 n1 d1)).run Try.prog W = .ok (.string t1) W ∧ (convert 37 9 (.slice a2 n2 d2)).run Try.prog W = .ok (.string t2) W) (first | assumption | go_keep) (fail)
                      go_wp2
                      go_roundg (gk - 1)
                      case measure => (have := hkk.out; have := HLt.out; omega)
                      case rel => exact ⟨k + 1, by go_num, by rw [HCn.out]; go_num, by have := hkk.out; have := HLt.out; omega, HG4.out⟩
                  · have hk1 : ¬ (k : Int) < (C.length : Int) := by omega
                    have hkl : k = C.length := by omega
                    have hg2 : Hid (Snt w wr b i s (.slice sp S.length sc) (.slice tp C.length tc) S C) := hg3
                    have HK : Hid (List.count C[j] (C.take k) = List.count C[j] C) := by rw [hkl, List.take_length]; rfl
                    rw [HK.out]
                    clear hkl hg3 HK hkg hge hkk
                    have hle : ¬ ((List.count C[j] S : Nat) : Int) < ((List.count C[j] C : Nat) : Int) := by have := HCnt.out; omega
                    clear HCnt
                    generalize List.count C[j] S = ca at *
                    generalize List.count C[j] C = cb at *
                    go_wp2
                    go_roundg go
                    case measure => exact hgo.out.1
                    case rel => exact ⟨j + 1, by go_num, hgo.out.2, hg2.out⟩
          · have hj1 : ¬ (j : Int) < (C.length : Int) := by omega
            have HLo : Hid (∀ W, Below wr.heap.size wr W → LkV W b s) := fun W hW => hg2.out.lk.over hW
            have HA : Hid (∀ (u : Bool) (m : Nat) (W : World), Below wr.heap.size wr W → (s.sel u).length = m → Calls Try.prog 11 #[.pointer (some ⟨b, 0, none⟩), .bool u] W fun e w' => e = .returned (.int .i64 m) ∧ Below wr.heap.size wr w') := fun u m W hW hm =>
              (len_to (HLo.out W hW) hm).mono fun e w' ⟨h1, h2⟩ => ⟨h1, hW.trans (h2.mono hW.size)⟩
            obtain ⟨m1, hm1⟩ : ∃ m, (s.sel true).length = m := ⟨_, rfl⟩
            obtain ⟨m2, hm2⟩ : ∃ m, (s.sel false).length = m := ⟨_, rfl⟩
            have hsum : (C.length : Int) + (m1 : Int) + (m2 : Int) ≤ (S.length : Int) := by
              have h1 := hg2.out.inv.len
              unfold Lk.all at h1
              change s.u.length = m1 at hm1
              change s.d.length = m2 at hm2
              omega
            have hb9 : Below wr.heap.size wr wr := Below.refl _ _
            have HB9 : Hid (Below w.heap.size w wr) := hg2.out.bel
            clear hjg hj
            go_wp2_with (go_at_call 11; refine (HA.out _ _ _ (by assumption) (by assumption)).mono ?_; rintro e w9 ⟨rfl, hb9⟩)
            go_ret
            exact ⟨rfl, HB9.out.trans (hb9.mono HB9.out.size)⟩

end Go.Proofs.Ytljceoojbppaeaa
