/-
  The walk of FrameTurned.
-/
import Derived.Test.YtfjipaalelkpjaaFrCounts
namespace Go.Proofs.Ytfjipaalelkpjaa
open Go.RowKit D

theorem frame_err (a : Option Addr) (len cap : Nat) (w : World) (h : ¬ (1 ≤ len ∧ len ≤ 512)) : Calls Try.prog 10 #[.slice a len cap] w fun e w' => ∃ z : Int, z ≠ 0 ∧ e = .returned (.tuple #[.slice none 0 0, .int .i64 z]) ∧ w' = w := by
  rcases Nat.eq_zero_or_pos len with h0 | h0
  · subst h0
    exact (frame_none a cap w).mono fun e w' ⟨h1, h2⟩ => ⟨10, by decide, h1, h2⟩
  · exact (frame_long a len cap w (by omega)).mono fun e w' ⟨h1, h2⟩ => ⟨4, by decide, h1, h2⟩
/-- bytes that are exclusive-ored. -/
theorem xor8 (x y : Int) (x0 : 0 ≤ x) (x1 : x ≤ 255) (y0 : 0 ≤ y) (y1 : y ≤ 255) (hy : y ≠ 0) : 0 ≤ bits BinOp.xor IntKind.u8 x y ∧ bits BinOp.xor IntKind.u8 x y ≤ 255 ∧ bits BinOp.xor IntKind.u8 x y ≠ x := by
  obtain ⟨n, rfl⟩ := Int.eq_ofNat_of_zero_le x0
  obtain ⟨m, rfl⟩ := Int.eq_ofNat_of_zero_le y0
  have hn : n < 256 := by omega
  have hm : m < 256 := by omega
  have hm0 : m ≠ 0 := by omega
  have e : bits BinOp.xor IntKind.u8 (n : Int) (m : Int) = ((n ^^^ m : Nat) : Int) := u8_xor_nat n m hn hm
  rw [e]
  have h1 : n ^^^ m < 256 := Nat.xor_lt_two_pow (n := 8) hn hm
  refine ⟨by omega, by omega, fun h => hm0 ?_⟩
  have h2 : n ^^^ m = n := by omega
  have h3 : n ^^^ (n ^^^ m) = n ^^^ n := by rw [h2]
  rw [← Nat.xor_assoc, Nat.xor_self, Nat.zero_xor] at h3
  exact h3

theorem rem_any (t L : Nat) (hL : 0 < L) (W : World) : (binOp .rem 3 (.int .i64 t) (.int .i64 L)).run Try.prog W = .ok (.int .i64 ((t % L : Nat) : Int)) W := by
  rw [binOp_rem]
  unfold Op.intDiv
  rw [if_neg (by omega)]
  rfl
theorem Wt.set {w : World} {g off cap j : Nat} {l : List Int} {x : Int} (h : Wt w (.slice (some ⟨g, off, none⟩) l.length cap) l) (hj : j < l.length) (hx : 0 ≤ x ∧ x ≤ 255) : Wt (w.setCell ⟨g, off + j, none⟩ (.int .u8 x)) (.slice (some ⟨g, off, none⟩) l.length cap) (l.set j x) := by
  obtain ⟨hl, ⟨h, rfl⟩ | ⟨g, off, cap, h, h1, h2, h3, h4, h5, h6⟩⟩ := h
  · cases h
  · cases h
    refine ⟨fun z hz => ?_, .inr ⟨g, off, cap, by rw [List.length_set], by rw [List.length_set]; exact h1, h2, by simpa using h3, fun i hi => ?_, fun i => ?_, fun i hi => ?_⟩⟩
    · rcases List.mem_or_eq_of_mem_set hz with hz | hz
      · exact hl z hz
      · rw [hz]; exact hx
    · by_cases e : i = j
      · subst e
        rw [World.cell?_setCell_same' _ _ _ (h4 i hi)]
        rfl
      · rw [World.cell?_setCell_other _ _ _ _ (by intro h; apply e; injection h with _ h2; omega)]
        exact h4 i hi
    · rw [World.frozen?_setCell]
      exact h5 i
    · rw [List.length_set] at hi
      by_cases e : i = j
      · subst e
        rw [World.cell?_setCell_same' _ _ _ (h4 i (by omega)), List.getD_eq_getElem?_getD, List.getElem?_set_self hi]
        rfl
      · rw [World.cell?_setCell_other _ _ _ _ (by intro h; apply e; injection h with _ h2; omega), h6 i hi, List.getD_eq_getElem?_getD, List.getD_eq_getElem?_getD, List.getElem?_set_ne (Ne.symm e)]

theorem set_ne {l : List Int} {j : Nat} {x : Int} (hj : j < l.length) (hx : x ≠ l.getD j 0) : l.set j x ≠ l := fun h => hx (by
  have := congrArg (fun m => m.getD j 0) h
  rw [← this, List.getD_eq_getElem?_getD, List.getElem?_set_self hj]
  rfl)
theorem kp_at (w : World) (g k : Nat) (v : Value) : Kp (· = g) w (w.setCell ⟨g, k, none⟩ v) := kp_set w g k v

set_option maxRecDepth 100000 in
set_option maxHeartbeats 8000000 in
theorem turned_walk (w : World) (v : Value) (l : List Int) (t x : Int) (h : PcV w v l) (ht : (Lit.int .i64 t).wf = true) (hx : (Lit.int .u8 x).wf = true) :
    Calls Try.prog 7 #[v, .int .i64 t, .int .u8 x] w fun e w' => e = .returned (.bool true) ∧ Below w.heap.size w w' := by
  obtain ⟨a, cap, rfl, hb, hao⟩ := h
  have HB : Hid (Bs w a l.length l) := hb
  obtain ⟨x0, x1⟩ := bounds_u8 hx
  have HT : Hid ((Lit.int .i64 t).wf = true) := ht
  clear hb hx ht
  by_cases hok : 1 ≤ l.length ∧ l.length ≤ 512
  case neg =>
    generalize l.length = len at *
    go_enter Try.func7, Try.ntmps7
    go_upto_region 3 with (first
      | (go_at_call 9; refine (awake_any _).mono ?_; rintro e w1 ⟨rfl, hb1⟩)
      | (go_at_call 10; refine (frame_err a len cap _ hok).mono ?_; rintro e w2 ⟨z, hz, rfl, rfl⟩))
    have hz2 : (z == 0) = false := beq_eq_false_iff_ne.2 hz
    go_wp2
    go_ret
    exact ⟨rfl, hb1⟩
  obtain ⟨hok1, hok2⟩ := hok
  by_cases ht0 : t < 0
  · generalize hlen : l.length = len at *
    clear hlen
    go_enter Try.func7, Try.ntmps7
    go_upto_region 3 with (first
      | (go_at_call 9; refine (awake_any _).mono ?_; rintro e w1 ⟨rfl, hb1⟩)
      | (go_at_call 10; refine (frame_any a len cap l _ hok1 hok2 (HB.out.below hb1)).mono ?_; rintro e w2 ⟨f, rfl, hf, hb2, hof⟩))
    go_wp2
    go_ret
    exact ⟨rfl, hb1.trans (hb2.mono hb1.size)⟩
  by_cases hx0 : x = 0
  · subst hx0
    generalize hlen : l.length = len at *
    clear hlen
    go_enter Try.func7, Try.ntmps7
    go_upto_region 3 with (first
      | (go_at_call 9; refine (awake_any _).mono ?_; rintro e w1 ⟨rfl, hb1⟩)
      | (go_at_call 10; refine (frame_any a len cap l _ hok1 hok2 (HB.out.below hb1)).mono ?_; rintro e w2 ⟨f, rfl, hf, hb2, hof⟩))
    go_wp2
    go_ret
    exact ⟨rfl, hb1.trans (hb2.mono hb1.size)⟩
  obtain ⟨t, rfl⟩ : ∃ n : Nat, t = (n : Int) := ⟨t.toNat, by omega⟩
  clear ht0
  have hxq : (x == 0) = false := beq_eq_false_iff_ne.2 hx0
  have hrem := rem_any t (l.length + 8) (by omega)
  have hfl := frm_len sm l
  have hjl : t % (l.length + 8) < l.length + 8 := Nat.mod_lt _ (by omega)
  have HJ : Hid (t % (l.length + 8) < (frm sm l).length) := by unfold Hid; rw [hfl]; exact hjl
  have HL : Hid (l.length + 8 = (frm sm l).length ∧ l.length ≤ 512) := ⟨hfl.symm, hok2⟩
  have HX : Hid (x ≠ 0) := hx0
  have ht63 : (t : Int) ≤ 9223372036854775807 := by have := bounds_i64 HT.out; omega
  go_enter Try.func7, Try.ntmps7
  go_upto_region 3 with (first
    | (go_at_call 9; refine (awake_any _).mono ?_; rintro e w1 ⟨rfl, hb1⟩)
    | (go_at_call 10; refine (frame_any a l.length cap l _ hok1 hok2 (HB.out.below hb1)).mono ?_; rintro e w2 ⟨f, rfl, hf, hb2, hof⟩))
  have HB2 : Hid (Below w.heap.size w w2) := hb1.trans (hb2.mono hb1.size)
  have HO : Hid (Own w.heap.size f) := Own.mono hof hb1.size
  obtain ⟨fa, fc, rfl, hfs, hfc, _, _⟩ := hf.slice' (l.length + 8) hfl
  obtain ⟨g, off, rfl, hc⟩ := hfs.2.2 (by omega)
  have q := hc (t % (l.length + 8)) hjl
  have hbt := hfs.byte (t % (l.length + 8))
  have hfz : w2.frozen? ⟨g, off + t % (l.length + 8), none⟩ = false := by
    obtain ⟨_, ⟨e, _⟩ | ⟨g', off', cap', e, _, _, _, _, h5, _⟩⟩ := hf
    · cases e
    · cases e
      exact h5 _
  have HF : Hid (Wt w2 (.slice (some ⟨g, off, none⟩) (l.length + 8) fc) (frm sm l)) := hf
  have HV : Hid (0 ≤ bits BinOp.xor IntKind.u8 ((frm sm l).getD (t % (l.length + 8)) 0) x ∧ bits BinOp.xor IntKind.u8 ((frm sm l).getD (t % (l.length + 8)) 0) x ≤ 255 ∧ bits BinOp.xor IntKind.u8 ((frm sm l).getD (t % (l.length + 8)) 0) x ≠ (frm sm l).getD (t % (l.length + 8)) 0) := xor8 _ x hbt.1 hbt.2 x0 x1 HX.out
  clear hf hfs hc hbt hof hb1 hb2
  have hLp : 0 < l.length + 8 := by omega
  generalize hjj : t % (l.length + 8) = j at *
  have HJJ : Hid (t % (l.length + 8) = j) := hjj
  clear hjj
  have HGe : Hid (∃ y, y = (frm sm l).getD j 0) := ⟨_, rfl⟩
  obtain ⟨y, hy⟩ := HGe.out
  rw [← hy] at q
  have HY : Hid (y = (frm sm l).getD j 0) := hy
  rw [← hy] at HV
  clear hy HGe
  generalize hll : l.length + 8 = L at *
  have HLL : Hid (l.length + 8 = L) := hll
  clear hll
  have hLi : (0 : Int) < (L : Int) := by omega
  have hji : (j : Int) < (L : Int) := by omega
  have htq : decide ((t : Int) < 0) = false := decide_eq_false (by omega)
  have hLq : ((L : Int) == 0) = false := beq_eq_false_iff_ne.2 (by omega)
  have hj0 : (0 : Int) ≤ (j : Int) := by omega
  have hmod : (t : Int) % (L : Int) = (j : Int) := by have := HJJ.out; omega
  have hjn : ((j : Int)).toNat = j := by omega
  clear hrem
  go_upto_region 5 with fail
  go_region
  have HZ : Hid (Wt (w2.setCell ⟨g, off + j, none⟩ (.int .u8 (bits BinOp.xor IntKind.u8 y x))).drew (.slice (some ⟨g, off, none⟩) L fc) ((frm sm l).set j (bits BinOp.xor IntKind.u8 y x))) := by
    have h1 := HF.out
    have h2 := HL.out.1
    rw [h2] at h1 ⊢
    exact (Wt.set h1 (by rw [← h2]; exact hjl) ⟨HV.out.1, HV.out.2.1⟩).over (Below.refl _ _).drew
  have HB3 : Hid (Below w.heap.size w (w2.setCell ⟨g, off + j, none⟩ (.int .u8 (bits BinOp.xor IntKind.u8 y x))).drew) := (HB2.out.trans ((kp_set w2 g (off + j) _).below HB2.out.size fun k hk e => by have := HO.out g rfl; omega)).drew
  have HM : Hid (((frm sm l).set j (bits BinOp.xor IntKind.u8 y x)).length = L ∧ (frm sm l).set j (bits BinOp.xor IntKind.u8 y x) ≠ frm sm l) := ⟨by rw [List.length_set]; exact HL.out.1.symm, set_ne (by rw [← HL.out.1]; exact hjl) (by rw [← HY.out]; exact HV.out.2.2)⟩
  clear HF HV HY q hfz
  generalize (w2.setCell ⟨g, off + j, none⟩ (.int .u8 (bits BinOp.xor IntKind.u8 y x))).drew = w3 at *
  generalize (frm sm l).set j (bits BinOp.xor IntKind.u8 y x) = m at *
  have hnot : l ∉ (all sm m).1 := all_turned (by rw [HM.out.1]; exact HLL.out.symm) HM.out.2
  have HNot : Hid (l ∉ (all sm m).1) := hnot
  clear hnot
  have b4 : Below w3.heap.size w3 (w3.alloc (.cells #[.slice none 0 0, .int .i64 0] 32)) := (Below.refl _ _).alloc (Nat.le_refl _) _
  have HD4 : Hid (Fd w.heap.size w (w3.alloc (.cells #[.slice none 0 0, .int .i64 0] 32)) w3.heap.size (.slice none 0 0) [] 0) := fd_new _ _ _ HB3.out (Nat.le_refl _)
  have HW4 : Hid (Wt (w3.alloc (.cells #[.slice none 0 0, .int .i64 0] 32)) (.slice (some ⟨g, off, none⟩) L fc) m) := HZ.out.over b4
  clear b4
  go_upto_region 7 with fail
  generalize w3.alloc (.cells #[.slice none 0 0, .int .i64 0] 32) = w4 at *
  generalize w3.heap.size = b at *
  go_upto_region 8 with (go_at_call 13; refine (feed_wt b 0 _ [] _ HD4.out.r _ m HW4.out (by rw [HM.out.1]; have := HL.out.2; have := HLL.out; simp only [List.length_nil]; omega)).mono ?_; rintro e w5 ⟨rfl, v5, hr5, ho5, hk5⟩)
  have HD5 : Hid (Fd w.heap.size w w5 b v5 m 0) := HD4.out.feed hr5 ho5 hk5
  clear hr5 ho5 hk5
  go_upto_region 9 with (go_at_call 18; refine (drained_any b 0 v5 m _ HD5.out.r (by rw [HM.out.1]; have := HL.out.2; have := HLL.out; omega) (by rw [HM.out.1]; have := HL.out.2; have := HLL.out; omega)).mono ?_; rintro e w6 ⟨u, us, v6, rfl, ht6⟩)
  have HD6 : Hid (Below w.heap.size w w6) := (HD5.out.drain ht6).bel
  have HPc : Hid (∀ W, Below w6.heap.size w6 W → PcR W u (all sm m).1) := fun W hW => ht6.rw.pcR.below hW
  have HLen : Hid ((all sm m).1.length ≤ 600) := by
    have h1 := all_count sm _ m (Nat.le_refl _)
    have h2 := sz_len (all sm m).1
    unfold sz at h2
    have := HM.out.1; have := HL.out.2; have := HLL.out
    unfold Hid
    omega
  clear ht6
  generalize (all sm m).1 = ds at *
  obtain ⟨up, uc, rfl⟩ : ∃ p c, u = .slice p ds.length c := by obtain ⟨p, c, e, _⟩ := HPc.out _ (Below.refl _ _); exact ⟨p, c, e⟩
  go_wp2
  go_loopg [12] ds.length (fun q vi wr => ∃ (i : Nat), vi = .int .i64 i ∧ i + q = ds.length ∧ Hid (Below w6.heap.size w6 wr))
  case atStart => exact ⟨0, rfl, Nat.zero_add _, Below.refl _ _⟩
  case round =>
    obtain ⟨i, rfl, hig, hbl⟩ := hrel
    rcases Nat.lt_or_ge i ds.length with hlt | hge
    · have hi2 : (i : Int) < (ds.length : Int) := by omega
      have hi6 : (i : Int) ≤ 600 := by have := HLen.out; omega
      obtain ⟨pb, po, a', c', rfl, z0, y0, _⟩ := pcR_at (HPc.out _ hbl.out) hlt
      have hgk : Hid (gk - 1 < gk ∧ i + 1 + (gk - 1) = ds.length) := ⟨by omega, by omega⟩
      have hBw : Below w.heap.size w wr := HD6.out.trans (hbl.out.mono HD6.out.size)
      have yl := HB.out.below hBw
      have s1 := text_any y0 c'
      have s2 := text_any yl cap
      have r1 := text_any (y0.below (below_drewN wr 1)) c'
      have r2 := text_any (yl.below (below_drewN wr 1)) cap
      have k1 := cellK z0 (below_drewN wr 1)
      have HNe : Hid (((strOfNums ds[i]).toList == (strOfNums l).toList) = false) := beq_eq_false_iff_ne.2 fun e => HNot.out (by
        have := str_inj (byt_of y0) (byt_of yl) e
        rw [← this]
        exact List.getElem_mem hlt)
      clear hig y0 yl hBw
      generalize ds[i].length = n at *
      generalize strOfNums ds[i] = st at *
      generalize strOfNums l = sl at *
      clear hlt
      generalize ds.length = dn at *
      generalize l.length = ll at *
      have hi0 : (0 : Int) ≤ (i : Int) := by omega
      have hS0 : (fun X : World => X.cell? ⟨pb, po + i, none⟩ = some (.slice a' n c') ∧ (convert 22 9 (.slice a' n c')).run Try.prog X = .ok (.string st) X ∧ (convert 22 9 (.slice a ll cap)).run Try.prog X = .ok (.string sl) X) wr := ⟨z0, s1, s2⟩
      have hS1 : (fun X : World => X.cell? ⟨pb, po + i, none⟩ = some (.slice a' n c') ∧ (convert 22 9 (.slice a' n c')).run Try.prog X = .ok (.string st) X ∧ (convert 22 9 (.slice a ll cap)).run Try.prog X = .ok (.string sl) X) wr.drew := ⟨k1, r1, r2⟩
      go_upto_region 12 with fail
      go_region_held3 (fun X => X.cell? ⟨pb, po + i, none⟩ = some (.slice a' n c') ∧ (convert 22 9 (.slice a' n c')).run Try.prog X = .ok (.string st) X ∧ (convert 22 9 (.slice a ll cap)).run Try.prog X = .ok (.string sl) X) (first | assumption | go_keep) (fail)
      have HB2 : Hid (Below w6.heap.size w6 wr.drew) := hbl.out.drew
      rw [HNe.out]
      go_wp2
      go_roundg (gk - 1)
      case measure => exact hgk.out.1
      case rel => exact ⟨i + 1, by go_num, hgk.out.2, HB2.out⟩
    · have hi2 : ¬ (i : Int) < (ds.length : Int) := by omega
      go_wp2
      go_ret
      exact ⟨rfl, HD6.out.trans (hbl.out.mono HD6.out.size)⟩

end Go.Proofs.Ytfjipaalelkpjaa
