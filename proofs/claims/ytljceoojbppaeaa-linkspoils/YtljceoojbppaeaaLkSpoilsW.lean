/-
  The walk of LinkSpoils.
-/
import Derived.Test.YtljceoojbppaeaaLkAwk
namespace Go.Proofs.Ytljceoojbppaeaa
open Go.RowKit D

theorem turnB_twice (x : Int) (k : Nat) (hx : 0 ≤ x) : turnB (turnB x k) k = x := by
  unfold turnB
  rw [Int.toNat_natCast, Nat.xor_assoc, Nat.xor_self, Nat.xor_zero]
  omega
theorem turnF_get {f : List Int} (bit : Int) (i : Nat) (_hi : i < f.length) : (turnF f bit).getD i 0 = if i = bitAt f bit / 8 then turnB (f.getD i 0) (bitAt f bit % 8) else f.getD i 0 := by
  unfold turnF
  by_cases e : i = bitAt f bit / 8
  · rw [if_pos e, ← e, List.getD_eq_getElem?_getD, List.getElem?_set_self _hi]
    rfl
  · rw [if_neg e, List.getD_eq_getElem?_getD, List.getElem?_set_ne (Ne.symm e), ← List.getD_eq_getElem?_getD]
theorem bitAt_same (f : List Int) (bit : Int) : bitAt (turnF f bit) bit = bitAt f bit := by unfold bitAt; rw [turnF_len]
theorem turnF_twice {f : List Int} (h : okF f) (bit : Int) : turnF (turnF f bit) bit = f := by
  have h2 := byteAt_lt h.2.1 bit
  have e : turnF (turnF f bit) bit = (turnF f bit).set (bitAt f bit / 8) (turnB ((turnF f bit).getD (bitAt f bit / 8) 0) (bitAt f bit % 8)) := by
    rw [turnF, bitAt_same]
  rw [e, turnF_get bit _ h2, if_pos rfl, turnB_twice _ _ (byt_get h.1 _).1]
  unfold turnF
  rw [List.set_set, List.getD_eq_getElem?_getD, List.getElem?_eq_getElem h2]
  show f.set _ f[bitAt f bit / 8] = f
  rw [List.set_getElem_self]
theorem turnB_xor (x : Int) (k : Nat) (hx : 0 ≤ x ∧ x ≤ 255) (hk : k < 8) : bits BinOp.xor IntKind.u8 (turnB x k) x = ((2 ^ k : Nat) : Int) := by
  have h1 := turnB_bd x k hx hk
  obtain ⟨n, rfl⟩ := Int.eq_ofNat_of_zero_le hx.1
  unfold turnB at h1 ⊢
  rw [Int.toNat_natCast] at h1 ⊢
  rw [u8_xor_nat _ n (by omega) (by omega), Nat.xor_comm n, Nat.xor_assoc, Nat.xor_self, Nat.xor_zero]
theorem turnB_ne (x : Int) (k : Nat) (hx : 0 ≤ x) : turnB x k ≠ x := fun h => by
  obtain ⟨n, rfl⟩ := Int.eq_ofNat_of_zero_le hx
  unfold turnB at h
  rw [Int.toNat_natCast] at h
  have h2 : n ^^^ 2 ^ k = n := by omega
  have h3 : n ^^^ (n ^^^ 2 ^ k) = n ^^^ n := by rw [h2]
  rw [← Nat.xor_assoc, Nat.xor_self, Nat.zero_xor] at h3
  exact absurd h3 (Nat.ne_of_gt (Nat.two_pow_pos k))

/-- the states that are passed. -/
theorem sp_states (f : List Int) (h : okF f) (bit : Int) : maySend (lk0.sel true) f = true ∧ lk0.send true f = ⟨[f], []⟩ ∧ Lk.mayTwice ⟨[f], []⟩ 0 = true ∧ Lk.twice ⟨[f], []⟩ 0 = ⟨[f, f], []⟩ ∧
    (Lk.has ⟨[f, f], []⟩ 0 = true ∧ Lk.spoil ⟨[f, f], []⟩ 0 bit = ⟨[turnF f bit, f], []⟩) ∧ (Lk.has ⟨[turnF f bit, f], []⟩ 1 = true ∧ Lk.spoil ⟨[turnF f bit, f], []⟩ 1 bit = ⟨[turnF f bit, turnF f bit], []⟩) ∧
    (Lk.has ⟨[turnF f bit, turnF f bit], []⟩ 1 = true ∧ Lk.spoil ⟨[turnF f bit, turnF f bit], []⟩ 1 bit = ⟨[turnF f bit, f], []⟩) := by
  have hm : maySend (lk0.sel true) f = true := decide_eq_true ⟨by decide, h.2.1, h.2.2⟩
  refine ⟨hm, ?_, rfl, rfl, ⟨rfl, rfl⟩, ⟨rfl, rfl⟩, rfl, ?_⟩
  · unfold Lk.send
    rw [hm, if_pos rfl]
    rfl
  · show (⟨[turnF f bit, turnF (turnF f bit) bit], []⟩ : Lk) = _
    rw [turnF_twice h]

/-- as far as it has counted. -/
def cntJ (j i : Nat) : Nat := if j < i then 1 else 0
theorem PcV.below {w w' : World} {v : Value} {l : List Int} (h : PcV w v l) (hb : Below w.heap.size w w') : PcV w' v l := by
  obtain ⟨a, cap, rfl, h1, h2⟩ := h
  exact ⟨a, cap, rfl, h1.below hb, h2⟩
/-- bytes that were made since stand while the link is turned. -/
theorem PcV.kb {w w' : World} {b : Nat} {v : Value} {l : List Int} (h : PcV w v l) (hk : Kb b w w') (hn : ∀ k, v.ownBlock = some k → k ≠ b) : PcV w' v l := by
  obtain ⟨a, cap, rfl, h1, h2⟩ := h
  refine ⟨a, cap, rfl, ⟨h1.1, h1.2.1, fun h0 => ?_⟩, h2⟩
  obtain ⟨g, off, ha, hc⟩ := h1.2.2 h0
  refine ⟨g, off, ha, fun i hi => ?_⟩
  rw [World.cell?_of_block (hk.block g (World.block_lt_of_cell? w _ (hc i hi)) (hn g (by rw [ha]; rfl)))]
  exact hc i hi
theorem new_ne {w : World} {b : Nat} {s : Lk} {v : Value} (h : LkV w b s) (hn : New w.heap.size v) : ∀ k, v.ownBlock = some k → k ≠ b := fun k e h2 => by
  have := hn k e
  have := h.blk.lt
  omega
theorem bs_at {w : World} {a : Option Addr} {len : Nat} {l : List Int} (h : Bs w a len l) {i : Nat} (hi : i < len) : ∃ g o, a = some ⟨g, o, none⟩ ∧ w.cell? ⟨g, o + i, none⟩ = some (.int .u8 (l.getD i 0)) := by
  obtain ⟨g, o, ha, hc⟩ := h.2.2 (by omega)
  exact ⟨g, o, ha, hc i hi⟩

set_option maxRecDepth 20000 in
set_option maxHeartbeats 8000000 in
theorem spoils_walk (w : World) (v : Value) (f : List Int) (bit : Int) (h : PcV w v f) :
    Calls Try.prog 6 #[v, .int .i64 bit] w fun e w' => e = .returned (.bool true) ∧ Below w.heap.size w w' := by
  obtain ⟨a, cap, rfl, hb, hao⟩ := h
  have HB : Hid (∀ W, Below w.heap.size w W → Bs W a f.length f) := fun W hW => hb.below hW
  by_cases hok : 0 < f.length ∧ f.length ≤ 1024
  case neg =>
    clear hb hao HB
    generalize f.length = len at *
    by_cases h0 : len = 0
    · subst h0
      go_enter Try.func6, Try.ntmps6
      go_wp2_with (go_at_call 8; refine (awake_any _).mono ?_; rintro e w1 ⟨rfl, hb1⟩)
      go_ret
      exact ⟨rfl, hb1⟩
    · have h1 : (1024 : Int) < (len : Int) := by omega
      have h2 : ((len : Int) == 0) = false := beq_eq_false_iff_ne.2 (by omega)
      have h3 : ¬ (len : Int) = 0 := by omega
      go_enter Try.func6, Try.ntmps6
      go_wp2_with (go_at_call 8; refine (awake_any _).mono ?_; rintro e w1 ⟨rfl, hb1⟩)
      go_ret
      exact ⟨rfl, hb1⟩
  have HO : Hid (okF f) := ⟨hb.2.1, hok.1, hok.2⟩
  have HS : Hid (maySend (lk0.sel true) f = true ∧ lk0.send true f = ⟨[f], []⟩ ∧ Lk.mayTwice ⟨[f], []⟩ 0 = true ∧ Lk.twice ⟨[f], []⟩ 0 = ⟨[f, f], []⟩ ∧
    (Lk.has ⟨[f, f], []⟩ 0 = true ∧ Lk.spoil ⟨[f, f], []⟩ 0 bit = ⟨[turnF f bit, f], []⟩) ∧ (Lk.has ⟨[turnF f bit, f], []⟩ 1 = true ∧ Lk.spoil ⟨[turnF f bit, f], []⟩ 1 bit = ⟨[turnF f bit, turnF f bit], []⟩) ∧
    (Lk.has ⟨[turnF f bit, turnF f bit], []⟩ 1 = true ∧ Lk.spoil ⟨[turnF f bit, turnF f bit], []⟩ 1 bit = ⟨[turnF f bit, f], []⟩)) := sp_states f HO.out bit
  have hl1 : ¬ (1024 : Int) < (f.length : Int) := by omega
  have hl2 : ((f.length : Int) == 0) = false := beq_eq_false_iff_ne.2 (by omega)
  have hl3 : ¬ (f.length : Int) = 0 := by omega
  have hl4 : (f.length : Int) ≤ 1024 := by omega
  have hzv : ∀ W, (zeroValue 30).run Try.prog W = .ok (.agg zeroLk) W := zero_run
  have HN : Hid (∀ W, LkV (W.alloc (.cells zeroLk 30)) W.heap.size lk0 ∧ Below W.heap.size W (W.alloc (.cells zeroLk 30))) := fun W => ⟨lk_new W, alloc_below W _⟩
  clear hb hao hok
  generalize zeroLk = Z at *
  go_enter Try.func6, Try.ntmps6
  go_upto_region 5 with (go_at_call 8; refine (awake_any _).mono ?_; rintro e w1 ⟨rfl, hb1⟩)
  have HL2 : Hid (LkV (w1.alloc (.cells Z 30)) w1.heap.size lk0) := (HN.out w1).1
  have HB2 : Hid (Below w.heap.size w (w1.alloc (.cells Z 30)) ∧ w.heap.size ≤ w1.heap.size) := ⟨hb1.trans ((HN.out w1).2.mono hb1.size), hb1.size⟩
  clear HN hzv hb1
  generalize w1.alloc (.cells Z 30) = w2 at *
  generalize w1.heap.size = b at *
  have HC := send_to (up := true) (c := cap) HL2.out (HB.out _ HB2.out.1) HS.out.1 HS.out.2.1
  go_upto_region 6 with (go_at_call 13; refine HC.mono ?_; rintro e w3 ⟨rfl, h3, k3⟩)
  have HB3 : Hid (Below w.heap.size w w3) := HB2.out.1.trans (k3.below HB2.out.1.size HB2.out.2)
  clear HC HL2 k3
  have HC := twice_to (n := 0) h3 (by decide) HS.out.2.2.1 HS.out.2.2.2.1
  clear h3
  go_upto_region 7 with (go_at_call 16; refine HC.mono ?_; rintro e w4 ⟨rfl, h4, k4⟩)
  have HB4 : Hid (Below w.heap.size w w4) := HB3.out.trans (k4.below HB3.out.size HB2.out.2)
  clear HC HB3 k4
  have P1 : Hid (Lk.has ⟨[f, f], []⟩ 0 = true ∧ Lk.spoil ⟨[f, f], []⟩ 0 bit = ⟨[turnF f bit, f], []⟩) := HS.out.2.2.2.2.1
  have P2 : Hid (Lk.has ⟨[turnF f bit, f], []⟩ 1 = true ∧ Lk.spoil ⟨[turnF f bit, f], []⟩ 1 bit = ⟨[turnF f bit, turnF f bit], []⟩) := HS.out.2.2.2.2.2.1
  have P3 : Hid (Lk.has ⟨[turnF f bit, turnF f bit], []⟩ 1 = true ∧ Lk.spoil ⟨[turnF f bit, turnF f bit], []⟩ 1 bit = ⟨[turnF f bit, f], []⟩) := HS.out.2.2.2.2.2.2
  have P4 : Hid (Lk.has ⟨[turnF f bit, f], []⟩ 2 = false ∧ Lk.spoil ⟨[turnF f bit, f], []⟩ 2 bit = ⟨[turnF f bit, f], []⟩) := ⟨rfl, rfl⟩
  have PT : Hid (hasN (Lk.sel ⟨[turnF f bit, f], []⟩ true) 0 = true ∧ Lk.came ⟨[turnF f bit, f], []⟩ true 0 = turnF f bit ∧ Lk.take ⟨[turnF f bit, f], []⟩ true 0 = ⟨[f], []⟩) := ⟨rfl, rfl, rfl⟩
  have PU : Hid (hasN (Lk.sel ⟨[f], []⟩ true) 0 = true ∧ Lk.came ⟨[f], []⟩ true 0 = f ∧ Lk.take ⟨[f], []⟩ true 0 = lk0) := ⟨rfl, rfl, rfl⟩
  clear HS
  generalize (⟨[f], []⟩ : Lk) = s1 at *
  generalize (⟨[f, f], []⟩ : Lk) = s2 at *
  generalize hs3 : (⟨[turnF f bit, f], []⟩ : Lk) = s3 at *
  generalize (⟨[turnF f bit, turnF f bit], []⟩ : Lk) = s4 at *
  have HT : Hid (∀ (W : World) (s s' : Lk) (n : Int) (q : Bool), n < 3 → Hid (LkV W b s ∧ Below w.heap.size w W) → Hid (s.has n = q ∧ s.spoil n bit = s') → Calls Try.prog 17 #[.pointer (some ⟨b, 0, none⟩), .int .i64 n, .int .i64 bit] W fun e w' => e = .returned (.bool q) ∧ Hid (LkV w' b s' ∧ Below w.heap.size w w')) := fun W s s' n q hn hW hq =>
    (spoil_to hW.out.1 (by omega) hq.out.1 hq.out.2).mono fun e w' ⟨h1, h2, h3⟩ => ⟨h1, h2, hW.out.2.trans (h3.below hW.out.2.size HB2.out.2)⟩
  have H4 : Hid (LkV w4 b s2 ∧ Below w.heap.size w w4) := ⟨h4, HB4.out⟩
  clear h4 HB4 hs3
  go_upto_region 9 with (go_at_call 17; refine (HT.out _ _ _ _ _ (by decide) (by assumption) (by assumption)).mono ?_; rintro e w5 ⟨rfl, H5⟩)
  have HT1 := take_to (up := true) H5.out.1 PT.out.1 PT.out.2.1 PT.out.2.2
  have HB5 : Hid (Below w.heap.size w w5) := H5.out.2
  clear HT P1 P2 P3 P4 H4
  go_upto_region 10 with (go_at_call 14; refine HT1.mono ?_; rintro e w6 ⟨v1, rfl, hv1, hn1, h6, k6⟩)
  have HV1 : Hid (PcV w6 v1 (turnF f bit) ∧ ∀ k, v1.ownBlock = some k → k ≠ b) := ⟨hv1, new_ne H5.out.1 hn1⟩
  have HB6 : Hid (Below w.heap.size w w6) := HB5.out.trans (k6.below HB5.out.size HB2.out.2)
  have HT2 := take_to (up := true) h6 PU.out.1 PU.out.2.1 PU.out.2.2
  clear HT1 hv1 hn1 h6 k6 H5 HB5 PT
  go_upto_region 11 with (go_at_call 14; refine HT2.mono ?_; rintro e w7 ⟨v2, rfl, hv2, hn2, h7, k7⟩)
  have HB7 : Hid (Below w.heap.size w w7) := HB6.out.trans (k7.below HB6.out.size HB2.out.2)
  have HV3 : Hid (PcV w7 v1 (turnF f bit)) := HV1.out.1.kb k7 HV1.out.2
  clear HT2 hn2 h7 k7 HV1 HB6 PU
  obtain ⟨a1, c1, rfl, hb1, _⟩ := HV3.out
  obtain ⟨a2, c2, rfl, hb2, _⟩ := hv2
  rw [turnF_len] at hb1
  rw [turnF_len]
  have HA1 : Hid (∀ W, Below w7.heap.size w7 W → Bs W a1 f.length (turnF f bit)) := fun W hW => hb1.below hW
  have HA0 : Hid (∀ W, Below w7.heap.size w7 W → Bs W a f.length f) := fun W hW => HB.out W (HB7.out.trans (hW.mono HB7.out.size))
  have hx2 : (convert 37 9 (.slice a2 f.length c2)).run Try.prog w7 = .ok (.string (strOfNums f)) w7 := run_text hb2 c2
  have hx0 : (convert 37 9 (.slice a f.length cap)).run Try.prog w7 = .ok (.string (strOfNums f)) w7 := run_text (HA0.out w7 (Below.refl _ _)) cap
  have hbq : ((strOfNums f).toList == (strOfNums f).toList) = true := beq_self_eq_true _
  have HJ : Hid (∃ j k, j < f.length ∧ k < 8 ∧ ∀ i, i < f.length → (turnF f bit).getD i 0 = if i = j then turnB (f.getD i 0) k else f.getD i 0) := ⟨_, _, byteAt_lt HO.out.2.1 bit, Nat.mod_lt _ (by decide), fun i hi => turnF_get bit i hi⟩
  clear hb1 hb2 HV3 HB hl1 hl2 hl3
  obtain ⟨j, k, hj, hk8, HJ2⟩ := HJ.out
  have HJ3 : Hid (∀ i, i < f.length → (turnF f bit).getD i 0 = if i = j then turnB (f.getD i 0) k else f.getD i 0) := HJ2
  have HBy : Hid (∀ i, 0 ≤ f.getD i 0 ∧ f.getD i 0 ≤ 255) := fun i => byt_get HO.out.1 i
  have HK8 : Hid (k < 8 ∧ j < f.length) := ⟨hk8, hj⟩
  clear HJ HJ2 HO hk8 hj
  generalize strOfNums f = sf at *
  generalize turnF f bit = tf at *
  generalize hlen : f.length = len at *
  have HLen : Hid (f.length = len) := hlen
  clear hlen
  go_wp2
  clear hx0 hx2 hbq
  go_loopg [11, 12] len (fun g vn vi wr => ∃ i : Nat, vi = .int .i64 i ∧ vn = .int .i64 (cntJ j i : Nat) ∧ i + g = len ∧ Hid (Below w7.heap.size w7 wr))
  case atStart => exact ⟨0, rfl, rfl, Nat.zero_add _, Below.refl _ _⟩
  case round =>
    obtain ⟨i, rfl, rfl, hig, hbl⟩ := hrel
    have hgk : Hid (i + gk = len) := hig
    have hcn : (0 : Int) ≤ (cntJ j i : Int) ∧ (cntJ j i : Int) ≤ 1 := by unfold cntJ; split <;> omega
    rcases Nat.lt_or_ge i len with hlt | hge
    · have hi1 : (i : Int) < (len : Int) := by omega
      obtain ⟨g1, o1, rfl, z1⟩ := bs_at (HA1.out wr hbl.out) hlt
      obtain ⟨g0, o0, rfl, z0⟩ := bs_at (HA0.out wr hbl.out) hlt
      rw [HJ3.out i (by have := HLen.out; omega)] at z1
      have HX : Hid (0 ≤ f.getD i 0 ∧ f.getD i 0 ≤ 255) := HBy.out i
      have HLt : Hid (i < len) := hlt
      have hi0 : (0 : Int) ≤ (i : Int) := by omega
      clear hig hlt
      generalize f.getD i 0 = x at *
      by_cases hij : i = j
      · rw [if_pos hij] at z1
        have hne : (turnB x k == x) = false := beq_eq_false_iff_ne.2 (turnB_ne x k HX.out.1)
        have HD : Hid (bits BinOp.xor IntKind.u8 (turnB x k) x = ((2 ^ k : Nat) : Int)) := turnB_xor x k HX.out HK8.out.1
        have HCn : Hid (cntJ j i = 0 ∧ cntJ j (i + 1) = 1) := by subst hij; exact ⟨if_neg (Nat.lt_irrefl _), if_pos (Nat.lt_succ_self _)⟩
        rw [HCn.out.1]
        clear hij hcn
        generalize turnB x k = y at *
        go_upto_region 17 with fail
        go_region
        go_upto_region 19 with fail
        go_region
        rw [HD.out]
        have hbd : Below w7.heap.size w7 wr.drew.drew := hbl.out.drew.drew
        have HBd : Hid (Below w7.heap.size w7 wr.drew.drew) := hbd
        clear hbd z0 z1
        rcases (show k = 0 ∨ k = 1 ∨ k = 2 ∨ k = 3 ∨ k = 4 ∨ k = 5 ∨ k = 6 ∨ k = 7 by have := HK8.out; omega) with rfl | rfl | rfl | rfl | rfl | rfl | rfl | rfl
        all_goals
          go_wp2
          go_roundg (gk - 1)
          case measure => have := hgk.out; have := HLt.out; omega
          case rel => exact ⟨i + 1, by go_num, by rw [HCn.out.2]; rfl, by have := hgk.out; have := HLt.out; omega, HBd.out⟩
      · rw [if_neg hij] at z1
        have HCn : Hid (cntJ j (i + 1) = cntJ j i) := by unfold Hid cntJ; split <;> split <;> omega
        have HBd : Hid (Below w7.heap.size w7 wr.drew) := hbl.out.drew
        have hxx : (x == x) = true := beq_self_eq_true x
        clear hij
        generalize cntJ j i = q at *
        go_upto_region 17 with fail
        go_region
        go_wp2
        go_roundg (gk - 1)
        case measure => have := hgk.out; have := HLt.out; omega
        case rel => exact ⟨i + 1, by go_num, by rw [HCn.out], by have := hgk.out; have := HLt.out; omega, HBd.out⟩
    · have hi1 : ¬ (i : Int) < (len : Int) := by omega
      have hil : i = len := by omega
      have HCn : Hid (cntJ j i = 1) := by unfold Hid cntJ; rw [if_pos (by have := HK8.out; omega)]
      rw [HCn.out]
      clear hcn hil
      go_wp2
      go_ret
      exact ⟨rfl, HB7.out.trans (hbl.out.mono HB7.out.size)⟩

end Go.Proofs.Ytljceoojbppaeaa
