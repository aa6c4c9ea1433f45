/-
  Texts of this seat, joined: MSAll.
-/
import Derived.Test.YtcckipimfgmmdaaGreatDoorGv22

namespace Go.Proofs.YtcckipimfgmmdaaGreatDoor.M
open Go.RowKit

theorem all_step {α : Type} {p : α → Bool} {l : List α} {i : Nat} (h : i < l.length) (hp : p l[i] = true) (ht : (l.take i).all p = true) : (l.take (i + 1)).all p = true := by
  rw [List.take_succ_eq_append_getElem h, List.all_append, ht]
  simp [hp]
theorem all_stop {α : Type} {p : α → Bool} {l : List α} {i : Nat} (h : i < l.length) (hp : p l[i] = false) : l.all p = false := by
  rw [List.all_eq_false]
  exact ⟨l[i], List.getElem_mem h, by simp [hp]⟩
theorem all_end {α : Type} {p : α → Bool} {l : List α} {i : Nat} (h : ¬ i < l.length) (ht : (l.take i).all p = true) : l.all p = true := by
  rw [List.take_of_length_le (by omega)] at ht
  exact ht

set_option maxHeartbeats 1000000 in
theorem allS_any (w : World) (v : Value) (l : List ByteArray) (h : StrR w v l) (hl : l.length ≤ 1000) :
    Calls Tryz.prog 99 #[v, .func (.func 100) #[] #[]] w fun e w' => e = .returned (.bool (l.all fun s => isWd (lst s))) ∧ Below w.heap.size w w' := by
  obtain ⟨p1, c1, rfl⟩ : ∃ p c, v = .slice p l.length c := by obtain ⟨p, c, e, _⟩ := h; exact ⟨p, c, e⟩
  have S1 : Hid (StrR w (.slice p1 l.length c1) l) := h
  have HI : Hid (∀ s W, Calls Tryz.prog 100 #[.string s] W fun e w' => e = .returned (.bool (isWd (lst s))) ∧ Below W.heap.size W w') := is_any
  clear h
  generalize hR : (l.all fun s => isWd (lst s)) = R
  have HR : Hid ((l.all fun s => isWd (lst s)) = R) := hR
  clear hR
  go_enter Tryz.func99, Tryz.ntmps99
  go_wp2
  go_loopw [9] (fun vi wr => ∃ i : Nat, vi = .int .i64 i ∧ i ≤ l.length ∧ ((l.take i).all fun s => isWd (lst s)) = true ∧ Below w.heap.size w wr) (fun vi _ => l.length - (intOf vi).toNat)
  case atStart => exact ⟨0, rfl, Nat.zero_le _, rfl, Below.refl _ _⟩
  case round =>
    obtain ⟨i, rfl, hi, ht, hb⟩ := hrel
    have HT : Hid (((l.take i).all fun s => isWd (lst s)) = true) := ht
    have HB : Hid (Below w.heap.size w wr) := hb
    clear ht
    by_cases hlt : i < l.length
    · have hi1 : (i : Int) < (l.length : Int) := by omega
      obtain ⟨b1, o1, rfl, e1⟩ := strR_at (S1.out.below hb) hlt
      have HX : Hid (Calls Tryz.prog 100 #[.string l[i]] wr fun e w' => e = .returned (.bool (isWd (lst l[i]))) ∧ Below wr.heap.size wr w') := HI.out _ _
      have HS : Hid (isWd (lst l[i]) = true → ((l.take (i + 1)).all fun s => isWd (lst s)) = true) := fun hq => all_step (p := fun s => isWd (lst s)) hlt hq HT.out
      have HF : Hid (isWd (lst l[i]) = false → R = false) := fun hq => HR.out.symm.trans (all_stop (p := fun s => isWd (lst s)) hlt hq)
      generalize l[i] = x at *
      clear hb
      rcases Bool.eq_false_or_eq_true (isWd (lst x)) with hq | hq
      · go_wp2_with (go_at_call 100; refine HX.out.mono ?_; rintro e w1 ⟨rfl, b1⟩; rw [hq])
        go_roundw
        case rel => exact ⟨i + 1, by go_num, hlt, HS.out hq, HB.out.trans (b1.mono HB.out.size)⟩
        case measure => simp [intOf]; omega
      · go_wp2_with (go_at_call 100; refine HX.out.mono ?_; rintro e w1 ⟨rfl, b1⟩; rw [hq])
        go_ret
        exact ⟨ret_bool (HF.out hq).symm, HB.out.trans (b1.mono HB.out.size)⟩
    · have hge : ¬ (i : Int) < (l.length : Int) := by omega
      clear hb
      go_wp2
      go_ret
      exact ⟨ret_bool (by rw [← HR.out]; exact (all_end hlt HT.out).symm), HB.out⟩

set_option maxHeartbeats 1000000 in
theorem allC_any (w : World) (v : Value) (l : List Xc) (h : CdR w v l) (hl : l.length ≤ 1000) :
    Calls Tryz.prog 101 #[v, .func (.func 102) #[] #[]] w fun e w' => e = .returned (.bool (l.all condB)) ∧ Below w.heap.size w w' := by
  obtain ⟨p1, c1, rfl⟩ : ∃ p c, v = .slice p l.length c := by obtain ⟨p, c, e, _⟩ := h; exact ⟨p, c, e⟩
  have S1 : Hid (CdR w (.slice p1 l.length c1) l) := h
  clear h
  generalize hR : (l.all condB) = R
  have HR : Hid ((l.all condB) = R) := hR
  clear hR
  go_enter Tryz.func101, Tryz.ntmps101
  go_wp2
  go_loopw [9] (fun vi wr => ∃ i : Nat, vi = .int .i64 i ∧ i ≤ l.length ∧ ((l.take i).all condB) = true ∧ Below w.heap.size w wr) (fun vi _ => l.length - (intOf vi).toNat)
  case atStart => exact ⟨0, rfl, Nat.zero_le _, rfl, Below.refl _ _⟩
  case round =>
    obtain ⟨i, rfl, hi, ht, hb⟩ := hrel
    have HT : Hid (((l.take i).all condB) = true) := ht
    have HB : Hid (Below w.heap.size w wr) := hb
    clear ht
    by_cases hlt : i < l.length
    · have hi1 : (i : Int) < (l.length : Int) := by omega
      obtain ⟨b1, o1, rfl, e1⟩ := cdR_at (S1.out.below hb) hlt
      have HX : Hid (∀ W, Calls Tryz.prog 102 #[.agg #[.int .i64 l[i].arg, .int .i64 l[i].op, .int .u64 l[i].mask, .int .u64 l[i].val]] W fun e w' => e = .returned (.bool (condB l[i])) ∧ Below W.heap.size W w') := condR_any _
      have HS : Hid (condB l[i] = true → ((l.take (i + 1)).all condB) = true) := fun hq => all_step hlt hq HT.out
      have HF : Hid (condB l[i] = false → R = false) := fun hq => HR.out.symm.trans (all_stop hlt hq)
      have BE : Hid (Below w.heap.size w (wr.alloc (Obj.cells #[.int .i64 l[i].arg, .int .i64 l[i].op, .int .u64 l[i].mask, .int .u64 l[i].val] 139))) := HB.out.alloc HB.out.size _
      generalize l[i] = x at *
      obtain ⟨q0, q1, q2, q3⟩ := e1
      clear hb
      rcases Bool.eq_false_or_eq_true (condB x) with hq | hq
      · go_wp2_with (go_at_call 102; refine (HX.out _).mono ?_; rintro e w1 ⟨rfl, b1⟩; rw [hq])
        go_roundw
        case rel => exact ⟨i + 1, by go_num, hlt, HS.out hq, BE.out.trans (b1.mono BE.out.size)⟩
        case measure => simp [intOf]; omega
      · go_wp2_with (go_at_call 102; refine (HX.out _).mono ?_; rintro e w1 ⟨rfl, b1⟩; rw [hq])
        go_ret
        exact ⟨ret_bool (HF.out hq).symm, BE.out.trans (b1.mono BE.out.size)⟩
    · have hge : ¬ (i : Int) < (l.length : Int) := by omega
      clear hb
      go_wp2
      go_ret
      exact ⟨ret_bool (by rw [← HR.out]; exact (all_end hlt HT.out).symm), HB.out⟩

def ruleB (x : Xl) : Bool := decide (1 ≤ x.names.length) && decide (x.names.length ≤ 16) && decide (x.conds.length ≤ 8) && (actB x.k x.a && x.names.all (fun s => isWd (lst s)) && x.conds.all condB)

theorem ruleB_mk {x : Xl} (h1 : 1 ≤ x.names.length) (h2 : x.names.length ≤ 16) (h3 : x.conds.length ≤ 8) : ruleB x = (actB x.k x.a && x.names.all (fun s => isWd (lst s)) && x.conds.all condB) := by
  unfold ruleB
  rw [decide_eq_true h1, decide_eq_true h2, decide_eq_true h3]
  rfl
theorem ruleB_no {x : Xl} (h : x.names.length < 1 ∨ 16 < x.names.length ∨ 8 < x.conds.length) : ruleB x = false := by
  unfold ruleB
  rcases h with h | h | h
  · rw [decide_eq_false (by omega : ¬ 1 ≤ x.names.length)]; rfl
  · rw [decide_eq_false (by omega : ¬ x.names.length ≤ 16)]; simp
  · rw [decide_eq_false (by omega : ¬ x.conds.length ≤ 8)]; simp

set_option maxHeartbeats 1000000 in
theorem rightRule_any (w : World) (x : Xr) (hn : StrR w x.vn x.r.names) (hc : CdR w x.vc x.r.conds) (h1 : x.r.names.length ≤ 9000000) (h2 : x.r.conds.length ≤ 9000000) :
    Calls Tryz.prog 60 #[.agg #[.int .i64 x.r.k, .int .i64 x.r.a, x.vn, x.vc]] w fun e w' => e = .returned (.bool (ruleB x.r)) ∧ Below w.heap.size w w' := by
  obtain ⟨⟨k, a, ns, cs⟩, vn, vc⟩ := x
  dsimp only at hn hc h1 h2 ⊢
  obtain ⟨p1, c1, rfl⟩ : ∃ p c, vn = .slice p ns.length c := by obtain ⟨p, c, e, _⟩ := hn; exact ⟨p, c, e⟩
  obtain ⟨p2, c2, rfl⟩ : ∃ p c, vc = .slice p cs.length c := by obtain ⟨p, c, e, _⟩ := hc; exact ⟨p, c, e⟩
  have be : Below w.heap.size w (w.alloc (Obj.cells #[.int .i64 k, .int .i64 a, .slice p1 ns.length c1, .slice p2 cs.length c2] 87)) := (Below.refl _ _).alloc (Nat.le_refl _) _
  have K0 := blk_new w #[.int .i64 k, .int .i64 a, .slice p1 ns.length c1, .slice p2 cs.length c2] 87
  have BE : Hid (Below w.heap.size w (w.alloc (Obj.cells #[.int .i64 k, .int .i64 a, .slice p1 ns.length c1, .slice p2 cs.length c2] 87))) := be
  have HK : Hid (Blk (w.alloc (Obj.cells #[.int .i64 k, .int .i64 a, .slice p1 ns.length c1, .slice p2 cs.length c2] 87)) w.heap.size 87 [.int .i64 k, .int .i64 a, .slice p1 ns.length c1, .slice p2 cs.length c2]) := K0
  have SN : Hid (StrR (w.alloc (Obj.cells #[.int .i64 k, .int .i64 a, .slice p1 ns.length c1, .slice p2 cs.length c2] 87)) (.slice p1 ns.length c1) ns) := hn.below be
  have SC : Hid (CdR (w.alloc (Obj.cells #[.int .i64 k, .int .i64 a, .slice p1 ns.length c1, .slice p2 cs.length c2] 87)) (.slice p2 cs.length c2) cs) := hc.below be
  clear hn hc K0 be
  by_cases g1 : ns.length < 1
  · have HE : Hid (ruleB ⟨k, a, ns, cs⟩ = false) := ruleB_no (.inl g1)
    have hd : decide ((ns.length : Int) < 1) = true := decide_eq_true (by omega)
    have hd' : (ns.length : Int) < 1 := by omega
    clear g1 SN SC HK
    go_enter Tryz.func60, Tryz.ntmps60
    go_wp2
    go_ret
    exact ⟨ret_bool HE.out.symm, BE.out⟩
  · have hd : decide ((ns.length : Int) < 1) = false := decide_eq_false (by omega)
    have hd' : ¬ (ns.length : Int) < 1 := by omega
    by_cases g2 : 16 < ns.length
    · have HE : Hid (ruleB ⟨k, a, ns, cs⟩ = false) := ruleB_no (.inr (.inl g2))
      have hd2 : decide (16 < (ns.length : Int)) = true := decide_eq_true (by omega)
      clear SN SC HK
      go_enter Tryz.func60, Tryz.ntmps60
      go_wp2
      go_ret
      exact ⟨ret_bool HE.out.symm, BE.out⟩
    · have hd2 : decide (16 < (ns.length : Int)) = false := decide_eq_false (by omega)
      by_cases g3 : 8 < cs.length
      · have HE : Hid (ruleB ⟨k, a, ns, cs⟩ = false) := ruleB_no (.inr (.inr g3))
        have hd3 : decide (8 < (cs.length : Int)) = true := decide_eq_true (by omega)
        clear SN SC HK
        go_enter Tryz.func60, Tryz.ntmps60
        go_wp2
        go_ret
        exact ⟨ret_bool HE.out.symm, BE.out⟩
      · have hd3 : decide (8 < (cs.length : Int)) = false := decide_eq_false (by omega)
        have HE : Hid (ruleB ⟨k, a, ns, cs⟩ = (actB k a && ns.all (fun s => isWd (lst s)) && cs.all condB)) := ruleB_mk (x := ⟨k, a, ns, cs⟩) (by show 1 ≤ ns.length; omega) (by show ns.length ≤ 16; omega) (by show cs.length ≤ 8; omega)
        have HNS : Hid (ns.length ≤ 1000) := by show ns.length ≤ 1000; omega
        have HCS : Hid (cs.length ≤ 1000) := by show cs.length ≤ 1000; omega
        have HA : Hid (∀ W, Calls Tryz.prog 27 #[.agg #[.int .i64 k, .int .i64 a]] W fun e w' => e = .returned (.bool (actB k a)) ∧ Below W.heap.size W w') := actR_any k a
        have HB : Hid (∀ W, StrR W (.slice p1 ns.length c1) ns → Calls Tryz.prog 99 #[.slice p1 ns.length c1, .func (.func 100) #[] #[]] W fun e w' => e = .returned (.bool (ns.all fun s => isWd (lst s))) ∧ Below W.heap.size W w') := fun W h => allS_any W _ ns h HNS.out
        have HC : Hid (∀ W, CdR W (.slice p2 cs.length c2) cs → Calls Tryz.prog 101 #[.slice p2 cs.length c2, .func (.func 102) #[] #[]] W fun e w' => e = .returned (.bool (cs.all condB)) ∧ Below W.heap.size W w') := fun W h => allC_any W _ cs h HCS.out
        generalize (ns.all fun s => isWd (lst s)) = RN at *
        generalize cs.all condB = RC at *
        generalize actB k a = RA at *
        clear HNS HCS g1 g2 g3 h1 h2
        rcases Bool.eq_false_or_eq_true RA with rfl | rfl
        · rcases Bool.eq_false_or_eq_true RN with rfl | rfl
          all_goals
            go_enter Tryz.func60, Tryz.ntmps60
            go_wp2_with fail
            generalize (w.alloc (Obj.cells #[.int .i64 k, .int .i64 a, .slice p1 ns.length c1, .slice p2 cs.length c2] 87)) = X at *
            refine (HA.out _).mono ?_
            rintro e w1 ⟨rfl, b1⟩
            have t2 : w1.cell? ⟨w.heap.size, 2, none⟩ = some (.slice p1 ns.length c1) := (HK.out.over b1).cell 2
            go_wp2_with fail
            refine (HB.out _ (SN.out.below b1)).mono ?_
            rintro e w2 ⟨rfl, b2⟩
            have HB2 : Hid (Below X.heap.size X w2) := b1.trans (b2.mono b1.size)
            clear t2 b1 b2
            have t3 : w2.cell? ⟨w.heap.size, 3, none⟩ = some (.slice p2 cs.length c2) := (HK.out.over HB2.out).cell 3
          · go_wp2_with fail
            refine (HC.out _ (SC.out.below HB2.out)).mono ?_
            rintro e w3 ⟨rfl, b3⟩
            go_wp2_with fail
            go_ret
            exact ⟨ret_bool (by rw [HE.out]; rfl), BE.out.trans ((HB2.out.trans (b3.mono HB2.out.size)).mono BE.out.size)⟩
          · go_wp2_with fail
            go_ret
            exact ⟨ret_bool (by rw [HE.out]; rfl), BE.out.trans (HB2.out.mono BE.out.size)⟩
        · go_enter Tryz.func60, Tryz.ntmps60
          go_wp2_with fail
          generalize (w.alloc (Obj.cells #[.int .i64 k, .int .i64 a, .slice p1 ns.length c1, .slice p2 cs.length c2] 87)) = X at *
          refine (HA.out _).mono ?_
          rintro e w1 ⟨rfl, b1⟩
          go_wp2_with fail
          go_ret
          exact ⟨ret_bool (by rw [HE.out]; rfl), BE.out.trans (b1.mono BE.out.size)⟩

set_option maxHeartbeats 1000000 in
theorem allR_any (w : World) (v : Value) (l : List Xr) (h : RlR w v l) (hl : l.length ≤ 1000) (hs : ∀ x ∈ l, x.r.names.length ≤ 9000000 ∧ x.r.conds.length ≤ 9000000) :
    Calls Tryz.prog 59 #[v, .func (.func 60) #[] #[]] w fun e w' => e = .returned (.bool (l.all fun x => ruleB x.r)) ∧ Below w.heap.size w w' := by
  obtain ⟨p1, c1, rfl⟩ : ∃ p c, v = .slice p l.length c := by obtain ⟨p, c, e, _⟩ := h; exact ⟨p, c, e⟩
  have S1 : Hid (RlR w (.slice p1 l.length c1) l) := h
  have HM : Hid (∀ x ∈ l, x.r.names.length ≤ 9000000 ∧ x.r.conds.length ≤ 9000000) := hs
  clear h hs
  generalize hR : (l.all fun x => ruleB x.r) = R
  have HR : Hid ((l.all fun x => ruleB x.r) = R) := hR
  clear hR
  go_enter Tryz.func59, Tryz.ntmps59
  go_wp2
  go_loopw [9] (fun vi wr => ∃ i : Nat, vi = .int .i64 i ∧ i ≤ l.length ∧ ((l.take i).all fun x => ruleB x.r) = true ∧ Below w.heap.size w wr) (fun vi _ => l.length - (intOf vi).toNat)
  case atStart => exact ⟨0, rfl, Nat.zero_le _, rfl, Below.refl _ _⟩
  case round =>
    obtain ⟨i, rfl, hi, ht, hb⟩ := hrel
    have HT : Hid (((l.take i).all fun x => ruleB x.r) = true) := ht
    have HB : Hid (Below w.heap.size w wr) := hb
    clear ht
    by_cases hlt : i < l.length
    · have hi1 : (i : Int) < (l.length : Int) := by omega
      obtain ⟨b1, o1, rfl, e1⟩ := rlR_at (S1.out.below hb) hlt
      have hmem : l[i] ∈ l := List.getElem_mem hlt
      have HX : Hid (∀ W, Below w.heap.size w W → Calls Tryz.prog 60 #[.agg #[.int .i64 l[i].r.k, .int .i64 l[i].r.a, l[i].vn, l[i].vc]] W fun e w' => e = .returned (.bool (ruleB l[i].r)) ∧ Below W.heap.size W w') := fun W hW => by
        obtain ⟨_, _, _, _, _, _, hr⟩ := S1.out.below hW
        exact rightRule_any W l[i] (hr _ hmem).1 (hr _ hmem).2 (HM.out _ hmem).1 (HM.out _ hmem).2
      have HS : Hid (ruleB l[i].r = true → ((l.take (i + 1)).all fun x => ruleB x.r) = true) := fun hq => all_step (p := fun x => ruleB x.r) hlt hq HT.out
      have HF : Hid (ruleB l[i].r = false → R = false) := fun hq => HR.out.symm.trans (all_stop (p := fun x => ruleB x.r) hlt hq)
      obtain ⟨p3, n3, c3, e3⟩ : ∃ p n c, l[i].vn = .slice p n c := by obtain ⟨_, _, _, _, _, _, hr⟩ := S1.out; obtain ⟨p, c, e, _⟩ := (hr _ hmem).1; exact ⟨p, _, c, e⟩
      obtain ⟨p4, n4, c4, e4⟩ : ∃ p n c, l[i].vc = .slice p n c := by obtain ⟨_, _, _, _, _, _, hr⟩ := S1.out; obtain ⟨p, c, e, _⟩ := (hr _ hmem).2; exact ⟨p, _, c, e⟩
      clear hmem
      generalize l[i] = x at *
      obtain ⟨⟨k, a, ns, cs⟩, vn, vc⟩ := x
      obtain ⟨q0, q1, q2, q3⟩ := e1
      dsimp only at q0 q1 q2 q3 HX HS HF e3 e4
      subst e3 e4
      have BE : Hid (Below w.heap.size w (wr.alloc (Obj.cells #[.int .i64 k, .int .i64 a, .slice p3 n3 c3, .slice p4 n4 c4] 87))) := HB.out.alloc HB.out.size _
      clear hb
      generalize ruleB ⟨k, a, ns, cs⟩ = RB at *
      rcases Bool.eq_false_or_eq_true RB with rfl | rfl
      · go_wp2_with (go_at_call 60; refine (HX.out _ BE.out).mono ?_; rintro e w1 ⟨rfl, b1⟩)
        go_roundw
        case rel => exact ⟨i + 1, by go_num, hlt, HS.out trivial, BE.out.trans (b1.mono BE.out.size)⟩
        case measure => simp [intOf]; omega
      · go_wp2_with (go_at_call 60; refine (HX.out _ BE.out).mono ?_; rintro e w1 ⟨rfl, b1⟩)
        go_ret
        exact ⟨ret_bool (HF.out trivial).symm, BE.out.trans (b1.mono BE.out.size)⟩
    · have hge : ¬ (i : Int) < (l.length : Int) := by omega
      clear hb
      go_wp2
      go_ret
      exact ⟨ret_bool (by rw [← HR.out]; exact (all_end hlt HT.out).symm), HB.out⟩

def rulesB (k a : Int) (l : List Xl) : Bool := actB k a && decide (l.length ≤ 64) && l.all ruleB

set_option maxHeartbeats 1000000 in
theorem right_any (w : World) (k a : Int) (v : Value) (l : List Xr) (h : RlR w v l) (hl : l.length ≤ 1000) (hs : ∀ x ∈ l, x.r.names.length ≤ 9000000 ∧ x.r.conds.length ≤ 9000000) :
    Calls Tryz.prog 31 #[.agg #[.int .i64 k, .int .i64 a, v]] w fun e w' => e = .returned (.bool (rulesB k a (l.map Xr.r))) ∧ Below w.heap.size w w' := by
  obtain ⟨p1, c1, rfl⟩ : ∃ p c, v = .slice p l.length c := by obtain ⟨p, c, e, _⟩ := h; exact ⟨p, c, e⟩
  have be : Below w.heap.size w (w.alloc (Obj.cells #[.int .i64 k, .int .i64 a, .slice p1 l.length c1] 39)) := (Below.refl _ _).alloc (Nat.le_refl _) _
  have BE : Hid (Below w.heap.size w (w.alloc (Obj.cells #[.int .i64 k, .int .i64 a, .slice p1 l.length c1] 39))) := be
  have HK : Hid (Blk (w.alloc (Obj.cells #[.int .i64 k, .int .i64 a, .slice p1 l.length c1] 39)) w.heap.size 39 [.int .i64 k, .int .i64 a, .slice p1 l.length c1]) := blk_new w _ _
  have SN : Hid (RlR (w.alloc (Obj.cells #[.int .i64 k, .int .i64 a, .slice p1 l.length c1] 39)) (.slice p1 l.length c1) l) := h.below be
  have HA : Hid (∀ W, Calls Tryz.prog 27 #[.agg #[.int .i64 k, .int .i64 a]] W fun e w' => e = .returned (.bool (actB k a)) ∧ Below W.heap.size W w') := actR_any k a
  have HB : Hid (∀ W, RlR W (.slice p1 l.length c1) l → Calls Tryz.prog 59 #[.slice p1 l.length c1, .func (.func 60) #[] #[]] W fun e w' => e = .returned (.bool (l.all fun x => ruleB x.r)) ∧ Below W.heap.size W w') := fun W h => allR_any W _ l h hl hs
  have HE : Hid (rulesB k a (l.map Xr.r) = (actB k a && decide (l.length ≤ 64) && l.all fun x => ruleB x.r)) := by
    show rulesB k a (l.map Xr.r) = _
    unfold rulesB
    rw [List.length_map, List.all_map]
    rfl
  clear h be hs
  generalize (l.all fun x => ruleB x.r) = RN at *
  generalize actB k a = RA at *
  rcases Bool.eq_false_or_eq_true RA with rfl | rfl
  · by_cases g1 : l.length ≤ 64
    · have hd : decide ((l.length : Int) ≤ 64) = true := decide_eq_true (by omega)
      have HD : Hid (decide (l.length ≤ 64) = true) := decide_eq_true g1
      go_enter Tryz.func31, Tryz.ntmps31
      go_wp2_with fail
      generalize (w.alloc (Obj.cells #[.int .i64 k, .int .i64 a, .slice p1 l.length c1] 39)) = X at *
      refine (HA.out _).mono ?_
      rintro e w1 ⟨rfl, b1⟩
      have t2 : w1.cell? ⟨w.heap.size, 2, none⟩ = some (.slice p1 l.length c1) := (HK.out.over b1).cell 2
      go_wp2_with fail
      refine (HB.out _ (SN.out.below b1)).mono ?_
      rintro e w2 ⟨rfl, b2⟩
      go_wp2_with fail
      go_ret
      exact ⟨ret_bool (by rw [HE.out, HD.out]; rfl), BE.out.trans ((b1.trans (b2.mono b1.size)).mono BE.out.size)⟩
    · have hd : decide ((l.length : Int) ≤ 64) = false := decide_eq_false (by omega)
      have HD : Hid (decide (l.length ≤ 64) = false) := decide_eq_false g1
      go_enter Tryz.func31, Tryz.ntmps31
      go_wp2_with fail
      generalize (w.alloc (Obj.cells #[.int .i64 k, .int .i64 a, .slice p1 l.length c1] 39)) = X at *
      refine (HA.out _).mono ?_
      rintro e w1 ⟨rfl, b1⟩
      have t2 : w1.cell? ⟨w.heap.size, 2, none⟩ = some (.slice p1 l.length c1) := (HK.out.over b1).cell 2
      go_wp2_with fail
      go_ret
      exact ⟨ret_bool (by rw [HE.out, HD.out]; rfl), BE.out.trans (b1.mono BE.out.size)⟩
  · go_enter Tryz.func31, Tryz.ntmps31
    go_wp2_with fail
    generalize (w.alloc (Obj.cells #[.int .i64 k, .int .i64 a, .slice p1 l.length c1] 39)) = X at *
    refine (HA.out _).mono ?_
    rintro e w1 ⟨rfl, b1⟩
    go_wp2_with fail
    go_ret
    exact ⟨ret_bool (by rw [HE.out]; rfl), BE.out.trans (b1.mono BE.out.size)⟩

end Go.Proofs.YtcckipimfgmmdaaGreatDoor.M
