/-
  Rules that may be shown, by the document.
-/
import Derived.Test.YtimclfdecdappaaRRight
namespace Go.Proofs.Ytimclfdecdappaa
open Go.RowKit

/-- rules that are small enough to be walked through. -/
def Sml (l : List Xr) : Prop := l.length ≤ 1000 ∧ ∀ x ∈ l, x.r.names.length ≤ 9000000 ∧ x.r.conds.length ≤ 9000000 ∧ ∀ s ∈ x.r.names, s.size ≤ 1000000

theorem rcondX (x : Xc) (w : World) : Calls Try.prog 45 #[.agg #[.int .i64 x.arg, .int .i64 x.op, .int .u64 x.mask, .int .u64 x.val]] w fun e w' => e = .returned (.bool (condB x)) ∧ Below w.heap.size w w' := refCondR_any x.arg x.op x.mask x.val w

theorem ruleB_parts {x : Xl} (h1 : ¬ x.names.length < 1) (h2 : ¬ 16 < x.names.length) (h3 : ¬ 8 < x.conds.length) (h4 : actB x.k x.a = true) : ruleB x = (x.names.all (fun s => isWd (lst s)) && x.conds.all condB) := by
  rw [ruleB_mk (by omega) (by omega) (by omega), h4, Bool.true_and]
theorem ruleB_act {x : Xl} (h4 : actB x.k x.a = false) : ruleB x = false := by
  unfold ruleB
  rw [h4]
  simp

set_option maxRecDepth 8000 in
set_option maxHeartbeats 4000000 in
theorem rright_any (w : World) (k a : Int) (v : Value) (l : List Xr) (h : RlR w v l) (hs : Sml l) :
    Calls Try.prog 30 #[.agg #[.int .i64 k, .int .i64 a, v]] w fun e w' => e = .returned (.bool (rulesB k a (l.map Xr.r))) ∧ Below w.heap.size w w' := by
  obtain ⟨p1, c1, rfl⟩ : ∃ p c, v = .slice p l.length c := by obtain ⟨p, c, e, _⟩ := h; exact ⟨p, c, e⟩
  have hl : l.length ≤ 1000 := hs.1
  have be : Below w.heap.size w (w.alloc (Obj.cells #[.int .i64 k, .int .i64 a, .slice p1 l.length c1] 33)) := (Below.refl _ _).alloc (Nat.le_refl _) _
  have BE : Hid (Below w.heap.size w (w.alloc (Obj.cells #[.int .i64 k, .int .i64 a, .slice p1 l.length c1] 33))) := be
  have HK : Hid (Blk (w.alloc (Obj.cells #[.int .i64 k, .int .i64 a, .slice p1 l.length c1] 33)) w.heap.size 33 [.int .i64 k, .int .i64 a, .slice p1 l.length c1]) := blk_new w _ _
  have SN : Hid (RlR (w.alloc (Obj.cells #[.int .i64 k, .int .i64 a, .slice p1 l.length c1] 33)) (.slice p1 l.length c1) l) := h.below be
  have HA : Hid (∀ W, Calls Try.prog 43 #[.agg #[.int .i64 k, .int .i64 a]] W fun e w' => e = .returned (.bool (actB k a)) ∧ Below W.heap.size W w') := ractR_any k a
  have HE : Hid (rulesB k a (l.map Xr.r) = (actB k a && decide (l.length ≤ 64) && l.all fun x => ruleB x.r)) := by
    show rulesB k a (l.map Xr.r) = _
    unfold rulesB
    rw [List.length_map, List.all_map]
    rfl
  have HM : Hid (Sml l) := hs
  clear h be hs
  generalize rulesB k a (l.map Xr.r) = R at *
  generalize actB k a = RA at *
  cases RA with
  | false =>
    go_enter Try.func30, Try.ntmps30
    go_wp2_with fail
    generalize (w.alloc (Obj.cells #[.int .i64 k, .int .i64 a, .slice p1 l.length c1] 33)) = X at *
    refine (HA.out _).mono ?_
    rintro e w1 ⟨rfl, b1⟩
    go_wp2_with fail
    go_ret
    exact ⟨ret_bool (by rw [HE.out]; rfl), BE.out.trans (b1.mono BE.out.size)⟩
  | true =>
    by_cases g64 : 64 < l.length
    · have hd : decide (64 < (l.length : Int)) = true := decide_eq_true (by omega)
      have HR : Hid (R = false) := by show R = false; rw [HE.out, decide_eq_false (by omega)]; rfl
      clear HE
      go_enter Try.func30, Try.ntmps30
      go_wp2_with fail
      generalize (w.alloc (Obj.cells #[.int .i64 k, .int .i64 a, .slice p1 l.length c1] 33)) = X at *
      refine (HA.out _).mono ?_
      rintro e w1 ⟨rfl, b1⟩
      have t2 : w1.cell? ⟨w.heap.size, 2, none⟩ = some (.slice p1 l.length c1) := (HK.out.over b1).cell 2
      go_wp2_with fail
      go_ret
      exact ⟨ret_bool HR.out.symm, BE.out.trans (b1.mono BE.out.size)⟩
    · have hd : decide (64 < (l.length : Int)) = false := decide_eq_false (by omega)
      have HR : Hid (R = l.all fun x => ruleB x.r) := by show R = _; rw [HE.out, decide_eq_true (by omega)]; rfl
      clear HE
      go_enter Try.func30, Try.ntmps30
      go_wp2_with fail
      generalize (w.alloc (Obj.cells #[.int .i64 k, .int .i64 a, .slice p1 l.length c1] 33)) = X at *
      refine (HA.out _).mono ?_
      rintro e w1 ⟨rfl, b1⟩
      have t2 : w1.cell? ⟨w.heap.size, 2, none⟩ = some (.slice p1 l.length c1) := (HK.out.over b1).cell 2
      have K1 : Hid (Blk w1 w.heap.size 33 [.int .i64 k, .int .i64 a, .slice p1 l.length c1]) := HK.out.over b1
      have S1 : Hid (RlR w1 (.slice p1 l.length c1) l) := SN.out.below b1
      have B1 : Hid (Below w.heap.size w w1) := BE.out.trans (b1.mono BE.out.size)
      clear b1 BE SN HK HA
      go_wp2_with fail
      clear t2
      go_loopw [3] (fun vi wr => ∃ i : Nat, vi = .int .i64 i ∧ i ≤ l.length ∧ ((l.take i).all fun x => ruleB x.r) = true ∧ Below w1.heap.size w1 wr) (fun vi _ => l.length - (intOf vi).toNat)
      case atStart => exact ⟨0, rfl, Nat.zero_le _, rfl, Below.refl _ _⟩
      case round =>
        obtain ⟨i, rfl, hi, ht, hb⟩ := hrel
        have HT : Hid (((l.take i).all fun x => ruleB x.r) = true) := ht
        have HB : Hid (Below w1.heap.size w1 wr) := hb
        have t2 : wr.cell? ⟨w.heap.size, 2, none⟩ = some (.slice p1 l.length c1) := (K1.out.over hb).cell 2
        clear ht
        by_cases hlt : i < l.length
        · have hi1 : (i : Int) < (l.length : Int) := by omega
          obtain ⟨b1, o1, rfl, e1⟩ := rlR_at (S1.out.below hb) hlt
          have hmem : l[i] ∈ l := List.getElem_mem hlt
          have HSm : Hid (l[i].r.names.length ≤ 9000000 ∧ l[i].r.conds.length ≤ 9000000 ∧ ∀ s ∈ l[i].r.names, s.size ≤ 1000000) := HM.out.2 _ hmem
          have HSR : Hid (∀ W, Below w1.heap.size w1 W → StrR W l[i].vn l[i].r.names ∧ CdR W l[i].vc l[i].r.conds) := fun W hW => by
            obtain ⟨_, _, _, _, _, _, hr⟩ := S1.out.below hW
            exact hr _ hmem
          have HS : Hid (ruleB l[i].r = true → ((l.take (i + 1)).all fun x => ruleB x.r) = true) := fun hq => all_step (p := fun x => ruleB x.r) hlt hq HT.out
          have HF : Hid (ruleB l[i].r = false → R = false) := fun hq => HR.out.trans (all_stop (p := fun x => ruleB x.r) hlt hq)
          clear hmem HT S1
          generalize l[i] = x at *
          obtain ⟨⟨xk, xa, ns, cs⟩, vn, vc⟩ := x
          obtain ⟨q0, q1, q2, q3⟩ := e1
          dsimp only at q0 q1 q2 q3 HSm HSR
          obtain ⟨p3, c3, rfl⟩ : ∃ p c, vn = .slice p ns.length c := by obtain ⟨p, c, e, _⟩ := (HSR.out _ HB.out).1; exact ⟨p, c, e⟩
          obtain ⟨p4, c4, rfl⟩ : ∃ p c, vc = .slice p cs.length c := by obtain ⟨p, c, e, _⟩ := (HSR.out _ HB.out).2; exact ⟨p, c, e⟩
          have HX : Hid (∀ W, Calls Try.prog 43 #[.agg #[.int .i64 xk, .int .i64 xa]] W fun e w' => e = .returned (.bool (actB xk xa)) ∧ Below W.heap.size W w') := ractR_any xk xa
          have hn1 : ns.length ≤ 9000000 := HSm.out.1
          have hn2 : cs.length ≤ 9000000 := HSm.out.2.1
          have BX : Hid (Below w1.heap.size w1 (wr.alloc (Obj.cells #[.int .i64 xk, .int .i64 xa, .slice p3 ns.length c3, .slice p4 cs.length c4] 52))) := HB.out.alloc HB.out.size _
          have KX : Hid (Blk (wr.alloc (Obj.cells #[.int .i64 xk, .int .i64 xa, .slice p3 ns.length c3, .slice p4 cs.length c4] 52)) wr.heap.size 52 [.int .i64 xk, .int .i64 xa, .slice p3 ns.length c3, .slice p4 cs.length c4]) := blk_new wr _ _
          clear hb
          rcases Bool.eq_false_or_eq_true (actB xk xa) with hact | hact
          · rw [hact] at HX
            by_cases g1 : ns.length < 1
            · have HQ : Hid (ruleB ⟨xk, xa, ns, cs⟩ = false) := ruleB_no (.inl g1)
              have d1 : decide ((ns.length : Int) < 1) = true := decide_eq_true (by omega)
              go_wp2_with (go_at_call 43; refine (HX.out _).mono ?_; rintro e w2 ⟨rfl, b2⟩; have rr2 : w2.cell? ⟨wr.heap.size, 2, none⟩ = some (.slice p3 ns.length c3) := (KX.out.over b2).cell 2; have rr3 : w2.cell? ⟨wr.heap.size, 3, none⟩ = some (.slice p4 cs.length c4) := (KX.out.over b2).cell 3)
              go_ret
              exact ⟨ret_bool (HF.out HQ.out).symm, B1.out.trans ((BX.out.trans (b2.mono BX.out.size)).mono B1.out.size)⟩
            · have d1 : decide ((ns.length : Int) < 1) = false := decide_eq_false (by omega)
              by_cases g2 : 16 < ns.length
              · have HQ : Hid (ruleB ⟨xk, xa, ns, cs⟩ = false) := ruleB_no (.inr (.inl g2))
                have d2 : decide (16 < (ns.length : Int)) = true := decide_eq_true (by omega)
                go_wp2_with (go_at_call 43; refine (HX.out _).mono ?_; rintro e w2 ⟨rfl, b2⟩; have rr2 : w2.cell? ⟨wr.heap.size, 2, none⟩ = some (.slice p3 ns.length c3) := (KX.out.over b2).cell 2; have rr3 : w2.cell? ⟨wr.heap.size, 3, none⟩ = some (.slice p4 cs.length c4) := (KX.out.over b2).cell 3)
                go_ret
                exact ⟨ret_bool (HF.out HQ.out).symm, B1.out.trans ((BX.out.trans (b2.mono BX.out.size)).mono B1.out.size)⟩
              · have d2 : decide (16 < (ns.length : Int)) = false := decide_eq_false (by omega)
                by_cases g3 : 8 < cs.length
                · have HQ : Hid (ruleB ⟨xk, xa, ns, cs⟩ = false) := ruleB_no (.inr (.inr g3))
                  have d3 : decide (8 < (cs.length : Int)) = true := decide_eq_true (by omega)
                  go_wp2_with (go_at_call 43; refine (HX.out _).mono ?_; rintro e w2 ⟨rfl, b2⟩; have rr2 : w2.cell? ⟨wr.heap.size, 2, none⟩ = some (.slice p3 ns.length c3) := (KX.out.over b2).cell 2; have rr3 : w2.cell? ⟨wr.heap.size, 3, none⟩ = some (.slice p4 cs.length c4) := (KX.out.over b2).cell 3)
                  go_ret
                  exact ⟨ret_bool (HF.out HQ.out).symm, B1.out.trans ((BX.out.trans (b2.mono BX.out.size)).mono B1.out.size)⟩
                · have d3 : decide (8 < (cs.length : Int)) = false := decide_eq_false (by omega)
                  have HQ : Hid (ruleB ⟨xk, xa, ns, cs⟩ = (ns.all (fun s => isWd (lst s)) && cs.all condB)) := ruleB_parts (x := ⟨xk, xa, ns, cs⟩) g1 g2 g3 hact
                  go_wp2_with (go_at_call 43; refine (HX.out _).mono ?_; rintro e w2 ⟨rfl, b2⟩; have rr2 : w2.cell? ⟨wr.heap.size, 2, none⟩ = some (.slice p3 ns.length c3) := (KX.out.over b2).cell 2; have rr3 : w2.cell? ⟨wr.heap.size, 3, none⟩ = some (.slice p4 cs.length c4) := (KX.out.over b2).cell 3)
                  have BY : Hid (Below w1.heap.size w1 w2) := BX.out.trans (b2.mono BX.out.size)
                  have KY : Hid (Blk w2 wr.heap.size 52 [.int .i64 xk, .int .i64 xa, .slice p3 ns.length c3, .slice p4 cs.length c4]) := KX.out.over b2
                  clear b2 BX KX t2 q0 q1 q2 q3 rr3
                  go_loop [5] (fun vj => ∃ j : Nat, vj = .int .i64 j ∧ j ≤ ns.length ∧ ((ns.take j).all fun s => isWd (lst s)) = true) (fun vj => ns.length - (intOf vj).toNat)
                  case atStart => exact ⟨0, rfl, Nat.zero_le _, rfl⟩
                  case round =>
                    obtain ⟨j, rfl, hj, hall⟩ := hrel
                    have HT2 : Hid (((ns.take j).all fun s => isWd (lst s)) = true) := hall
                    clear hall
                    by_cases hlt2 : j < ns.length
                    · have hj1 : (j : Int) < (ns.length : Int) := by omega
                      obtain ⟨b3, o3, rfl, e3⟩ := strR_at (HSR.out _ BY.out).1 hlt2
                      have HI : Hid (∀ W, Calls Try.prog 44 #[.string ns[j]] W fun e w' => e = .returned (.bool (isWd (lst ns[j]))) ∧ w' = W) := fun W => ris_any _ W (HSm.out.2.2 _ (List.getElem_mem hlt2))
                      have HS2 : Hid (isWd (lst ns[j]) = true → ((ns.take (j + 1)).all fun s => isWd (lst s)) = true) := fun hq => all_step (p := fun s => isWd (lst s)) hlt2 hq HT2.out
                      have HF2 : Hid (isWd (lst ns[j]) = false → R = false) := fun hq => HF.out (by rw [HQ.out, all_stop (p := fun s => isWd (lst s)) hlt2 hq]; rfl)
                      clear HT2
                      generalize isWd (lst ns[j]) = q at *
                      generalize ns[j] = s at *
                      cases q with
                      | true =>
                        go_wp2_with (go_at_call 44; refine (HI.out _).mono ?_; rintro e w3 ⟨rfl, rfl⟩)
                        go_round
                        case rel => exact ⟨j + 1, by go_num, hlt2, HS2.out trivial⟩
                        case measure => simp [intOf]; omega
                      | false =>
                        go_wp2_with (go_at_call 44; refine (HI.out _).mono ?_; rintro e w3 ⟨rfl, rfl⟩)
                        go_ret
                        exact ⟨ret_bool (HF2.out trivial).symm, B1.out.trans (BY.out.mono B1.out.size)⟩
                    · have hge2 : ¬ (j : Int) < (ns.length : Int) := by omega
                      have HQ2 : Hid (ruleB ⟨xk, xa, ns, cs⟩ = cs.all condB) := by
                        show ruleB ⟨xk, xa, ns, cs⟩ = _
                        rw [HQ.out, all_end hlt2 HT2.out, Bool.true_and]
                      clear HT2 HQ
                      go_wp2
                      clear rr2
                      generalize wr.heap.size = NB at *
                      go_loopw [6] (fun vj wz => ∃ m : Nat, vj = .int .i64 m ∧ m ≤ cs.length ∧ (cs.take m).all condB = true ∧ Below w2.heap.size w2 wz) (fun vj _ => cs.length - (intOf vj).toNat)
                      case atStart => exact ⟨0, rfl, Nat.zero_le _, rfl, Below.refl _ _⟩
                      case round =>
                        obtain ⟨m, rfl, hm, hall, hbz⟩ := hrel
                        have HT3 : Hid ((cs.take m).all condB = true) := hall
                        have HBZ : Hid (Below w2.heap.size w2 wr) := hbz
                        have BZ : Hid (Below w1.heap.size w1 wr) := BY.out.trans (hbz.mono BY.out.size)
                        have rr3 : wr.cell? ⟨NB, 3, none⟩ = some (.slice p4 cs.length c4) := (KY.out.over hbz).cell 3
                        clear hall hbz
                        by_cases hlt3 : m < cs.length
                        · have hm1 : (m : Int) < (cs.length : Int) := by omega
                          obtain ⟨b4, o4, rfl, e4⟩ := cdR_at (HSR.out _ BZ.out).2 hlt3
                          have HC : Hid (∀ W, Calls Try.prog 45 #[.agg #[.int .i64 cs[m].arg, .int .i64 cs[m].op, .int .u64 cs[m].mask, .int .u64 cs[m].val]] W fun e w' => e = .returned (.bool (condB cs[m])) ∧ Below W.heap.size W w') := rcondX _
                          have HS3 : Hid (condB cs[m] = true → (cs.take (m + 1)).all condB = true) := fun hq => all_step (p := condB) hlt3 hq HT3.out
                          have HF3 : Hid (condB cs[m] = false → R = false) := fun hq => HF.out (by rw [HQ2.out, all_stop (p := condB) hlt3 hq])
                          clear HT3
                          generalize condB cs[m] = q at *
                          generalize cs[m] = y at *
                          obtain ⟨ya, yo, ym, yv⟩ := y
                          obtain ⟨z0, z1, z2, z3⟩ := e4
                          dsimp only at z0 z1 z2 z3 HC
                          cases q with
                          | true =>
                            go_wp2_with (go_at_call 45; refine (HC.out _).mono ?_; rintro e w3 ⟨rfl, b3⟩)
                            go_roundw
                            case rel => exact ⟨m + 1, by go_num, hlt3, HS3.out trivial, HBZ.out.trans (b3.mono HBZ.out.size)⟩
                            case measure => simp [intOf]; omega
                          | false =>
                            go_wp2_with (go_at_call 45; refine (HC.out _).mono ?_; rintro e w3 ⟨rfl, b3⟩)
                            go_ret
                            exact ⟨ret_bool (HF3.out trivial).symm, B1.out.trans ((BZ.out.trans (b3.mono BZ.out.size)).mono B1.out.size)⟩
                        · have hge3 : ¬ (m : Int) < (cs.length : Int) := by omega
                          have HS4 : Hid (((l.take (i + 1)).all fun x => ruleB x.r) = true) := HS.out (by rw [HQ2.out]; exact all_end hlt3 HT3.out)
                          clear HT3
                          go_wp2
                          go_roundw
                          case rel => exact ⟨i + 1, by go_num, hlt, HS4.out, BZ.out⟩
                          case measure => simp [intOf]; omega
          · rw [hact] at HX
            have HQ : Hid (ruleB ⟨xk, xa, ns, cs⟩ = false) := ruleB_act hact
            go_wp2_with (go_at_call 43; refine (HX.out _).mono ?_; rintro e w2 ⟨rfl, b2⟩)
            go_ret
            exact ⟨ret_bool (HF.out HQ.out).symm, B1.out.trans ((BX.out.trans (b2.mono BX.out.size)).mono B1.out.size)⟩
        · have hge : ¬ (i : Int) < (l.length : Int) := by omega
          clear hb
          go_wp2
          go_ret
          exact ⟨ret_bool (by rw [HR.out]; exact (all_end hlt HT.out).symm), B1.out.trans (HB.out.mono B1.out.size)⟩

end Go.Proofs.Ytimclfdecdappaa
