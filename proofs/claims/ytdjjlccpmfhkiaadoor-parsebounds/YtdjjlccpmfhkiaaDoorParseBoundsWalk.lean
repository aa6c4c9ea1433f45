/-
  The law ParseBounds, walked: true for every text.
-/
import Derived.Test.YtdjjlccpmfhkiaaDoorAwake
import Derived.Test.YtdjjlccpmfhkiaaDoorRef
namespace Go.Proofs.YtdjjlccpmfhkiaaDoor
open Go.RowKit

theorem while_self (p : UInt8 → Bool) : ∀ (l : List UInt8), (∀ d ∈ l, p d = true) → l.takeWhile p = l := by
  intro l
  induction l with
  | nil => intro _; rfl
  | cons c r ih =>
    intro h
    rw [List.takeWhile_cons, if_pos (h c List.mem_cons_self), ih (fun d hd => h d (List.mem_cons_of_mem _ hd))]

theorem wd_is {t : List UInt8} (h : Wd t) : isWd t = true := by
  obtain ⟨c, r, rfl, h1, h2⟩ := h
  show (loN c.toNat && decide (((c :: r).takeWhile ofW).length = (c :: r).length)) = true
  rw [while_self ofW _ h2, h1]
  simp

set_option maxRecDepth 8000 in
set_option maxHeartbeats 8000000 in
theorem parseBounds_walk (s : ByteArray) (w : World) (hv : Vars w) :
    Calls Tryd.prog 6 #[.string s] w fun e w' => e = .returned (.bool true) ∧ Below w.heap.size w w' := by
  have HV : Hid (Vars w) := hv
  have HW : Hid (∀ W, Vars W → Calls Tryd.prog 9 #[] W fun e w' => e = .returned (.bool true) ∧ Below W.heap.size W w') := awake_any
  clear hv
  by_cases hlong : 8192 < s.size
  · have h1 : decide ((8192 : Int) < s.size) = true := by simp; omega
    go_enter Tryd.func6, Tryd.ntmps6
    go_wp2_with (go_at_call 9; refine (HW.out _ HV.out).mono ?_; rintro e w1 ⟨rfl, b1⟩)
    go_ret
    exact ⟨rfl, b1⟩
  · have h1 : decide ((8192 : Int) < s.size) = false := by simp; omega
    have HP : Hid (∀ W, Vars W → Calls Tryd.prog 10 #[.string s] W fun e w' => Below W.heap.size W w' ∧ Par2 (prs (lst s)) e w') := fun W h => parse2 s W h
    have hll : (lst s).length ≤ 8192 := by rw [lst_length]; omega
    rcases hP : prs (lst s) with ⟨c, p⟩ | ⟨d, rs⟩
    · obtain ⟨hcc, hpp⟩ := prs_place hP hll
      rw [hP] at HP
      have hc : ((c : Int) == 0) = false := by rw [beq_eq_false_iff_ne]; omega
      have hcn : ((c : Int) != 0) = true := by rw [bne, hc]; rfl
      have hp1 : decide ((0 : Int) ≤ (p : Int)) = true := by simp
      have hp2 : decide ((p : Int) ≤ (s.size : Int)) = true := by rw [lst_length] at hpp; simp; omega
      have hp3 : p ≤ s.size := by rw [lst_length] at hpp; exact hpp
      have hqa := eql_act 0 0
      clear hP hlong hll hcc hpp
      go_enter Tryd.func6, Tryd.ntmps6
      go_wp2_with (first | (go_at_call 9; refine (HW.out _ HV.out).mono ?_; rintro e w1 ⟨rfl, b1⟩; have V1 : Hid (Vars w1) := HV.out.below b1) | (go_at_call 10; refine (HP.out _ V1.out).mono ?_; rintro e w2 ⟨b2, rfl⟩))
      go_ret
      exact ⟨rfl, (b1.trans (b2.mono b1.size)).alloc (Nat.le_trans b1.size b2.size) _⟩
    · obtain ⟨hOA, hOL⟩ := prs_bound hP
      dsimp only at hOA hOL
      rw [hP] at HP
      have HOL : Hid (OkL Wd rs) := hOL
      have a1 : decide ((d.k : Int) < 1) = false := by have := hOA.lo; simp; omega
      have a2 : decide ((8 : Int) < (d.k : Int)) = false := by have := hOA.hi; simp; omega
      have hl64 : rs.length ≤ 64 := hOL.1
      clear hP hlong hll hOA hOL
      go_enter Tryd.func6, Tryd.ntmps6
      go_wp2_with fail
      refine (HW.out _ HV.out).mono ?_
      rintro e w1 ⟨rfl, b1⟩
      have V1 : Hid (Vars w1) := HV.out.below b1
      go_wp2_with fail
      refine (HP.out _ V1.out).mono ?_
      rintro e w2 ⟨b2, v2, rv, hr, rfl, hV⟩
      obtain ⟨pa, ca, rfl⟩ : ∃ a c, v2 = .slice a rv.length c := by obtain ⟨a, c, e, _⟩ := hV; exact ⟨a, c, e⟩
      have hal : Below w2.heap.size w2 (w2.alloc (Obj.cells #[.int .i64 d.k, .int .i64 d.a, .slice pa rv.length ca] 27)) := (Below.refl _ _).alloc (Nat.le_refl _) _
      have B2 : Hid (Below w.heap.size w (w2.alloc (Obj.cells #[.int .i64 d.k, .int .i64 d.a, .slice pa rv.length ca] 27))) := (b1.trans (b2.mono b1.size)).trans (hal.mono (Nat.le_trans b1.size b2.size))
      have S2 : Hid (RlsV (w2.alloc (Obj.cells #[.int .i64 d.k, .int .i64 d.a, .slice pa rv.length ca] 27)) (.slice pa rv.length ca) rv) := hV.below hal
      have K2 : Hid (Blk (w2.alloc (Obj.cells #[.int .i64 d.k, .int .i64 d.a, .slice pa rv.length ca] 27)) w2.heap.size 27 (rulL d.k d.a (.slice pa rv.length ca))) := blk_new w2 _ 27
      have hlr : rv.length ≤ 64 := by have := congrArg List.length hr; simp at this; omega
      have a3 : decide ((64 : Int) < (rv.length : Int)) = false := by simp; omega
      have HR : Hid (∀ i (hi : i < rv.length), OkR Wd rv[i].r) := fun i hi => HOL.out.2 _ (by rw [hr]; exact List.mem_map_of_mem (List.getElem_mem hi))
      clear hV hal b1 b2 hr HOL
      go_wp2_with fail
      generalize w2.alloc (Obj.cells #[.int .i64 d.k, .int .i64 d.a, .slice pa rv.length ca] 27) = W2 at *
      generalize w2.heap.size = N2 at *
      go_loopw [7] (fun vi wr => ∃ i : Nat, vi = .int .i64 i ∧ i ≤ rv.length ∧ Below W2.heap.size W2 wr) (fun vi _ => rv.length - (intOf vi).toNat)
      case atStart => exact ⟨0, rfl, Nat.zero_le _, Below.refl _ _⟩
      case round =>
        obtain ⟨i, rfl, hi, hb⟩ := hrel
        have HB : Hid (Below W2.heap.size W2 wr) := hb
        have d0 : wr.cell? ⟨N2, 2, none⟩ = some (.slice pa rv.length ca) := (K2.out.over hb).cell 2
        by_cases hlt : i < rv.length
        · have hi1 : (i : Int) < (rv.length : Int) := by omega
          obtain ⟨b1, rfl, e1⟩ := rls_at (S2.out.below hb) hlt
          have hst : Strs wr rv[i].vn rv[i].r.names ∧ Cds wr rv[i].vc rv[i].r.conds := by
            obtain ⟨_, _, _, _, h⟩ := S2.out.below hb
            exact h _ (List.getElem_mem hlt)
          have hok := HR.out i hlt
          generalize rv[i] = x at *
          obtain ⟨⟨⟨xk, xa⟩, xns, xcs⟩, vn, vc⟩ := x
          obtain ⟨q0, q1, q2, q3⟩ := e1
          obtain ⟨hs1, hs2⟩ := hst
          dsimp only at *
          obtain ⟨pn, cn, rfl⟩ : ∃ a c, vn = .slice a xns.length c := by obtain ⟨a, c, e, _⟩ := hs1; exact ⟨a, c, e⟩
          obtain ⟨pc, cc, rfl⟩ : ∃ a c, vc = .slice a xcs.length c := by obtain ⟨a, c, e, _⟩ := hs2; exact ⟨a, c, e⟩
          have hal : Below wr.heap.size wr (wr.alloc (Obj.cells #[.int .i64 xk, .int .i64 xa, .slice pn xns.length cn, .slice pc xcs.length cc] 43)) := (Below.refl _ _).alloc (Nat.le_refl _) _
          have S3 : Hid (Strs (wr.alloc (Obj.cells #[.int .i64 xk, .int .i64 xa, .slice pn xns.length cn, .slice pc xcs.length cc] 43)) (.slice pn xns.length cn) xns) := hs1.below hal
          have S4 : Hid (Cds (wr.alloc (Obj.cells #[.int .i64 xk, .int .i64 xa, .slice pn xns.length cn, .slice pc xcs.length cc] 43)) (.slice pc xcs.length cc) xcs) := hs2.below hal
          have K3 : Hid (Blk (wr.alloc (Obj.cells #[.int .i64 xk, .int .i64 xa, .slice pn xns.length cn, .slice pc xcs.length cc] 43)) wr.heap.size 43 [.int .i64 xk, .int .i64 xa, .slice pn xns.length cn, .slice pc xcs.length cc]) := blk_new wr _ 43
          have B3 : Hid (Below W2.heap.size W2 (wr.alloc (Obj.cells #[.int .i64 xk, .int .i64 xa, .slice pn xns.length cn, .slice pc xcs.length cc] 43))) := HB.out.trans (hal.mono HB.out.size)
          have f1 : decide ((xk : Int) < 1) = false := by have := hok.act.lo; dsimp only at this; simp; omega
          have f2 : decide ((8 : Int) < (xk : Int)) = false := by have := hok.act.hi; dsimp only at this; simp; omega
          have f3 : decide ((xa : Int) < 0) = false := by simp
          have f4 : decide ((65535 : Int) < (xa : Int)) = false := by have := hok.act.arg; dsimp only at this; simp; omega
          have f5 : decide ((xns.length : Int) < 1) = false := by have := hok.n1; dsimp only at this; simp; omega
          have f6 : decide ((16 : Int) < (xns.length : Int)) = false := by have := hok.n16; dsimp only at this; simp; omega
          have f7 : decide ((8 : Int) < (xcs.length : Int)) = false := by have := hok.c8; dsimp only at this; simp; omega
          have HOK : Hid ((∀ n ∈ xns, Wd n) ∧ ∀ c ∈ xcs, OkC c) := ⟨hok.names, hok.conds⟩
          have hm1 : xns.length ≤ 1000 := by have := hok.n16; dsimp only at this; omega
          have hm2 : xcs.length ≤ 1000 := by have := hok.c8; dsimp only at this; omega
          clear hok hs1 hs2 hal hb
          go_wp2
          generalize wr.alloc (Obj.cells #[.int .i64 xk, .int .i64 xa, .slice pn xns.length cn, .slice pc xcs.length cc] 43) = W3 at *
          generalize wr.heap.size = N3 at *
          clear f1 f2 f3 f4 f5 f6 f7 q0 q1 q2 q3 d0
          generalize wr = wr0 at *
          go_loopw [9] (fun vi wr => ∃ j : Nat, vi = .int .i64 j ∧ j ≤ xns.length ∧ Below W3.heap.size W3 wr) (fun vi _ => xns.length - (intOf vi).toNat)
          case atStart => exact ⟨0, rfl, Nat.zero_le _, Below.refl _ _⟩
          case round =>
            obtain ⟨j, rfl, hj, hb⟩ := hrel
            have HB3 : Hid (Below W3.heap.size W3 wr) := hb
            have d1 : wr.cell? ⟨N3, 2, none⟩ = some (.slice pn xns.length cn) := (K3.out.over hb).cell 2
            by_cases hjl : j < xns.length
            · have hj1 : (j : Int) < (xns.length : Int) := by omega
              obtain ⟨b3, rfl, e3⟩ := strs_at (S3.out.below hb) hjl
              have HI : Hid (∀ W, Calls Tryd.prog 14 #[.string (bar xns[j])] W fun e w' => e = .returned (.bool true) ∧ Below W.heap.size W w') := fun W => by
                have := is_any (bar xns[j]) W
                rw [lst_bar, wd_is (HOK.out.1 _ (List.getElem_mem hjl))] at this
                exact this
              clear hb
              generalize bar xns[j] = bx at *
              go_wp2_with (go_at_call 14; refine (HI.out _).mono ?_; rintro e w5 ⟨rfl, b5⟩)
              go_roundw
              case rel => exact ⟨j + 1, by go_num, hjl, HB3.out.trans (b5.mono HB3.out.size)⟩
              case measure => simp [intOf]; omega
            · obtain rfl : j = xns.length := by omega
              have hge : ¬ (xns.length : Int) < (xns.length : Int) := by omega
              clear hb
              go_wp2
              clear d1
              generalize wr = W4 at *
              go_loopw [11] (fun vi wr => ∃ j : Nat, vi = .int .i64 j ∧ j ≤ xcs.length ∧ Below W4.heap.size W4 wr) (fun vi _ => xcs.length - (intOf vi).toNat)
              case atStart => exact ⟨0, rfl, Nat.zero_le _, Below.refl _ _⟩
              case round =>
                obtain ⟨j, rfl, hj2, hb⟩ := hrel
                have HB4 : Hid (Below W3.heap.size W3 wr) := HB3.out.trans (hb.mono HB3.out.size)
                have HB5 : Hid (Below W4.heap.size W4 wr) := hb
                have d1 : wr.cell? ⟨N3, 3, none⟩ = some (.slice pc xcs.length cc) := (K3.out.over HB4.out).cell 3
                by_cases hjl : j < xcs.length
                · have hj1 : (j : Int) < (xcs.length : Int) := by omega
                  obtain ⟨b3, rfl, e3⟩ := cds_at (S4.out.below HB4.out) hjl
                  have hoc := HOK.out.2 _ (List.getElem_mem hjl)
                  generalize xcs[j] = y at *
                  obtain ⟨q0, q1, q2, q3⟩ := e3
                  have f1 : decide ((y.arg : Int) < 0) = false := by simp
                  have f2 : decide ((5 : Int) < (y.arg : Int)) = false := by have := hoc.arg; simp; omega
                  have f3 : decide ((y.op : Int) < 1) = false := by have := hoc.lo; simp; omega
                  have f4 : decide ((6 : Int) < (y.op : Int)) = false := by have := hoc.hi; simp; omega
                  clear hb hoc
                  go_wp2
                  go_roundw
                  case rel => exact ⟨j + 1, by go_num, hjl, HB5.out.trans (((Below.refl _ _).alloc (Nat.le_refl _) _).mono HB5.out.size)⟩
                  case measure => simp [intOf]; omega
                · obtain rfl : j = xcs.length := by omega
                  have hge2 : ¬ (xcs.length : Int) < (xcs.length : Int) := by omega
                  clear hb
                  go_wp2
                  go_roundw
                  case rel => exact ⟨i + 1, by go_num, hlt, B3.out.trans (HB4.out.mono B3.out.size)⟩
                  case measure => simp [intOf]; omega
        · obtain rfl : i = rv.length := by omega
          have hge : ¬ (rv.length : Int) < (rv.length : Int) := by omega
          clear hb
          go_wp2
          go_ret
          exact ⟨rfl, B2.out.trans (HB.out.mono B2.out.size)⟩

end Go.Proofs.YtdjjlccpmfhkiaaDoor
