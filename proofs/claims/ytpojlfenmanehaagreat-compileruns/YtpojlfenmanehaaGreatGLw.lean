/-
  Two laws, and how much rules are, by the document.
-/
import Derived.Test.YtpojlfenmanehaaGreatGM6
import Derived.Test.YtpojlfenmanehaaGreatGK7
import Derived.Test.YtpojlfenmanehaaGreatGM5
namespace Go.Proofs.YtpojlfenmanehaaGreat.M
open Go.RowKit

set_option maxRecDepth 8000 in
set_option maxHeartbeats 4000000 in
theorem refWeight_any (w : World) (k a : Int) (v : Value) (l : List Xr) (h : RlR w v l) (hL : Lt l) :
    Calls Tryz.prog 13 #[.agg #[.int .i64 k, .int .i64 a, v]] w fun e w' => e = .returned (.int .i64 (wgt l)) ∧ Below w.heap.size w w' := by
  obtain ⟨p1, c1, rfl⟩ : ∃ p c, v = .slice p l.length c := by obtain ⟨p, c, e, _⟩ := h; exact ⟨p, c, e⟩
  have B0 : Hid (Below w.heap.size w (w.alloc (Obj.cells #[.int .i64 k, .int .i64 a, .slice p1 l.length c1] 26))) := below_new w _
  have S0 : Hid (RlR (w.alloc (Obj.cells #[.int .i64 k, .int .i64 a, .slice p1 l.length c1] 26)) (.slice p1 l.length c1) l) := h.below (below_new w _)
  have K0 : Hid (Blk (w.alloc (Obj.cells #[.int .i64 k, .int .i64 a, .slice p1 l.length c1] 26)) w.heap.size 26 [.int .i64 k, .int .i64 a, .slice p1 l.length c1]) := blk_new w _ _
  have HW : Hid (∀ i, i ≤ l.length → wgt (l.take i) ≤ 8 + i * 13120) := wgt_le hL
  have HL1 : Hid (∀ x ∈ l, Lx1 x.r) := hL.2
  have hl70 : l.length ≤ 70 := hL.1
  clear h hL
  go_enter Tryz.func13, Tryz.ntmps13
  go_wp2_with fail
  generalize (w.alloc (Obj.cells #[.int .i64 k, .int .i64 a, .slice p1 l.length c1] 26)) = X at *
  go_loopw [3, 4] (fun v3 vi wr => ∃ (i m : Nat), vi = .int .i64 i ∧ v3 = .int .i64 m ∧ i ≤ l.length ∧ m = wgt (l.take i) ∧ Below X.heap.size X wr) (fun _ vi _ => l.length - (intOf vi).toNat)
  case atStart => exact ⟨0, 8, rfl, rfl, Nat.zero_le _, rfl, Below.refl _ _⟩
  case round =>
    obtain ⟨i, m, rfl, rfl, hi, hm, hb⟩ := hrel
    have HM : Hid (m = wgt (l.take i)) := hm
    have HB : Hid (Below X.heap.size X wr) := hb
    have HBD : Hid (∀ n, Below X.heap.size X (wr.drewN n)) := fun n => hb.trans ((below_drewN wr n).mono hb.size)
    have hm1 : m ≤ 8 + i * 13120 := by rw [hm]; exact HW.out i hi
    have t2 : wr.cell? ⟨w.heap.size, 2, none⟩ = some (.slice p1 l.length c1) := (K0.out.over hb).cell 2
    clear hm
    by_cases hlt : i < l.length
    · have hi1 : (i : Int) < (l.length : Int) := by omega
      obtain ⟨b1, o1, rfl, e1⟩ := rlR_at (S0.out.below hb) hlt
      have hmem : l[i] ∈ l := List.getElem_mem hlt
      have HST : Hid (wgt (l.take (i + 1)) = wgt (l.take i) + wg1 l[i].r) := wgt_step hlt
      have hx1 : Lx1 l[i].r := HL1.out _ hmem
      obtain ⟨p3, c3, e3⟩ : ∃ p c, l[i].vn = .slice p l[i].r.names.length c := by obtain ⟨_, _, _, _, _, _, hr⟩ := S0.out; obtain ⟨p, c, e, _⟩ := (hr _ hmem).1; exact ⟨p, c, e⟩
      obtain ⟨p4, c4, e4⟩ : ∃ p c, l[i].vc = .slice p l[i].r.conds.length c := by obtain ⟨_, _, _, _, _, _, hr⟩ := S0.out; obtain ⟨p, c, e, _⟩ := (hr _ hmem).2; exact ⟨p, c, e⟩
      clear hmem hb
      generalize l[i] = x at *
      obtain ⟨⟨xk, xa, ns, cs⟩, vn, vc⟩ := x
      obtain ⟨q0, q1, q2, q3⟩ := e1
      have hP1 := wg1_le hx1
      have hn1 : ns.length ≤ 40 := hx1.1
      have hc1 : cs.length ≤ 40 := hx1.2.1
      dsimp only at q0 q1 q2 q3 HST e3 e4 hP1
      subst e3 e4
      obtain ⟨P, hP⟩ : ∃ P, P = wg1 ⟨xk, xa, ns, cs⟩ := ⟨_, rfl⟩
      rw [← hP] at HST hP1
      have eP : (ns.length : Int) * (8 * (cs.length : Int) + 8) = (P : Int) := by rw [hP]; unfold wg1; simp
      have wP : IntKind.i64.wrap ((ns.length : Int) * (8 * (cs.length : Int) + 8)) = (P : Int) := by rw [eP, IntKind.wrap_i64]; omega
      clear hP hx1
      go_wp2_with fail
      go_quiet (fail)
      go_wp2_with fail
      go_roundw
      case rel => exact ⟨i + 1, m + P, by go_num, by first | rfl | go_num | (congr 1; omega), hlt, by rw [HST.out, HM.out], HBD.out _⟩
      case measure => simp [intOf]; omega
    · have hi1 : ¬ (i : Int) < (l.length : Int) := by omega
      have HE : Hid (m = wgt l) := by have := HM.out; rw [List.take_of_length_le (by omega)] at this; exact this
      clear hb
      go_wp2_with fail
      go_ret
      exact ⟨by rw [HE.out]; rfl, B0.out.trans (HB.out.mono B0.out.size)⟩

end Go.Proofs.YtpojlfenmanehaaGreat.M

namespace Go.Proofs.YtpojlfenmanehaaGreat
open Go.RowKit

/-- rules, boxed, and what stays of them. -/
theorem box_rules (w : World) (k a : Int) (p1 : Option Addr) (c1 : Nat) (rs : List M.Xr) (h : M.RlR w (.slice p1 rs.length c1) rs) :
    ∀ W, Below (w.alloc (Obj.cells #[.int .i64 k, .int .i64 a, .slice p1 rs.length c1] 26)).heap.size (w.alloc (Obj.cells #[.int .i64 k, .int .i64 a, .slice p1 rs.length c1] 26)) W → W.cell? ⟨w.heap.size, 0, none⟩ = some (.int .i64 k) ∧ W.cell? ⟨w.heap.size, 1, none⟩ = some (.int .i64 a) ∧ W.cell? ⟨w.heap.size, 2, none⟩ = some (.slice p1 rs.length c1) ∧ M.RlR W (.slice p1 rs.length c1) rs ∧ Below w.heap.size w W := fun _ hW =>
  have hk := V.blk_new w #[.int .i64 k, .int .i64 a, .slice p1 rs.length c1] 26
  have hb := below_new w (Obj.cells #[.int .i64 k, .int .i64 a, .slice p1 rs.length c1] 26)
  ⟨(hk.over hW).cell 0, (hk.over hW).cell 1, (hk.over hW).cell 2, h.below (hb.trans (hW.mono hb.size)), hb.trans (hW.mono hb.size)⟩

set_option maxRecDepth 8000 in
set_option maxHeartbeats 2000000 in
theorem errs_walk (w : World) (k a : Int) (v : Value) (rs : List M.Xr) (h : M.RlR w v rs) (hf : Fits rs) :
    Calls Tryz.prog 3 #[.agg #[.int .i64 k, .int .i64 a, v]] w fun e w' => e = .returned (.bool true) ∧ Below w.heap.size w w' := by
  obtain ⟨p1, c1, rfl⟩ : ∃ p c, v = .slice p rs.length c := by obtain ⟨p, c, e, _⟩ := h; exact ⟨p, c, e⟩
  have HA : Hid (∀ W, Calls Tryz.prog 9 #[] W fun e w' => e = .returned (.bool true) ∧ Below W.heap.size W w') := awake_any
  have HL : Hid (∀ W, M.RlR W (.slice p1 rs.length c1) rs → Calls Tryz.prog 10 #[.agg #[.int .i64 k, .int .i64 a, .slice p1 rs.length c1]] W fun e w' => M.LightR W rs e w') := fun W h => M.light_any W k a _ rs h
  have HC : Hid (M.Lt rs → ∀ W, M.RlR W (.slice p1 rs.length c1) rs → Calls Tryz.prog 11 #[.agg #[.int .i64 k, .int .i64 a, .slice p1 rs.length c1]] W fun e w' => CmT W k a rs e w') := fun hL W hW => compile_any W k a _ rs hW hL hf
  have HD : Hid (M.Lt rs → ∀ W, M.RlR W (.slice p1 rs.length c1) rs → Calls Tryz.prog 12 #[.agg #[.int .i64 k, .int .i64 a, .slice p1 rs.length c1]] W fun e w' => e = .returned (.tuple #[.int .i64 (M.checkP k a (rs.map M.Xr.r)).1, .int .i64 (M.checkP k a (rs.map M.Xr.r)).2]) ∧ Below W.heap.size W w') := fun hL W hW => M.rcheck_any W k a _ rs hW (M.lt_sml hL)
  have HW : Hid (M.Lt rs → ∀ W, M.RlR W (.slice p1 rs.length c1) rs → Calls Tryz.prog 13 #[.agg #[.int .i64 k, .int .i64 a, .slice p1 rs.length c1]] W fun e w' => e = .returned (.int .i64 (M.wgt rs)) ∧ Below W.heap.size W w') := fun hL W hW => M.refWeight_any W k a _ rs hW hL
  have HX := box_rules w k a p1 c1 rs h
  have hx0 := HX _ (Below.refl _ _)
  replace HX : Hid (∀ W, Below (w.alloc (Obj.cells #[.int .i64 k, .int .i64 a, .slice p1 rs.length c1] 26)).heap.size (w.alloc (Obj.cells #[.int .i64 k, .int .i64 a, .slice p1 rs.length c1] 26)) W → W.cell? ⟨w.heap.size, 0, none⟩ = some (.int .i64 k) ∧ W.cell? ⟨w.heap.size, 1, none⟩ = some (.int .i64 a) ∧ W.cell? ⟨w.heap.size, 2, none⟩ = some (.slice p1 rs.length c1) ∧ M.RlR W (.slice p1 rs.length c1) rs ∧ Below w.heap.size w W) := HX
  unfold CmT at HC
  clear h hf hx0
  go_enter Tryz.func3, Tryz.ntmps3
  go_upto_region 3 with (first
    | (go_at_call 9; refine (HA.out _).mono ?_; rintro e w1 ⟨rfl, b1⟩; obtain ⟨q0, q1, q2, r1, B1⟩ := HX.out _ b1)
    | (go_at_call 10; refine (HL.out _ r1).mono ?_; rintro e w2 ⟨bb, rfl, b2, hbb⟩; have X2 := b1.trans (b2.mono b1.size); obtain ⟨t0, t1, t2, r2, B2⟩ := HX.out _ X2))
  clear q0 q1 q2 r1 B1 b1 b2
  cases bb with
  | false =>
    go_wp2_with fail
    go_ret
    exact ⟨rfl, B2⟩
  | true =>
    have hLt : M.Lt rs := hbb rfl
    have HC2 := HC.out hLt
    have HD2 := HD.out hLt
    have HW2 : Hid (∀ W, M.RlR W (.slice p1 rs.length c1) rs → Calls Tryz.prog 13 #[.agg #[.int .i64 k, .int .i64 a, .slice p1 rs.length c1]] W fun e w' => e = .returned (.int .i64 (M.wgt rs)) ∧ Below W.heap.size W w') := HW.out hLt
    clear HC HD HW HL HA hbb
    generalize M.checkP k a (rs.map M.Xr.r) = cp at *
    obtain ⟨p, q⟩ := cp
    dsimp only at *
    have HC3 : Hid _ := HC2
    have HD3 : Hid _ := HD2
    clear HC2 HD2
    go_upto_region 7 with (first
      | (go_at_call 11; refine (HC3.out _ r2).mono ?_; rintro e w3 ⟨v3, er, rfl, b3, hcase⟩; have X3 := X2.trans (b3.mono X2.size); obtain ⟨s0, s1, s2, r3, B3⟩ := HX.out _ X3)
      | (go_at_call 12; refine (HD3.out _ r3).mono ?_; rintro e w4 ⟨rfl, b4⟩; have X4 := X3.trans (b4.mono X3.size); obtain ⟨y0, y1, y2, r4, B4⟩ := HX.out _ X4))
    clear t0 t1 t2 r2 B2 X2 s0 s1 s2 r3 B3 b3 b4 HC3 HD3
    rcases hcase with ⟨hp, rfl, rfl⟩ | ⟨rfl, hR, ns, hn, ⟨hl, rfl, rfl⟩ | ⟨hl, rfl, ho⟩⟩
    · have hp' : (er == 0) = false := by simpa using hp
      have hee : (er == er) = true := by simp
      go_wp2_with fail
      go_ret
      exact ⟨rfl, B4⟩
    · have hwl : 4096 < M.wgt rs := Nat.lt_of_lt_of_le hl (prog_len ns k a rs hn).2
      have hwl2 : (4096 : Int) < (M.wgt rs : Int) := by omega
      clear hl hn hR X3
      go_wp2_with (first | (go_at_call 13; refine (HW2.out _ r4).mono ?_; rintro e w5 ⟨rfl, b5⟩))
      go_ret
      exact ⟨rfl, B4.trans (b5.mono B4.size)⟩
    · have hpl := (prog_len ns k a rs hn).1
      obtain ⟨a3, q3, rfl⟩ := own_slice ho
      generalize (progI ns k a (rs.map M.Xr.r)).length = N1 at *
      have hN : (0 : Int) < (N1 : Int) := by omega
      have hN0 : 0 < N1 := by omega
      clear ho hn hR X3 hl hpl
      go_wp2_with fail
      go_ret
      exact ⟨rfl, B4⟩

set_option maxRecDepth 8000 in
set_option maxHeartbeats 2000000 in
theorem right_walk (w : World) (k a : Int) (v : Value) (rs : List M.Xr) (h : M.RlR w v rs) (hf : Fits rs) :
    Calls Tryz.prog 4 #[.agg #[.int .i64 k, .int .i64 a, v]] w fun e w' => e = .returned (.bool true) ∧ Below w.heap.size w w' := by
  obtain ⟨p1, c1, rfl⟩ : ∃ p c, v = .slice p rs.length c := by obtain ⟨p, c, e, _⟩ := h; exact ⟨p, c, e⟩
  have HA : Hid (∀ W, Calls Tryz.prog 9 #[] W fun e w' => e = .returned (.bool true) ∧ Below W.heap.size W w') := awake_any
  have HL : Hid (∀ W, M.RlR W (.slice p1 rs.length c1) rs → Calls Tryz.prog 10 #[.agg #[.int .i64 k, .int .i64 a, .slice p1 rs.length c1]] W fun e w' => M.LightR W rs e w') := fun W h => M.light_any W k a _ rs h
  have HC : Hid (M.Lt rs → ∀ W, M.RlR W (.slice p1 rs.length c1) rs → Calls Tryz.prog 11 #[.agg #[.int .i64 k, .int .i64 a, .slice p1 rs.length c1]] W fun e w' => CmT W k a rs e w') := fun hL W hW => compile_any W k a _ rs hW hL hf
  have HX := box_rules w k a p1 c1 rs h
  have hx0 := HX _ (Below.refl _ _)
  replace HX : Hid (∀ W, Below (w.alloc (Obj.cells #[.int .i64 k, .int .i64 a, .slice p1 rs.length c1] 26)).heap.size (w.alloc (Obj.cells #[.int .i64 k, .int .i64 a, .slice p1 rs.length c1] 26)) W → W.cell? ⟨w.heap.size, 0, none⟩ = some (.int .i64 k) ∧ W.cell? ⟨w.heap.size, 1, none⟩ = some (.int .i64 a) ∧ W.cell? ⟨w.heap.size, 2, none⟩ = some (.slice p1 rs.length c1) ∧ M.RlR W (.slice p1 rs.length c1) rs ∧ Below w.heap.size w W) := HX
  unfold CmT at HC
  clear h hf hx0
  go_enter Tryz.func4, Tryz.ntmps4
  go_upto_region 3 with (first
    | (go_at_call 9; refine (HA.out _).mono ?_; rintro e w1 ⟨rfl, b1⟩; obtain ⟨q0, q1, q2, r1, B1⟩ := HX.out _ b1)
    | (go_at_call 10; refine (HL.out _ r1).mono ?_; rintro e w2 ⟨bb, rfl, b2, hbb⟩; have X2 := b1.trans (b2.mono b1.size); obtain ⟨t0, t1, t2, r2, B2⟩ := HX.out _ X2))
  clear q0 q1 q2 r1 B1 b1 b2
  cases bb with
  | false =>
    go_wp2_with fail
    go_ret
    exact ⟨rfl, B2⟩
  | true =>
    have hLt : M.Lt rs := hbb rfl
    have HC2 : Hid _ := HC.out hLt
    clear HC HL HA hbb
    go_upto_region 6 with (first
      | (go_at_call 11; refine (HC2.out _ r2).mono ?_; rintro e w3 ⟨v3, er, rfl, b3, hcase⟩))
    have B3 := B2.trans (b3.mono B2.size)
    clear t0 t1 t2 r2 B2 X2 b3 HC2
    rcases hcase with ⟨hp, rfl, rfl⟩ | ⟨_, hR, ns, hn, ⟨hl, rfl, rfl⟩ | ⟨hl, rfl, ho⟩⟩
    · have hp' : ((M.checkP k a (rs.map M.Xr.r)).1 == 0) = false := by simpa using hp
      generalize (M.checkP k a (rs.map M.Xr.r)).1 = p at *
      go_wp2_with fail
      go_ret
      exact ⟨rfl, B3⟩
    · go_wp2_with fail
      go_ret
      exact ⟨rfl, B3⟩
    · have hw : M.wgt rs ≤ 100000000 := by
        have h1 := sum_wg1 rs hR
        have h2 : M.wgt rs = 8 + (rs.map fun x => M.wg1 x.r).sum := rfl
        omega
      have hck := prog_chk ns k a rs hn hR.ok hw hl
      obtain ⟨a3, q3, rfl, hi⟩ := own_ins ho (prog_gd ns k a rs hn hR.ok hw).ok
      have HK : Hid (Calls Tryz.prog 14 #[.slice a3 (progI ns k a (rs.map M.Xr.r)).length q3] w3 fun e w' => e = .returned (.tuple #[.int .i64 0, .int .i64 (-1)]) ∧ Below w3.heap.size w3 w') := by
        refine (V.check_any a3 _ q3 _ w3 (by unfold maxLen; omega) hi).mono ?_
        rintro e w' ⟨he, hb⟩
        rw [hck] at he
        exact ⟨he, hb⟩
      clear ho hi hck hw hn hR
      generalize (progI ns k a (rs.map M.Xr.r)).length = N1 at *
      go_wp2_with (first | (go_at_call 14; refine HK.out.mono ?_; rintro e w5 ⟨rfl, b5⟩))
      go_ret
      exact ⟨rfl, B3.trans (b5.mono B3.size)⟩

end Go.Proofs.YtpojlfenmanehaaGreat

