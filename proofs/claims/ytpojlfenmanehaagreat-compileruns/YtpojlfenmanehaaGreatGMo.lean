/-
  What the document asks of a run; what a program answers is what the rules say.
-/
import Derived.Test.YtpojlfenmanehaaGreatGK7
import Derived.Test.YtpojlfenmanehaaGreatGMR
import Derived.Test.YtpojlfenmanehaaGreatGAR
namespace Go.Proofs.YtpojlfenmanehaaGreat
open Go.RowKit

/-- the rules that speak of a call, and their conditions. -/
def mostN (z : Int) (l : List M.Xl) : Nat := (l.map fun x => if M.namedN z x.names = true then 2 + 20 * x.conds.length else 0).sum
theorem mostN_step {z : Int} {l : List M.Xr} {i : Nat} (h : i < l.length) : mostN z ((l.take (i + 1)).map M.Xr.r) = mostN z ((l.take i).map M.Xr.r) + (if M.namedN z l[i].r.names = true then 2 + 20 * l[i].r.conds.length else 0) := by
  unfold mostN
  rw [List.take_succ_eq_append_getElem h, List.map_append, List.map_append, List.sum_append]
  simp
theorem mostN_le (z : Int) (l : List M.Xr) (hL : M.Lt l) (i : Nat) (hi : i ≤ l.length) : mostN z ((l.take i).map M.Xr.r) ≤ i * 802 := by
  induction i with
  | zero => rw [List.take_zero, Nat.zero_mul]; exact Nat.le_refl _
  | succ i ih =>
    have h1 := ih (by omega)
    have h2 := (hL.2 l[i] (List.getElem_mem (by omega))).2.1
    rw [mostN_step (by omega), Nat.add_mul]
    have h3 : (if M.namedN z l[i].r.names = true then 2 + 20 * l[i].r.conds.length else 0) ≤ 802 := by
      split
      · omega
      · exact Nat.zero_le _
    omega

set_option maxRecDepth 8000 in
set_option maxHeartbeats 4000000 in
theorem most_any (w : World) (k a : Int) (v : Value) (rs : List M.Xr) (d : M.Da) (h : M.RlR w v rs) (hL : M.Lt rs) (hd : d.ok) :
    Calls Tryz.prog 17 #[.agg #[.int .i64 k, .int .i64 a, v], .agg d.cells.toArray] w fun e w' => e = .returned (.int .i64 (64 + mostN d.n (rs.map M.Xr.r) : Nat)) ∧ Below w.heap.size w w' := by
  obtain ⟨p1, c1, rfl⟩ : ∃ p c, v = .slice p rs.length c := by obtain ⟨p, c, e, _⟩ := h; exact ⟨p, c, e⟩
  obtain ⟨d1v, d2v, d3v, d4v, d5v, d6v, d7v, d8v, hAA⟩ := M.nine_of d hd
  have hsz : (Tryz.prog.info? 41).map (·.size) = some d.cells.toArray.size := d.size hd
  rw [hAA] at hsz ⊢
  have BE : Hid (Below w.heap.size w ((w.alloc (Obj.cells #[.int .i64 k, .int .i64 a, .slice p1 rs.length c1] 26)).alloc (Obj.cells #[.int .u32 d.n, d1v, d2v, d3v, d4v, d5v, d6v, d7v, d8v] 41))) := below_two w _ _
  have KD : Hid (V.Blk ((w.alloc (Obj.cells #[.int .i64 k, .int .i64 a, .slice p1 rs.length c1] 26)).alloc (Obj.cells #[.int .u32 d.n, d1v, d2v, d3v, d4v, d5v, d6v, d7v, d8v] 41)) (w.heap.size + 1) 41 [.int .u32 d.n, d1v, d2v, d3v, d4v, d5v, d6v, d7v, d8v]) := V.blk_new' w _ _ 41
  have KR : Hid (V.Blk ((w.alloc (Obj.cells #[.int .i64 k, .int .i64 a, .slice p1 rs.length c1] 26)).alloc (Obj.cells #[.int .u32 d.n, d1v, d2v, d3v, d4v, d5v, d6v, d7v, d8v] 41)) w.heap.size 26 [.int .i64 k, .int .i64 a, .slice p1 rs.length c1]) := (V.blk_new w _ 26).alloc _
  have SR : Hid (M.RlR ((w.alloc (Obj.cells #[.int .i64 k, .int .i64 a, .slice p1 rs.length c1] 26)).alloc (Obj.cells #[.int .u32 d.n, d1v, d2v, d3v, d4v, d5v, d6v, d7v, d8v] 41)) (.slice p1 rs.length c1) rs) := h.below (below_two w _ _)
  have HLt : Hid (∀ x ∈ rs, M.Lx1 x.r) := hL.2
  have HMl : Hid (∀ i, i ≤ rs.length → mostN d.n ((rs.take i).map M.Xr.r) ≤ i * 802) := mostN_le d.n rs hL
  have hl70 := hL.1
  clear h hL hd hAA
  generalize d.n = dn at *
  go_enter Tryz.func17, Tryz.ntmps17
  go_wp2_with fail
  generalize ((w.alloc (Obj.cells #[.int .i64 k, .int .i64 a, .slice p1 rs.length c1] 26)).alloc (Obj.cells #[.int .u32 dn, d1v, d2v, d3v, d4v, d5v, d6v, d7v, d8v] 41)) = X at *
  go_loopw [5, 6] (fun v5 vi wr => ∃ (i m : Nat), vi = .int .i64 i ∧ v5 = .int .i64 (m : Nat) ∧ i ≤ rs.length ∧ m = 64 + mostN dn ((rs.take i).map M.Xr.r) ∧ Below X.heap.size X wr) (fun _ vi _ => rs.length - (intOf vi).toNat)
  case atStart => exact ⟨0, 64, rfl, rfl, Nat.zero_le _, by simp [mostN], Below.refl _ _⟩
  case round =>
    obtain ⟨i, m, rfl, rfl, hi, hm, hb⟩ := hrel
    have HM : Hid (m = 64 + mostN dn ((rs.take i).map M.Xr.r)) := hm
    have HB : Hid (Below X.heap.size X wr) := hb
    have hm1 : m ≤ 64 + i * 802 := by rw [hm]; have := HMl.out i hi; omega
    have t2 : wr.cell? ⟨w.heap.size, 2, none⟩ = some (.slice p1 rs.length c1) := (KR.out.over hb).cell 2
    clear hm
    by_cases hlt : i < rs.length
    · have hi1 : (i : Int) < (rs.length : Int) := by omega
      obtain ⟨b1, o1, rfl, e1⟩ := M.rlR_at (SR.out.below hb) hlt
      have hmem : rs[i] ∈ rs := List.getElem_mem hlt
      have HST : Hid (mostN dn ((rs.take (i + 1)).map M.Xr.r) = mostN dn ((rs.take i).map M.Xr.r) + (if M.namedN dn rs[i].r.names = true then 2 + 20 * rs[i].r.conds.length else 0)) := mostN_step hlt
      have hx1 : M.Lx1 rs[i].r := HLt.out _ hmem
      have HSn : Hid (∀ W, Below X.heap.size X W → M.StrR W rs[i].vn rs[i].r.names ∧ rs[i].at W b1 (o1 + i * 4)) := fun W hW => by
        obtain ⟨b5, o5, e5, e6⟩ := M.rlR_at (SR.out.below hW) hlt
        cases e5
        obtain ⟨_, _, _, _, _, _, hr⟩ := SR.out.below hW
        exact ⟨(hr _ hmem).1, e6⟩
      obtain ⟨p3, c3, e3⟩ : ∃ p c, rs[i].vn = .slice p rs[i].r.names.length c := by obtain ⟨_, _, _, _, _, _, hr⟩ := SR.out; obtain ⟨p, c, e, _⟩ := (hr _ hmem).1; exact ⟨p, c, e⟩
      obtain ⟨p4, c4, e4⟩ : ∃ p c, rs[i].vc = .slice p rs[i].r.conds.length c := by obtain ⟨_, _, _, _, _, _, hr⟩ := SR.out; obtain ⟨p, c, e, _⟩ := (hr _ hmem).2; exact ⟨p, c, e⟩
      clear hmem hb e1
      generalize rs[i] = x at *
      obtain ⟨⟨xk, xa, ns, cs⟩, vn, vc⟩ := x
      have hn1 : ns.length ≤ 40 := hx1.1
      have hc1 : cs.length ≤ 40 := hx1.2.1
      dsimp only at HST e3 e4 HSn
      subst e3 e4
      have HRb : Hid (∀ W, Below X.heap.size X W → W.cell? ⟨w.heap.size, 2, none⟩ = some (.slice (some ⟨b1, o1, none⟩) rs.length c1) ∧ W.cell? ⟨b1, o1 + i * 4 + 2, none⟩ = some (.slice p3 ns.length c3) ∧ W.cell? ⟨b1, o1 + i * 4 + 3, none⟩ = some (.slice p4 cs.length c4) ∧ M.StrR W (.slice p3 ns.length c3) ns ∧ W.cell? ⟨w.heap.size + 1, 0, none⟩ = some (.int .u32 dn)) := fun W hW => ⟨(KR.out.over hW).cell 2, (HSn.out W hW).2.2.2.1, (HSn.out W hW).2.2.2.2, (HSn.out W hW).1, (KD.out.over hW).cell 0⟩
      clear HSn hx1
      go_wp2_with fail
      clear t2
      go_loopw [7, 8] (fun vb vj wz => ∃ j : Nat, vj = .int .i64 j ∧ j ≤ ns.length ∧ vb = .bool (M.namedN dn (ns.take j)) ∧ Below X.heap.size X wz) (fun _ vj _ => ns.length - (intOf vj).toNat)
      case atStart => exact ⟨0, rfl, Nat.zero_le _, rfl, HB.out⟩
      case round =>
        obtain ⟨j, rfl, hj, rfl, hb⟩ := hrel
        have HB2 : Hid (Below X.heap.size X wr) := hb
        obtain ⟨t2, t3, t4, t5, t6⟩ := HRb.out wr hb
        by_cases hlt2 : j < ns.length
        · have hj1 : (j : Int) < (ns.length : Int) := by omega
          obtain ⟨b5, o5, rfl, e5⟩ := M.strR_at t5 hlt2
          have HI : Hid (∀ W, Calls Tryz.prog 25 #[.string ns[j]] W fun e w' => e = .returned (.tuple #[.int .u32 (M.nrI ns[j]), .bool (M.knB ns[j])]) ∧ Below W.heap.size W w') := M.refNr_any _
          have HS : Hid (M.namedN dn (ns.take (j + 1)) = (M.namedN dn (ns.take j) || (M.knB ns[j] && (M.nrI ns[j] == dn)))) := M.anyN_step hlt2
          clear hb t5
          generalize M.namedN dn (ns.take j) = q0 at *
          generalize M.knB ns[j] = q at *
          generalize M.nrI ns[j] = z at *
          generalize ns[j] = s at *
          cases q with
          | false =>
            have HS2 : Hid (q0 = M.namedN dn (ns.take (j + 1))) := by show _ = _; rw [HS.out]; simp
            go_wp2_with (go_at_call 25; refine (HI.out _).mono ?_; rintro e w1 ⟨rfl, b1'⟩)
            go_roundw
            case rel => exact ⟨j + 1, by go_num, hlt2, by rw [HS2.out], HB2.out.trans (b1'.mono HB2.out.size)⟩
            case measure => simp [intOf]; omega
          | true =>
            rcases Bool.eq_false_or_eq_true (z == dn) with hz | hz
            · have HS2 : Hid (M.namedN dn (ns.take (j + 1)) = true) := by show _ = _; rw [HS.out, hz]; simp
              go_wp2_with (go_at_call 25; refine (HI.out _).mono ?_; rintro e w1 ⟨rfl, b1'⟩; have t7 := (HRb.out w1 (HB2.out.trans (b1'.mono HB2.out.size))).2.2.2.2)
              go_roundw
              case rel => exact ⟨j + 1, by go_num, hlt2, by rw [HS2.out], HB2.out.trans (b1'.mono HB2.out.size)⟩
              case measure => simp [intOf]; omega
            · have HS2 : Hid (q0 = M.namedN dn (ns.take (j + 1))) := by show _ = _; rw [HS.out, hz]; simp
              go_wp2_with (go_at_call 25; refine (HI.out _).mono ?_; rintro e w1 ⟨rfl, b1'⟩; have t7 := (HRb.out w1 (HB2.out.trans (b1'.mono HB2.out.size))).2.2.2.2)
              go_roundw
              case rel => exact ⟨j + 1, by go_num, hlt2, by rw [HS2.out], HB2.out.trans (b1'.mono HB2.out.size)⟩
              case measure => simp [intOf]; omega
        · have hge : ¬ (j : Int) < (ns.length : Int) := by omega
          have HN : Hid (M.namedN dn (ns.take j) = M.namedN dn ns) := by show _ = _; rw [List.take_of_length_le (by omega)]
          rw [HN.out]
          clear hb HN t5
          generalize M.namedN dn ns = q0 at *
          cases q0 with
          | false =>
            have HE : Hid (m = 64 + mostN dn ((rs.take (i + 1)).map M.Xr.r)) := by unfold Hid; rw [HST.out, if_neg (by decide)]; exact HM.out
            go_wp2_with fail
            go_roundw
            case rel => exact ⟨i + 1, m, by go_num, rfl, hlt, HE.out, HB2.out⟩
            case measure => simp [intOf]; omega
          | true =>
            have HE : Hid (m + 2 + 20 * cs.length = 64 + mostN dn ((rs.take (i + 1)).map M.Xr.r)) := by unfold Hid; rw [HST.out, if_pos rfl]; have := HM.out; omega
            have e5 : IntKind.i64.wrap (20 * (cs.length : Int)) = 20 * (cs.length : Int) := by rw [IntKind.wrap_i64]; omega
            go_wp2_with fail
            go_roundw
            case rel => exact ⟨i + 1, m + 2 + 20 * cs.length, by go_num, by first | rfl | go_num | (congr 1; omega), hlt, HE.out, HB2.out⟩
            case measure => simp [intOf]; omega
    · have hi1 : ¬ (i : Int) < (rs.length : Int) := by omega
      have HE : Hid (m = 64 + mostN dn (rs.map M.Xr.r)) := by have := HM.out; rw [List.take_of_length_le (by omega)] at this; exact this
      clear hb
      go_wp2_with fail
      go_ret
      exact ⟨by rw [HE.out]; rfl, BE.out.trans (HB.out.mono BE.out.size)⟩

set_option maxRecDepth 8000 in
set_option maxHeartbeats 4000000 in
theorem answerD_any (w : World) (k a : Int) (v : Value) (rs : List M.Xr) (d : M.Da) (h : M.RlR w v rs) (hL : M.Lt rs) (hd : d.ok) :
    Calls Tryz.prog 16 #[.agg #[.int .i64 k, .int .i64 a, v], .agg d.cells.toArray] w fun e w' => e = .returned (.int .u32 (A.valZ (M.decA d k a (rs.map M.Xr.r)).1 (M.decA d k a (rs.map M.Xr.r)).2)) ∧ Below w.heap.size w w' := by
  obtain ⟨p1, c1, rfl⟩ : ∃ p c, v = .slice p rs.length c := by obtain ⟨p, c, e, _⟩ := h; exact ⟨p, c, e⟩
  have HD : Hid (∀ W, Below w.heap.size w W → Calls Tryz.prog 29 #[.agg #[.int .i64 k, .int .i64 a, .slice p1 rs.length c1], .agg d.cells.toArray] W fun e w' => e = .returned (M.decV (M.decA d k a (rs.map M.Xr.r)) (M.decE k a (rs.map M.Xr.r))) ∧ Below W.heap.size W w') := fun W hW => M.rdecide_any W k a _ rs d (h.below hW) (M.lt_sml hL) hd
  have HV : Hid (∀ x y W, Calls Tryz.prog 30 #[.agg #[.int .i64 x, .int .i64 y]] W fun e w' => e = .returned (.tuple #[.int .u32 (A.valZ x y), .int .i64 (A.errZ x y)]) ∧ Below W.heap.size W w') := fun x y W => A.refValue_any x y W
  have hsz : (Tryz.prog.info? 41).map (·.size) = some d.cells.toArray.size := d.size hd
  obtain ⟨d1v, d2v, d3v, d4v, d5v, d6v, d7v, d8v, hAA⟩ := M.nine_of d hd
  rw [hAA] at hsz HD ⊢
  have BE : Hid (Below w.heap.size w ((w.alloc (Obj.cells #[.int .i64 k, .int .i64 a, .slice p1 rs.length c1] 26)).alloc (Obj.cells #[.int .u32 d.n, d1v, d2v, d3v, d4v, d5v, d6v, d7v, d8v] 41))) := below_two w _ _
  have KD : Hid (V.Blk ((w.alloc (Obj.cells #[.int .i64 k, .int .i64 a, .slice p1 rs.length c1] 26)).alloc (Obj.cells #[.int .u32 d.n, d1v, d2v, d3v, d4v, d5v, d6v, d7v, d8v] 41)) (w.heap.size + 1) 41 [.int .u32 d.n, d1v, d2v, d3v, d4v, d5v, d6v, d7v, d8v]) := V.blk_new' w _ _ 41
  unfold M.decV M.actV at HD
  generalize M.decE k a (rs.map M.Xr.r) = er at *
  generalize M.decA d k a (rs.map M.Xr.r) = da at *
  obtain ⟨x, y⟩ := da
  dsimp only at *
  clear h hL hd
  generalize d.n = dn at *
  go_enter Tryz.func16, Tryz.ntmps16
  go_wp2_with (first
    | (refine at_op (.load 41 (.tmp 3)) rfl ?_; refine wpList_load_row rfl 41 (.tmp 3) rfl (w.heap.size + 1) rfl 41 #[.int .u32 dn, d1v, d2v, d3v, d4v, d5v, d6v, d7v, d8v] (0, 0) _ KD.out Tryz.underlying41 rfl hsz ?_)
    | (go_at_call 29; refine (HD.out _ BE.out).mono ?_; rintro e w1 ⟨rfl, b1⟩)
    | (go_at_call 30; refine (HV.out _ _ _).mono ?_; rintro e w2 ⟨rfl, b2⟩))
  go_ret
  have B1 := BE.out.trans (b1.mono BE.out.size)
  have B2 := B1.alloc B1.size (Obj.cells #[.int .i64 x, .int .i64 y] 23)
  exact ⟨rfl, B2.trans (b2.mono B2.size)⟩

end Go.Proofs.YtpojlfenmanehaaGreat

namespace Go.Proofs.YtpojlfenmanehaaGreat
open Go.RowKit

theorem known_of : ∀ (l : List M.Xl) (i : Nat), (M.wrongFrom i l).1 = 0 → ∀ x ∈ l, ∀ s ∈ x.names, M.knB s = true
  | [], _, _ => fun x hx => absurd hx List.not_mem_nil
  | y :: l, i, h => by
    unfold M.wrongFrom at h
    by_cases hy : M.wrongN y.names = 0
    · rw [if_pos hy] at h
      intro x hx s hs
      rcases List.mem_cons.1 hx with rfl | hx
      · unfold M.wrongN at hy
        cases hk : M.knB s with
        | true => rfl
        | false =>
          rw [if_pos (List.any_eq_true.2 ⟨s, hs, by rw [hk]; rfl⟩)] at hy
          exact absurd hy (by decide)
      · exact known_of l (i + 1) h x hx s hs
    · rw [if_neg hy] at h
      exact absurd h hy
theorem known_check {k a : Int} {l : List M.Xl} (h : (M.checkP k a l).1 = 0) : ∀ x ∈ l, ∀ s ∈ x.names, M.knB s = true := by
  unfold M.checkP at h
  split at h
  · exact known_of l 0 h
  · exact absurd h (by decide)
theorem kn_nil : M.knB ⟨#[]⟩ = false := by decide +kernel
theorem named_n {z : Int} {names : List ByteArray} (hk : ∀ s ∈ names, M.knB s = true) (h : M.namedB z names = true) : M.namedN z names = true := by
  unfold M.namedB at h
  obtain ⟨s, hs, he⟩ := List.any_eq_true.1 h
  cases hz : M.isNr z with
  | true =>
    unfold M.namedN
    refine List.any_eq_true.2 ⟨s, hs, ?_⟩
    have := M.spk z s
    rw [hz, he] at this
    exact this.symm
  | false =>
    have h1 : M.nmS z = ⟨#[]⟩ := by
      unfold M.isNr at hz
      unfold M.nmS
      cases hq : M.nameOf z with
      | none => rfl
      | some b => rw [hq] at hz; cases hz
    rw [h1] at he
    have h2 := M.eqS_iff.1 he
    have h3 := hk s hs
    rw [← h2, kn_nil] at h3
    cases h3
theorem mostR_le (z : Int) : ∀ l : List M.Xl, (∀ x ∈ l, ∀ s ∈ x.names, M.knB s = true) → mostR z l ≤ mostN z l
  | [], _ => Nat.le_refl _
  | x :: l, h => by
    have ih := mostR_le z l fun y hy => h y (List.mem_cons_of_mem _ hy)
    rw [mostR_cons]
    have e : mostN z (x :: l) = (if M.namedN z x.names = true then 2 + 20 * x.conds.length else 0) + mostN z l := by unfold mostN; rw [List.map_cons, List.sum_cons]
    rw [e]
    by_cases hn : M.namedB z x.names = true
    · rw [if_pos hn, if_pos (named_n (h x (List.mem_cons_self ..)) hn)]
      omega
    · rw [if_neg hn]
      omega
theorem mean_dec (d : M.Da) (k a : Int) (l : List M.Xl) (h : (M.checkP k a l).1 = 0) : meanZ d k a l = A.valZ (M.decA d k a l).1 (M.decA d k a l).2 := by
  unfold meanZ M.decA
  rw [if_pos h]
  split
  · rfl
  · rfl

end Go.Proofs.YtpojlfenmanehaaGreat

