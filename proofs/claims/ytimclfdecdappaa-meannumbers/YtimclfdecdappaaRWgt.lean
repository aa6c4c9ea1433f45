/-
  How much rules are: the document's own answer.
-/
import Derived.Test.YtimclfdecdappaaWgt
namespace Go.Proofs.Ytimclfdecdappaa
open Go.RowKit

set_option maxRecDepth 8000 in
set_option maxHeartbeats 4000000 in
theorem refWeight_any (w : World) (k a : Int) (v : Value) (l : List Xr) (h : RlR w v l) (hL : Lt l) :
    Calls Try.prog 23 #[.agg #[.int .i64 k, .int .i64 a, v]] w fun e w' => e = .returned (.int .i64 (wgt l)) ∧ Below w.heap.size w w' := by
  obtain ⟨p1, c1, rfl⟩ : ∃ p c, v = .slice p l.length c := by obtain ⟨p, c, e, _⟩ := h; exact ⟨p, c, e⟩
  have B0 : Hid (Below w.heap.size w (w.alloc (Obj.cells #[.int .i64 k, .int .i64 a, .slice p1 l.length c1] 33))) := below_new w _
  have S0 : Hid (RlR (w.alloc (Obj.cells #[.int .i64 k, .int .i64 a, .slice p1 l.length c1] 33)) (.slice p1 l.length c1) l) := h.below (below_new w _)
  have K0 : Hid (Blk (w.alloc (Obj.cells #[.int .i64 k, .int .i64 a, .slice p1 l.length c1] 33)) w.heap.size 33 [.int .i64 k, .int .i64 a, .slice p1 l.length c1]) := blk_new w _ _
  have HW : Hid (∀ i, i ≤ l.length → wgt (l.take i) ≤ 8 + i * 13120) := wgt_le hL
  have HL1 : Hid (∀ x ∈ l, Lx1 x.r) := hL.2
  have hl70 : l.length ≤ 70 := hL.1
  clear h hL
  go_enter Try.func23, Try.ntmps23
  go_wp2_with fail
  generalize (w.alloc (Obj.cells #[.int .i64 k, .int .i64 a, .slice p1 l.length c1] 33)) = X at *
  go_loopw [3, 4] (fun v3 vi wr => ∃ (i m : Nat), vi = .int .i64 i ∧ v3 = .int .i64 m ∧ i ≤ l.length ∧ m = wgt (l.take i) ∧ Below X.heap.size X wr) (fun _ vi _ => l.length - (intOf vi).toNat)
  case atStart => exact ⟨0, 8, rfl, rfl, Nat.zero_le _, rfl, Below.refl _ _⟩
  case round =>
    obtain ⟨i, m, rfl, rfl, hi, hm, hb⟩ := hrel
    have HM : Hid (m = wgt (l.take i)) := hm
    have HB : Hid (Below X.heap.size X wr) := hb
    have HBD : Hid (∀ n, Below X.heap.size X (wr.drewN n)) := fun n => hb.trans ((below_drewN wr n).mono hb.size)
    have hm1 : m ≤ 8 + i * 13120 := by rw [hm]; exact HW.out i hi
    have t2 : wr.cell? ⟨w.heap.size, 2, none⟩ = some (.slice p1 l.length c1) := (K0.out.over hb).cell 2
    clear hm
    by_cases hlt : i < l.length
    · have hi1 : (i : Int) < (l.length : Int) := by omega
      obtain ⟨b1, o1, rfl, e1⟩ := rlR_at (S0.out.below hb) hlt
      have hmem : l[i] ∈ l := List.getElem_mem hlt
      have HST : Hid (wgt (l.take (i + 1)) = wgt (l.take i) + wg1 l[i].r) := wgt_step hlt
      have hx1 : Lx1 l[i].r := HL1.out _ hmem
      obtain ⟨p3, c3, e3⟩ : ∃ p c, l[i].vn = .slice p l[i].r.names.length c := by obtain ⟨_, _, _, _, _, _, hr⟩ := S0.out; obtain ⟨p, c, e, _⟩ := (hr _ hmem).1; exact ⟨p, c, e⟩
      obtain ⟨p4, c4, e4⟩ : ∃ p c, l[i].vc = .slice p l[i].r.conds.length c := by obtain ⟨_, _, _, _, _, _, hr⟩ := S0.out; obtain ⟨p, c, e, _⟩ := (hr _ hmem).2; exact ⟨p, c, e⟩
      clear hmem hb
      generalize l[i] = x at *
      obtain ⟨⟨xk, xa, ns, cs⟩, vn, vc⟩ := x
      obtain ⟨q0, q1, q2, q3⟩ := e1
      have hP1 := wg1_le hx1
      have hn1 : ns.length ≤ 40 := hx1.1
      have hc1 : cs.length ≤ 40 := hx1.2.1
      dsimp only at q0 q1 q2 q3 HST e3 e4 hP1
      subst e3 e4
      obtain ⟨P, hP⟩ : ∃ P, P = wg1 ⟨xk, xa, ns, cs⟩ := ⟨_, rfl⟩
      rw [← hP] at HST hP1
      have eP : (ns.length : Int) * (8 * (cs.length : Int) + 8) = (P : Int) := by rw [hP]; unfold wg1; simp
      have wP : IntKind.i64.wrap ((ns.length : Int) * (8 * (cs.length : Int) + 8)) = (P : Int) := by rw [eP, IntKind.wrap_i64]; omega
      clear hP hx1
      go_wp2_with fail
      go_quiet (fail)
      go_wp2_with fail
      go_roundw
      case rel => exact ⟨i + 1, m + P, by go_num, by first | rfl | go_num | (congr 1; omega), hlt, by rw [HST.out, HM.out], HBD.out _⟩
      case measure => simp [intOf]; omega
    · have hi1 : ¬ (i : Int) < (l.length : Int) := by omega
      have HE : Hid (m = wgt l) := by have := HM.out; rw [List.take_of_length_le (by omega)] at this; exact this
      clear hb
      go_wp2_with fail
      go_ret
      exact ⟨by rw [HE.out]; rfl, B0.out.trans (HB.out.mono B0.out.size)⟩

end Go.Proofs.Ytimclfdecdappaa
