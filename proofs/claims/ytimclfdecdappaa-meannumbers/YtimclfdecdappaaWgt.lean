/-
  How much rules are; whether two rows of numbers are the same.
-/
import Derived.Test.YtimclfdecdappaaNumbM
import Derived.Test.YtimclfdecdappaaSLight
import Derived.Test.YtimclfdecdappaaMeanChecksWalk
import Derived.BigQuiet
namespace Go.Proofs.Ytimclfdecdappaa
open Go.RowKit

def wg1 (x : Xl) : Nat := x.names.length * (8 * x.conds.length + 8)
def wgt (l : List Xr) : Nat := 8 + (l.map fun x => wg1 x.r).sum
theorem wgt_step {l : List Xr} {i : Nat} (h : i < l.length) : wgt (l.take (i + 1)) = wgt (l.take i) + wg1 l[i].r := by
  unfold wgt
  rw [List.take_succ_eq_append_getElem h, List.map_append, List.sum_append]
  simp
  omega
theorem wg1_le {x : Xl} (h : Lx1 x) : wg1 x ≤ 13120 := by
  unfold wg1
  have h1 := h.1
  have h2 := h.2.1
  exact Nat.le_trans (Nat.mul_le_mul h1 (show 8 * x.conds.length + 8 ≤ 328 by omega)) (Nat.le_refl _)
theorem wgt_le {l : List Xr} (h : Lt l) : ∀ i, i ≤ l.length → wgt (l.take i) ≤ 8 + i * 13120
  | 0, _ => by simp [wgt]
  | i + 1, hi => by
    have h1 := wgt_le h i (by omega)
    have h2 := wg1_le (h.2 l[i] (List.getElem_mem (by omega)))
    rw [wgt_step (by omega)]
    omega

set_option maxRecDepth 8000 in
set_option maxHeartbeats 2000000 in
theorem weight_any (w : World) (k a : Int) (v : Value) (l : List Xr) (h : RlR w v l) (hL : Lt l) :
    Calls Try.prog 22 #[.agg #[.int .i64 k, .int .i64 a, v]] w fun e w' => e = .returned (.int .i64 (wgt l)) ∧ Below w.heap.size w w' := by
  obtain ⟨p1, c1, rfl⟩ : ∃ p c, v = .slice p l.length c := by obtain ⟨p, c, e, _⟩ := h; exact ⟨p, c, e⟩
  have B0 : Hid (Below w.heap.size w (w.alloc (Obj.cells #[.int .i64 k, .int .i64 a, .slice p1 l.length c1] 33))) := below_new w _
  have S0 : Hid (RlR (w.alloc (Obj.cells #[.int .i64 k, .int .i64 a, .slice p1 l.length c1] 33)) (.slice p1 l.length c1) l) := h.below (below_new w _)
  have HW : Hid (∀ i, i ≤ l.length → wgt (l.take i) ≤ 8 + i * 13120) := wgt_le hL
  have HL1 : Hid (∀ x ∈ l, Lx1 x.r) := hL.2
  have hl70 : l.length ≤ 70 := hL.1
  clear h hL
  go_enter Try.func22, Try.ntmps22
  go_wp2_with fail
  generalize (w.alloc (Obj.cells #[.int .i64 k, .int .i64 a, .slice p1 l.length c1] 33)) = X at *
  go_loopw [3, 9] (fun v3 vi wr => ∃ (i m : Nat), vi = .int .i64 i ∧ v3 = .int .i64 m ∧ i ≤ l.length ∧ m = wgt (l.take i) ∧ Below X.heap.size X wr) (fun _ vi _ => l.length - (intOf vi).toNat)
  case atStart => exact ⟨0, 8, rfl, rfl, Nat.zero_le _, rfl, Below.refl _ _⟩
  case round =>
    obtain ⟨i, m, rfl, rfl, hi, hm, hb⟩ := hrel
    have HM : Hid (m = wgt (l.take i)) := hm
    have HB : Hid (Below X.heap.size X wr) := hb
    have hm1 : m ≤ 8 + i * 13120 := by rw [hm]; exact HW.out i hi
    clear hm
    by_cases hlt : i < l.length
    · have hi1 : (i : Int) < (l.length : Int) := by omega
      obtain ⟨b1, o1, rfl, e1⟩ := rlR_at (S0.out.below hb) hlt
      have hmem : l[i] ∈ l := List.getElem_mem hlt
      have HST : Hid (wgt (l.take (i + 1)) = wgt (l.take i) + wg1 l[i].r) := wgt_step hlt
      have hx1 : Lx1 l[i].r := HL1.out _ hmem
      obtain ⟨p3, c3, e3⟩ : ∃ p c, l[i].vn = .slice p l[i].r.names.length c := by obtain ⟨_, _, _, _, _, _, hr⟩ := S0.out; obtain ⟨p, c, e, _⟩ := (hr _ hmem).1; exact ⟨p, c, e⟩
      obtain ⟨p4, c4, e4⟩ : ∃ p c, l[i].vc = .slice p l[i].r.conds.length c := by obtain ⟨_, _, _, _, _, _, hr⟩ := S0.out; obtain ⟨p, c, e, _⟩ := (hr _ hmem).2; exact ⟨p, c, e⟩
      clear hmem hb
      generalize l[i] = x at *
      obtain ⟨⟨xk, xa, ns, cs⟩, vn, vc⟩ := x
      obtain ⟨q0, q1, q2, q3⟩ := e1
      have hP1 := wg1_le hx1
      have hn1 : ns.length ≤ 40 := hx1.1
      have hc1 : cs.length ≤ 40 := hx1.2.1
      dsimp only at q0 q1 q2 q3 HST e3 e4 hP1
      subst e3 e4
      obtain ⟨P, hP⟩ : ∃ P, P = wg1 ⟨xk, xa, ns, cs⟩ := ⟨_, rfl⟩
      rw [← hP] at HST hP1
      have eP : (ns.length : Int) * (8 * (cs.length : Int) + 8) = (P : Int) := by rw [hP]; unfold wg1; simp
      have wP : IntKind.i64.wrap ((ns.length : Int) * (8 * (cs.length : Int) + 8)) = (P : Int) := by rw [eP, IntKind.wrap_i64]; omega
      clear hP hx1
      have BE : Hid (Below X.heap.size X (wr.alloc (Obj.cells #[.int .i64 xk, .int .i64 xa, .slice p3 ns.length c3, .slice p4 cs.length c4] 52))) := HB.out.alloc HB.out.size _
      go_wp2_with fail
      go_roundw
      case rel => exact ⟨i + 1, m + P, by go_num, by first | rfl | go_num | (congr 1; omega), hlt, by rw [HST.out, HM.out], BE.out⟩
      case measure => simp [intOf]; omega
    · have hi1 : ¬ (i : Int) < (l.length : Int) := by omega
      have HE : Hid (m = wgt l) := by have := HM.out; rw [List.take_of_length_le (by omega)] at this; exact this
      clear hb
      go_wp2_with fail
      go_ret
      exact ⟨by rw [HE.out]; rfl, B0.out.trans (HB.out.mono B0.out.size)⟩

set_option maxRecDepth 8000 in
set_option maxHeartbeats 2000000 in
theorem sameWords_any (w : World) (u v : Value) (l : List Int) (hu : NzR w u l) (hv : NzR w v l) :
    Calls Try.prog 19 #[u, v] w fun e w' => e = .returned (.bool true) ∧ Below w.heap.size w w' := by
  have HU : Hid (∀ W, Below w.heap.size w W → NzR W u l) := fun W hW => hu.below hW
  have HV : Hid (∀ W, Below w.heap.size w W → NzR W v l) := fun W hW => hv.below hW
  obtain ⟨p1, c1, rfl, hk1, hk2, _⟩ := hu
  obtain ⟨p2, c2, rfl, _, _, _⟩ := hv
  have hmax : l.length ≤ 9223372036854775807 := by omega
  go_enter Try.func19, Try.ntmps19
  go_wp2_with fail
  go_loopw [5] (fun vi wr => ∃ i : Nat, vi = .int .i64 i ∧ i ≤ l.length ∧ Below w.heap.size w wr) (fun vi _ => l.length - (intOf vi).toNat)
  case atStart => exact ⟨0, rfl, Nat.zero_le _, Below.refl _ _⟩
  case round =>
    obtain ⟨i, rfl, hi, hb⟩ := hrel
    have HB : Hid (Below w.heap.size w wr) := hb
    have HBD : Hid (∀ m, Below w.heap.size w (wr.drewN m)) := fun m => hb.trans ((below_drewN wr m).mono hb.size)
    by_cases hlt : i < l.length
    · have hi1 : (i : Int) < (l.length : Int) := by omega
      obtain ⟨b1, o1, rfl, h1⟩ : ∃ b o, p1 = some ⟨b, o, none⟩ ∧ wr.cell? ⟨b, o + i, none⟩ = some (.int .u32 l[i]) := by
        obtain ⟨_, _, e, _, _, hc⟩ := HU.out wr hb
        cases e
        obtain ⟨b, o, e, hc⟩ := hc (by omega)
        exact ⟨b, o, e, hc i _ (List.getElem?_eq_getElem hlt)⟩
      obtain ⟨b2, o2, rfl, h2⟩ : ∃ b o, p2 = some ⟨b, o, none⟩ ∧ wr.cell? ⟨b, o + i, none⟩ = some (.int .u32 l[i]) := by
        obtain ⟨_, _, e, _, _, hc⟩ := HV.out wr hb
        cases e
        obtain ⟨b, o, e, hc⟩ := hc (by omega)
        exact ⟨b, o, e, hc i _ (List.getElem?_eq_getElem hlt)⟩
      generalize l[i] = x at *
      clear hb
      go_wp2_with fail
      go_quiet (fail)
      go_wp2_with fail
      go_roundw
      case rel => exact ⟨i + 1, by go_num, hlt, HBD.out _⟩
      case measure => simp [intOf]; omega
    · have hi1 : ¬ (i : Int) < (l.length : Int) := by omega
      clear hb
      go_wp2_with fail
      go_ret
      exact ⟨rfl, HB.out⟩

end Go.Proofs.Ytimclfdecdappaa
