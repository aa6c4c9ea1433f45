/-
  The document's gone, Kill, Send.
-/
import Derived.Test.YtlckconhhhllkaaRAt
namespace Go.Proofs.Ytlckconhhhllkaa
open Go.RowKit

/-- what the document's gone leaves. -/
def RGoneE (w : World) (base b : Nat) (v : Value) (s : Nt) (i : Nat) (x : En) (k : Int) (e : Ending) (w' : World) : Prop := e = .returned (.bool x.waits) ∧ RfC w' base b v { s with L := s.L.set i (goneW k x) } ∧ Fr [44] [] base w w'

set_option maxHeartbeats 4000000 in
theorem rgone_any (w : World) (base b : Nat) (v : Value) (s : Nt) (i : Nat) (x : En) (k : Int) (h : RfC w base b v s) (hn : s.L.length ≤ 8) (hx : s.L[i]? = some x) (hB : base ≤ w.heap.size) :
    Calls Try.prog 41 #[.pointer (some ⟨b, 0, none⟩), .int .i64 i, .int .i64 k] w fun e w' => RGoneE w base b v s i x k e w' := by
  obtain ⟨hi, hxi⟩ := List.getElem?_eq_some_iff.1 hx
  obtain ⟨pv, cv, rfl⟩ := rowS_slice h.row
  obtain ⟨g, rfl, _, hce⟩ := rowE_at h.row hi
  have c0 := h.blk.cell 0
  have x0 := hce 0 _ rfl
  rw [Nat.add_zero] at x0
  have x1 := hce 1 _ rfl
  have x2 := hce 2 _ rfl
  have x3 := hce 3 _ rfl
  have x4 := hce 4 _ rfl
  have x5 := hce 5 _ rfl
  rw [hxi] at x0 x1 x2 x3 x4 x5
  have HC : Hid (∀ X, Below w.heap.size w X → ∀ j u, x.cells[j]? = some u → X.cell? ⟨g, i * 6 + j, none⟩ = some u) := fun X hX j u hu => by
    rw [hX.cell (p := ⟨g, i * 6 + j, none⟩) (World.block_lt_of_cell? w _ (hce j u (by rw [hxi]; exact hu)))]
    exact hce j u (by rw [hxi]; exact hu)
  have HR : Hid (RfC w base b (.slice (some ⟨g, 0, none⟩) s.L.length cv) s ∧ base ≤ w.heap.size) := ⟨h, hB⟩
  have HXI : Hid (s.L[i]? = some x) := hx
  have hi8 : i < 8 := by omega
  have hiL : (i : Int) < (s.L.length : Int) := by omega
  unfold RGoneE
  obtain ⟨n, hnn⟩ : ∃ n, s.L.length = n := ⟨_, rfl⟩
  have HNN : Hid (s.L.length = n) := hnn
  rw [hnn] at c0 HR hiL ⊢
  have HW : Hid (∀ X, Calls Try.prog 42 #[x.v] X fun e w' => e = .returned (.bool x.waits) ∧ Below X.heap.size X w') := fun X => rwaits_any x X
  obtain ⟨q1, q2, q3, q4, q5, q6⟩ := x
  dsimp only at x0 x1 x2 x3 x4 x5
  replace HW : Hid (∀ X, Calls Try.prog 42 #[.agg #[.int .u64 q1, .int .i64 q2, .int .i64 q3, .int .i64 q4, .int .i64 q5, .int .i64 q6]] X fun e w' => e = .returned (.bool (⟨q1, q2, q3, q4, q5, q6⟩ : En).waits) ∧ Below X.heap.size X w') := HW
  obtain ⟨GW, hGW⟩ : ∃ l, s.L.set i (goneW k ⟨q1, q2, q3, q4, q5, q6⟩) = l := ⟨_, rfl⟩
  have HGW : Hid (s.L.set i (goneW k ⟨q1, q2, q3, q4, q5, q6⟩) = GW) := hGW
  rw [hGW]
  clear h hx hi hxi hce hB hn hnn hGW
  cases hw : (⟨q1, q2, q3, q4, q5, q6⟩ : En).waits with
  | false =>
    have HS : Hid (GW = s.L) := by
      show GW = s.L
      rw [← HGW.out, goneW_ended hw]
      exact set_same HXI.out
    rw [hw] at HW
    clear hw
    go_enter Try.func41, Try.ntmps41
    go_wp2_with fail
    refine (HW.out w).mono ?_
    rintro e w1 ⟨rfl, hb1⟩
    have H1 : Hid (RfC w1 base b (.slice (some ⟨g, 0, none⟩) n cv) s ∧ Fr [44] [] base w w1) := ⟨HR.out.1.over hb1, fr_below hb1 HR.out.2⟩
    clear hb1
    go_wp2_with fail
    go_ret
    exact ⟨rfl, by rw [HS.out]; exact H1.out.1, H1.out.2⟩
  | true =>
    have HS : Hid (GW = s.L.set i ⟨q1, q2, 4, q4, k, 0⟩) := by
      show GW = _
      rw [← HGW.out]
      unfold goneW
      rw [if_pos hw]
      rfl
    rw [hw] at HW
    clear hw
    go_enter Try.func41, Try.ntmps41
    go_wp2_with fail
    refine (HW.out w).mono ?_
    rintro e w1 ⟨rfl, hb1⟩
    have H1 : Hid (RfC w1 base b (.slice (some ⟨g, 0, none⟩) n cv) s ∧ Fr [44] [] base w w1) := ⟨HR.out.1.over hb1, fr_below hb1 HR.out.2⟩
    have d0 := H1.out.1.blk.cell 0
    have y2 := HC.out w1 hb1 2 _ rfl
    have y4 := HC.out w1 hb1 4 _ rfl
    have y5 := HC.out w1 hb1 5 _ rfl
    have f2 := own_free H1.out.1.row
    have HE3 : Hid (RfC (((w1.setCell ⟨g, i * 6 + 2, none⟩ (.int .i64 4)).setCell ⟨g, i * 6 + 4, none⟩ (.int .i64 k)).setCell ⟨g, i * 6 + 5, none⟩ (.int .i64 0)) base b (.slice (some ⟨g, 0, none⟩) n cv) { s with L := s.L.set i ⟨q1, q2, 4, q4, k, 0⟩ } ∧ Fr [44] [] base w1 (((w1.setCell ⟨g, i * 6 + 2, none⟩ (.int .i64 4)).setCell ⟨g, i * 6 + 4, none⟩ (.int .i64 k)).setCell ⟨g, i * 6 + 5, none⟩ (.int .i64 0))) := by
      exact H1.out.1.end3 (st := 4) (k := k) (v := 0) HNN.out HXI.out
    have e0 : (w1.setCell ⟨g, i * 6 + 2, none⟩ (.int .i64 4)).cell? ⟨b, 0, none⟩ = some (.slice (some ⟨g, 0, none⟩) n cv) := by
      have := (H1.out.1.cell (j := 2) (u := .int .i64 4) (y := ⟨q1, q2, 4, q4, q5, q6⟩) HNN.out HXI.out (by decide) rfl).1
      exact this.blk.cell 0
    clear hb1 HW
    go_wp2_with fail
    go_ret
    exact ⟨rfl, by rw [HS.out]; exact HE3.out.1, H1.out.2.trans HE3.out.2⟩

end Go.Proofs.Ytlckconhhhllkaa
