/-
  A table of a call's own; what every law does ahead; the law FdsFull, walked.
-/
import Derived.Test.YtcenjdpochjclaaOps
import Derived.Test.YtcenjdpochjclaaLate
import Derived.Deep.DeepCutAuto
namespace Go.Proofs.Ytcenjdpochjclaa
open Go.RowKit

/-- a table of the call's own. -/
structure TbF (w W : World) (b : Nat) (l : Fd) : Prop where
  tb : TbV W b l
  bel : Below w.heap.size w W
  b0 : w.heap.size ≤ b
section
variable {w W W' : World} {b : Nat} {l l' : Fd}
theorem TbF.over (h : TbF w W b l) (hb : Below W.heap.size W W') : TbF w W' b l := ⟨h.tb.over hb, h.bel.trans (hb.mono h.bel.size), h.b0⟩
theorem TbF.drewN (h : TbF w W b l) (m : Nat) : TbF w (W.drewN m) b l := h.over (below_drewN W m)
theorem TbF.step (h : TbF w W b l) (ht : TbV W' b l') (hf : Fr [] [b] 0 W W') : TbF w W' b l' :=
  ⟨ht, h.bel.trans (fr_lift hf (by simp; exact h.b0) h.bel.size).bel, h.b0⟩
theorem new_f (hb : Below w.heap.size w W) : Calls Try.prog 8 #[] W fun e w' => ∃ b, e = .returned (.pointer (some ⟨b, 0, none⟩)) ∧ TbF w w' b newF := by
  refine (new_any W).mono ?_
  rintro e w' ⟨b, h0, rfl, h1, h2⟩
  exact ⟨b, rfl, h1, hb.trans (h2.mono hb.size), Nat.le_trans hb.size h0⟩
theorem install_f (v : Int) (h : TbF w W b l) : Calls Try.prog 14 #[.pointer (some ⟨b, 0, none⟩), .int .i64 v] W fun e w' => e = .returned (.tuple #[.int .i64 (spotF l), .int .i64 (fullF l)]) ∧ TbF w w' b (instF l v) := by
  refine (install_any b v l W h.tb).mono ?_
  rintro e w' ⟨rfl, h1, h2⟩
  exact ⟨rfl, h.step h1 h2⟩
theorem close_f (z : Int) (h : TbF w W b l) : Calls Try.prog 15 #[.pointer (some ⟨b, 0, none⟩), .int .i64 z] W fun e w' => e = .returned (.int .i64 (noneF l z)) ∧ TbF w w' b (shutF l z) := by
  refine (close_any b z l W h.tb).mono ?_
  rintro e w' ⟨rfl, h1, h2⟩
  exact ⟨rfl, h.step h1 h2⟩
theorem get_f (z : Int) (h : TbF w W b l) : Calls Try.prog 12 #[.pointer (some ⟨b, 0, none⟩), .int .i64 z] W fun e w' => e = .returned (.tuple #[.int .i64 ((getF l z).getD 0), .bool (getF l z).isSome]) ∧ TbF w w' b l := by
  refine (get_any b z l W h.tb).mono ?_
  rintro e w' ⟨rfl, h1⟩
  exact ⟨rfl, h.over h1⟩
theorem len_f (h : TbF w W b l) : Calls Try.prog 11 #[.pointer (some ⟨b, 0, none⟩)] W fun e w' => e = .returned (.int .i64 (lenF l)) ∧ TbF w w' b l := by
  refine (len_any b l W h.tb).mono ?_
  rintro e w' ⟨rfl, h1⟩
  exact ⟨rfl, h.over h1⟩
end

set_option maxHeartbeats 4000000 in
theorem awake_any (w : World) : Calls Try.prog 7 #[] w fun e w' => e = .returned (.bool true) ∧ Below w.heap.size w w' := by
  go_enter Try.func7, Try.ntmps7
  go_wp2_with fail
  refine (new_f (Below.refl _ w)).mono ?_
  rintro e w1 ⟨b, rfl, h1⟩
  have H1 : Hid (TbF w w1 b newF) := h1
  clear h1
  go_wp2_with fail
  refine (install_f 9 H1.out).mono ?_
  rintro e w2 ⟨he, h2⟩
  have he2 : e = .returned (.tuple #[.int .i64 3, .int .i64 0]) := he
  subst he2
  have H2 : Hid (TbF w w2 b (instF newF 9)) := h2
  clear h2 he H1
  go_wp2_with fail
  refine (get_f 3 H2.out).mono ?_
  rintro e w3 ⟨he, h3⟩
  have he2 : e = .returned (.tuple #[.int .i64 9, .bool true]) := he
  subst he2
  have H3 : Hid (Calls Try.prog 11 #[.pointer (some ⟨b, 0, none⟩)] w3 fun e w' => e = .returned (.int .i64 4) ∧ Below w.heap.size w w') := (len_f h3).mono (fun e w' ⟨h1, h2⟩ => ⟨h1, h2.bel⟩)
  clear h3 he H2
  go_wp2_with (first
    | (go_at_call 11; refine H3.out.mono ?_; rintro e w4 ⟨rfl, hb4⟩; have H4 : Hid (Below w.heap.size w w4) := hb4; clear hb4))
  go_ret
  exact ⟨rfl, H4.out⟩

end Go.Proofs.Ytcenjdpochjclaa
