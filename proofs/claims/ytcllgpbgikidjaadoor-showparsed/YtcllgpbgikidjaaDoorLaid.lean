/-
  What the rows' condition on listed variables gives: strconv's two errors and its table of powers are laid; and a world that meets it.
-/
import Derived.Test.YtcllgpbgikidjaaDoorSNum
import Derived.Test.YtcllgpbgikidjaaDoorRows
import Derived.ProofKit
import Derived.OpenShut
import Derived.LaidLaws
import Derived.LaidMore
import Derived.Lay
import Derived.Stop.Joined
import Derived.Lib.LaidTab
namespace Go.Proofs.YtcllgpbgikidjaaDoor
open Go.ChangeShapes Go.WideShapes Go.ChangeAt Go.RowKit

def laid5 : List (String × DataW Unit) := [("math/bits.deBruijn32tab", Rows.laid_math_bits_deBruijn32tab), ("math/bits.deBruijn64tab", Rows.laid_math_bits_deBruijn64tab), ("internal/strconv.uint64pow10", Rows.laid_internal_strconv_uint64pow10), ("strconv.ErrRange", Rows.laid_strconv_ErrRange), ("strconv.ErrSyntax", Rows.laid_strconv_ErrSyntax)]

theorem gRange : Tryd.prog.globalNamed "strconv.ErrRange" = some 2 := by kernel_rfl
theorem gSyntax : Tryd.prog.globalNamed "strconv.ErrSyntax" = some 1 := by kernel_rfl
theorem gPow : Tryd.prog.globalNamed "internal/strconv.uint64pow10" = some 3 := by kernel_rfl
theorem tRange : (Tryd.prog.globals[2]?).map (·.type) = some 48 := by kernel_rfl
theorem tSyntax : (Tryd.prog.globals[1]?).map (·.type) = some 48 := by kernel_rfl
theorem tPow : (Tryd.prog.globals[3]?).map (·.type) = some 132 := by kernel_rfl

theorem pow_data : (Rows.laid_internal_strconv_uint64pow10 : DataW Unit) = Lib.tabData .u64 Lib.pow10Tab := rfl

theorem both_of_laid {W : World} (h : laidMetH Tryd.prog laid5 W) : Vars W ∧ Tb Lib.pow10Tab W := by
  rw [MakeChecks.laidMetH_plain _ _ _ (by kernel_rfl)] at h
  obtain ⟨ps, ⟨_, _, _, _, _, _, _, _, _, _, ⟨_, _, _, _, _, _, _, _, _, _, ⟨g2, t2, cs2, f2, p2, q2, hg2, ht2, hv2, hd2, ⟨g0, t0, cs0, f0, p0, q0, hg0, ht0, hv0, hd0, ⟨g1, t1, cs1, f1, p1, q1, hg1, ht1, hv1, hd1, _, _⟩, _⟩, _⟩, _⟩, _⟩, _, _⟩ := h
  obtain rfl := Option.some.inj (gRange.symm.trans hg0)
  obtain rfl := Option.some.inj (gSyntax.symm.trans hg1)
  obtain rfl := Option.some.inj (gPow.symm.trans hg2)
  obtain rfl := Option.some.inj (tRange.symm.trans ht0)
  obtain rfl := Option.some.inj (tSyntax.symm.trans ht1)
  obtain rfl := Option.some.inj (tPow.symm.trans ht2)
  constructor
  · obtain ⟨_, u0, v0, e0, _, _⟩ := iface_of_trod Tryd.underlying48 hd0
    obtain ⟨_, u1, v1, e1, _, _⟩ := iface_of_trod Tryd.underlying48 hd1
    have c0 := World.var?_cell hg0 hv0 0
    have c1 := World.var?_cell hg1 hv1 0
    obtain ⟨l0⟩ := cs0
    obtain ⟨l1⟩ := cs1
    simp only at e0 e1
    subst e0 e1
    exact ⟨u1, v1, u0, v0, by simpa using c1, by simpa using c0⟩
  · refine ⟨rfl, ?_⟩
    unfold Lib.TabIs
    rw [pow_data] at hd2
    rw [hv2, ← Lib.cells_of_tab Tryd.underlying132 Tryd.underlying37 (by kernel_rfl) (by kernel_rfl) hd2]

theorem met5 (os : Os) (args : Array Value) : laidMetH Tryd.prog laid5 ((World.laidAll Tryd.prog os laid5).forCall (fun _ _ => 0) ⟨#[], args, []⟩).memory := by
  rw [MakeChecks.laidMetH_plain _ _ _ (by kernel_rfl)]
  exact laidMet_laidAll _ (by kernel_rfl) (by kernel_rfl)

end Go.Proofs.YtcllgpbgikidjaaDoor
