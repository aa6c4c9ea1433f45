/-
  TpLaid.
-/
import Derived.Test.YtmcgcbgblgmmkaaGreatDoorQ41
import Derived.LaidLaws
import Derived.LaidMore
import Derived.Lay
import Derived.Stop.Joined
import Derived.Lib.LaidTab
namespace Go.Proofs.YtmcgcbgblgmmkaaGreatDoor
open Go.ChangeShapes Go.WideShapes Go.ChangeAt Go.RowKit
def laid5 : List (String × DataW Unit) := [("math/bits.deBruijn32tab", Rows.laid_math_bits_deBruijn32tab), ("math/bits.deBruijn64tab", Rows.laid_math_bits_deBruijn64tab), ("internal/strconv.uint64pow10", Rows.laid_internal_strconv_uint64pow10), ("strconv.ErrRange", Rows.laid_strconv_ErrRange), ("strconv.ErrSyntax", Rows.laid_strconv_ErrSyntax)]
theorem gRange : Tryz.prog.globalNamed "strconv.ErrRange" = some 1 := by kernel_rfl
theorem gSyntax : Tryz.prog.globalNamed "strconv.ErrSyntax" = some 0 := by kernel_rfl
theorem tRange : (Tryz.prog.globals[1]?).map (·.type) = some 249 := by kernel_rfl
theorem tSyntax : (Tryz.prog.globals[0]?).map (·.type) = some 249 := by kernel_rfl
theorem vars_of_laid {W : World} (h : laidMetH Tryz.prog laid5 W) : P.Vars W := by
 rw [MakeChecks.laidMetH_plain _ _ _ (by kernel_rfl)] at h
 obtain ⟨ps, ⟨_, _, _, _, _, _, _, _, _, _, ⟨_, _, _, _, _, _, _, _, _, _, ⟨_, _, _, _, _, _, _, _, _, _, ⟨g0, t0, cs0, f0, p0, q0, hg0, ht0, hv0, hd0, ⟨g1, t1, cs1, f1, p1, q1, hg1, ht1, hv1, hd1, _, _⟩, _⟩, _⟩, _⟩, _⟩, _, _⟩ := h
 obtain rfl := Option.some.inj (gRange.symm.trans hg0)
 obtain rfl := Option.some.inj (gSyntax.symm.trans hg1)
 obtain rfl := Option.some.inj (tRange.symm.trans ht0)
 obtain rfl := Option.some.inj (tSyntax.symm.trans ht1)
 obtain ⟨_, u0, v0, e0, _, _⟩ := iface_of_trod Tryz.underlying249 hd0
 obtain ⟨_, u1, v1, e1, _, _⟩ := iface_of_trod Tryz.underlying249 hd1
 have c0 := World.var?_cell hg0 hv0 0
 have c1 := World.var?_cell hg1 hv1 0
 obtain ⟨l0⟩ := cs0
 obtain ⟨l1⟩ := cs1
 simp only at e0 e1
 subst e0 e1
 exact ⟨u1, v1, u0, v0, by simpa using c1, by simpa using c0⟩
theorem met5 (os : Os) (args : Array Value) : laidMetH Tryz.prog laid5 ((World.laidAll Tryz.prog os laid5).forCall (fun _ _ => 0) ⟨#[], args, []⟩).memory := by
 rw [MakeChecks.laidMetH_plain _ _ _ (by kernel_rfl)]
 exact laidMet_laidAll _ (by kernel_rfl) (by kernel_rfl)
end Go.Proofs.YtmcgcbgblgmmkaaGreatDoor
