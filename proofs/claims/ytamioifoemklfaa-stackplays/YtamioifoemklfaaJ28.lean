/-
  Texts of this seat, joined: VDOpen.
-/
import Derived.Test.YtamioifoemklfaaJ3
import Derived.Test.YtamioifoemklfaaJ1
import Derived.OpenShut
import Derived.ProofKit
import Derived.Deep.Slices
import Derived.Deep.Fields

namespace Go.Proofs.Ytamioifoemklfaa.V
open Go.ChangeShapes Go.WideShapes Go.ChangeAt Go.RowKit Go.Deep

theorem cells27 : Try.prog.cellsOf 27 = 9 := by kernel_rfl
theorem cells24 : Try.prog.cellsOf 24 = 1 := by kernel_rfl
theorem cells25 : Try.prog.cellsOf 25 = 6 := by kernel_rfl

set_option maxRecDepth 20000 in
theorem open_cells_da {H : Type} {enc : TypeId × Value → H} {w : World} {base : Nat} {spare : Nat → Bool} {held : Bool} {n : Nat} {cs : List Value} {x : DataW H × List MemPlace} (hl : cs.length = 9) (h : DataW.trod enc Try.prog w base spare held n 27 cs = some x) :
    ∃ y : Da, y.ok ∧ cs = y.cells := by
  obtain ⟨xs, k, _, _, _, hxl, hf⟩ := DataW.trod_struct Try.underlying27 h
  match xs, hxl, cs, hl with
  | [y0, y1, y2, y3], _, [v0, v1, v2, v3, v4, v5, v6, v7, v8], _ =>
    have g0 := hf 0 _ rfl
    have g1 := hf 1 _ rfl
    have g2 := hf 2 _ rfl
    have g3 := hf 3 _ rfl
    simp [cells23, cells24, cells25] at g0 g1 g2 g3
    obtain ⟨a, ha, _, wa⟩ := DataW.trod_int Try.underlying23 g0
    obtain ⟨b, hb, _, wb⟩ := DataW.trod_int Try.underlying23 g1
    obtain ⟨c, hc, _, wc⟩ := DataW.trod_int Try.underlying24 g2
    obtain ⟨zs, m, _, _, _, hlen, hi⟩ := DataW.trod_array Try.underlying25 g3
    have i0 := hi 0 (by omega)
    have i1 := hi 1 (by omega)
    have i2 := hi 2 (by omega)
    have i3 := hi 3 (by omega)
    have i4 := hi 4 (by omega)
    have i5 := hi 5 (by omega)
    rw [cells24] at i0 i1 i2 i3 i4 i5
    match zs, hlen with
    | [z0, z1, z2, z3, z4, z5], _ =>
      obtain ⟨x0, e0, _, w0⟩ := DataW.trod_int Try.underlying24 (by simpa using i0)
      obtain ⟨x1, e1, _, w1⟩ := DataW.trod_int Try.underlying24 (by simpa using i1)
      obtain ⟨x2, e2, _, w2⟩ := DataW.trod_int Try.underlying24 (by simpa using i2)
      obtain ⟨x3, e3, _, w3⟩ := DataW.trod_int Try.underlying24 (by simpa using i3)
      obtain ⟨x4, e4, _, w4⟩ := DataW.trod_int Try.underlying24 (by simpa using i4)
      obtain ⟨x5, e5, _, w5⟩ := DataW.trod_int Try.underlying24 (by simpa using i5)
      simp at ha hb hc e0 e1 e2 e3 e4 e5
      subst ha hb hc e0 e1 e2 e3 e4 e5
      refine ⟨⟨a, b, c, [x0, x1, x2, x3, x4, x5]⟩, ⟨bounds_u32 wa, bounds_u32 wb, bounds_u64 wc, rfl, ?_⟩, rfl⟩
      intro z hz
      simp only [List.mem_cons, List.not_mem_nil, or_false] at hz
      rcases hz with rfl | rfl | rfl | rfl | rfl | rfl
      · exact bounds_u64 w0
      · exact bounds_u64 w1
      · exact bounds_u64 w2
      · exact bounds_u64 w3
      · exact bounds_u64 w4
      · exact bounds_u64 w5

set_option maxRecDepth 20000 in
theorem open_da {H : Type} {enc : TypeId × Value → H} {w : World} {base b0 : Nat} {spare : Nat → Bool} {held : Bool} {r : Reach} {v : Value} {d : DataW H} {p : List MemPlace}
    (hv : Value.okWide Try.prog w r b0 27 v) (h : DataW.Trod enc Try.prog w base spare held 27 v d p) : ∃ y : Da, v = y.val ∧ y.ok := by
  unfold Value.okWide at hv
  rw [Try.underlying27] at hv
  obtain ⟨cs, rfl, hsz, _⟩ := hv
  obtain ⟨fuel, hf⟩ := h
  rw [cells27] at hsz
  obtain ⟨y, hy, e⟩ := open_cells_da (cs := cs.toList) (by simpa using hsz) hf
  refine ⟨y, ?_, hy⟩
  unfold Da.val
  rw [← e]

end Go.Proofs.Ytamioifoemklfaa.V
