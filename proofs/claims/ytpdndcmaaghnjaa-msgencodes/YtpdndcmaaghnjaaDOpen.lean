/-
  What slices of bytes that come in lead to, and a call that comes in by value.
-/
import Derived.Test.YtpdndcmaaghnjaaDMem
import Derived.OpenShut
import Derived.ProofKit
import Derived.Deep.Slices
import Derived.Deep.Fields
namespace Go.Proofs.Ytpdndcmaaghnjaa.D
open Go.ChangeShapes Go.WideShapes Go.ChangeAt Go.RowKit Go.Deep

/-- what the walk is told of a slice of integers that came in: it is nil, or leads to a row of cells. -/
def IsRow (k : IntKind) (w : World) (a : Option Addr) (len cap : Nat) (zs : List Int) : Prop :=
  (a = none ∧ len = 0 ∧ cap = 0 ∧ zs = []) ∨
  ∃ x, a = some x ∧ len ≤ cap ∧ cap ≤ maxLen ∧ zs.length = cap ∧ (∀ i, i < zs.length → w.cell? (x.add i) = some (.int k (zs.getD i 0))) ∧ ∀ n ∈ zs, (Lit.int k n).wf = true

theorem IsRow.bs {w : World} {a : Option Addr} {len cap : Nat} {zs : List Int} (h : IsRow .u8 w a len cap zs) : Bs w a len (zs.take len) := by
  rcases h with ⟨rfl, rfl, rfl, rfl⟩ | ⟨x, rfl, hl, hm, hz, hcell, hwz⟩
  · exact ⟨rfl, by intro z hz; simp at hz, fun h => absurd h (by omega)⟩
  · refine ⟨by rw [List.length_take]; omega, fun n hn => bounds_u8 (hwz n (List.mem_of_mem_take hn)), fun h0 => ?_⟩
    obtain ⟨b, off, spot⟩ := x
    have hc := hcell 0 (by omega)
    have hspot : spot = none := by simpa [Addr.add] using World.cell?_spot hc
    subst hspot
    refine ⟨b, off, rfl, fun i hi => ?_⟩
    have := hcell i (by omega)
    rw [show (⟨b, off + i, none⟩ : Addr) = (⟨b, off, none⟩ : Addr).add i from by unfold Addr.add; split <;> simp_all, this]
    simp [hi]

theorem IsRow.bare {k : IntKind} {w : World} {a : Option Addr} {len cap : Nat} {zs : List Int} (h : IsRow k w a len cap zs) : a = none → cap = 0 := by
  rcases h with ⟨_, _, h, _⟩ | ⟨x, rfl, _⟩
  · exact fun _ => h
  · intro h; cases h

theorem IsRow.cap {k : IntKind} {w : World} {a : Option Addr} {len cap : Nat} {zs : List Int} (h : IsRow k w a len cap zs) : len ≤ cap := by
  rcases h with ⟨_, rfl, rfl, _⟩ | ⟨x, rfl, h, _⟩
  · omega
  · exact h

theorem cells26 : Try.prog.cellsOf 26 = 9 := by kernel_rfl
theorem cells22 : Try.prog.cellsOf 23 = 1 := by kernel_rfl
theorem cells23 : Try.prog.cellsOf 22 = 1 := by kernel_rfl
theorem cells24 : Try.prog.cellsOf 24 = 6 := by kernel_rfl

set_option maxRecDepth 20000 in
theorem open_cells {H : Type} {enc : TypeId × Value → H} {w : World} {base : Nat} {spare : Nat → Bool} {held : Bool} {n : Nat} {cs : List Value} {x : DataW H × List MemPlace} (hl : cs.length = 9) (h : DataW.trod enc Try.prog w base spare held n 26 cs = some x) :
    ∃ y : Da, y.ok ∧ cs = y.cells := by
  obtain ⟨xs, k, _, _, _, hxl, hf⟩ := DataW.trod_struct Try.underlying26 h
  match xs, hxl, cs, hl with
  | [y0, y1, y2, y3], _, [v0, v1, v2, v3, v4, v5, v6, v7, v8], _ =>
    have g0 := hf 0 _ rfl
    have g1 := hf 1 _ rfl
    have g2 := hf 2 _ rfl
    have g3 := hf 3 _ rfl
    simp [cells22, cells23, cells24] at g0 g1 g2 g3
    obtain ⟨a, ha, _, wa⟩ := DataW.trod_int Try.underlying23 g0
    obtain ⟨b, hb, _, wb⟩ := DataW.trod_int Try.underlying23 g1
    obtain ⟨c, hc, _, wc⟩ := DataW.trod_int Try.underlying22 g2
    obtain ⟨zs, m, _, _, _, hlen, hi⟩ := DataW.trod_array Try.underlying24 g3
    have i0 := hi 0 (by omega)
    have i1 := hi 1 (by omega)
    have i2 := hi 2 (by omega)
    have i3 := hi 3 (by omega)
    have i4 := hi 4 (by omega)
    have i5 := hi 5 (by omega)
    rw [cells23] at i0 i1 i2 i3 i4 i5
    match zs, hlen with
    | [z0, z1, z2, z3, z4, z5], _ =>
      obtain ⟨x0, e0, _, w0⟩ := DataW.trod_int Try.underlying22 (by simpa using i0)
      obtain ⟨x1, e1, _, w1⟩ := DataW.trod_int Try.underlying22 (by simpa using i1)
      obtain ⟨x2, e2, _, w2⟩ := DataW.trod_int Try.underlying22 (by simpa using i2)
      obtain ⟨x3, e3, _, w3⟩ := DataW.trod_int Try.underlying22 (by simpa using i3)
      obtain ⟨x4, e4, _, w4⟩ := DataW.trod_int Try.underlying22 (by simpa using i4)
      obtain ⟨x5, e5, _, w5⟩ := DataW.trod_int Try.underlying22 (by simpa using i5)
      simp at ha hb hc e0 e1 e2 e3 e4 e5
      subst ha hb hc e0 e1 e2 e3 e4 e5
      refine ⟨⟨a, b, c, [x0, x1, x2, x3, x4, x5]⟩, ⟨bounds_u32 wa, bounds_u32 wb, bounds_u64 wc, rfl, ?_⟩, rfl⟩
      intro z hz
      simp only [List.mem_cons, List.not_mem_nil, or_false] at hz
      rcases hz with rfl | rfl | rfl | rfl | rfl | rfl
      · exact bounds_u64 w0
      · exact bounds_u64 w1
      · exact bounds_u64 w2
      · exact bounds_u64 w3
      · exact bounds_u64 w4
      · exact bounds_u64 w5

theorem open_da {H : Type} {enc : TypeId × Value → H} {w : World} {base b0 : Nat} {spare : Nat → Bool} {held : Bool} {r : Reach} {v : Value} {d : DataW H} {p : List MemPlace}
    (hv : Value.okWide Try.prog w r b0 26 v) (h : DataW.Trod enc Try.prog w base spare held 26 v d p) : ∃ y : Da, v = y.val ∧ y.ok := by
  unfold Value.okWide at hv
  rw [Try.underlying26] at hv
  obtain ⟨cs, rfl, hsz, _⟩ := hv
  obtain ⟨fuel, hf⟩ := h
  rw [cells26] at hsz
  obtain ⟨y, hy, e⟩ := open_cells (cs := cs.toList) (by simpa using hsz) hf
  refine ⟨y, ?_, hy⟩
  unfold Da.val
  rw [← e]

end Go.Proofs.Ytpdndcmaaghnjaa.D
