/-
  What conditions, forms, calls and pairs of numbers that come in by value are.
-/
import Derived.Test.YtocebgkiaclekaaMem
import Derived.OpenShut
import Derived.ProofKit
import Derived.Deep.Slices
import Derived.Deep.Fields
namespace Go.Proofs.Ytocebgkiaclekaa
open Go.ChangeShapes Go.WideShapes Go.ChangeAt Go.RowKit Go.Deep

theorem cells3 : Try.prog.cellsOf 3 = 1 := by kernel_rfl
theorem cells4 : Try.prog.cellsOf 4 = 1 := by kernel_rfl
theorem cells22 : Try.prog.cellsOf 22 = 1 := by kernel_rfl
theorem cells24 : Try.prog.cellsOf 24 = 4 := by kernel_rfl
theorem cells25 : Try.prog.cellsOf 25 = 1 := by kernel_rfl
theorem cells26 : Try.prog.cellsOf 26 = 6 := by kernel_rfl
theorem cells28 : Try.prog.cellsOf 28 = 9 := by kernel_rfl
theorem cells36 : Try.prog.cellsOf 36 = 6 := by kernel_rfl
theorem cells40 : Try.prog.cellsOf 40 = 2 := by kernel_rfl

theorem six_of {g : List Int} (h : g.length = 6) : ∃ a b c d e f, g = [a, b, c, d, e, f] := by
  match g, h with
  | [a, b, c, d, e, f], _ => exact ⟨a, b, c, d, e, f, rfl⟩

theorem open_dcells {H : Type} {enc : TypeId × Value → H} {w : World} {base : Nat} {spare : Nat → Bool} {held : Bool} {n : Nat} {cs : List Value} {x : DataW H × List MemPlace} (hl : cs.length = 9) (h : DataW.trod enc Try.prog w base spare held n 28 cs = some x) :
    ∃ y : Da, y.ok ∧ cs = y.cells := by
  obtain ⟨xs, k, _, _, _, hxl, hf⟩ := DataW.trod_struct Try.underlying28 h
  match xs, hxl, cs, hl with
  | [y0, y1, y2, y3], _, [v0, v1, v2, v3, v4, v5, v6, v7, v8], _ =>
    have g0 := hf 0 _ rfl
    have g1 := hf 1 _ rfl
    have g2 := hf 2 _ rfl
    have g3 := hf 3 _ rfl
    simp [cells25, cells22, cells26] at g0 g1 g2 g3
    obtain ⟨a, ha, _, wa⟩ := DataW.trod_int Try.underlying25 g0
    obtain ⟨b, hb, _, wb⟩ := DataW.trod_int Try.underlying25 g1
    obtain ⟨c, hc, _, wc⟩ := DataW.trod_int Try.underlying22 g2
    obtain ⟨zs, m, _, _, _, hlen, hi⟩ := DataW.trod_array Try.underlying26 g3
    have i0 := hi 0 (by omega)
    have i1 := hi 1 (by omega)
    have i2 := hi 2 (by omega)
    have i3 := hi 3 (by omega)
    have i4 := hi 4 (by omega)
    have i5 := hi 5 (by omega)
    rw [cells22] at i0 i1 i2 i3 i4 i5
    match zs, hlen with
    | [z0, z1, z2, z3, z4, z5], _ =>
      obtain ⟨x0, e0, _, w0⟩ := DataW.trod_int Try.underlying22 (by simpa using i0)
      obtain ⟨x1, e1, _, w1⟩ := DataW.trod_int Try.underlying22 (by simpa using i1)
      obtain ⟨x2, e2, _, w2⟩ := DataW.trod_int Try.underlying22 (by simpa using i2)
      obtain ⟨x3, e3, _, w3⟩ := DataW.trod_int Try.underlying22 (by simpa using i3)
      obtain ⟨x4, e4, _, w4⟩ := DataW.trod_int Try.underlying22 (by simpa using i4)
      obtain ⟨x5, e5, _, w5⟩ := DataW.trod_int Try.underlying22 (by simpa using i5)
      simp at ha hb hc e0 e1 e2 e3 e4 e5
      subst ha hb hc e0 e1 e2 e3 e4 e5
      refine ⟨⟨a, b, c, [x0, x1, x2, x3, x4, x5]⟩, ⟨bounds_u32 wa, bounds_u32 wb, bounds_u64 wc, rfl, ?_⟩, rfl⟩
      intro z hz
      simp only [List.mem_cons, List.not_mem_nil, or_false] at hz
      rcases hz with rfl | rfl | rfl | rfl | rfl | rfl
      · exact bounds_u64 w0
      · exact bounds_u64 w1
      · exact bounds_u64 w2
      · exact bounds_u64 w3
      · exact bounds_u64 w4
      · exact bounds_u64 w5

theorem open_da {H : Type} {enc : TypeId × Value → H} {w : World} {base b0 : Nat} {spare : Nat → Bool} {held : Bool} {r : Reach} {v : Value} {d : DataW H} {p : List MemPlace}
    (hv : Value.okWide Try.prog w r b0 28 v) (h : DataW.Trod enc Try.prog w base spare held 28 v d p) : ∃ y : Da, v = y.val ∧ y.ok := by
  unfold Value.okWide at hv
  rw [Try.underlying28] at hv
  obtain ⟨cs, rfl, hsz, _⟩ := hv
  obtain ⟨fuel, hf⟩ := h
  rw [cells28] at hsz
  obtain ⟨y, hy, e⟩ := open_dcells (cs := cs.toList) (by simpa using hsz) hf
  refine ⟨y, ?_, hy⟩
  unfold Da.val
  rw [← e]


/-- a condition that came in. -/
structure Co where
  a : Int
  o : Int
  m : Int
  v : Int

theorem open_ccells {H : Type} {enc : TypeId × Value → H} {w : World} {base : Nat} {spare : Nat → Bool} {held : Bool} {n : Nat} {cs : List Value} {x : DataW H × List MemPlace} (hl : cs.length = 4) (h : DataW.trod enc Try.prog w base spare held n 24 cs = some x) :
    ∃ y : Co, (U64 y.m ∧ U64 y.v) ∧ cs = [.int .i64 y.a, .int .i64 y.o, .int .u64 y.m, .int .u64 y.v] := by
  obtain ⟨xs, k, _, _, _, hxl, hf⟩ := DataW.trod_struct Try.underlying24 h
  match xs, hxl, cs, hl with
  | [y0, y1, y2, y3], _, [v0, v1, v2, v3], _ =>
    have g0 := hf 0 _ rfl
    have g1 := hf 1 _ rfl
    have g2 := hf 2 _ rfl
    have g3 := hf 3 _ rfl
    simp [cells3, cells22] at g0 g1 g2 g3
    obtain ⟨a, ha, _, wa⟩ := DataW.trod_int Try.underlying3 g0
    obtain ⟨b, hb, _, wb⟩ := DataW.trod_int Try.underlying3 g1
    obtain ⟨c, hc, _, wc⟩ := DataW.trod_int Try.underlying22 g2
    obtain ⟨e, he, _, we⟩ := DataW.trod_int Try.underlying22 g3
    simp at ha hb hc he
    subst ha hb hc he
    exact ⟨⟨a, b, c, e⟩, ⟨bounds_u64 wc, bounds_u64 we⟩, rfl⟩

theorem open_co {H : Type} {enc : TypeId × Value → H} {w : World} {base b0 : Nat} {spare : Nat → Bool} {held : Bool} {r : Reach} {v : Value} {d : DataW H} {p : List MemPlace}
    (hv : Value.okWide Try.prog w r b0 24 v) (h : DataW.Trod enc Try.prog w base spare held 24 v d p) : ∃ y : Co, v = .agg #[.int .i64 y.a, .int .i64 y.o, .int .u64 y.m, .int .u64 y.v] ∧ (U64 y.m ∧ U64 y.v) := by
  unfold Value.okWide at hv
  rw [Try.underlying24] at hv
  obtain ⟨cs, rfl, hsz, _⟩ := hv
  obtain ⟨fuel, hf⟩ := h
  rw [cells24] at hsz
  obtain ⟨y, hy, e⟩ := open_ccells (cs := cs.toList) (by simpa using hsz) hf
  refine ⟨y, ?_, hy⟩
  congr 1
  cases cs
  simp at e
  simp [e]

theorem open_ncells {H : Type} {enc : TypeId × Value → H} {w : World} {base : Nat} {spare : Nat → Bool} {held : Bool} {n : Nat} {cs : List Value} {x : DataW H × List MemPlace} (hl : cs.length = 6) (h : DataW.trod enc Try.prog w base spare held n 36 cs = some x) :
    ∃ y : No, cs = y.cells := by
  obtain ⟨xs, k, _, _, _, hxl, hf⟩ := DataW.trod_struct Try.underlying36 h
  match xs, hxl, cs, hl with
  | [y0, y1, y2, y3, y4, y5], _, [v0, v1, v2, v3, v4, v5], _ =>
    have g0 := hf 0 _ rfl
    have g1 := hf 1 _ rfl
    have g2 := hf 2 _ rfl
    have g3 := hf 3 _ rfl
    have g4 := hf 4 _ rfl
    have g5 := hf 5 _ rfl
    simp [cells3, cells4, cells22] at g0 g1 g2 g3 g4 g5
    obtain ⟨a, ha, _⟩ := DataW.trod_bool Try.underlying4 g0
    obtain ⟨b, hb, _⟩ := DataW.trod_bool Try.underlying4 g1
    obtain ⟨c, hc, _⟩ := DataW.trod_bool Try.underlying4 g2
    obtain ⟨e, he, _, _⟩ := DataW.trod_int Try.underlying3 g3
    obtain ⟨f, hff, _, _⟩ := DataW.trod_int Try.underlying22 g4
    obtain ⟨g, hg, _, _⟩ := DataW.trod_int Try.underlying22 g5
    simp at ha hb hc he hff hg
    subst ha hb hc he hff hg
    exact ⟨⟨a, b, c, e, f, g⟩, rfl⟩

theorem open_no {H : Type} {enc : TypeId × Value → H} {w : World} {base b0 : Nat} {spare : Nat → Bool} {held : Bool} {r : Reach} {v : Value} {d : DataW H} {p : List MemPlace}
    (hv : Value.okWide Try.prog w r b0 36 v) (h : DataW.Trod enc Try.prog w base spare held 36 v d p) : ∃ y : No, v = y.val ∧ True := by
  unfold Value.okWide at hv
  rw [Try.underlying36] at hv
  obtain ⟨cs, rfl, hsz, _⟩ := hv
  obtain ⟨fuel, hf⟩ := h
  rw [cells36] at hsz
  obtain ⟨y, e⟩ := open_ncells (cs := cs.toList) (by simpa using hsz) hf
  refine ⟨y, ?_, trivial⟩
  unfold No.val
  rw [← e]

theorem arr2 {α : Type} {cs : Array α} (h : cs.size = 2) : ∃ c0 c1, cs = #[c0, c1] := by
  obtain ⟨l⟩ := cs
  match l, h with
  | [c0, c1], _ => exact ⟨c0, c1, rfl⟩

theorem open_two {H : Type} {enc : TypeId × Value → H} {P : Program} {w : World} {base b0 : Nat} {spare : Nat → Bool} {held : Bool} {r : Reach} {t e : TypeId} {k : IntKind} {v : Value} {d : DataW H} {p : List MemPlace}
    (ht : P.underlying t = some (.array 2 e)) (he : P.underlying e = some (.int k)) (hce : P.cellsOf e = 1) (hC : P.cellsOf t = 2)
    (hv : Value.okWide P w r b0 t v) (h : DataW.Trod enc P w base spare held t v d p) :
    ∃ x0 x1, v = .agg #[.int k x0, .int k x1] ∧ (Lit.int k x0).wf = true ∧ (Lit.int k x1).wf = true := by
  unfold Value.okWide at hv
  rw [ht] at hv
  obtain ⟨cs, rfl, hsz, _⟩ := hv
  obtain ⟨c0, c1, rfl⟩ := arr2 (hsz.trans hC)
  obtain ⟨fuel, hf⟩ := h
  obtain ⟨xs, m, _, hx, _, hlen, hi⟩ := DataW.trod_array ht hf
  have h0 := hi 0 (by omega)
  have h1 := hi 1 (by omega)
  rw [hce] at h0 h1
  simp only [Value.cells, Nat.zero_mul, List.drop_zero, Nat.one_mul] at h0 h1
  match xs, hlen with
  | [y0, y1], _ =>
    obtain ⟨a, e0, _, wa⟩ := DataW.trod_int he (by simpa using h0)
    obtain ⟨b, e1, _, wb⟩ := DataW.trod_int he (by simpa using h1)
    simp at e0 e1
    subst e0 e1
    exact ⟨a, b, rfl, wa, wb⟩


theorem open_pair {H : Type} {enc : TypeId × Value → H} {w : World} {base b0 : Nat} {spare : Nat → Bool} {held : Bool} {r : Reach} {v : Value} {d : DataW H} {p : List MemPlace}
    (hv : Value.okWide Try.prog w r b0 40 v) (h : DataW.Trod enc Try.prog w base spare held 40 v d p) : ∃ y : Int × Int, v = .agg #[.int .u64 y.1, .int .u64 y.2] ∧ (U64 y.1 ∧ U64 y.2) := by
  obtain ⟨x0, x1, e, h0, h1⟩ := open_two Try.underlying40 Try.underlying22 cells22 cells40 hv h
  exact ⟨(x0, x1), e, bounds_u64 h0, bounds_u64 h1⟩

end Go.Proofs.Ytocebgkiaclekaa
