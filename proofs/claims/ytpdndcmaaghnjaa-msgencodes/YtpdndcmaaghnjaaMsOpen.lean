/-
  A message that comes in by value.
-/
import Derived.Test.YtpdndcmaaghnjaaMsBase
import Derived.Test.YtpdndcmaaghnjaaDOpen
import Derived.ChangeArms
namespace Go.Proofs.Ytpdndcmaaghnjaa
open Go.ChangeShapes Go.WideShapes Go.ChangeAt Go.RowKit Go.Deep

abbrev IsRow (k : IntKind) (w : World) (a : Option Addr) (len cap : Nat) (zs : List Int) : Prop := D.IsRow k w a len cap zs
theorem cells28 : Try.prog.cellsOf 28 = 15 := by kernel_rfl
theorem cells3 : Try.prog.cellsOf 3 = 1 := by kernel_rfl
theorem cells9 : Try.prog.cellsOf 9 = 1 := by kernel_rfl

/-- a text's bytes. -/
theorem bytes_bd (s : ByteArray) : D.Byt (D.bytesOf s) := by
  intro z hz
  obtain ⟨b, _, rfl⟩ := List.mem_map.1 hz
  have := b.toNat_lt
  omega
theorem str_back (s : ByteArray) : strOfNums (D.bytesOf s) = s := by
  have e : (strOfNums (D.bytesOf s)).data = s.data := by
    apply Array.toList_inj.1
    rw [strOfNums_data]
    unfold D.bytesOf
    rw [List.map_map]
    conv => rhs; rw [← List.map_id s.data.toList]
    apply List.map_congr_left
    intro b _
    simp
  cases hs : strOfNums (D.bytesOf s)
  rw [hs] at e
  cases s
  cases e
  rfl

set_option maxRecDepth 20000 in
theorem open_cells_mg {H : Type} {enc : TypeId × Value → H} {w : World} {base : Nat} {spare : Nat → Bool} {held : Bool} {n : Nat} {cs : List Value} {x : DataW H × List MemPlace} (hl : cs.length = 15) (h : DataW.trod enc Try.prog w base spare held n 28 cs = some x) :
    ∃ y : Mg, y.ok ∧ cs = y.cells := by
  obtain ⟨xs, k, _, _, _, hxl, hf⟩ := DataW.trod_struct Try.underlying28 h
  match xs, hxl, cs, hl with
  | [y0, y1, y2, y3, y4, y5, y6], _, [v0, v1, v2, v3, v4, v5, v6, v7, v8, v9, v10, v11, v12, v13, v14], _ =>
    have g0 := hf 0 _ rfl
    have g1 := hf 1 _ rfl
    have g2 := hf 2 _ rfl
    have g3 := hf 3 _ rfl
    have g4 := hf 4 _ rfl
    have g5 := hf 5 _ rfl
    have g6 := hf 6 _ rfl
    simp [cells3, cells9, D.cells23, D.cells26] at g0 g1 g2 g3 g4 g5 g6
    obtain ⟨a, ha, _, wa⟩ := DataW.trod_int Try.underlying3 g0
    obtain ⟨b, hb, _, wb⟩ := DataW.trod_int Try.underlying22 g1
    obtain ⟨c, hc, _, wc⟩ := DataW.trod_int Try.underlying22 g2
    obtain ⟨d, hd, _, wd⟩ := DataW.trod_int Try.underlying3 g3
    obtain ⟨e, he, _, we⟩ := DataW.trod_int Try.underlying3 g4
    obtain ⟨dd, hdd, hD⟩ := D.open_cells (by rfl) g5
    obtain ⟨s, hs, _, _⟩ := DataW.trod_string Try.underlying9 g6
    simp at ha hb hc hd he hs
    subst ha hb hc hd he hs
    refine ⟨⟨a, b, c, d, e, dd, D.bytesOf s⟩, ⟨bounds_u64 wb, bounds_u64 wc, hdd, bytes_bd s⟩, ?_⟩
    unfold Mg.cells
    dsimp only
    rw [← hD, str_back]
    rfl

theorem open_mg {H : Type} {enc : TypeId × Value → H} {w : World} {base b0 : Nat} {spare : Nat → Bool} {held : Bool} {r : Reach} {v : Value} {d : DataW H} {p : List MemPlace}
    (hv : Value.okWide Try.prog w r b0 28 v) (h : DataW.Trod enc Try.prog w base spare held 28 v d p) : ∃ y : Mg, v = y.vl ∧ y.ok := by
  unfold Value.okWide at hv
  rw [Try.underlying28] at hv
  obtain ⟨cs, rfl, hsz, _⟩ := hv
  obtain ⟨fuel, hf⟩ := h
  rw [cells28] at hsz
  obtain ⟨y, hy, e⟩ := open_cells_mg (cs := cs.toList) (by simpa using hsz) hf
  refine ⟨y, ?_, hy⟩
  unfold Mg.vl
  rw [← e]

end Go.Proofs.Ytpdndcmaaghnjaa
