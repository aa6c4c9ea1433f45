/-
  A program with another instruction at a place that a run does not go through; and what such an instruction, with its place, is by value.
-/
import Derived.Test.YtinjlneeafopoaaGoesMath
import Derived.Test.YtinjlneeafopoaaOpen
import Derived.OpenShut
import Derived.ProofKit
import Derived.Deep.Slices
import Derived.Deep.Fields
namespace Go.Proofs.Ytinjlneeafopoaa
open Go.RowKit

theorem cellsI_set (l : List In) (i : Nat) (x : In) (hi : i < l.length) : ((((cellsI l).set (i * 4) (.int .u16 x.c)).set (i * 4 + 1) (.int .u8 x.t)).set (i * 4 + 2) (.int .u8 x.f)).set (i * 4 + 3) (.int .u32 x.k) = cellsI (l.set i x) := by
  induction l generalizing i with
  | nil => cases hi
  | cons y r ih =>
    cases i with
    | zero => rfl
    | succ i =>
      have e : ∀ j, (i + 1) * 4 + j = (i * 4 + j) + 1 + 1 + 1 + 1 := fun j => by omega
      show ((((y.cells ++ cellsI r).set ((i + 1) * 4) _).set ((i + 1) * 4 + 1) _).set ((i + 1) * 4 + 2) _).set ((i + 1) * 4 + 3) _ = y.cells ++ cellsI (r.set i x)
      rw [← ih i (by rw [List.length_cons] at hi; omega), show (i + 1) * 4 = i * 4 + 1 + 1 + 1 + 1 from by omega]
      rfl

theorem owns_set {w : World} {base g n cap : Nat} {l : List In} (h : w.ownsRow base 42 4 (.slice (some ⟨g, 0, none⟩) n cap) n (cellsI l)) (i : Nat) (x : In) (hi : i < l.length) :
    ((((w.setCell ⟨g, i * 4, none⟩ (.int .u16 x.c)).setCell ⟨g, i * 4 + 1, none⟩ (.int .u8 x.t)).setCell ⟨g, i * 4 + 2, none⟩ (.int .u8 x.f)).setCell ⟨g, i * 4 + 3, none⟩ (.int .u32 x.k)).ownsRow base 42 4 (.slice (some ⟨g, 0, none⟩) n cap) n (cellsI (l.set i x)) := by
  have h1 := (h.stored (i * 4) (.int .u16 x.c)).1
  have h2 := (h1.stored (i * 4 + 1) (.int .u8 x.t)).1
  have h3 := (h2.stored (i * 4 + 2) (.int .u8 x.f)).1
  have h4 := (h3.stored (i * 4 + 3) (.int .u32 x.k)).1
  rw [cellsI_set l i x hi] at h4
  exact h4

theorem owns_some {w : World} {base : Nat} {v : Value} {n : Nat} {l : List In} (h : w.ownsRow base 42 4 v n (cellsI l)) (hn : 0 < n) : ∃ g cap, v = .slice (some ⟨g, 0, none⟩) n cap ∧ base ≤ g ∧ w.ownsRow base 42 4 (.slice (some ⟨g, 0, none⟩) n cap) n (cellsI l) := by
  have h' := h
  rcases h.2 with ⟨rfl, rfl⟩ | ⟨g, cap, cur, rfl, hb, _⟩
  · omega
  · exact ⟨g, cap, rfl, hb, h'⟩

theorem owns_frozen {w : World} {base g n cap : Nat} {xs : List Value} (h : w.ownsRow base 42 4 (.slice (some ⟨g, 0, none⟩) n cap) n xs) (i : Nat) :
    w.frozen? ⟨g, i * 4, none⟩ = false ∧ w.frozen? ⟨g, i * 4 + 1, none⟩ = false ∧ w.frozen? ⟨g, i * 4 + 2, none⟩ = false ∧ w.frozen? ⟨g, i * 4 + 3, none⟩ = false :=
  ⟨h.frozenAt _, h.frozenAt _, h.frozenAt _, h.frozenAt _⟩

theorem owns_cells {w : World} {base g n cap : Nat} {l : List In} (h : w.ownsRow base 42 4 (.slice (some ⟨g, 0, none⟩) n cap) n (cellsI l)) (i : Nat) (hi : i < l.length) :
    w.cell? ⟨g, i * 4, none⟩ = some (.int .u16 l[i].c) ∧ w.cell? ⟨g, i * 4 + 1, none⟩ = some (.int .u8 l[i].t) ∧ w.cell? ⟨g, i * 4 + 2, none⟩ = some (.int .u8 l[i].f) ∧ w.cell? ⟨g, i * 4 + 3, none⟩ = some (.int .u32 l[i].k) := by
  have key : ∀ c u, c < 4 → l[i].cells[c]? = some u → w.cell? ⟨g, i * 4 + c, none⟩ = some u := by
    intro c u hc hu
    have := h.cells (g := g) rfl (i * 4 + c) u (by rw [cellsI_get l i l[i] c (List.getElem?_eq_getElem hi) hc]; exact hu)
    rw [Addr.add_lit, Nat.zero_add] at this
    exact this
  exact ⟨key 0 _ (by decide) rfl, key 1 _ (by decide) rfl, key 2 _ (by decide) rfl, key 3 _ (by decide) rfl⟩


/-- what a run answers does not hang on a place that it does not go through. -/
theorem else_same (ins : List In) (d : Da) (j : Nat) (y : In) (h1 : errV ins = 0) (h2 : errV (ins.set j y) = 0) (hj : ∀ z ∈ plV ins d, z ≠ (j : Int)) : ansV (ins.set j y) d = ansV ins d ∧ plV (ins.set j y) d = plV ins d := by
  have hn : j ∉ (allV ins d).1 := by
    intro h
    refine hj (j : Int) ?_ rfl
    unfold plV
    rw [if_pos h1]
    exact List.mem_map.2 ⟨j, h, rfl⟩
  have e : allV (ins.set j y) d = allV ins d := by
    unfold allV at *
    rw [List.length_set]
    exact runV_set ins d j y _ 0 St.zero hn
  unfold ansV plV
  rw [if_pos h1, if_pos h2, if_pos h1, if_pos h2, e]
  exact ⟨rfl, rfl⟩

end Go.Proofs.Ytinjlneeafopoaa

namespace Go.Proofs.Ytinjlneeafopoaa
open Go.ChangeShapes Go.WideShapes Go.ChangeAt Go.RowKit Go.Deep

theorem cells3 : Try.prog.cellsOf 3 = 1 := by kernel_rfl
theorem cells44 : Try.prog.cellsOf 44 = 5 := by kernel_rfl

/-- an instruction and its place, as cells. -/
def otCells (n : Int) (x : In) : List Value := [.int .i64 n, .int .u16 x.c, .int .u8 x.t, .int .u8 x.f, .int .u32 x.k]

theorem open_cells_ot {H : Type} {enc : TypeId × Value → H} {w : World} {base : Nat} {spare : Nat → Bool} {held : Bool} {n : Nat} {cs : List Value} {x : DataW H × List MemPlace} (hl : cs.length = 5) (h : DataW.trod enc Try.prog w base spare held n 44 cs = some x) :
    ∃ (i : Int) (y : In), y.ok ∧ cs = otCells i y := by
  obtain ⟨xs, k, _, _, _, hxl, hf⟩ := DataW.trod_struct Try.underlying44 h
  match xs, hxl, cs, hl with
  | [y0, y1], _, [v0, v1, v2, v3, v4], _ =>
    have g0 := hf 0 _ rfl
    have g1 := hf 1 _ rfl
    simp [cells3, cells42] at g0 g1
    obtain ⟨a, ha, _, _⟩ := DataW.trod_int Try.underlying3 g0
    obtain ⟨y, hy, e⟩ := open_cells (by rfl) g1
    simp at ha
    subst ha
    refine ⟨a, y, hy, ?_⟩
    unfold otCells
    rw [← e]

theorem open_ot {H : Type} {enc : TypeId × Value → H} {w : World} {base b0 : Nat} {spare : Nat → Bool} {held : Bool} {r : Reach} {v : Value} {d : DataW H} {p : List MemPlace}
    (hv : Value.okWide Try.prog w r b0 44 v) (h : DataW.Trod enc Try.prog w base spare held 44 v d p) : ∃ z : Int × In, v = .agg (otCells z.1 z.2).toArray ∧ z.2.ok := by
  unfold Value.okWide at hv
  rw [Try.underlying44] at hv
  obtain ⟨cs, rfl, hsz, _⟩ := hv
  obtain ⟨fuel, hf⟩ := h
  rw [cells44] at hsz
  obtain ⟨i, y, hy, e⟩ := open_cells_ot (cs := cs.toList) (by simpa using hsz) hf
  refine ⟨(i, y), ?_, hy⟩
  rw [← e]

end Go.Proofs.Ytinjlneeafopoaa
