/-
  What the document's own answer tells of any name and number.
-/
import Derived.Test.YtcckipimfgmmdaaGreatDoorMNrs
namespace Go.Proofs.YtcckipimfgmmdaaGreatDoor.M
open Go.RowKit

/-- the numbers that a slice leads to. -/
def NumR (w : World) (v : Value) (l : List Nat) : Prop :=
  ∃ a cap, v = .slice a l.length cap ∧ l.length ≤ cap ∧ cap ≤ 9223372036854775807 ∧ (0 < l.length → ∃ b o, a = some ⟨b, o, none⟩ ∧ ∀ (i : Nat) (x : Nat), l[i]? = some x → w.cell? ⟨b, o + i, none⟩ = some (.int .u32 x))
theorem NumR.below {w w' : World} {v : Value} {l : List Nat} (h : NumR w v l) (hb : Below w.heap.size w w') : NumR w' v l := by
  obtain ⟨a, cap, rfl, h1, h2, hc⟩ := h
  refine ⟨a, cap, rfl, h1, h2, fun h0 => ?_⟩
  obtain ⟨b, o, rfl, hx⟩ := hc h0
  exact ⟨b, o, rfl, fun i x hi => cellS (hx i x hi) (hb.block b (World.block_lt_of_cell? w _ (hx i x hi)))⟩
theorem numR_at {w : World} {p : Option Addr} {n c i : Nat} {l : List Nat} (h : NumR w (.slice p n c) l) (hi : i < l.length) : ∃ b o, p = some ⟨b, o, none⟩ ∧ w.cell? ⟨b, o + i, none⟩ = some (.int .u32 (l[i] : Nat)) := by
  obtain ⟨a, cap, e, _, _, hc⟩ := h
  cases e
  obtain ⟨b, o, hb, hx⟩ := hc (by omega)
  exact ⟨b, o, hb, hx i _ (List.getElem?_eq_getElem hi)⟩

def tabN : List ByteArray := tab.map (·.1)
def tabZ : List Nat := tab.map (·.2)
theorem tabN_len : tabN.length = 30 := rfl
theorem tabZ_len : tabZ.length = 30 := rfl

/-- what Names tells, and nrs. -/
def NamesR (w : World) (e : Ending) (w' : World) : Prop := ∃ g, e = .returned (.slice (some ⟨g, 0, none⟩) 30 30) ∧ StrR w' (.slice (some ⟨g, 0, none⟩) 30 30) tabN ∧ Below w.heap.size w w'
def NrsR (w : World) (e : Ending) (w' : World) : Prop := ∃ g, e = .returned (.slice (some ⟨g, 0, none⟩) 30 30) ∧ NumR w' (.slice (some ⟨g, 0, none⟩) 30 30) tabZ ∧ Below w.heap.size w w'

theorem tabN_at {j : Nat} (_h : j < tab.length) (h' : j < tabN.length) : tabN[j] = tab[j].1 := List.getElem_map _
theorem tabZ_at {j : Nat} (_h : j < tab.length) (h' : j < tabZ.length) : tabZ[j] = tab[j].2 := List.getElem_map _

end Go.Proofs.YtcckipimfgmmdaaGreatDoor.M
