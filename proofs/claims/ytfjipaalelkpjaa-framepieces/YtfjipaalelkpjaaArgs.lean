/-
  What a slice of bytes that comes in leads to, and that it stays so where nothing old is turned.
-/
import Derived.Test.YtfjipaalelkpjaaGo
import Derived.OpenShut
namespace Go.Proofs.Ytfjipaalelkpjaa
open Go.RowKit

/-- what the walk is told of a slice of integers that came in: it is nil, or leads to a row of cells. -/
def IsRow (k : IntKind) (w : World) (a : Option Addr) (len cap : Nat) (zs : List Int) : Prop :=
  (a = none ∧ len = 0 ∧ cap = 0 ∧ zs = []) ∨
  ∃ x, a = some x ∧ len ≤ cap ∧ cap ≤ maxLen ∧ zs.length = cap ∧ (∀ i, i < zs.length → w.cell? (x.add i) = some (.int k (zs.getD i 0))) ∧ ∀ n ∈ zs, (Lit.int k n).wf = true

theorem IsRow.bs {w : World} {a : Option Addr} {len cap : Nat} {zs : List Int} (h : IsRow .u8 w a len cap zs) : Bs w a len (zs.take len) := by
  rcases h with ⟨rfl, rfl, rfl, rfl⟩ | ⟨x, rfl, hl, hm, hz, hcell, hwz⟩
  · exact ⟨rfl, by simp, fun h => absurd h (by omega)⟩
  · refine ⟨by rw [List.length_take]; omega, fun n hn => bounds_u8 (hwz n (List.mem_of_mem_take hn)), fun h0 => ?_⟩
    obtain ⟨b, off, spot⟩ := x
    have hc := hcell 0 (by omega)
    have hspot : spot = none := by simpa [Addr.add] using World.cell?_spot hc
    subst hspot
    refine ⟨b, off, rfl, fun i hi => ?_⟩
    have := hcell i (by omega)
    rw [show (⟨b, off + i, none⟩ : Addr) = (⟨b, off, none⟩ : Addr).add i from by unfold Addr.add; split <;> simp_all, this]
    simp [hi]

theorem Bs.below {w w' : World} {a : Option Addr} {len : Nat} {l : List Int} (h : Bs w a len l) (hb : Below w.heap.size w w') : Bs w' a len l := by
  refine ⟨h.1, h.2.1, fun h0 => ?_⟩
  obtain ⟨b, off, ha, hc⟩ := h.2.2 h0
  refine ⟨b, off, ha, fun i hi => ?_⟩
  rw [hb.cell (p := ⟨b, off + i, none⟩) (World.block_lt_of_cell? w _ (hc i hi))]
  exact hc i hi

end Go.Proofs.Ytfjipaalelkpjaa
