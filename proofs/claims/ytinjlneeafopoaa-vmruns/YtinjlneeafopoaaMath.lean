/-
  Instructions, as plain numbers.
-/
import Derived.Test.YtinjlneeafopoaaRows
namespace Go.Proofs.Ytinjlneeafopoaa

/-- an instruction. -/
structure In where
  c : Int
  t : Int
  f : Int
  k : Int

/-- what an instruction's fields may be. -/
def In.ok (x : In) : Prop := (0 ≤ x.c ∧ x.c ≤ 65535) ∧ (0 ≤ x.t ∧ x.t ≤ 255) ∧ (0 ≤ x.f ∧ x.f ≤ 255) ∧ (0 ≤ x.k ∧ x.k ≤ 4294967295)

/-- no instruction. -/
def In.zero : In := ⟨0, 0, 0, 0⟩

theorem In.ext' {x y : In} (h1 : x.c = y.c) (h2 : x.t = y.t) (h3 : x.f = y.f) (h4 : x.k = y.k) : x = y := by
  cases x; cases y; simp_all

theorem zero_ok : In.zero.ok := by unfold In.ok In.zero; decide

theorem takeIn_snoc (l : List In) (k : Nat) (hk : k < l.length) : l.take (k + 1) = l.take k ++ [l[k]] := by
  rw [List.take_add_one, List.getElem?_eq_getElem hk]
  rfl

end Go.Proofs.Ytinjlneeafopoaa
