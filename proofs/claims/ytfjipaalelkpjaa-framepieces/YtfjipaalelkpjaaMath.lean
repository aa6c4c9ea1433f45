/-
  The plain numbers of the check sum: what one byte does to the two halves, and what all bytes do.
-/
import Derived.WalkKit
namespace Go.Proofs.Ytfjipaalelkpjaa

/-- the low half of a sum, taken down. -/
def lowOf (s : Int) : Int := s % 65536 % 65521
/-- the high half of a sum, taken down. -/
def highOf (s : Int) : Int := s / 65536 % 65521
/-- one byte more. -/
def stepS (p : Int × Int) (b : Int) : Int × Int := ((p.1 + b) % 65521, (p.2 + (p.1 + b) % 65521) % 65521)
/-- all bytes of a list, from two halves on. -/
def runS (p : Int × Int) (l : List Int) : Int × Int := l.foldl stepS p
/-- the two halves put together. -/
def joinS (p : Int × Int) : Int := p.2 * 65536 + p.1
/-- the sum of bytes that stand behind others. -/
def goS (s : Int) (l : List Int) : Int := joinS (runS (lowOf s, highOf s) l)

/-- what two halves may be. -/
def okS (p : Int × Int) : Prop := 0 ≤ p.1 ∧ p.1 ≤ 65520 ∧ 0 ≤ p.2 ∧ p.2 ≤ 65520

theorem okS_start (s : Int) : okS (lowOf s, highOf s) := by
  unfold okS lowOf highOf; simp only; omega

theorem okS_step (p : Int × Int) (b : Int) : okS (stepS p b) := by
  unfold okS stepS; simp only; omega

theorem runS_snoc (p : Int × Int) (l : List Int) (b : Int) : runS p (l ++ [b]) = stepS (runS p l) b := by
  simp [runS, List.foldl_append]

theorem runS_app (p : Int × Int) (l m : List Int) : runS p (l ++ m) = runS (runS p l) m := by
  simp [runS, List.foldl_append]

theorem okS_run (p : Int × Int) (l : List Int) (h : okS p) : okS (runS p l) := by
  induction l generalizing p with
  | nil => exact h
  | cons b l ih => exact ih _ (okS_step p b)

theorem lowOf_join (p : Int × Int) (h : okS p) : lowOf (joinS p) = p.1 := by
  unfold okS at h; unfold lowOf joinS; omega
theorem highOf_join (p : Int × Int) (h : okS p) : highOf (joinS p) = p.2 := by
  unfold okS at h; unfold highOf joinS; omega

theorem take_snoc (l : List Int) (k : Nat) (h : k < l.length) : l.take (k + 1) = l.take k ++ [l.getD k 0] := by
  rw [List.take_succ_eq_append_getElem h]
  simp [List.getD_eq_getElem?_getD, List.getElem?_eq_getElem h]

end Go.Proofs.Ytfjipaalelkpjaa
