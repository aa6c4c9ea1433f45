/-
  Two sums that start apart stay apart as far; so a window rolls on, and one byte that is another one is told.
-/
import Derived.Test.YtfjehpfpgefmfaaRoll
namespace Go.Proofs.Ytfjehpfpgefmfaa

theorem shift (l : List Int) : ∀ (x y x' y' d e i j : Int), x' = x + d + 65521 * i → y' = y + e + 65521 * j →
    ∃ i' j', (runS (x', y') l).1 = (runS (x, y) l).1 + d + 65521 * i' ∧ (runS (x', y') l).2 = (runS (x, y) l).2 + e + (l.length : Int) * d + 65521 * j' := by
  induction l with
  | nil => intro x y x' y' d e i j hx hy; exact ⟨i, j, hx, by simp [runS]; omega⟩
  | cons b l ih =>
    intro x y x' y' d e i j hx hy
    have h1 : (x' + b) % 65521 = (x + b) % 65521 + d + 65521 * (i + (x + b) / 65521 - (x' + b) / 65521) := by omega
    have h2 : (y' + (x' + b) % 65521) % 65521 = (y + (x + b) % 65521) % 65521 + (e + d) + 65521 * (j + (i + (x + b) / 65521 - (x' + b) / 65521) + (y + (x + b) % 65521) / 65521 - (y' + (x' + b) % 65521) / 65521) := by omega
    obtain ⟨i', j', e1, e2⟩ := ih _ _ _ _ d (e + d) _ _ h1 h2
    refine ⟨i', j', e1, ?_⟩
    show (runS ((x' + b) % 65521, (y' + (x' + b) % 65521) % 65521) l).2 = (runS ((x + b) % 65521, (y + (x + b) % 65521) % 65521) l).2 + e + ((l.length + 1 : Nat) : Int) * d + 65521 * j'
    rw [e2, show ((l.length + 1 : Nat) : Int) = (l.length : Int) + 1 from rfl, Int.add_mul, Int.one_mul]
    generalize (l.length : Int) * d = t
    omega

theorem start_one : (lowOf 1, highOf 1) = ((1 : Int), (0 : Int)) := by decide

/-- a window's sum, rolled on. -/
theorem roll_right (h c : Int) (t : List Int) (m : Nat) (ht : t.length = m) (hm : m < 20000) :
    rollS (goS 1 (h :: t)) ((m + 1 : Nat) : Int) h c = goS 1 (t ++ [c]) := by
  have ok := okS_run _ (h :: t) (okS_start 1)
  have hl : lowOf (goS 1 (h :: t)) = (runS (lowOf 1, highOf 1) (h :: t)).1 := lowOf_join _ ok
  have hh : highOf (goS 1 (h :: t)) = (runS (lowOf 1, highOf 1) (h :: t)).2 := highOf_join _ ok
  have hw : winS ((m + 1 : Nat) : Int) = (m : Int) + 1 := by unfold winS; rw [if_pos (by omega)]; rfl
  unfold rollS
  rw [hl, hh, hw]
  unfold goS
  rw [runS_snoc, start_one]
  obtain ⟨i, j, e1, e2⟩ := shift t 1 0 ((1 + h) % 65521) ((0 + (1 + h) % 65521) % 65521) h (1 + h) (-((1 + h) / 65521)) (-((1 + h) / 65521)) (by omega) (by omega)
  rw [show runS ((1 : Int), (0 : Int)) (h :: t) = runS ((1 + h) % 65521, (0 + (1 + h) % 65521) % 65521) t from rfl]
  generalize runS ((1 + h) % 65521, (0 + (1 + h) % 65521) % 65521) t = p at *
  generalize runS ((1 : Int), (0 : Int)) t = q at *
  obtain ⟨p1, p2⟩ := p
  obtain ⟨q1, q2⟩ := q
  simp only [ht] at e1 e2
  unfold stepS joinS
  simp only
  have hmul : ((m : Int) + 1) * h = (m : Int) * h + h := by rw [Int.add_mul, Int.one_mul]
  rw [hmul]
  generalize (m : Int) * h = u at *
  have g1 : (p1 + c - h) % 65521 = (q1 + c) % 65521 := by omega
  have g2 : (p2 + (p1 + c - h) % 65521 - 1 - (u + h)) % 65521 = (q2 + (q1 + c) % 65521) % 65521 := by rw [g1]; omega
  rw [g1] at g2 ⊢
  rw [g2]

/-- one byte that is another one is told. -/
theorem one_told (a b : List Int) (x y : Int) (x0 : 0 ≤ x) (x1 : x ≤ 255) (y0 : 0 ≤ y) (y1 : y ≤ 255) (hne : x ≠ y) :
    goS 1 (a ++ [x] ++ b) ≠ goS 1 (a ++ [y] ++ b) := by
  intro he
  have okx := okS_run _ (a ++ [x] ++ b) (okS_start 1)
  have oky := okS_run _ (a ++ [y] ++ b) (okS_start 1)
  have hl : (runS (lowOf 1, highOf 1) (a ++ [x] ++ b)).1 = (runS (lowOf 1, highOf 1) (a ++ [y] ++ b)).1 := by
    rw [← lowOf_join _ okx, ← lowOf_join _ oky]
    exact congrArg lowOf he
  rw [runS_app, runS_snoc, runS_app _ (a ++ [y]), runS_snoc] at hl
  generalize runS (lowOf 1, highOf 1) a = p at *
  obtain ⟨p, q⟩ := p
  obtain ⟨i, j, e1, _⟩ := shift b ((p + y) % 65521) ((q + (p + y) % 65521) % 65521) ((p + x) % 65521) ((q + (p + x) % 65521) % 65521) (x - y) (((q + (p + x) % 65521) % 65521) - ((q + (p + y) % 65521) % 65521)) ((p + y) / 65521 - (p + x) / 65521) 0 (by omega) (by omega)
  unfold stepS at hl
  simp only at hl
  omega

end Go.Proofs.Ytfjehpfpgefmfaa
