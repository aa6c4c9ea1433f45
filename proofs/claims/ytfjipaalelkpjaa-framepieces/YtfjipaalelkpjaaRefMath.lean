/-
  The document's way to the sum, all bytes at once, comes to the same two halves as byte by byte.
-/
import Derived.Test.YtfjipaalelkpjaaMath
namespace Go.Proofs.Ytfjipaalelkpjaa

/-- the sum of the first bytes, taken down. -/
def allR (l : List Int) : Nat → Int
  | 0 => 0
  | k + 1 => (allR l k + l.getD k 0) % 65521
/-- the sum of the first bytes, each times how many stand from it on, taken down. -/
def worthR (n : Int) (l : List Int) : Nat → Int
  | 0 => 0
  | k + 1 => (worthR n l k + (n - (k : Int)) % 65521 * l.getD k 0) % 65521

theorem allR_bd (l : List Int) (k : Nat) : 0 ≤ allR l k ∧ allR l k ≤ 65520 := by
  cases k with
  | zero => simp [allR]
  | succ k => show 0 ≤ (allR l k + l.getD k 0) % 65521 ∧ (allR l k + l.getD k 0) % 65521 ≤ 65520; omega
theorem worthR_bd (n : Int) (l : List Int) (k : Nat) : 0 ≤ worthR n l k ∧ worthR n l k ≤ 65520 := by
  cases k with
  | zero => simp [worthR]
  | succ k =>
    show 0 ≤ (worthR n l k + (n - (k : Int)) % 65521 * l.getD k 0) % 65521 ∧ (worthR n l k + (n - (k : Int)) % 65521 * l.getD k 0) % 65521 ≤ 65520
    generalize (n - (k : Int)) % 65521 * l.getD k 0 = t
    omega

theorem ref_step (m k lw h x y W b q : Int) (inv : y + m * (x - lw) = h + k * lw + W + 65521 * q) :
    ∃ q', (y + (x + b) % 65521) % 65521 + (m - 1) * ((x + b) % 65521 - lw) = h + (k + 1) * lw + (W + m % 65521 * b) % 65521 + 65521 * q' := by
  obtain ⟨q1, e1⟩ : ∃ q1, (x + b) % 65521 = x + b - 65521 * q1 := ⟨(x + b) / 65521, by omega⟩
  rw [e1]
  obtain ⟨q2, e2⟩ : ∃ q2, (y + (x + b - 65521 * q1)) % 65521 = y + (x + b - 65521 * q1) - 65521 * q2 := ⟨(y + (x + b - 65521 * q1)) / 65521, by omega⟩
  rw [e2]
  obtain ⟨q4, e4⟩ : ∃ q4, m % 65521 = m - 65521 * q4 := ⟨m / 65521, by omega⟩
  rw [e4]
  obtain ⟨q3, e3⟩ : ∃ q3, (W + (m - 65521 * q4) * b) % 65521 = W + (m - 65521 * q4) * b - 65521 * q3 := by
    generalize (m - 65521 * q4) * b = t
    exact ⟨(W + t) / 65521, by omega⟩
  rw [e3]
  refine ⟨q - m * q1 + q4 * b + q3 - q2, ?_⟩
  have p1 : m * (65521 * q1) = 65521 * (m * q1) := Int.mul_left_comm _ _ _
  have p2 : 65521 * q4 * b = 65521 * (q4 * b) := Int.mul_assoc _ _ _
  have p3 : m * (x - lw) = m * x - m * lw := Int.mul_sub _ _ _
  have p4 : (m - 1) * (x + b - 65521 * q1 - lw) = m * x + m * b - m * (65521 * q1) - m * lw - (x + b - 65521 * q1 - lw) := by
    rw [Int.sub_mul, Int.mul_sub, Int.mul_sub, Int.mul_add, Int.one_mul]
  have p5 : (k + 1) * lw = k * lw + lw := by rw [Int.add_mul, Int.one_mul]
  have p6 : (m - 65521 * q4) * b = m * b - 65521 * q4 * b := Int.sub_mul _ _ _
  rw [p4, p5, p6, p1, p2]
  rw [p3] at inv
  generalize m * x = t1 at *
  generalize m * lw = t2 at *
  generalize m * b = t3 at *
  generalize m * q1 = t4 at *
  generalize q4 * b = t5 at *
  generalize k * lw = t6 at *
  omega

theorem ref_inv (n lw h : Int) (l : List Int) (k : Nat) (hk : k ≤ l.length) :
    (∃ q, (runS (lw, h) (l.take k)).1 = lw + allR l k + 65521 * q) ∧
    ∃ q, (runS (lw, h) (l.take k)).2 + (n - (k : Int)) * ((runS (lw, h) (l.take k)).1 - lw) = h + (k : Int) * lw + worthR n l k + 65521 * q := by
  induction k with
  | zero => exact ⟨⟨0, by simp [runS, allR]⟩, ⟨0, by simp [runS, worthR]⟩⟩
  | succ k ih =>
    obtain ⟨⟨q, e⟩, q', e'⟩ := ih (by omega)
    rw [take_snoc l k (by omega), runS_snoc]
    generalize runS (lw, h) (l.take k) = p at *
    obtain ⟨x, y⟩ := p
    refine ⟨?_, ?_⟩
    · show ∃ q, (x + l.getD k 0) % 65521 = lw + (allR l k + l.getD k 0) % 65521 + 65521 * q
      generalize l.getD k 0 = b at *
      simp only at e
      refine ⟨q + (allR l k + b) / 65521 - (x + b) / 65521, ?_⟩
      omega
    · obtain ⟨q2, e2⟩ := ref_step (n - (k : Int)) k lw h x y (worthR n l k) (l.getD k 0) q' e'
      refine ⟨q2, ?_⟩
      show (y + (x + l.getD k 0) % 65521) % 65521 + (n - ((k + 1 : Nat) : Int)) * ((x + l.getD k 0) % 65521 - lw) = h + ((k + 1 : Nat) : Int) * lw + (worthR n l k + (n - (k : Int)) % 65521 * l.getD k 0) % 65521 + 65521 * q2
      rw [show ((k + 1 : Nat) : Int) = (k : Int) + 1 from rfl, show n - ((k : Int) + 1) = n - (k : Int) - 1 from by omega]
      exact e2

theorem ref_end (lw h : Int) (l : List Int) (hl : l.length ≤ 60000) (ok : okS (lw, h)) :
    ((h + (l.length : Int) % 65521 * lw + worthR l.length l l.length) % 65521) * 65536 + (lw + allR l l.length) % 65521 = joinS (runS (lw, h) l) := by
  obtain ⟨⟨q, e⟩, q', e'⟩ := ref_inv l.length lw h l l.length (Nat.le_refl _)
  have ok' := okS_run _ l ok
  rw [List.take_length] at e e'
  generalize runS (lw, h) l = p at *
  obtain ⟨x, y⟩ := p
  rw [show (l.length : Int) - (l.length : Int) = 0 from by omega, Int.zero_mul] at e'
  rw [show (l.length : Int) % 65521 = (l.length : Int) from by omega]
  unfold okS at ok'
  unfold joinS
  simp only at e e' ok' ⊢
  generalize (l.length : Int) * lw = t at *
  have h1 : (h + t + worthR l.length l l.length) % 65521 = y := by omega
  have h2 : (lw + allR l l.length) % 65521 = x := by omega
  rw [h1, h2]

end Go.Proofs.Ytfjipaalelkpjaa
