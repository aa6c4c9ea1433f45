/-
  Plain numbers: a number's bytes, the highest first, and the number of bytes; what a writer and a reader come to.
-/
import Derived.Below
namespace Go.Proofs.Ytpdndcmaaghnjaa.K

/-- so many bytes of a number, the highest first. -/
def digs : Nat → Int → List Int
  | 0, _ => []
  | k + 1, n => digs k (n / 256) ++ [n % 256]

/-- the number of bytes, the highest first. -/
def numOf (l : List Int) : Int := l.foldl (fun n b => n * 256 + b) 0

def pow256 : Nat → Int
  | 0 => 1
  | k + 1 => pow256 k * 256

theorem digs_length (k : Nat) : ∀ n, (digs k n).length = k := by
  induction k with
  | zero => intro n; rfl
  | succ k ih => intro n; simp [digs, ih]

theorem digs_bd (k : Nat) : ∀ n, ∀ z ∈ digs k n, 0 ≤ z ∧ z ≤ 255 := by
  induction k with
  | zero => intro n z hz; cases hz
  | succ k ih =>
    intro n z hz
    simp only [digs, List.mem_append, List.mem_singleton] at hz
    rcases hz with hz | rfl
    · exact ih _ z hz
    · omega

theorem pow256_pos (k : Nat) : 0 < pow256 k := by
  induction k with
  | zero => decide
  | succ k ih => simp only [pow256]; omega

/-- what is left of a number behind so many bytes. -/
def shr : Nat → Int → Int
  | 0, n => n
  | k + 1, n => shr k n / 256

theorem shr_bd (k : Nat) : ∀ n, 0 ≤ n → 0 ≤ shr k n ∧ shr k n ≤ n := by
  induction k with
  | zero => intro n h; exact ⟨h, Int.le_refl _⟩
  | succ k ih => intro n h; have := ih n h; simp only [shr]; omega

theorem shr_pos (k : Nat) : ∀ n, 0 ≤ n → (0 < shr k n ↔ pow256 k ≤ n) := by
  have key : ∀ k n c, 0 ≤ n → 0 < c → (c ≤ shr k n ↔ c * pow256 k ≤ n) := by
    intro k
    induction k with
    | zero => intro n c h hc; simp [shr, pow256]
    | succ k ih =>
      intro n c h hc
      have := ih n (c * 256) h (by omega)
      have e : c * pow256 (k + 1) = c * 256 * pow256 k := by simp only [pow256]; rw [Int.mul_comm (pow256 k), Int.mul_assoc]
      rw [e, ← this]
      simp only [shr]
      omega
  intro n h
  have := key k n 1 h (by omega)
  rw [Int.one_mul] at this
  omega

/-- the byte at a place, counted from the right. -/
def dig (n : Int) (j : Nat) : Int := shr j n % 256

theorem shr_succ (j : Nat) : ∀ n, shr (j + 1) n = shr j (n / 256) := by
  induction j with
  | zero => intro n; rfl
  | succ j ih => intro n; show shr (j + 1) n / 256 = _; rw [ih]; rfl

theorem digs_get (k : Nat) : ∀ n i, i < k → (digs k n).getD i 0 = dig n (k - 1 - i) := by
  induction k with
  | zero => intro n i h; omega
  | succ k ih =>
    intro n i h
    simp only [digs]
    by_cases hi : i < k
    · rw [List.getD_eq_getElem?_getD, List.getElem?_append_left (by rw [digs_length]; exact hi), ← List.getD_eq_getElem?_getD, ih _ _ hi]
      unfold dig
      rw [show k + 1 - 1 - i = (k - 1 - i) + 1 from by omega, shr_succ]
    · obtain rfl : i = k := by omega
      rw [List.getD_eq_getElem?_getD, List.getElem?_append_right (by rw [digs_length]; exact Nat.le_refl _), digs_length]
      simp [dig, shr]

theorem numOf_snoc (l : List Int) (b : Int) : numOf (l ++ [b]) = numOf l * 256 + b := by simp [numOf]

theorem numOf_bd (l : List Int) (h : ∀ z ∈ l, 0 ≤ z ∧ z ≤ 255) : 0 ≤ numOf l ∧ numOf l + 1 ≤ pow256 l.length := by
  suffices ∀ (r : List Int), (∀ z ∈ r, 0 ≤ z ∧ z ≤ 255) → 0 ≤ numOf r.reverse ∧ numOf r.reverse + 1 ≤ pow256 r.length by
    have := this l.reverse (fun z hz => h z (List.mem_reverse.1 hz))
    simpa using this
  intro r
  induction r with
  | nil => intro _; decide
  | cons b r ih =>
    intro h
    have h1 := ih (fun z hz => h z (List.mem_cons_of_mem _ hz))
    have h2 := h b List.mem_cons_self
    rw [List.reverse_cons, numOf_snoc]
    simp only [List.length_cons, pow256]
    omega

theorem numOf_digs (k : Nat) : ∀ n, 0 ≤ n → n < pow256 k → numOf (digs k n) = n := by
  induction k with
  | zero => intro n h0 h1; simp only [pow256] at h1; simp only [digs, numOf, List.foldl_nil]; omega
  | succ k ih =>
    intro n h0 h1
    simp only [digs, pow256] at *
    rw [numOf_snoc, ih _ (by omega) (by omega)]
    omega

theorem digs_numOf (l : List Int) (h : ∀ z ∈ l, 0 ≤ z ∧ z ≤ 255) : digs l.length (numOf l) = l := by
  suffices ∀ (r : List Int), (∀ z ∈ r, 0 ≤ z ∧ z ≤ 255) → digs r.length (numOf r.reverse) = r.reverse by
    have := this l.reverse (fun z hz => h z (List.mem_reverse.1 hz))
    simpa using this
  intro r
  induction r with
  | nil => intro _; rfl
  | cons b r ih =>
    intro h
    have h1 := ih (fun z hz => h z (List.mem_cons_of_mem _ hz))
    have h2 := h b List.mem_cons_self
    rw [List.reverse_cons, numOf_snoc]
    simp only [List.length_cons, digs]
    rw [show (numOf r.reverse * 256 + b) / 256 = numOf r.reverse from by omega, h1, show (numOf r.reverse * 256 + b) % 256 = b from by omega]

theorem pow256_mono {j k : Nat} (h : j ≤ k) : pow256 j ≤ pow256 k := by
  induction h with
  | refl => exact Int.le_refl _
  | step _ ih => have := pow256_pos j; simp only [pow256]; omega

theorem pow256_8 : pow256 8 = 18446744073709551616 := by decide
theorem pow256_7 : pow256 7 = 72057594037927936 := by decide

end Go.Proofs.Ytpdndcmaaghnjaa.K
