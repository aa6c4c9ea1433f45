/-
  Texts as lists of bytes; what may be, as plain numbers.
-/
import Derived.Laws.RangeAny
import Derived.Laws.Strings2
import Derived.WalkKit
namespace Go.Proofs.YtcckipimfgmmdaaGreatDoor.M
open Go

/-- bytes as a text. -/
def bar (l : (List UInt8)) : ByteArray := ⟨l.toArray⟩
/-- a text's bytes. -/
def lst (s : ByteArray) : (List UInt8) := s.data.toList

theorem bar_lst (s : ByteArray) : bar (lst s) = s := by cases s; simp [bar, lst]
theorem lst_bar (l : (List UInt8)) : lst (bar l) = l := by simp [bar, lst]
theorem lst_length (s : ByteArray) : (lst s).length = s.size := Array.length_toList
theorem bar_size (l : (List UInt8)) : (bar l).size = l.length := by rw [← lst_length, lst_bar]
theorem extract_bar (s : ByteArray) (a b : Nat) : s.extract a b = bar (((lst s).drop a).take (b - a)) := by
  conv => lhs; rw [← bar_lst s]
  exact ByteArray.extract_mk _ _ _
theorem lst_extract (s : ByteArray) (a b : Nat) : lst (s.extract a b) = ((lst s).drop a).take (b - a) := by rw [extract_bar, lst_bar]
theorem lst_at (s : ByteArray) (i : Nat) (h : i < s.size) : (lst s)[i]? = some (s[i]'h) := by
  rw [List.getElem?_eq_getElem (by rw [lst_length]; exact h)]
  rfl
theorem bar_inj {l m : (List UInt8)} (h : bar l = bar m) : l = m := by rw [← lst_bar l, h, lst_bar]

def loN (n : Nat) : Bool := decide (97 ≤ n) && decide (n ≤ 122)
def dgN (n : Nat) : Bool := decide (48 ≤ n) && decide (n ≤ 57)
def wN (n : Nat) : Bool := loN n || dgN n || n == 95
def blN (n : Nat) : Bool := n == 9 || n == 10 || n == 13 || n == 32
def noN (n : Nat) : Bool := !(n == 10)

def ofW (c : UInt8) : Bool := wN c.toNat
def ofN (c : UInt8) : Bool := noN c.toNat

theorem wN_high {n : Nat} (h : 128 ≤ n) : wN n = false := by
  have h1 : ¬ n ≤ 122 := by omega
  have h2 : ¬ n ≤ 57 := by omega
  have h3 : ¬ n = 95 := by omega
  simp [wN, loN, dgN, h1, h2, h3]
theorem noN_high {n : Nat} (h : 128 ≤ n) : noN n = true := by
  have h3 : ¬ n = 10 := by omega
  simp [noN, h3]
theorem wN_low {n : Nat} (h : wN n = true) : n < 128 := by
  rcases Nat.lt_or_ge n 128 with h1 | h1
  · exact h1
  · rw [wN_high h1] at h; cases h

theorem take_while_le (p : UInt8 → Bool) (l : (List UInt8)) : (l.takeWhile p).length ≤ l.length := by
  induction l with
  | nil => simp
  | cons c r ih => rw [List.takeWhile_cons]; split <;> simp; exact ih

theorem take_while_take (p : UInt8 → Bool) (l : (List UInt8)) : l.take (l.takeWhile p).length = l.takeWhile p := by
  induction l with
  | nil => rfl
  | cons c r ih => rw [List.takeWhile_cons]; split <;> simp; exact ih

theorem take_while_all (p : UInt8 → Bool) (l : (List UInt8)) : ∀ c ∈ l.takeWhile p, p c = true := by
  induction l with
  | nil => simp
  | cons c r ih =>
    rw [List.takeWhile_cons]
    split
    · next h =>
      intro d hd
      rcases List.mem_cons.1 hd with rfl | hd
      · exact h
      · exact ih d hd
    · simp

theorem take_while_next (p : UInt8 → Bool) (l : (List UInt8)) : ∀ c, l[(l.takeWhile p).length]? = some c → p c = false := by
  induction l with
  | nil => simp
  | cons c r ih =>
    rw [List.takeWhile_cons]
    split
    · intro d hd
      exact ih d (by simpa using hd)
    · next h =>
      intro d hd
      simp at hd
      subst hd
      simpa using h

theorem take_while_eq (p : UInt8 → Bool) (l : (List UInt8)) (n : Nat) (hn : n ≤ l.length) (h : ∀ i c, i < n → l[i]? = some c → p c = true) (h' : ∀ c, l[n]? = some c → p c = false) : (l.takeWhile p).length = n := by
  induction l generalizing n with
  | nil => simp at hn; rw [hn]; rfl
  | cons d r ih =>
    cases n with
    | zero =>
      have := h' d rfl
      rw [List.takeWhile_cons, if_neg (by rw [this]; decide)]
      rfl
    | succ n =>
      have h0 := h 0 d (by omega) rfl
      rw [List.takeWhile_cons, if_pos h0, List.length_cons]
      rw [ih n (by simpa using hn) (fun i c hi hc => h (i + 1) c (by omega) (by simpa using hc)) (fun c hc => h' c (by simpa using hc))]

theorem get_byte (s : ByteArray) (i : Nat) (h : i < s.size) : s.get! i = s[i]'h := by
  simp [ByteArray.get!, getElem!_pos, h]
  rfl

/-- behind a rune's first byte stand ones of 128 and more. -/
theorem decode_tail (s : ByteArray) (pos : Nat) (_h : pos < s.size) : ∀ k, 1 ≤ k → k < (Utf8.decode s pos).2 → ∃ c, (lst s)[pos + k]? = some c ∧ 128 ≤ c.toNat := by
  intro k h1 h2
  have key : (decide (pos + k < s.size) && (s.get! (pos + k)).toNat / 64 == 2) = true → ∃ c, (lst s)[pos + k]? = some c ∧ 128 ≤ c.toNat := by
    intro hk
    simp at hk
    refine ⟨_, lst_at s _ hk.1, ?_⟩
    rw [get_byte s _ hk.1] at hk
    omega
  apply key
  simp only [Utf8.decode] at h2
  repeat' split at h2
  all_goals first | omega | skip
  all_goals simp only [Bool.and_eq_true] at *
  · have : k = 1 := by change k < 2 at h2; omega
    subst this
    simp_all
  · have : k = 1 ∨ k = 2 := by change k < 3 at h2; omega
    rcases this with rfl | rfl <;> simp_all
  · have : k = 1 ∨ k = 2 ∨ k = 3 := by change k < 4 at h2; omega
    rcases this with rfl | rfl | rfl <;> simp_all

theorem width_pos (s : ByteArray) (pos : Nat) (h : pos < s.size) : 1 ≤ (Utf8.decode s pos).2 := by
  by_cases ha : (s[pos]'h).toNat < 128
  · rw [decode_ascii s pos h ha]
    exact Nat.le_refl _
  · exact (decode_high s pos h (by omega)).2

theorem width_le (s : ByteArray) (pos : Nat) (h : pos < s.size) : pos + (Utf8.decode s pos).2 ≤ s.size := by
  rcases Nat.lt_or_ge 1 (Utf8.decode s pos).2 with h1 | h1
  · obtain ⟨c, hc, _⟩ := decode_tail s pos h ((Utf8.decode s pos).2 - 1) (by omega) (by omega)
    have := (List.getElem?_eq_some_iff.1 hc).1
    rw [lst_length] at this
    omega
  · omega

theorem drop_cons (s : ByteArray) (pos : Nat) (h : pos < s.size) : (lst s).drop pos = s[pos]'h :: (lst s).drop (pos + 1) := by
  rw [List.drop_eq_getElem_cons (by rw [lst_length]; exact h)]
  rfl

/-- numbers of 32 bits, and of 64. -/
def U32 (x : Int) : Prop := 0 ≤ x ∧ x ≤ 4294967295
def U64 (x : Int) : Prop := 0 ≤ x ∧ x ≤ 18446744073709551615

/-- may a condition be? -/
def rightB (a o : Int) : Bool := decide (0 ≤ a) && decide (a < 6) && decide (1 ≤ o) && decide (o ≤ 6)

/-- are a value and another one as an op says? -/
def heldB (o x v : Int) : Bool :=
  if (o == 1) = true then x == v else if (o == 2) = true then !(x == v) else if (o == 3) = true then decide (x < v) else if (o == 4) = true then decide (x ≤ v) else if (o == 5) = true then decide (v < x) else o == 6 && decide (v ≤ x)

/-- a number's bits of a mask. -/
def an (x m : Int) : Int := bits BinOp.and IntKind.u64 x m

/-- does a condition hold of a number? -/
def holdN (a o m v x : Int) : Bool := rightB a o && heldB o (an x m) v

theorem right_bd {a o : Int} (h : rightB a o = true) : 0 ≤ a ∧ a < 6 ∧ 1 ≤ o ∧ o ≤ 6 := by
  simp only [rightB, Bool.and_eq_true, decide_eq_true_eq] at h
  omega

theorem six {o : Int} (h1 : 1 ≤ o) (h6 : o ≤ 6) : o = 1 ∨ o = 2 ∨ o = 3 ∨ o = 4 ∨ o = 5 ∨ o = 6 := by omega

theorem nat_of {x : Int} (h : U64 x) : ∃ n : Nat, x = n ∧ n < 18446744073709551616 := by
  obtain ⟨h0, h1⟩ := h
  obtain ⟨n, rfl⟩ := Int.eq_ofNat_of_zero_le h0
  exact ⟨n, rfl, by omega⟩


end Go.Proofs.YtcckipimfgmmdaaGreatDoor.M
