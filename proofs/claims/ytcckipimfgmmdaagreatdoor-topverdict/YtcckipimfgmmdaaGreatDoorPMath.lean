/-
  Texts as lists of bytes, and their tokens: a plain machine.
-/
import Derived.Laws.RangeAny
import Derived.Laws.Strings2
namespace Go.Proofs.YtcckipimfgmmdaaGreatDoor.P
open Go

/-- bytes as a text. -/
def bar (l : (List UInt8)) : ByteArray := ⟨l.toArray⟩
/-- a text's bytes. -/
def lst (s : ByteArray) : (List UInt8) := s.data.toList

theorem bar_lst (s : ByteArray) : bar (lst s) = s := by cases s; simp [bar, lst]
theorem lst_bar (l : (List UInt8)) : lst (bar l) = l := by simp [bar, lst]
theorem lst_length (s : ByteArray) : (lst s).length = s.size := Array.length_toList
theorem bar_size (l : (List UInt8)) : (bar l).size = l.length := by rw [← lst_length, lst_bar]
theorem extract_bar (s : ByteArray) (a b : Nat) : s.extract a b = bar (((lst s).drop a).take (b - a)) := by
  conv => lhs; rw [← bar_lst s]
  exact ByteArray.extract_mk _ _ _
theorem lst_extract (s : ByteArray) (a b : Nat) : lst (s.extract a b) = ((lst s).drop a).take (b - a) := by rw [extract_bar, lst_bar]
theorem lst_at (s : ByteArray) (i : Nat) (h : i < s.size) : (lst s)[i]? = some (s[i]'h) := by
  rw [List.getElem?_eq_getElem (by rw [lst_length]; exact h)]
  rfl
theorem bar_inj {l m : (List UInt8)} (h : bar l = bar m) : l = m := by rw [← lst_bar l, h, lst_bar]

def loN (n : Nat) : Bool := decide (97 ≤ n) && decide (n ≤ 122)
def dgN (n : Nat) : Bool := decide (48 ≤ n) && decide (n ≤ 57)
def wN (n : Nat) : Bool := loN n || dgN n || n == 95
def blN (n : Nat) : Bool := n == 9 || n == 10 || n == 13 || n == 32
def noN (n : Nat) : Bool := !(n == 10)

def ofW (c : UInt8) : Bool := wN c.toNat
def ofN (c : UInt8) : Bool := noN c.toNat

theorem wN_high {n : Nat} (h : 128 ≤ n) : wN n = false := by
  have h1 : ¬ n ≤ 122 := by omega
  have h2 : ¬ n ≤ 57 := by omega
  have h3 : ¬ n = 95 := by omega
  simp [wN, loN, dgN, h1, h2, h3]
theorem noN_high {n : Nat} (h : 128 ≤ n) : noN n = true := by
  have h3 : ¬ n = 10 := by omega
  simp [noN, h3]
theorem blN_high {n : Nat} (h : 128 ≤ n) : blN n = false := by
  have h1 : ¬ n = 9 := by omega
  have h2 : ¬ n = 10 := by omega
  have h3 : ¬ n = 13 := by omega
  have h4 : ¬ n = 32 := by omega
  simp [blN, h1, h2, h3, h4]
theorem wN_low {n : Nat} (h : wN n = true) : n < 128 := by
  rcases Nat.lt_or_ge n 128 with h1 | h1
  · exact h1
  · rw [wN_high h1] at h; cases h

/-- what a digit is worth. -/
def dv (c : UInt8) : Nat := if dgN c.toNat then c.toNat - 48 else if loN c.toNat then c.toNat - 87 else 99

/-- digits, one by one. -/
def parse (b a : Nat) : (List UInt8) → Option Nat
  | [] => some a
  | c :: r => if dv c < b ∧ a * b + dv c < 18446744073709551616 then parse b (a * b + dv c) r else none

/-- a number's worth, if it may be. -/
def numV (t : (List UInt8)) : Option Nat :=
  if t.take 2 = [48, 120] then (if 3 ≤ t.length ∧ t.length ≤ 18 then parse 16 0 (t.drop 2) else none)
  else if t.take 1 = [48] then (if t = [48] then some 0 else none)
  else parse 10 0 t

def signs : List (List UInt8) := [[61, 61], [33, 61], [60, 61], [62, 61], [59], [44], [60], [62], [38]]

/-- the first of some texts with which a text begins. -/
def sign (l : (List UInt8)) : Option (List UInt8) := signs.find? (fun p => p.isPrefixOf l)

/-- what is told of a number, and of a sign. -/
def numR (t : (List UInt8)) : Except Nat (Nat × (List UInt8) × Nat) := match numV t with | some n => .ok (2, t, n) | none => .error 6
def sgR (o : Option (List UInt8)) : Except Nat (Nat × (List UInt8) × Nat) := match o with | some t => .ok (3, t, 0) | none => .error 5

/-- a token's kind, text and worth, at a text's front. -/
def one (l : (List UInt8)) : Except Nat (Nat × (List UInt8) × Nat) :=
  match l with
  | [] => .error 5
  | c :: r =>
    if loN c.toNat then .ok (1, (c :: r).takeWhile ofW, 0)
    else if dgN c.toNat then numR ((c :: r).takeWhile ofW)
    else sgR (sign (c :: r))

structure Tok where
  k : Nat
  at' : Nat
  t : (List UInt8)
  n : Nat

def glue (a : List Tok) : (Except (Nat × Nat) (List Tok)) → (Except (Nat × Nat) (List Tok))
  | .error e => .error e
  | .ok l => .ok (a ++ l)

theorem glue_nil (r : (Except (Nat × Nat) (List Tok))) : glue [] r = r := by cases r <;> rfl
theorem glue_glue (a b : List Tok) (r : (Except (Nat × Nat) (List Tok))) : glue a (glue b r) = glue (a ++ b) r := by cases r <;> simp [glue]

/-- a text, byte by byte: so many to be passed over, and the place. -/
def go (skip p : Nat) : (List UInt8) → (Except (Nat × Nat) (List Tok))
  | [] => .ok [⟨4, p, [], 0⟩]
  | c :: r =>
    if 0 < skip then go (skip - 1) (p + 1) r
    else if blN c.toNat then go 0 (p + 1) r
    else if c.toNat = 35 then go (r.takeWhile ofN).length (p + 1) r
    else match one (c :: r) with
      | .error e => .error (e, p)
      | .ok (k, t, n) => glue [⟨k, p, t, n⟩] (go (t.length - 1) (p + 1) r)

/-- P9.1. -/
def all (l : (List UInt8)) : (Except (Nat × Nat) (List Tok)) := if 8192 < l.length then .error (4, 0) else go 0 0 l

theorem go_skip (k m : Nat) : ∀ (p : Nat) (l : (List UInt8)), k ≤ l.length → go (k + m) p l = go m (p + k) (l.drop k) := by
  induction k with
  | zero => intro p l _; rw [Nat.zero_add]; rfl
  | succ k ih =>
    intro p l h
    match l, h with
    | c :: r, h =>
      show (if 0 < k + 1 + m then go (k + 1 + m - 1) (p + 1) r else _) = _
      rw [if_pos (by omega), show k + 1 + m - 1 = k + m from by omega, ih (p + 1) r (by simpa using h)]
      rw [show p + 1 + k = p + (k + 1) from by omega]
      rfl

theorem go_over {c : UInt8} {r : (List UInt8)} {k p : Nat} (h : 0 < k) : go k p (c :: r) = go (k - 1) (p + 1) r := by
  show (if 0 < k then go (k - 1) (p + 1) r else _) = _
  rw [if_pos h]
theorem go_blank {c : UInt8} {r : (List UInt8)} {p : Nat} (h : blN c.toNat = true) : go 0 p (c :: r) = go 0 (p + 1) r := by
  show (if 0 < 0 then _ else if blN c.toNat then go 0 (p + 1) r else _) = _
  rw [if_neg (by omega), if_pos h]

theorem one_bad {c : UInt8} {r : (List UInt8)} (h : 128 ≤ c.toNat) : one (c :: r) = .error 5 := by
  have h1 : loN c.toNat = false := by
    have : ¬ c.toNat ≤ 122 := by omega
    simp [loN, this]
  have h2 : dgN c.toNat = false := by
    have : ¬ c.toNat ≤ 57 := by omega
    simp [dgN, this]
  have hs : ∀ p ∈ signs, p.isPrefixOf (c :: r) = false := by
    have e : ∀ d : UInt8, d.toNat < 128 → ∀ q, (d :: q).isPrefixOf (c :: r) = false := by
      intro d hd q
      have : (d == c) = false := by
        rw [beq_eq_false_iff_ne]
        intro e
        rw [e] at hd
        omega
      simp [List.isPrefixOf, this]
    intro p hp
    simp [signs] at hp
    rcases hp with rfl | rfl | rfl | rfl | rfl | rfl | rfl | rfl | rfl <;> exact e _ (by decide) _
  have h3 : sign (c :: r) = none := by
    unfold sign
    rw [List.find?_eq_none]
    intro p hp
    rw [hs p hp]
    simp
  show (if loN c.toNat then _ else if dgN c.toNat then _ else sgR (sign (c :: r))) = _
  rw [h1, h2, h3]
  rfl

theorem note_len {c : UInt8} {r : (List UInt8)} (h : c.toNat = 35) : ((c :: r).takeWhile ofN).length = (r.takeWhile ofN).length + 1 := by
  have : ofN c = true := by simp [ofN, noN, h]
  rw [List.takeWhile_cons, if_pos this]
  rfl

theorem go_note {c : UInt8} {r : (List UInt8)} {p : Nat} (h : c.toNat = 35) : go 0 p (c :: r) = go ((c :: r).takeWhile ofN).length p (c :: r) := by
  rw [note_len h, go_over (Nat.succ_pos _)]
  show (if 0 < 0 then _ else if blN c.toNat then _ else if c.toNat = 35 then go (r.takeWhile ofN).length (p + 1) r else _) = _
  rw [if_neg (by omega), if_neg (by rw [h]; decide), if_pos h]
  rfl

theorem go_one {c : UInt8} {r : (List UInt8)} {p : Nat} (h1 : blN c.toNat = false) (h2 : ¬ c.toNat = 35) : go 0 p (c :: r) = (match one (c :: r) with
      | .error e => .error (e, p)
      | .ok (k, t, n) => glue [⟨k, p, t, n⟩] (go (t.length - 1) (p + 1) r)) := by
  show (if 0 < 0 then _ else if blN c.toNat then _ else if c.toNat = 35 then _ else _) = _
  rw [if_neg (by omega), if_neg (by rw [h1]; decide), if_neg h2]

theorem take_while_le (p : UInt8 → Bool) (l : (List UInt8)) : (l.takeWhile p).length ≤ l.length := by
  induction l with
  | nil => simp
  | cons c r ih => rw [List.takeWhile_cons]; split <;> simp; exact ih

theorem take_while_take (p : UInt8 → Bool) (l : (List UInt8)) : l.take (l.takeWhile p).length = l.takeWhile p := by
  induction l with
  | nil => rfl
  | cons c r ih => rw [List.takeWhile_cons]; split <;> simp; exact ih

theorem take_while_all (p : UInt8 → Bool) (l : (List UInt8)) : ∀ c ∈ l.takeWhile p, p c = true := by
  induction l with
  | nil => simp
  | cons c r ih =>
    rw [List.takeWhile_cons]
    split
    · next h =>
      intro d hd
      rcases List.mem_cons.1 hd with rfl | hd
      · exact h
      · exact ih d hd
    · simp

theorem take_while_next (p : UInt8 → Bool) (l : (List UInt8)) : ∀ c, l[(l.takeWhile p).length]? = some c → p c = false := by
  induction l with
  | nil => simp
  | cons c r ih =>
    rw [List.takeWhile_cons]
    split
    · intro d hd
      exact ih d (by simpa using hd)
    · next h =>
      intro d hd
      simp at hd
      subst hd
      simpa using h

theorem take_while_eq (p : UInt8 → Bool) (l : (List UInt8)) (n : Nat) (hn : n ≤ l.length) (h : ∀ i c, i < n → l[i]? = some c → p c = true) (h' : ∀ c, l[n]? = some c → p c = false) : (l.takeWhile p).length = n := by
  induction l generalizing n with
  | nil => simp at hn; rw [hn]; rfl
  | cons d r ih =>
    cases n with
    | zero =>
      have := h' d rfl
      rw [List.takeWhile_cons, if_neg (by rw [this]; decide)]
      rfl
    | succ n =>
      have h0 := h 0 d (by omega) rfl
      rw [List.takeWhile_cons, if_pos h0, List.length_cons]
      rw [ih n (by simpa using hn) (fun i c hi hc => h (i + 1) c (by omega) (by simpa using hc)) (fun c hc => h' c (by simpa using hc))]

/-- a token's text stands at the front, is not empty, and its bytes are below 128. -/
theorem one_take {l : (List UInt8)} {k n : Nat} {t : (List UInt8)} (h : one l = .ok (k, t, n)) : l.take t.length = t ∧ 1 ≤ t.length ∧ ∀ c ∈ t, c.toNat < 128 := by
  match l, h with
  | c :: r, h =>
    have hw : wN c.toNat = true → 1 ≤ ((c :: r).takeWhile ofW).length := by
      intro hc
      rw [List.takeWhile_cons, if_pos (show ofW c = true from hc)]
      simp
    unfold one at h
    simp only at h
    split at h
    · next h1 =>
      cases h
      exact ⟨take_while_take _ _, hw (by simp [wN, h1]), fun d hd => wN_low (take_while_all _ _ d hd)⟩
    · split at h
      · next h2 =>
        unfold numR at h
        split at h
        · cases h
          exact ⟨take_while_take _ _, hw (by simp [wN, h2]), fun d hd => wN_low (take_while_all _ _ d hd)⟩
        · cases h
      · unfold sgR at h
        split at h
        · next h3 =>
          cases h
          have hm := List.mem_of_find?_eq_some h3
          have hp := List.find?_some h3
          have hp' := List.isPrefixOf_iff_prefix.1 hp
          refine ⟨(List.prefix_iff_eq_take.1 hp').symm, ?_⟩
          simp [signs] at hm
          rcases hm with rfl | rfl | rfl | rfl | rfl | rfl | rfl | rfl | rfl <;> exact ⟨by decide, by decide⟩
        · cases h

theorem one_le {l : (List UInt8)} {k n : Nat} {t : (List UInt8)} (h : one l = .ok (k, t, n)) : t.length ≤ l.length := by
  have h1 := (one_take h).1
  have h2 := congrArg List.length h1
  rw [List.length_take] at h2
  omega

theorem get_byte (s : ByteArray) (i : Nat) (h : i < s.size) : s.get! i = s[i]'h := by
  simp [ByteArray.get!, getElem!_pos, h]
  rfl

/-- behind a rune's first byte stand ones of 128 and more. -/
theorem decode_tail (s : ByteArray) (pos : Nat) (_h : pos < s.size) : ∀ k, 1 ≤ k → k < (Utf8.decode s pos).2 → ∃ c, (lst s)[pos + k]? = some c ∧ 128 ≤ c.toNat := by
  intro k h1 h2
  have key : (decide (pos + k < s.size) && (s.get! (pos + k)).toNat / 64 == 2) = true → ∃ c, (lst s)[pos + k]? = some c ∧ 128 ≤ c.toNat := by
    intro hk
    simp at hk
    refine ⟨_, lst_at s _ hk.1, ?_⟩
    rw [get_byte s _ hk.1] at hk
    omega
  apply key
  simp only [Utf8.decode] at h2
  repeat' split at h2
  all_goals first | omega | skip
  all_goals simp only [Bool.and_eq_true] at *
  · have : k = 1 := by change k < 2 at h2; omega
    subst this
    simp_all
  · have : k = 1 ∨ k = 2 := by change k < 3 at h2; omega
    rcases this with rfl | rfl <;> simp_all
  · have : k = 1 ∨ k = 2 ∨ k = 3 := by change k < 4 at h2; omega
    rcases this with rfl | rfl | rfl <;> simp_all

theorem width_pos (s : ByteArray) (pos : Nat) (h : pos < s.size) : 1 ≤ (Utf8.decode s pos).2 := by
  by_cases ha : (s[pos]'h).toNat < 128
  · rw [decode_ascii s pos h ha]
    exact Nat.le_refl _
  · exact (decode_high s pos h (by omega)).2

theorem width_le (s : ByteArray) (pos : Nat) (h : pos < s.size) : pos + (Utf8.decode s pos).2 ≤ s.size := by
  rcases Nat.lt_or_ge 1 (Utf8.decode s pos).2 with h1 | h1
  · obtain ⟨c, hc, _⟩ := decode_tail s pos h ((Utf8.decode s pos).2 - 1) (by omega) (by omega)
    have := (List.getElem?_eq_some_iff.1 hc).1
    rw [lst_length] at this
    omega
  · omega

/-- a place up to which all may be passed over. -/
def Stop (l : (List UInt8)) (pos next : Nat) : Prop := next ≤ l.length ∧ ((∀ i c, pos ≤ i → i < next → l[i]? = some c → c.toNat < 128) ∨ next = l.length ∨ ∃ c, l[next]? = some c ∧ c.toNat < 128)

theorem Stop.step {s : ByteArray} {pos next : Nat} (h : Stop (lst s) pos next) (hp : pos < next) : pos + (Utf8.decode s pos).2 ≤ next ∧ Stop (lst s) (pos + (Utf8.decode s pos).2) next := by
  have hps : pos < s.size := by have := h.1; rw [lst_length] at this; omega
  have h1 := width_pos s pos hps
  refine ⟨?_, h.1, ?_⟩
  · rcases Nat.lt_or_ge next (pos + (Utf8.decode s pos).2) with hlt | hge
    · obtain ⟨c, hc, hc1⟩ := decode_tail s pos hps (next - pos) (by omega) (by omega)
      rw [show pos + (next - pos) = next from by omega] at hc
      rcases h.2 with h2 | h2 | ⟨d, hd, hd1⟩
      · have hw : (Utf8.decode s pos).2 = 1 := by
          rw [decode_ascii s pos hps (h2 pos _ (Nat.le_refl _) hp (lst_at s pos hps))]
        omega
      · have := (List.getElem?_eq_some_iff.1 hc).1
        omega
      · rw [hd] at hc
        cases hc
        omega
    · exact hge
  · rcases h.2 with h2 | h2
    · exact .inl fun i c hi => h2 i c (by omega)
    · exact .inr h2

theorem drop_cons (s : ByteArray) (pos : Nat) (h : pos < s.size) : (lst s).drop pos = s[pos]'h :: (lst s).drop (pos + 1) := by
  rw [List.drop_eq_getElem_cons (by rw [lst_length]; exact h)]
  rfl

end Go.Proofs.YtcckipimfgmmdaaGreatDoor.P
