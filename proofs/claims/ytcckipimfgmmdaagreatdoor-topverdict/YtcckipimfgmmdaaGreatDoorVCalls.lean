/-
  Calls as plain numbers and as they lie in memory; the word of a call at a place, by package data.
-/
import Derived.Test.YtcckipimfgmmdaaGreatDoorRows
import Derived.Test.YtcckipimfgmmdaaGreatDoorVBase
import Derived.WalkKit
import Derived.WalkSmall
import Derived.WalkSpells
import Derived.WalkLawsBesides
import Derived.Laws.AppendOwnNone
import Derived.Laws.MakeOwn
import Derived.Laws.BytesArg
import Derived.Laws.Rows
import Derived.Laws.Tables
import Derived.Laws.CopyOwn
import Derived.Laws.Bits64b
import Derived.BigQuiet
namespace Go.Proofs.YtcckipimfgmmdaaGreatDoor.V

/-- numbers of four bytes, and of eight. -/
def U32 (x : Int) : Prop := 0 ≤ x ∧ x ≤ 4294967295
def U64 (x : Int) : Prop := 0 ≤ x ∧ x ≤ 18446744073709551615

/-- a call: its number, the architecture, where it stands, its arguments. -/
structure Da where
  n : Int
  a : Int
  p : Int
  g : List Int

/-- what a call's fields may be. -/
def Da.ok (d : Da) : Prop := U32 d.n ∧ U32 d.a ∧ U64 d.p ∧ d.g.length = 6 ∧ ∀ z ∈ d.g, U64 z

/-- numbers that are bytes. -/
def Byt (l : List Int) : Prop := ∀ z ∈ l, 0 ≤ z ∧ z ≤ 255

/-- a number's halves, and the number of halves. -/
def lo (x : Int) : Int := x % 4294967296
def hi (x : Int) : Int := x / 4294967296
def both (x y : Int) : Int := x + 4294967296 * y

theorem lo_u (x : Int) : U32 (lo x) := by unfold U32 lo; omega
theorem hi_u (x : Int) (h : U64 x) : U32 (hi x) := by unfold U64 at h; unfold U32 hi; omega
theorem both_u (x y : Int) (hx : U32 x) (hy : U32 y) : U64 (both x y) := by unfold U32 at hx hy; unfold U64 both; omega
theorem both_lohi (x : Int) : both (lo x) (hi x) = x := by unfold both lo hi; omega
theorem lo_both (x y : Int) (hx : U32 x) : lo (both x y) = x := by unfold U32 at hx; unfold lo both; omega
theorem hi_both (x y : Int) (hx : U32 x) : hi (both x y) = y := by unfold U32 at hx; unfold hi both; omega

/-- a call's words. -/
def Da.words (d : Da) : List Int := d.n :: d.a :: lo d.p :: hi d.p :: d.g.flatMap (fun x => [lo x, hi x])

/-- a word's bytes. -/
def w4 (x : Int) : List Int := [x % 256, x / 256 % 256, x / 65536 % 256, x / 16777216]

/-- the bytes of words. -/
def encW (ws : List Int) : List Int := ws.flatMap w4

/-- a call's bytes. -/
def Da.enc (d : Da) : List Int := encW d.words

/-- the word of the first four bytes. -/
def r4 (l : List Int) : Int := l.getD 0 0 + 256 * l.getD 1 0 + 65536 * l.getD 2 0 + 16777216 * l.getD 3 0

/-- the first words of bytes. -/
def readW (l : List Int) (n : Nat) : List Int := (List.range n).map (fun i => r4 (l.drop (i * 4)))

/-- the call of words. -/
def join (ws : List Int) : Da := ⟨ws.getD 0 0, ws.getD 1 0, both (ws.getD 2 0) (ws.getD 3 0), (List.range 6).map (fun i => both (ws.getD (4 + 2 * i) 0) (ws.getD (4 + 2 * i + 1) 0))⟩

/-- no call. -/
def Da.zero : Da := ⟨0, 0, 0, [0, 0, 0, 0, 0, 0]⟩

theorem six {g : List Int} (h : g.length = 6) : ∃ a b c d e f, g = [a, b, c, d, e, f] := by
  match g, h with
  | [a, b, c, d, e, f], _ => exact ⟨a, b, c, d, e, f, rfl⟩

theorem sixteen {g : List Int} (h : g.length = 16) : ∃ a b c d e f i j k l m n o p q r, g = [a, b, c, d, e, f, i, j, k, l, m, n, o, p, q, r] := by
  match g, h with
  | [a, b, c, d, e, f, i, j, k, l, m, n, o, p, q, r], _ => exact ⟨a, b, c, d, e, f, i, j, k, l, m, n, o, p, q, r, rfl⟩

theorem words_len (d : Da) (h : d.ok) : d.words.length = 16 := by
  obtain ⟨n, a, p, g⟩ := d
  obtain ⟨_, _, _, hg, _⟩ := h
  obtain ⟨x0, x1, x2, x3, x4, x5, rfl⟩ := six hg
  rfl

theorem words_u (d : Da) (h : d.ok) : ∀ z ∈ d.words, U32 z := by
  intro z hz
  simp only [Da.words, List.mem_cons, List.mem_flatMap, List.not_mem_nil, or_false] at hz
  rcases hz with rfl | rfl | rfl | rfl | ⟨x, hx, rfl | rfl⟩
  · exact h.1
  · exact h.2.1
  · exact lo_u _
  · exact hi_u _ h.2.2.1
  · exact lo_u _
  · exact hi_u _ (h.2.2.2.2 x hx)

theorem join_words (d : Da) (h : d.ok) : join d.words = d := by
  obtain ⟨n, a, p, g⟩ := d
  obtain ⟨_, _, _, hg, _⟩ := h
  obtain ⟨x0, x1, x2, x3, x4, x5, rfl⟩ := six hg
  show Da.mk n a (both (lo p) (hi p)) [both (lo x0) (hi x0), both (lo x1) (hi x1), both (lo x2) (hi x2), both (lo x3) (hi x3), both (lo x4) (hi x4), both (lo x5) (hi x5)] = _
  simp only [both_lohi]

theorem words_join (ws : List Int) (hl : ws.length = 16) (h : ∀ z ∈ ws, U32 z) : (join ws).words = ws := by
  obtain ⟨a, b, c, d, e, f, i, j, k, l, m, n, o, p, q, r, rfl⟩ := sixteen hl
  show [a, b, lo (both c d), hi (both c d), lo (both e f), hi (both e f), lo (both i j), hi (both i j), lo (both k l), hi (both k l), lo (both m n), hi (both m n), lo (both o p), hi (both o p), lo (both q r), hi (both q r)] = _
  simp only [List.mem_cons, List.not_mem_nil, or_false, forall_eq_or_imp, forall_eq] at h
  obtain ⟨_, _, hc, _, he, _, hi', _, hk, _, hm, _, ho, _, hq, _⟩ := h
  rw [lo_both c d hc, hi_both c d hc, lo_both e f he, hi_both e f he, lo_both i j hi', hi_both i j hi', lo_both k l hk, hi_both k l hk, lo_both m n hm, hi_both m n hm, lo_both o p ho, hi_both o p ho, lo_both q r hq, hi_both q r hq]

theorem getD_u {ws : List Int} (h : ∀ z ∈ ws, U32 z) (k : Nat) : U32 (ws.getD k 0) := by
  rw [List.getD_eq_getElem?_getD]
  by_cases hk : k < ws.length
  · rw [List.getElem?_eq_getElem hk]; exact h _ (List.getElem_mem hk)
  · rw [List.getElem?_eq_none (by omega)]; exact ⟨by decide, by decide⟩

theorem join_ok (ws : List Int) (h : ∀ z ∈ ws, U32 z) : (join ws).ok := by
  refine ⟨getD_u h 0, getD_u h 1, both_u _ _ (getD_u h 2) (getD_u h 3), by simp [join], ?_⟩
  intro z hz
  simp only [join, List.mem_map] at hz
  obtain ⟨i, _, rfl⟩ := hz
  exact both_u _ _ (getD_u h _) (getD_u h _)

theorem w4_byt (x : Int) (h : U32 x) : Byt (w4 x) := by
  unfold U32 at h
  intro z hz
  simp only [w4, List.mem_cons, List.not_mem_nil, or_false] at hz
  rcases hz with rfl | rfl | rfl | rfl <;> omega

theorem encW_nil : encW [] = [] := rfl
theorem encW_cons (x : Int) (ws : List Int) : encW (x :: ws) = w4 x ++ encW ws := rfl
theorem encW_snoc (ws : List Int) (x : Int) : encW (ws ++ [x]) = encW ws ++ w4 x := by simp [encW]

theorem encW_len (ws : List Int) : (encW ws).length = ws.length * 4 := by
  induction ws with
  | nil => rfl
  | cons x l ih => rw [encW_cons, List.length_append, ih, List.length_cons, Nat.add_mul]; show 4 + _ = _; omega

theorem encW_byt (ws : List Int) (h : ∀ z ∈ ws, U32 z) : Byt (encW ws) := by
  intro z hz
  simp only [encW, List.mem_flatMap] at hz
  obtain ⟨x, hx, hz⟩ := hz
  exact w4_byt x (h x hx) z hz

theorem encW_take (ws : List Int) (k : Nat) (hk : k < ws.length) : encW (ws.take (k + 1)) = encW (ws.take k) ++ w4 (ws.getD k 0) := by
  rw [List.take_add_one, List.getElem?_eq_getElem hk, List.getD_eq_getElem?_getD, List.getElem?_eq_getElem hk]
  exact encW_snoc _ _

theorem r4_w4 (x : Int) (r : List Int) (_h : U32 x) : r4 (w4 x ++ r) = x := by
  show x % 256 + 256 * (x / 256 % 256) + 65536 * (x / 65536 % 256) + 16777216 * (x / 16777216) = x
  omega

theorem w4_r4 (l : List Int) (h : Byt l) (h4 : 4 ≤ l.length) : w4 (r4 l) = l.take 4 := by
  match l, h4, h with
  | a :: b :: c :: d :: r, _, h =>
    have ha := h a (by simp)
    have hb := h b (by simp)
    have hc := h c (by simp)
    have hd := h d (by simp)
    have e3 : (a + 256 * b + 65536 * c + 16777216 * d) % 256 = a := by omega
    have e4 : (a + 256 * b + 65536 * c + 16777216 * d) / 256 % 256 = b := by omega
    have e5 : (a + 256 * b + 65536 * c + 16777216 * d) / 65536 % 256 = c := by omega
    have e6 : (a + 256 * b + 65536 * c + 16777216 * d) / 16777216 = d := by omega
    show [(a + 256 * b + 65536 * c + 16777216 * d) % 256, (a + 256 * b + 65536 * c + 16777216 * d) / 256 % 256, (a + 256 * b + 65536 * c + 16777216 * d) / 65536 % 256, (a + 256 * b + 65536 * c + 16777216 * d) / 16777216] = [a, b, c, d]
    rw [e3, e4, e5, e6]

theorem byt_get {l : List Int} (h : Byt l) (k : Nat) : 0 ≤ l.getD k 0 ∧ l.getD k 0 ≤ 255 := by
  rw [List.getD_eq_getElem?_getD]
  by_cases hk : k < l.length
  · have := h _ (List.getElem_mem hk)
    rw [List.getElem?_eq_getElem hk]; exact this
  · rw [List.getElem?_eq_none (by omega)]; simp

theorem r4_u (l : List Int) (h : Byt l) : U32 (r4 l) := by
  have g0 := byt_get h 0
  have g1 := byt_get h 1
  have g2 := byt_get h 2
  have g3 := byt_get h 3
  constructor
  · show 0 ≤ l.getD 0 0 + 256 * l.getD 1 0 + 65536 * l.getD 2 0 + 16777216 * l.getD 3 0; omega
  · show l.getD 0 0 + 256 * l.getD 1 0 + 65536 * l.getD 2 0 + 16777216 * l.getD 3 0 ≤ 4294967295; omega

theorem readW_zero (l : List Int) : readW l 0 = [] := rfl
theorem readW_len (l : List Int) (n : Nat) : (readW l n).length = n := by simp [readW]

theorem readW_succ (l : List Int) (n : Nat) : readW l (n + 1) = readW l n ++ [r4 (l.drop (n * 4))] := by simp [readW, List.range_succ]

theorem byt_drop {l : List Int} (h : Byt l) (k : Nat) : Byt (l.drop k) := fun z hz => h z (List.mem_of_mem_drop hz)
theorem byt_take {l : List Int} (h : Byt l) (k : Nat) : Byt (l.take k) := fun z hz => h z (List.mem_of_mem_take hz)

theorem readW_u (l : List Int) (n : Nat) (h : Byt l) : ∀ x ∈ readW l n, U32 x := by
  intro x hx
  simp only [readW, List.mem_map] at hx
  obtain ⟨i, _, rfl⟩ := hx
  exact r4_u _ (byt_drop h _)

theorem readW_cons (l : List Int) (n : Nat) : readW l (n + 1) = r4 l :: readW (l.drop 4) n := by
  induction n with
  | zero => simp [readW, List.range_succ]
  | succ n ih =>
    rw [readW_succ, ih, readW_succ, List.drop_drop]
    simp
    congr 2
    omega

theorem readW_encW (ws : List Int) (h : ∀ z ∈ ws, U32 z) : readW (encW ws) ws.length = ws := by
  induction ws with
  | nil => rfl
  | cons x l ih =>
    rw [List.length_cons, readW_cons, encW_cons, r4_w4 x _ (h x (by simp)), show (w4 x ++ encW l).drop 4 = encW l from List.drop_left' (i := 4) (l₁ := w4 x) rfl, ih (fun y hy => h y (by simp [hy]))]

theorem encW_readW (l : List Int) (n : Nat) (h : Byt l) (hn : l.length = n * 4) : encW (readW l n) = l := by
  induction n generalizing l with
  | zero => rw [readW_zero, encW_nil]; exact (List.eq_nil_of_length_eq_zero (by omega)).symm
  | succ n ih =>
    rw [readW_cons, encW_cons, w4_r4 l h (by omega), ih (l.drop 4) (byt_drop h 4) (by rw [List.length_drop]; omega), List.take_append_drop]

theorem enc_len (d : Da) (h : d.ok) : d.enc.length = 64 := by unfold Da.enc; rw [encW_len, words_len d h]
theorem enc_byt (d : Da) (h : d.ok) : Byt d.enc := encW_byt _ (words_u d h)

theorem word_at (d : Da) (h : d.ok) (i : Nat) (hi : i < 16) : r4 (d.enc.drop (i * 4)) = d.words.getD i 0 := by
  have := readW_encW d.words (words_u d h)
  rw [words_len d h] at this
  have e : (readW d.enc 16).getD i 0 = d.words.getD i 0 := by rw [show readW d.enc 16 = d.words from this]
  rw [← e]
  simp [readW, hi]

theorem word_lo (d : Da) (h : d.ok) (k : Nat) (hk : k < 6) : d.words.getD (4 + 2 * k) 0 = lo (d.g.getD k 0) := by
  obtain ⟨n, a, p, g⟩ := d
  obtain ⟨_, _, _, hg, _⟩ := h
  obtain ⟨x0, x1, x2, x3, x4, x5, rfl⟩ := six hg
  match k, hk with
  | 0, _ => rfl
  | 1, _ => rfl
  | 2, _ => rfl
  | 3, _ => rfl
  | 4, _ => rfl
  | 5, _ => rfl

theorem word_hi (d : Da) (h : d.ok) (k : Nat) (hk : k < 6) : d.words.getD (4 + 2 * k + 1) 0 = hi (d.g.getD k 0) := by
  obtain ⟨n, a, p, g⟩ := d
  obtain ⟨_, _, _, hg, _⟩ := h
  obtain ⟨x0, x1, x2, x3, x4, x5, rfl⟩ := six hg
  match k, hk with
  | 0, _ => rfl
  | 1, _ => rfl
  | 2, _ => rfl
  | 3, _ => rfl
  | 4, _ => rfl
  | 5, _ => rfl

/-- a number's bytes, by the document. -/
def low (x : Int) : Nat → List Int
  | 0 => []
  | k + 1 => x % 256 :: low (x / 256) k

/-- the number of bytes, by the document. -/
def num : List Int → Int
  | [] => 0
  | x :: r => x + 256 * num r

theorem low_four (x : Int) (h : U32 x) : low x 4 = w4 x := by
  unfold U32 at h
  show [x % 256, x / 256 % 256, x / 256 / 256 % 256, x / 256 / 256 / 256 % 256] = [x % 256, x / 256 % 256, x / 65536 % 256, x / 16777216]
  rw [show x / 256 / 256 = x / 65536 by omega, show x / 65536 / 256 % 256 = x / 16777216 by omega]

theorem low_eight (x : Int) (h : U64 x) : low x 8 = w4 (lo x) ++ w4 (hi x) := by
  unfold U64 at h
  show [x % 256, x / 256 % 256, x / 256 / 256 % 256, x / 256 / 256 / 256 % 256, x / 256 / 256 / 256 / 256 % 256, x / 256 / 256 / 256 / 256 / 256 % 256, x / 256 / 256 / 256 / 256 / 256 / 256 % 256, x / 256 / 256 / 256 / 256 / 256 / 256 / 256 % 256]
    = [x % 4294967296 % 256, x % 4294967296 / 256 % 256, x % 4294967296 / 65536 % 256, x % 4294967296 / 16777216, x / 4294967296 % 256, x / 4294967296 / 256 % 256, x / 4294967296 / 65536 % 256, x / 4294967296 / 16777216]
  rw [show x / 256 / 256 / 256 / 256 = x / 4294967296 by omega, show x / 256 / 256 / 256 = x / 16777216 by omega, show x / 256 / 256 = x / 65536 by omega]
  rw [show x % 4294967296 % 256 = x % 256 by omega, show x % 4294967296 / 256 % 256 = x / 256 % 256 by omega, show x % 4294967296 / 65536 % 256 = x / 65536 % 256 by omega, show x % 4294967296 / 16777216 = x / 16777216 % 256 by omega,
    show x / 4294967296 / 256 / 256 = x / 4294967296 / 65536 by omega, show x / 4294967296 / 65536 / 256 % 256 = x / 4294967296 / 16777216 by omega]

theorem low_len (x : Int) (k : Nat) : (low x k).length = k := by
  induction k generalizing x with
  | zero => rfl
  | succ k ih => simp [low, ih]

theorem low_byt (x : Int) (k : Nat) : Byt (low x k) := by
  induction k generalizing x with
  | zero => intro z hz; cases hz
  | succ k ih =>
    intro z hz
    rcases List.mem_cons.1 hz with rfl | hz
    · omega
    · exact ih _ z hz

/-- what is left of a number when bytes were taken off. -/
def cutN (x : Int) : Nat → Int
  | 0 => x
  | k + 1 => cutN x k / 256

theorem cutN_shift (x : Int) (k : Nat) : cutN (x / 256) k = cutN x (k + 1) := by
  induction k with
  | zero => rfl
  | succ k ih => show cutN (x / 256) k / 256 = cutN x (k + 1) / 256; rw [ih]

theorem low_snoc (x : Int) (k : Nat) : low x (k + 1) = low x k ++ [cutN x k % 256] := by
  induction k generalizing x with
  | zero => rfl
  | succ k ih =>
    show x % 256 :: low (x / 256) (k + 1) = x % 256 :: (low (x / 256) k ++ [cutN x (k + 1) % 256])
    rw [ih, cutN_shift]

theorem cutN_u (x : Int) (h : U64 x) (k : Nat) : U64 (cutN x k) := by
  induction k with
  | zero => exact h
  | succ k ih => unfold U64 at *; show 0 ≤ cutN x k / 256 ∧ cutN x k / 256 ≤ _; omega

/-- the document's bytes of a call's first arguments. -/
def lowG (g : List Int) : List Int := g.flatMap (fun x => low x 8)

theorem lowG_take (g : List Int) (k : Nat) (hk : k < g.length) : lowG (g.take (k + 1)) = lowG (g.take k) ++ low (g.getD k 0) 8 := by
  rw [List.take_add_one, List.getElem?_eq_getElem hk, List.getD_eq_getElem?_getD, List.getElem?_eq_getElem hk]
  unfold lowG
  rw [List.flatMap_append]
  congr 1

theorem lowG_len (g : List Int) : (lowG g).length = g.length * 8 := by
  induction g with
  | nil => rfl
  | cons x l ih =>
    show (low x 8 ++ lowG l).length = _
    rw [List.length_append, ih, List.length_cons, low_len]; omega

theorem ref_enc (d : Da) (h : d.ok) : low d.n 4 ++ low d.a 4 ++ low d.p 8 ++ lowG d.g = d.enc := by
  rw [low_four _ h.1, low_four _ h.2.1, low_eight _ h.2.2.1]
  have : ∀ g : List Int, (∀ z ∈ g, U64 z) → lowG g = encW (g.flatMap (fun x => [lo x, hi x])) := by
    intro g
    induction g with
    | nil => intro _; rfl
    | cons x l ih =>
      intro h
      show low x 8 ++ lowG l = encW (lo x :: hi x :: l.flatMap (fun x => [lo x, hi x]))
      rw [low_eight x (h x (by simp)), ih (fun z hz => h z (by simp [hz])), encW_cons, encW_cons, List.append_assoc]
  rw [this _ h.2.2.2.2]
  simp only [Da.enc, Da.words, encW_cons, List.append_assoc]

theorem num_four (l : List Int) (h4 : 4 ≤ l.length) : num (l.take 4) = r4 l := by
  match l, h4 with
  | a :: b :: c :: d :: r, _ =>
    show a + 256 * (b + 256 * (c + 256 * (d + 256 * 0))) = a + 256 * b + 65536 * c + 16777216 * d
    omega

theorem num_eight (l : List Int) (h8 : 8 ≤ l.length) : num (l.take 8) = both (r4 l) (r4 (l.drop 4)) := by
  match l, h8 with
  | a :: b :: c :: d :: e :: f :: g :: i :: r, _ =>
    show a + 256 * (b + 256 * (c + 256 * (d + 256 * (e + 256 * (f + 256 * (g + 256 * (i + 256 * 0))))))) = (a + 256 * b + 65536 * c + 16777216 * d) + 4294967296 * (e + 256 * f + 65536 * g + 16777216 * i)
    omega

theorem num_nn (l : List Int) (h : Byt l) : 0 ≤ num l := by
  induction l with
  | nil => exact Int.le_refl _
  | cons x l ih =>
    have h1 := ih (fun z hz => h z (by simp [hz]))
    have h2 := h x (by simp)
    show 0 ≤ x + 256 * num l
    omega

theorem num_lt (l : List Int) (h : Byt l) (k : Nat) (hk : l.length ≤ k) : num l < 256 ^ k := by
  induction l generalizing k with
  | nil => show (0 : Int) < _; exact Int.pow_pos (by decide)
  | cons x l ih =>
    match k, hk with
    | k + 1, hk =>
      have h1 := ih (fun z hz => h z (by simp [hz])) k (by simpa using hk)
      have h2 := h x (by simp)
      show x + 256 * num l < 256 ^ (k + 1)
      rw [Int.pow_succ]
      omega

theorem num_u (l : List Int) (h : Byt l) (hl : l.length ≤ 8) : U64 (num l) := by
  have := num_lt l h 8 hl
  exact ⟨num_nn l h, by omega⟩

theorem num_drop (l : List Int) (k : Nat) (hk : k < l.length) : num (l.drop k) = l.getD k 0 + 256 * num (l.drop (k + 1)) := by
  rw [List.drop_eq_getElem_cons hk, List.getD_eq_getElem?_getD, List.getElem?_eq_getElem hk]
  rfl

end Go.Proofs.YtcckipimfgmmdaaGreatDoor.V

namespace Go.Proofs.YtcckipimfgmmdaaGreatDoor.V
open Go.RowKit

theorem Tryz.info5 : (Tryz.prog.info? 5).map (fun i => (i.zero, i.size, i.bytes)) = some (some (.int .u8 0), 1, 1) := by kernel_rfl

/-- the bytes that a slice leads to. -/
def Bs (w : World) (a : Option Addr) (len : Nat) (l : List Int) : Prop :=
  l.length = len ∧ Byt l ∧
  (0 < len → ∃ b off, a = some ⟨b, off, none⟩ ∧ ∀ i, i < len → w.cell? ⟨b, off + i, none⟩ = some (.int .u8 (l.getD i 0)))

/-- bytes as cells. -/
def cellsB (l : List Int) : List Value := l.map (Value.int .u8)

theorem cellsB_app (l m : List Int) : cellsB (l ++ m) = cellsB l ++ cellsB m := by simp [cellsB]

theorem owns_bs {w : World} {base : Nat} {v : Value} {n : Nat} {l : List Int} (h : w.ownsRow base 5 1 v n (cellsB l)) (hl : Byt l) : ∃ a cap, v = .slice a n cap ∧ Bs w a n l ∧ n ≤ cap ∧ (a = none → cap = 0) := by
  have hlen : l.length = n := by have := h.1; simpa [cellsB] using this
  rcases h.2 with ⟨rfl, rfl⟩ | ⟨g, cap, cur, rfl, hb, hg, hnc, hcm, hcs, htake⟩
  · exact ⟨none, 0, rfl, ⟨hlen, hl, fun h => absurd h (by omega)⟩, by omega, fun _ => rfl⟩
  · refine ⟨_, cap, rfl, ⟨hlen, hl, fun _ => ⟨g, 0, rfl, fun i hi => ?_⟩⟩, hnc, by simp⟩
    have := h.cells (g := g) rfl i (.int .u8 (l.getD i 0)) (by simp [cellsB, List.getElem?_eq_getElem (show i < l.length from by omega)])
    rw [show (⟨g, 0 + i, none⟩ : Addr) = (⟨g, 0, none⟩ : Addr).add i from by unfold Addr.add; split <;> simp_all]
    exact this

theorem Bs.news {w : World} {x : Addr} {len : Nat} {l : List Int} (h : Bs w (some x) len l) : ∀ j u, (cellsB l)[j]? = some u → w.cell? (x.add j) = some u := by
  intro j u hu
  have hj : j < l.length := by
    have := (List.getElem?_eq_some_iff.1 hu).1
    simpa [cellsB] using this
  obtain ⟨b, off, e, hc⟩ := h.2.2 (by have := h.1; omega)
  cases e
  have := hc j (by have := h.1; omega)
  rw [show (⟨b, off + j, none⟩ : Addr) = (⟨b, off, none⟩ : Addr).add j from by unfold Addr.add; split <;> simp_all] at this
  rw [this]
  simp [cellsB, List.getElem?_eq_getElem hj] at hu ⊢
  exact hu

theorem Bs.nil {w : World} {len : Nat} {l : List Int} (h : Bs w none len l) : len = 0 ∧ l = [] := by
  have h0 : len = 0 := by
    rcases Nat.eq_zero_or_pos len with e | e
    · exact e
    · obtain ⟨_, _, e, _⟩ := h.2.2 e
      cases e
  exact ⟨h0, List.eq_nil_of_length_eq_zero (by rw [h.1, h0])⟩

theorem Bs.below {w w' : World} {a : Option Addr} {len : Nat} {l : List Int} (h : Bs w a len l) (hb : Below w.heap.size w w') : Bs w' a len l := by
  refine ⟨h.1, h.2.1, fun h0 => ?_⟩
  obtain ⟨b, off, ha, hc⟩ := h.2.2 h0
  refine ⟨b, off, ha, fun i hi => ?_⟩
  rw [hb.cell (p := ⟨b, off + i, none⟩) (World.block_lt_of_cell? w _ (hc i hi))]
  exact hc i hi

theorem append_bytes {w : World} {ops : Array Oper} {rest : List Oper} {o : Oper} {a : Act} {Q : Exit → Act → World → Prop} (hgd : o.guard = none) (s x : Operand)
    (ho : o.op = .call { callee := .builtin .append, args := #[s, x], argTypes := #[62, 62] })
    (base : Nat) (v : Value) (n : Nat) (l : List Int) (hs : a.eval s = v) (hown : w.ownsRow base 5 1 v n (cellsB l))
    (ao : Option Addr) (m c : Nat) (k : List Int) (hx : a.eval x = .slice ao m c) (hao : ao = none → c = 0) (hb : Bs w ao m k)
    (hn : n + m ≤ 1000000000) (hbase : base ≤ w.heap.size)
    (h : ∀ v' w', w'.ownsRow base 5 1 v' (n + m) (cellsB (l ++ k)) → w.grownBy w' v.ownBlock → wpList Tryz.prog ops Q rest (a.put o.dst v') w') : wpList Tryz.prog ops Q (o :: rest) a w := by
  obtain ⟨i0, hi, hz0, hz1, hz2⟩ := info_parts Tryz.info5
  cases ao with
  | none =>
    obtain ⟨rfl, rfl⟩ := hb.nil
    obtain rfl := hao rfl
    refine wpList_append_own_none hgd s x 62 ho base 5 i0 1 Tryz.underlying62 hi v n (cellsB l) hs hown hx ?_
    exact h v w (by simpa using hown) (grow_refl _ _)
  | some ad =>
    refine wpList_append_own _ hgd s x 62 ho base 5 i0 (.int .u8 0) 1 1 Tryz.underlying62 hi hz0 hz1 hz2 rfl (by decide) v n (cellsB l) hs hown ad m c (cellsB k) hx (by simp [cellsB, hb.1]) hb.news (by intro u hu; simp [cellsB] at hu; obtain ⟨z, _, rfl⟩ := hu; rfl) (by unfold maxLen; omega) (by omega) hbase ?_
    intro v' w' h1 h2 _
    exact h v' w' (by rw [cellsB_app]; exact h1) h2

/-- a row of four bytes, just made. -/
theorem bs_four (w : World) (p q r s : Int) (h : Byt [p, q, r, s]) : Bs (w.alloc (.cells #[.int .u8 p, .int .u8 q, .int .u8 r, .int .u8 s] 5)) (some ⟨w.heap.size, 0, none⟩) 4 [p, q, r, s] := by
  refine ⟨rfl, h, fun _ => ⟨_, _, rfl, fun i hi => ?_⟩⟩
  match i, hi with
  | 0, _ => simp
  | 1, _ => simp
  | 2, _ => simp
  | 3, _ => simp

theorem Bs.sub {w : World} {b off len : Nat} {l : List Int} (h : Bs w (some ⟨b, off, none⟩) len l) (i m : Nat) (hm : i + m ≤ len) : Bs w (some ⟨b, off + i, none⟩) m ((l.drop i).take m) := by
  refine ⟨by rw [List.length_take, List.length_drop, h.1]; omega, fun z hz => h.2.1 z (List.mem_of_mem_drop (List.mem_of_mem_take hz)), fun h0 => ⟨b, off + i, rfl, fun j hj => ?_⟩⟩
  obtain ⟨_, _, e, hc⟩ := h.2.2 (by omega)
  cases e
  rw [Nat.add_assoc, hc (i + j) (by omega)]
  simp [hj]


theorem own_lt {w : World} {base sz : Nat} {t : TypeId} {v : Value} {n : Nat} {xs : List Value} (h : w.ownsRow base t sz v n xs) : ∀ k, v.ownBlock = some k → k < w.heap.size := by
  intro k hk
  rcases h.2 with ⟨rfl, rfl⟩ | ⟨g, cap, cur, rfl, hb, hh, _⟩
  · cases hk
  · cases hk; exact lt_of_block hh

/-- a block of cells that nobody froze. -/
def Blk (w : World) (b : Nat) (t : TypeId) (l : List Value) : Prop := w.heap[b]? = some (.cells l.toArray t (0, 0))

section
variable {w : World} {b : Nat} {t : TypeId} {l : List Value}
theorem Blk.cell (h : Blk w b t l) (i : Nat) : w.cell? ⟨b, i, none⟩ = l[i]? := by
  rw [cell_of_row w b i _ _ _ h]
  simp
theorem Blk.f (h : Blk w b t l) (i : Nat) : w.frozen? ⟨b, i, none⟩ = false := frozen_of_row w b i _ _ h
theorem Blk.lt (h : Blk w b t l) : b < w.heap.size := lt_of_block h
theorem Blk.below {w' : World} {B : Nat} (h : Blk w b t l) (hb : Below B w w') (hB : b < B) : Blk w' b t l := by unfold Blk; rw [hb.block b hB]; exact h
theorem Blk.over {w' : World} (h : Blk w b t l) (hb : Below w.heap.size w w') : Blk w' b t l := h.below hb h.lt
theorem Blk.drew (h : Blk w b t l) : Blk w.drew b t l := h
theorem Blk.set (h : Blk w b t l) (i : Nat) (v : Value) : Blk (w.setCell ⟨b, i, none⟩ v) b t (l.set i v) := by
  have := heap_setCell_same w b i _ _ v h
  unfold Blk
  rw [this]
  simp
theorem Blk.other (h : Blk w b t l) (a : Addr) (v : Value) (hne : b ≠ a.block) : Blk (w.setCell a v) b t l := by
  unfold Blk
  rw [heap_setCell_other w a b v hne]
  exact h
theorem Blk.row (h : Blk w b t l) (cs : Array Value) : Blk (w.setRow b cs) b t cs.toList := by
  unfold Blk
  rw [setRow_heap w b _ cs _ _ h]
theorem Blk.row_other (h : Blk w b t l) (g : Nat) (cs : Array Value) (hne : b ≠ g) : Blk (w.setRow g cs) b t l := by
  unfold Blk
  rw [setRow_other w g b cs hne]
  exact h
theorem Blk.alloc (h : Blk w b t l) (o : Obj) : Blk (w.alloc o) b t l := by
  unfold Blk
  have hb : Below w.heap.size w (w.alloc o) := (Below.refl _ _).alloc (Nat.le_refl _) _
  rw [hb.block b h.lt]
  exact h
end

theorem blk_new (w : World) (cs : Array Value) (t : TypeId) : Blk (w.alloc (Obj.cells cs t)) w.heap.size t cs.toList := by
  unfold Blk
  rw [heap_alloc_new]

theorem blk_new' (w : World) (o : Obj) (cs : Array Value) (t : TypeId) : Blk ((w.alloc o).alloc (Obj.cells cs t)) (w.heap.size + 1) t cs.toList := by
  have := blk_new (w.alloc o) cs t
  rw [size_alloc'] at this
  exact this

/-- a whole block, loaded and stored. -/
theorem Blk.loads {w : World} {b : Nat} {t : TypeId} {l : List Value} (h : Blk w b t l) (n : Nat) (hn : l.length = n) : (loadCellsFrom ⟨b, 0, none⟩ 0 n #[]).run Tryz.prog w = .ok l.toArray w := by
  subst hn
  have := run_loadCells_list (P := Tryz.prog) w ⟨b, 0, none⟩ l (fun j v hv => by
    rw [show (⟨b, 0, none⟩ : Addr).add j = ⟨b, j, none⟩ from by unfold Addr.add; split <;> simp_all, h.cell j]
    exact hv)
  simpa [loadCells] using this
theorem Blk.stores {w : World} {b : Nat} {t : TypeId} {l : List Value} (h : Blk w b t l) (R : Array Value) (hs : R.size = l.length) (h1 : R.all (·.oneCell') = true) : (storeCells ⟨b, 0, none⟩ R.toList 0).run Tryz.prog w = .ok () (w.setRow b R) := by
  have := run_storeCells_from (P := Tryz.prog) b t R.toList 0 l.toArray w h (by simp [hs]) (fun v hv => (Array.all_eq_true_iff_forall_mem.1 h1) v (by simpa using hv))
  simpa using this

/-- an item of an array by value. -/
theorem index_row (t e : TypeId) (n : Nat) (ik k : IntKind) (ht : Tryz.prog.underlying t = some (.array n e)) (he : Tryz.prog.underlying e = some (.int k)) (hsz : ∀ w, (sizeOf e).run Tryz.prog w = .ok 1 w)
    (A : Array Value) (i : Nat) (x : Int) (hi : i < n) (hA : A[i]? = some (.int k x)) (W : World) : (Instr.index t (.agg A) (.int ik i)).run Tryz.prog W = .ok (.int k x) W := by
  have hc : (0 : Int) ≤ (i : Int) ∧ (i : Int) < (n : Int) := by omega
  simp [Instr.index, asIntOf, run_underlying ht, hsz, part, isAgg, run_underlying he, hc, hA]
  intro h
  omega

/-- a call as cells, and as a value. -/
def Da.cells (d : Da) : List Value := .int .u32 d.n :: .int .u32 d.a :: .int .u64 d.p :: d.g.map (Value.int .u64)
def Da.val (d : Da) : Value := .agg d.cells.toArray

/-- words as cells, and as a value. -/
def cellsW (ws : List Int) : List Value := ws.map (Value.int .u32)
def valW (ws : List Int) : Value := .agg (cellsW ws).toArray

theorem Tryz.size27 : (Tryz.prog.info? 27).map (·.size) = some 9 := by kernel_rfl
theorem Tryz.size228 : (Tryz.prog.info? 228).map (·.size) = some 16 := by kernel_rfl

theorem cellsW_len (ws : List Int) : (cellsW ws).length = ws.length := by simp [cellsW]
theorem cellsW_get (ws : List Int) (i : Nat) (h : i < ws.length) : (cellsW ws)[i]? = some (.int .u32 (ws.getD i 0)) := by
  simp [cellsW, List.getElem?_eq_getElem h]
theorem cellsW_one (ws : List Int) : (cellsW ws).toArray.all (·.oneCell') = true := by
  simp [cellsW, Value.oneCell']

theorem Da.cells_len (d : Da) (h : d.ok) : d.cells.length = 9 := by simp [Da.cells, h.2.2.2.1]
theorem Da.cells_one (d : Da) : d.cells.toArray.all (·.oneCell') = true := by
  simp [Da.cells, Value.oneCell']

end Go.Proofs.YtcckipimfgmmdaaGreatDoor.V

namespace Go.Proofs.YtcckipimfgmmdaaGreatDoor.V
open Go.RowKit

theorem halves_any (n : Int) (w : World) (h : U64 n) :
    Calls Tryz.prog 176 #[.int .u64 n] w fun e w' => e = .returned (.tuple #[.int .u32 (lo n), .int .u32 (hi n)]) ∧ w' = w := by
  have HH : Hid (n / 4294967296 % 4294967296 = hi n) := by
    unfold Hid hi
    unfold U64 at h
    omega
  clear h
  go_enter Tryz.func176, Tryz.ntmps176
  go_wp2
  go_ret2
  rw [HH.out]
  exact ⟨rfl, rfl⟩

end Go.Proofs.YtcckipimfgmmdaaGreatDoor.V

namespace Go.Proofs.YtcckipimfgmmdaaGreatDoor.V
open Go.RowKit

/-- the words that are laid so far. -/
def wordsTo (ws : List Int) (k : Nat) : List Int := ws.take (4 + 2 * k) ++ List.replicate (12 - 2 * k) 0

theorem wordsTo_all (ws : List Int) (h : ws.length = 16) : wordsTo ws 6 = ws := by
  unfold wordsTo
  rw [List.take_of_length_le (by omega)]
  simp

theorem wordsTo_set (n a p : Int) (g : List Int) (hg : g.length = 6) (k : Nat) (hk : k < 6) :
    ((cellsW (wordsTo (Da.mk n a p g).words k)).set (4 + 2 * k) (.int .u32 (lo (g.getD k 0)))).set (4 + 2 * k + 1) (.int .u32 (hi (g.getD k 0))) = cellsW (wordsTo (Da.mk n a p g).words (k + 1)) := by
  obtain ⟨x0, x1, x2, x3, x4, x5, rfl⟩ := six hg
  match k, hk with
  | 0, _ => rfl
  | 1, _ => rfl
  | 2, _ => rfl
  | 3, _ => rfl
  | 4, _ => rfl
  | 5, _ => rfl

set_option maxHeartbeats 800000 in
theorem split_any (d : Da) (w : World) (hd : d.ok) :
    Calls Tryz.prog 157 #[d.val] w fun e w' => e = .returned (valW d.words) ∧ Below w.heap.size w w' := by
  have HH : Hid (∀ (n : Int) (W : World), U64 n → Calls Tryz.prog 176 #[.int .u64 n] W fun e w' => e = .returned (.tuple #[.int .u32 (lo n), .int .u32 (hi n)]) ∧ w' = W) := fun n W h => halves_any n W h
  have HP : Hid (U64 d.p) := hd.2.2.1
  have HG : Hid (∀ z ∈ d.g, U64 z) := hd.2.2.2.2
  obtain ⟨n, a, p, g⟩ := d
  have hl := hd.2.2.2.1
  obtain ⟨x0, x1, x2, x3, x4, x5, rfl⟩ := six hl
  clear hd hl
  unfold Da.val Da.cells at *
  simp only [List.map_cons, List.map_nil] at *
  go_enter Tryz.func157, Tryz.ntmps157
  go_wp2_with (go_at_call 176; refine (HH.out _ _ HP.out).mono ?_; rintro e w2 ⟨rfl, rfl⟩)
  have B0 : Hid (∀ o1 o2 o3 : Obj, Below w.heap.size w (((w.alloc o1).alloc o2).alloc o3)) := fun o1 o2 o3 => (((Below.refl _ _).alloc (Nat.le_refl _) _).alloc (by rw [size_alloc']; omega) _).alloc (by rw [size_alloc', size_alloc']; omega) _
  go_loopw [22] (fun i wr => ∃ k : Nat, k ≤ 6 ∧ i = .int .i64 k ∧ Blk wr (w.heap.size + 1 + 1) 228 (cellsW (wordsTo (Da.mk n a p [x0, x1, x2, x3, x4, x5]).words k)) ∧ Blk wr (w.heap.size + 1) 228 (List.replicate 16 (.int .u32 0)) ∧ Below w.heap.size w wr) (fun i _ => 6 - (intOf i).toNat)
  case atStart =>
    refine ⟨0, by decide, rfl, ?_, ?_, B0.out _ _ _⟩
    · have := blk_new (((w.alloc (Obj.cells #[.int .u32 n, .int .u32 a, .int .u64 p, .int .u64 x0, .int .u64 x1, .int .u64 x2, .int .u64 x3, .int .u64 x4, .int .u64 x5] 27)).alloc (Obj.cells (List.replicate 16 (Value.int .u32 0)).toArray 228))) (cellsW (wordsTo (Da.mk n a p [x0, x1, x2, x3, x4, x5]).words 0)).toArray 228
      rw [size_alloc', size_alloc'] at this
      exact this
    · have := blk_new' w (Obj.cells #[.int .u32 n, .int .u32 a, .int .u64 p, .int .u64 x0, .int .u64 x1, .int .u64 x2, .int .u64 x3, .int .u64 x4, .int .u64 x5] 27) (List.replicate 16 (Value.int .u32 0)).toArray 228
      exact this.alloc _
  case round =>
    obtain ⟨k, hk, rfl, hb, hz, hbr⟩ := hrel
    by_cases hlt : k < 6
    · have HS : Hid (((cellsW (wordsTo (Da.mk n a p [x0, x1, x2, x3, x4, x5]).words k)).set (4 + 2 * k) (.int .u32 (lo ([x0, x1, x2, x3, x4, x5].getD k 0)))).set (4 + 2 * k + 1) (.int .u32 (hi ([x0, x1, x2, x3, x4, x5].getD k 0))) = cellsW (wordsTo (Da.mk n a p [x0, x1, x2, x3, x4, x5]).words (k + 1))) := wordsTo_set n a p _ rfl k hlt
      have HU : Hid (U64 ([x0, x1, x2, x3, x4, x5].getD k 0)) := by
        unfold Hid
        rw [List.getD_eq_getElem?_getD, List.getElem?_eq_getElem (show k < [x0, x1, x2, x3, x4, x5].length from hlt)]
        exact HG.out _ (List.getElem_mem (show k < [x0, x1, x2, x3, x4, x5].length from hlt))
      have hA : (#[.int .u64 x0, .int .u64 x1, .int .u64 x2, .int .u64 x3, .int .u64 x4, .int .u64 x5] : Array Value)[k]? = some (.int .u64 ([x0, x1, x2, x3, x4, x5].getD k 0)) := by
        match k, hlt with
        | 0, _ => rfl
        | 1, _ => rfl
        | 2, _ => rfl
        | 3, _ => rfl
        | 4, _ => rfl
        | 5, _ => rfl
      have hlen : (cellsW (wordsTo (Da.mk n a p [x0, x1, x2, x3, x4, x5]).words k)).length = 16 := by
        match k, hlt with
        | 0, _ => rfl
        | 1, _ => rfl
        | 2, _ => rfl
        | 3, _ => rfl
        | 4, _ => rfl
        | 5, _ => rfl
      generalize cellsW (wordsTo (Da.mk n a p [x0, x1, x2, x3, x4, x5]).words k) = L at *
      have hc1 := hb.cell (4 + 2 * k)
      rw [List.getElem?_eq_getElem (by omega)] at hc1
      have hc2 := hb.cell (4 + 2 * k + 1)
      rw [List.getElem?_eq_getElem (by omega)] at hc2
      have f1 := hb.f (4 + 2 * k)
      have f2 := hb.f (4 + 2 * k + 1)
      generalize L[4 + 2 * k]'_ = v1 at *
      generalize L[4 + 2 * k + 1]'_ = v2 at *
      have HB : Hid (Blk wr (w.heap.size + 1 + 1) 228 L) := hb
      have HZ : Hid (Blk wr (w.heap.size + 1) 228 (List.replicate 16 (Value.int IntKind.u32 0))) := hz
      clear hb hz hlen
      generalize [x0, x1, x2, x3, x4, x5].getD k 0 = z at *
      have hix : ∀ W : World, (Instr.index 25 (.agg #[.int .u64 x0, .int .u64 x1, .int .u64 x2, .int .u64 x3, .int .u64 x4, .int .u64 x5]) (.int .i64 k)).run Tryz.prog W = .ok (.int .u64 z) W := fun W => index_row 25 24 6 .i64 .u64 Tryz.underlying25 Tryz.underlying24 Tryz.sizeOf24 _ k z hlt hA W
      clear hA
      generalize (#[.int .u64 x0, .int .u64 x1, .int .u64 x2, .int .u64 x3, .int .u64 x4, .int .u64 x5] : Array Value) = A at *
      go_wp2_with (go_at_call 176; refine (HH.out _ _ HU.out).mono ?_; rintro e w2 ⟨rfl, rfl⟩)
      go_roundw
      case rel =>
        refine ⟨k + 1, by omega, by go_num, ?_, ?_, ?_⟩
        · rw [← HS.out]
          exact (HB.out.set _ _).set _ _
        · exact (HZ.out.other _ _ (by show w.heap.size + 1 ≠ w.heap.size + 1 + 1; omega)).other _ _ (by show w.heap.size + 1 ≠ w.heap.size + 1 + 1; omega)
        · exact (hbr.setCell (by show w.heap.size ≤ w.heap.size + 1 + 1; omega) _).setCell (by show w.heap.size ≤ w.heap.size + 1 + 1; omega) _
      case measure => simp [intOf]; omega
    · have hk6 : ¬ (k : Int) < 6 := by omega
      have hw : wordsTo (Da.mk n a p [x0, x1, x2, x3, x4, x5]).words k = (Da.mk n a p [x0, x1, x2, x3, x4, x5]).words := by
        obtain rfl : k = 6 := by omega
        exact wordsTo_all _ rfl
      rw [hw] at hb
      clear hw hlt hk
      obtain ⟨R, hR⟩ : ∃ R, R = cellsW (Da.mk n a p [x0, x1, x2, x3, x4, x5]).words := ⟨_, rfl⟩
      have h1 : R.toArray.all (·.oneCell') = true := by rw [hR]; exact cellsW_one _
      have hl : R.length = 16 := by rw [hR]; rfl
      have HV : Hid (valW (Da.mk n a p [x0, x1, x2, x3, x4, x5]).words = .agg R.toArray) := by rw [hR]; exact rfl
      rw [← hR] at hb
      clear hR
      have HB : Hid (Blk (wr.setRow (w.heap.size + 1) R.toArray) (w.heap.size + 1) 228 R) := hz.row R.toArray
      have HC : Hid (Below w.heap.size w (wr.setRow (w.heap.size + 1) R.toArray)) := below_setRow hbr (show w.heap.size ≤ w.heap.size + 1 by omega) R.toArray
      have HZ : Hid ((Tryz.prog.info? 228).map (·.size) = some R.toArray.size) := by unfold Hid; rw [Tryz.size228]; simp [hl]
      have HS : Hid ((List.replicate 16 (Value.int .u32 0)).toArray.size = R.toArray.size) := by unfold Hid; simp [hl]
      have hB1 : Hid (Blk wr (w.heap.size + 1 + 1) 228 R) := hb
      have hB2 : Hid (Blk wr (w.heap.size + 1) 228 (List.replicate 16 (.int .u32 0))) := hz
      have H1 : Hid (R.toArray.all (·.oneCell') = true) := h1
      clear hb hz h1 hl hbr
      go_wp2_with (first | (refine wpList_load_row rfl 228 (.tmp 3) rfl (w.heap.size + 1 + 1) rfl 228 R.toArray (0, 0) (.array 16 23) hB1.out Tryz.underlying228 rfl HZ.out ?_) | (refine wpList_store_row rfl 228 (.tmp 2) (.tmp 40) rfl (w.heap.size + 1) R.toArray rfl rfl 228 _ hB2.out HZ.out HS.out H1.out ?_; generalize wr.setRow (w.heap.size + 1) R.toArray = X at *))
      rw [HV.out]
      refine bodyPost_ret (v := .agg R.toArray) ?_ rfl ⟨rfl, HC.out⟩
      exact results_cell_row Tryz.results157 _ _ (w.heap.size + 1) 228 R.toArray (0, 0) (.array 16 23) rfl HB.out Tryz.underlying228 rfl HZ.out

end Go.Proofs.YtcckipimfgmmdaaGreatDoor.V

namespace Go.Proofs.YtcckipimfgmmdaaGreatDoor.V
open Go.RowKit

theorem valW_get (ws : List Int) (k : Nat) (hk : k < ws.length) : (cellsW ws).toArray[k]? = some (.int .u32 (ws.getD k 0)) := by
  rw [List.getElem?_toArray]
  exact cellsW_get ws k hk

end Go.Proofs.YtcckipimfgmmdaaGreatDoor.V

namespace Go.Proofs.YtcckipimfgmmdaaGreatDoor.V
open Go.RowKit

/-- the word of a call at a place, and what is wrong with the place. -/
def ldv (d : Da) (m : Int) : Int := if m % 4 = 0 ∧ m < 64 then d.words.getD (m / 4).toNat 0 else 0
def lde (m : Int) : Int := if m % 4 = 0 ∧ m < 64 then 0 else 12

theorem ld_in (d : Da) (j : Nat) (hj : j < 16) : ldv d ((4 * j : Nat) : Int) = d.words.getD j 0 ∧ lde ((4 * j : Nat) : Int) = 0 := by
  have h : ((4 * j : Nat) : Int) % 4 = 0 ∧ ((4 * j : Nat) : Int) < 64 := by omega
  unfold ldv lde
  rw [if_pos h, if_pos h, show (((4 * j : Nat) : Int) / 4).toNat = j by omega]
  exact ⟨rfl, rfl⟩
theorem ld_out (d : Da) (m : Int) (h : ¬ (m % 4 = 0 ∧ m < 64)) : ldv d m = 0 ∧ lde m = 12 := by
  unfold ldv lde
  rw [if_neg h, if_neg h]
  exact ⟨rfl, rfl⟩

set_option maxHeartbeats 400000 in
theorem load_any (d : Da) (m : Int) (w : World) (hd : d.ok) (hm : U32 m) :
    Calls Tryz.prog 132 #[d.val, .int .u32 m] w fun e w' => e = .returned (.tuple #[.int .u32 (ldv d m), .int .i64 (lde m)]) ∧ Below w.heap.size w w' := by
  have hk2 : Hid (Below w.heap.size w (w.alloc (Obj.cells d.cells.toArray 27))) := (Below.refl _ _).alloc (Nat.le_refl _) _
  by_cases hc : m % 4 = 0 ∧ m < 64
  · have HL : Hid (d.words.length = 16) := words_len d hd
    have HC : Hid ((Tryz.prog.info? 27).map (·.size) = some d.cells.toArray.size) := by unfold Hid; rw [Tryz.size27]; simp [d.cells_len hd]
    have HG : Hid (∀ k, k < 16 → (cellsW d.words).toArray[k]? = some (.int .u32 (d.words.getD k 0))) := fun k hk => valW_get _ k (by rw [HL.out]; exact hk)
    have HS : Hid (∀ W : World, Calls Tryz.prog 157 #[.agg d.cells.toArray] W fun e w' => e = .returned (.agg (cellsW d.words).toArray) ∧ Below W.heap.size W w') := fun W => split_any d W hd
    obtain ⟨h0, h1⟩ := hm
    obtain ⟨j, hj, rfl⟩ : ∃ j : Nat, j < 16 ∧ m = ((4 * j : Nat) : Int) := ⟨(m / 4).toNat, by omega, by omega⟩
    obtain ⟨e1, e2⟩ := ld_in d j hj
    rw [e1, e2]
    have hix : ∀ W : World, (Instr.index 228 (.agg (cellsW d.words).toArray) (.int .u32 j)).run Tryz.prog W = .ok (.int .u32 (d.words.getD j 0)) W := fun W => index_row 228 23 16 .u32 .u32 Tryz.underlying228 Tryz.underlying23 Tryz.sizeOf23 _ j _ hj (HG.out j hj) W
    have hr : Int.tmod ((4 * j : Nat) : Int) 4 = 0 := by rw [Int.tmod_eq_emod_of_nonneg (by omega)]; omega
    have hq : Int.tdiv ((4 * j : Nat) : Int) 4 = (j : Int) := by rw [Int.tdiv_eq_ediv_of_nonneg (by omega)]; omega
    have hlt : ¬ (64 : Int) ≤ ((4 * j : Nat) : Int) := by omega
    have hB : Hid (Blk (w.alloc (Obj.cells d.cells.toArray 27)) w.heap.size 27 d.cells.toArray.toList) := blk_new w _ 27
    clear e1 e2 hc h0 h1 hd HL HG
    unfold Da.val
    generalize d.words.getD j 0 = x at *
    generalize d.cells.toArray = A at *
    generalize (cellsW d.words).toArray = R at *
    generalize hM : ((4 * j : Nat) : Int) = M at *
    clear hM
    go_enter Tryz.func132, Tryz.ntmps132
    go_wp2_with (first | (refine wpList_load_row rfl 27 (.tmp 2) rfl w.heap.size rfl 27 A (0, 0) _ hB.out Tryz.underlying27 rfl HC.out ?_) | (go_at_call 157; refine (HS.out _).mono ?_; rintro e w2 ⟨rfl, hb2⟩))
    go_ret2
    exact ⟨rfl, hk2.out.trans (hb2.mono hk2.out.size)⟩
  · obtain ⟨e1, e2⟩ := ld_out d m hc
    rw [e1, e2]
    obtain ⟨h0, h1⟩ := hm
    clear e1 e2 hd
    unfold Da.val
    generalize d.cells.toArray = A at *
    by_cases h4 : m % 4 = 0
    · have hr : Int.tmod m 4 = 0 := by rw [Int.tmod_eq_emod_of_nonneg (by omega)]; omega
      have hlt : (64 : Int) ≤ m := by omega
      clear hc h4 h0 h1
      go_enter Tryz.func132, Tryz.ntmps132
      go_wp2
      go_ret2
      exact ⟨rfl, hk2.out⟩
    · have hr : ¬ Int.tmod m 4 = 0 := by rw [Int.tmod_eq_emod_of_nonneg (by omega)]; omega
      clear hc h4 h0 h1
      go_enter Tryz.func132, Tryz.ntmps132
      go_wp2
      go_ret2
      exact ⟨rfl, hk2.out⟩

end Go.Proofs.YtcckipimfgmmdaaGreatDoor.V

