/-
  Calls, their words and their bytes, as plain numbers: they undo one another.
-/
import Derived.Test.YtljceoojbppaeaaRows
namespace Go.Proofs.Ytljceoojbppaeaa.D

/-- numbers of four bytes, and of eight. -/
def U32 (x : Int) : Prop := 0 ≤ x ∧ x ≤ 4294967295
def U64 (x : Int) : Prop := 0 ≤ x ∧ x ≤ 18446744073709551615

/-- a call: its number, the architecture, where it stands, its arguments. -/
structure Da where
  n : Int
  a : Int
  p : Int
  g : List Int

/-- what a call's fields may be. -/
def Da.ok (d : Da) : Prop := U32 d.n ∧ U32 d.a ∧ U64 d.p ∧ d.g.length = 6 ∧ ∀ z ∈ d.g, U64 z

/-- numbers that are bytes. -/
def Byt (l : List Int) : Prop := ∀ z ∈ l, 0 ≤ z ∧ z ≤ 255

/-- a number's halves, and the number of halves. -/
def lo (x : Int) : Int := x % 4294967296
def hi (x : Int) : Int := x / 4294967296
def both (x y : Int) : Int := x + 4294967296 * y

theorem lo_u (x : Int) : U32 (lo x) := by unfold U32 lo; omega
theorem hi_u (x : Int) (h : U64 x) : U32 (hi x) := by unfold U64 at h; unfold U32 hi; omega
theorem both_u (x y : Int) (hx : U32 x) (hy : U32 y) : U64 (both x y) := by unfold U32 at hx hy; unfold U64 both; omega
theorem both_lohi (x : Int) : both (lo x) (hi x) = x := by unfold both lo hi; omega
theorem lo_both (x y : Int) (hx : U32 x) : lo (both x y) = x := by unfold U32 at hx; unfold lo both; omega
theorem hi_both (x y : Int) (hx : U32 x) : hi (both x y) = y := by unfold U32 at hx; unfold hi both; omega

/-- a call's words. -/
def Da.words (d : Da) : List Int := d.n :: d.a :: lo d.p :: hi d.p :: d.g.flatMap (fun x => [lo x, hi x])

/-- a word's bytes. -/
def w4 (x : Int) : List Int := [x % 256, x / 256 % 256, x / 65536 % 256, x / 16777216]

/-- the bytes of words. -/
def encW (ws : List Int) : List Int := ws.flatMap w4

/-- a call's bytes. -/
def Da.enc (d : Da) : List Int := encW d.words

/-- the word of the first four bytes. -/
def r4 (l : List Int) : Int := l.getD 0 0 + 256 * l.getD 1 0 + 65536 * l.getD 2 0 + 16777216 * l.getD 3 0

/-- the first words of bytes. -/
def readW (l : List Int) (n : Nat) : List Int := (List.range n).map (fun i => r4 (l.drop (i * 4)))

/-- the call of words. -/
def join (ws : List Int) : Da := ⟨ws.getD 0 0, ws.getD 1 0, both (ws.getD 2 0) (ws.getD 3 0), (List.range 6).map (fun i => both (ws.getD (4 + 2 * i) 0) (ws.getD (4 + 2 * i + 1) 0))⟩

/-- no call. -/
def Da.zero : Da := ⟨0, 0, 0, [0, 0, 0, 0, 0, 0]⟩

/-- the call of bytes. -/
def decOf (l : List Int) : Da := if l.length = 64 then join (readW l 16) else Da.zero

/-- what is wrong with bytes that are to be a call. -/
def errOf (n : Nat) : Int := if n < 64 then 2 else if 64 < n then 3 else 0

theorem six {g : List Int} (h : g.length = 6) : ∃ a b c d e f, g = [a, b, c, d, e, f] := by
  match g, h with
  | [a, b, c, d, e, f], _ => exact ⟨a, b, c, d, e, f, rfl⟩

theorem sixteen {g : List Int} (h : g.length = 16) : ∃ a b c d e f i j k l m n o p q r, g = [a, b, c, d, e, f, i, j, k, l, m, n, o, p, q, r] := by
  match g, h with
  | [a, b, c, d, e, f, i, j, k, l, m, n, o, p, q, r], _ => exact ⟨a, b, c, d, e, f, i, j, k, l, m, n, o, p, q, r, rfl⟩

theorem words_len (d : Da) (h : d.ok) : d.words.length = 16 := by
  obtain ⟨n, a, p, g⟩ := d
  obtain ⟨_, _, _, hg, _⟩ := h
  obtain ⟨x0, x1, x2, x3, x4, x5, rfl⟩ := six hg
  rfl

theorem words_u (d : Da) (h : d.ok) : ∀ z ∈ d.words, U32 z := by
  intro z hz
  simp only [Da.words, List.mem_cons, List.mem_flatMap, List.not_mem_nil, or_false] at hz
  rcases hz with rfl | rfl | rfl | rfl | ⟨x, hx, rfl | rfl⟩
  · exact h.1
  · exact h.2.1
  · exact lo_u _
  · exact hi_u _ h.2.2.1
  · exact lo_u _
  · exact hi_u _ (h.2.2.2.2 x hx)

theorem join_words (d : Da) (h : d.ok) : join d.words = d := by
  obtain ⟨n, a, p, g⟩ := d
  obtain ⟨_, _, _, hg, _⟩ := h
  obtain ⟨x0, x1, x2, x3, x4, x5, rfl⟩ := six hg
  show Da.mk n a (both (lo p) (hi p)) [both (lo x0) (hi x0), both (lo x1) (hi x1), both (lo x2) (hi x2), both (lo x3) (hi x3), both (lo x4) (hi x4), both (lo x5) (hi x5)] = _
  simp only [both_lohi]

theorem words_join (ws : List Int) (hl : ws.length = 16) (h : ∀ z ∈ ws, U32 z) : (join ws).words = ws := by
  obtain ⟨a, b, c, d, e, f, i, j, k, l, m, n, o, p, q, r, rfl⟩ := sixteen hl
  show [a, b, lo (both c d), hi (both c d), lo (both e f), hi (both e f), lo (both i j), hi (both i j), lo (both k l), hi (both k l), lo (both m n), hi (both m n), lo (both o p), hi (both o p), lo (both q r), hi (both q r)] = _
  simp only [List.mem_cons, List.not_mem_nil, or_false, forall_eq_or_imp, forall_eq] at h
  obtain ⟨_, _, hc, _, he, _, hi', _, hk, _, hm, _, ho, _, hq, _⟩ := h
  rw [lo_both c d hc, hi_both c d hc, lo_both e f he, hi_both e f he, lo_both i j hi', hi_both i j hi', lo_both k l hk, hi_both k l hk, lo_both m n hm, hi_both m n hm, lo_both o p ho, hi_both o p ho, lo_both q r hq, hi_both q r hq]

theorem getD_u {ws : List Int} (h : ∀ z ∈ ws, U32 z) (k : Nat) : U32 (ws.getD k 0) := by
  rw [List.getD_eq_getElem?_getD]
  by_cases hk : k < ws.length
  · rw [List.getElem?_eq_getElem hk]; exact h _ (List.getElem_mem hk)
  · rw [List.getElem?_eq_none (by omega)]; exact ⟨by decide, by decide⟩

theorem join_ok (ws : List Int) (h : ∀ z ∈ ws, U32 z) : (join ws).ok := by
  refine ⟨getD_u h 0, getD_u h 1, both_u _ _ (getD_u h 2) (getD_u h 3), by simp [join], ?_⟩
  intro z hz
  simp only [join, List.mem_map] at hz
  obtain ⟨i, _, rfl⟩ := hz
  exact both_u _ _ (getD_u h _) (getD_u h _)

theorem zero_ok : Da.zero.ok := by
  refine ⟨⟨by decide, by decide⟩, ⟨by decide, by decide⟩, ⟨by decide, by decide⟩, rfl, ?_⟩
  intro z hz
  simp only [Da.zero, List.mem_cons, List.not_mem_nil, or_false, or_self] at hz
  subst hz
  exact ⟨by decide, by decide⟩

theorem w4_byt (x : Int) (h : U32 x) : Byt (w4 x) := by
  unfold U32 at h
  intro z hz
  simp only [w4, List.mem_cons, List.not_mem_nil, or_false] at hz
  rcases hz with rfl | rfl | rfl | rfl <;> omega

theorem encW_nil : encW [] = [] := rfl
theorem encW_cons (x : Int) (ws : List Int) : encW (x :: ws) = w4 x ++ encW ws := rfl
theorem encW_snoc (ws : List Int) (x : Int) : encW (ws ++ [x]) = encW ws ++ w4 x := by simp [encW]

theorem encW_len (ws : List Int) : (encW ws).length = ws.length * 4 := by
  induction ws with
  | nil => rfl
  | cons x l ih => rw [encW_cons, List.length_append, ih, List.length_cons, Nat.add_mul]; show 4 + _ = _; omega

theorem encW_byt (ws : List Int) (h : ∀ z ∈ ws, U32 z) : Byt (encW ws) := by
  intro z hz
  simp only [encW, List.mem_flatMap] at hz
  obtain ⟨x, hx, hz⟩ := hz
  exact w4_byt x (h x hx) z hz

theorem encW_take (ws : List Int) (k : Nat) (hk : k < ws.length) : encW (ws.take (k + 1)) = encW (ws.take k) ++ w4 (ws.getD k 0) := by
  rw [List.take_add_one, List.getElem?_eq_getElem hk, List.getD_eq_getElem?_getD, List.getElem?_eq_getElem hk]
  exact encW_snoc _ _

theorem r4_w4 (x : Int) (r : List Int) (_h : U32 x) : r4 (w4 x ++ r) = x := by
  show x % 256 + 256 * (x / 256 % 256) + 65536 * (x / 65536 % 256) + 16777216 * (x / 16777216) = x
  omega

theorem w4_r4 (l : List Int) (h : Byt l) (h4 : 4 ≤ l.length) : w4 (r4 l) = l.take 4 := by
  match l, h4, h with
  | a :: b :: c :: d :: r, _, h =>
    have ha := h a (by simp)
    have hb := h b (by simp)
    have hc := h c (by simp)
    have hd := h d (by simp)
    have e3 : (a + 256 * b + 65536 * c + 16777216 * d) % 256 = a := by omega
    have e4 : (a + 256 * b + 65536 * c + 16777216 * d) / 256 % 256 = b := by omega
    have e5 : (a + 256 * b + 65536 * c + 16777216 * d) / 65536 % 256 = c := by omega
    have e6 : (a + 256 * b + 65536 * c + 16777216 * d) / 16777216 = d := by omega
    show [(a + 256 * b + 65536 * c + 16777216 * d) % 256, (a + 256 * b + 65536 * c + 16777216 * d) / 256 % 256, (a + 256 * b + 65536 * c + 16777216 * d) / 65536 % 256, (a + 256 * b + 65536 * c + 16777216 * d) / 16777216] = [a, b, c, d]
    rw [e3, e4, e5, e6]

theorem byt_get {l : List Int} (h : Byt l) (k : Nat) : 0 ≤ l.getD k 0 ∧ l.getD k 0 ≤ 255 := by
  rw [List.getD_eq_getElem?_getD]
  by_cases hk : k < l.length
  · have := h _ (List.getElem_mem hk)
    rw [List.getElem?_eq_getElem hk]; exact this
  · rw [List.getElem?_eq_none (by omega)]; simp

theorem r4_u (l : List Int) (h : Byt l) : U32 (r4 l) := by
  have g0 := byt_get h 0
  have g1 := byt_get h 1
  have g2 := byt_get h 2
  have g3 := byt_get h 3
  constructor
  · show 0 ≤ l.getD 0 0 + 256 * l.getD 1 0 + 65536 * l.getD 2 0 + 16777216 * l.getD 3 0; omega
  · show l.getD 0 0 + 256 * l.getD 1 0 + 65536 * l.getD 2 0 + 16777216 * l.getD 3 0 ≤ 4294967295; omega

theorem readW_zero (l : List Int) : readW l 0 = [] := rfl
theorem readW_len (l : List Int) (n : Nat) : (readW l n).length = n := by simp [readW]

theorem readW_succ (l : List Int) (n : Nat) : readW l (n + 1) = readW l n ++ [r4 (l.drop (n * 4))] := by simp [readW, List.range_succ]

theorem byt_drop {l : List Int} (h : Byt l) (k : Nat) : Byt (l.drop k) := fun z hz => h z (List.mem_of_mem_drop hz)
theorem byt_take {l : List Int} (h : Byt l) (k : Nat) : Byt (l.take k) := fun z hz => h z (List.mem_of_mem_take hz)

theorem readW_u (l : List Int) (n : Nat) (h : Byt l) : ∀ x ∈ readW l n, U32 x := by
  intro x hx
  simp only [readW, List.mem_map] at hx
  obtain ⟨i, _, rfl⟩ := hx
  exact r4_u _ (byt_drop h _)

theorem readW_cons (l : List Int) (n : Nat) : readW l (n + 1) = r4 l :: readW (l.drop 4) n := by
  induction n with
  | zero => simp [readW, List.range_succ]
  | succ n ih =>
    rw [readW_succ, ih, readW_succ, List.drop_drop]
    simp
    congr 2
    omega

theorem readW_encW (ws : List Int) (h : ∀ z ∈ ws, U32 z) : readW (encW ws) ws.length = ws := by
  induction ws with
  | nil => rfl
  | cons x l ih =>
    rw [List.length_cons, readW_cons, encW_cons, r4_w4 x _ (h x (by simp)), show (w4 x ++ encW l).drop 4 = encW l from List.drop_left' (i := 4) (l₁ := w4 x) rfl, ih (fun y hy => h y (by simp [hy]))]

theorem encW_readW (l : List Int) (n : Nat) (h : Byt l) (hn : l.length = n * 4) : encW (readW l n) = l := by
  induction n generalizing l with
  | zero => rw [readW_zero, encW_nil]; exact (List.eq_nil_of_length_eq_zero (by omega)).symm
  | succ n ih =>
    rw [readW_cons, encW_cons, w4_r4 l h (by omega), ih (l.drop 4) (byt_drop h 4) (by rw [List.length_drop]; omega), List.take_append_drop]

theorem enc_len (d : Da) (h : d.ok) : d.enc.length = 64 := by unfold Da.enc; rw [encW_len, words_len d h]
theorem enc_byt (d : Da) (h : d.ok) : Byt d.enc := encW_byt _ (words_u d h)

theorem decOf_eq (l : List Int) (h : l.length = 64) : decOf l = join (readW l 16) := by unfold decOf; rw [if_pos h]
theorem decOf_ne (l : List Int) (h : l.length ≠ 64) : decOf l = Da.zero := by unfold decOf; rw [if_neg h]

theorem decOf_ok (l : List Int) (h : Byt l) : (decOf l).ok := by
  unfold decOf
  split
  · exact join_ok _ (readW_u l 16 h)
  · exact zero_ok

theorem dec_enc (d : Da) (h : d.ok) : decOf d.enc = d := by
  rw [decOf_eq _ (enc_len d h)]
  unfold Da.enc
  have := readW_encW d.words (words_u d h)
  rw [words_len d h] at this
  rw [this, join_words d h]

theorem enc_dec (l : List Int) (h : Byt l) (hl : l.length = 64) : (decOf l).enc = l := by
  rw [decOf_eq l hl]
  unfold Da.enc
  rw [words_join _ (readW_len l 16) (readW_u l 16 h), encW_readW l 16 h hl]

theorem enc_inj {x y : Da} (hx : x.ok) (hy : y.ok) (h : x.enc = y.enc) : x = y := by
  rw [← dec_enc x hx, ← dec_enc y hy, h]

theorem word_at (d : Da) (h : d.ok) (i : Nat) (hi : i < 16) : r4 (d.enc.drop (i * 4)) = d.words.getD i 0 := by
  have := readW_encW d.words (words_u d h)
  rw [words_len d h] at this
  have e : (readW d.enc 16).getD i 0 = d.words.getD i 0 := by rw [show readW d.enc 16 = d.words from this]
  rw [← e]
  simp [readW, hi]

theorem word_lo (d : Da) (h : d.ok) (k : Nat) (hk : k < 6) : d.words.getD (4 + 2 * k) 0 = lo (d.g.getD k 0) := by
  obtain ⟨n, a, p, g⟩ := d
  obtain ⟨_, _, _, hg, _⟩ := h
  obtain ⟨x0, x1, x2, x3, x4, x5, rfl⟩ := six hg
  match k, hk with
  | 0, _ => rfl
  | 1, _ => rfl
  | 2, _ => rfl
  | 3, _ => rfl
  | 4, _ => rfl
  | 5, _ => rfl

theorem word_hi (d : Da) (h : d.ok) (k : Nat) (hk : k < 6) : d.words.getD (4 + 2 * k + 1) 0 = hi (d.g.getD k 0) := by
  obtain ⟨n, a, p, g⟩ := d
  obtain ⟨_, _, _, hg, _⟩ := h
  obtain ⟨x0, x1, x2, x3, x4, x5, rfl⟩ := six hg
  match k, hk with
  | 0, _ => rfl
  | 1, _ => rfl
  | 2, _ => rfl
  | 3, _ => rfl
  | 4, _ => rfl
  | 5, _ => rfl

/-- a number's bytes, by the document. -/
def low (x : Int) : Nat → List Int
  | 0 => []
  | k + 1 => x % 256 :: low (x / 256) k

/-- the number of bytes, by the document. -/
def num : List Int → Int
  | [] => 0
  | x :: r => x + 256 * num r

theorem low_four (x : Int) (h : U32 x) : low x 4 = w4 x := by
  unfold U32 at h
  show [x % 256, x / 256 % 256, x / 256 / 256 % 256, x / 256 / 256 / 256 % 256] = [x % 256, x / 256 % 256, x / 65536 % 256, x / 16777216]
  rw [show x / 256 / 256 = x / 65536 by omega, show x / 65536 / 256 % 256 = x / 16777216 by omega]

theorem low_eight (x : Int) (h : U64 x) : low x 8 = w4 (lo x) ++ w4 (hi x) := by
  unfold U64 at h
  show [x % 256, x / 256 % 256, x / 256 / 256 % 256, x / 256 / 256 / 256 % 256, x / 256 / 256 / 256 / 256 % 256, x / 256 / 256 / 256 / 256 / 256 % 256, x / 256 / 256 / 256 / 256 / 256 / 256 % 256, x / 256 / 256 / 256 / 256 / 256 / 256 / 256 % 256]
    = [x % 4294967296 % 256, x % 4294967296 / 256 % 256, x % 4294967296 / 65536 % 256, x % 4294967296 / 16777216, x / 4294967296 % 256, x / 4294967296 / 256 % 256, x / 4294967296 / 65536 % 256, x / 4294967296 / 16777216]
  rw [show x / 256 / 256 / 256 / 256 = x / 4294967296 by omega, show x / 256 / 256 / 256 = x / 16777216 by omega, show x / 256 / 256 = x / 65536 by omega]
  rw [show x % 4294967296 % 256 = x % 256 by omega, show x % 4294967296 / 256 % 256 = x / 256 % 256 by omega, show x % 4294967296 / 65536 % 256 = x / 65536 % 256 by omega, show x % 4294967296 / 16777216 = x / 16777216 % 256 by omega,
    show x / 4294967296 / 256 / 256 = x / 4294967296 / 65536 by omega, show x / 4294967296 / 65536 / 256 % 256 = x / 4294967296 / 16777216 by omega]

theorem low_len (x : Int) (k : Nat) : (low x k).length = k := by
  induction k generalizing x with
  | zero => rfl
  | succ k ih => simp [low, ih]

theorem low_byt (x : Int) (k : Nat) : Byt (low x k) := by
  induction k generalizing x with
  | zero => intro z hz; cases hz
  | succ k ih =>
    intro z hz
    rcases List.mem_cons.1 hz with rfl | hz
    · omega
    · exact ih _ z hz

/-- what is left of a number when bytes were taken off. -/
def cutN (x : Int) : Nat → Int
  | 0 => x
  | k + 1 => cutN x k / 256

theorem cutN_shift (x : Int) (k : Nat) : cutN (x / 256) k = cutN x (k + 1) := by
  induction k with
  | zero => rfl
  | succ k ih => show cutN (x / 256) k / 256 = cutN x (k + 1) / 256; rw [ih]

theorem low_snoc (x : Int) (k : Nat) : low x (k + 1) = low x k ++ [cutN x k % 256] := by
  induction k generalizing x with
  | zero => rfl
  | succ k ih =>
    show x % 256 :: low (x / 256) (k + 1) = x % 256 :: (low (x / 256) k ++ [cutN x (k + 1) % 256])
    rw [ih, cutN_shift]

theorem cutN_u (x : Int) (h : U64 x) (k : Nat) : U64 (cutN x k) := by
  induction k with
  | zero => exact h
  | succ k ih => unfold U64 at *; show 0 ≤ cutN x k / 256 ∧ cutN x k / 256 ≤ _; omega

/-- the document's bytes of a call's first arguments. -/
def lowG (g : List Int) : List Int := g.flatMap (fun x => low x 8)

theorem lowG_take (g : List Int) (k : Nat) (hk : k < g.length) : lowG (g.take (k + 1)) = lowG (g.take k) ++ low (g.getD k 0) 8 := by
  rw [List.take_add_one, List.getElem?_eq_getElem hk, List.getD_eq_getElem?_getD, List.getElem?_eq_getElem hk]
  unfold lowG
  rw [List.flatMap_append]
  congr 1

theorem lowG_len (g : List Int) : (lowG g).length = g.length * 8 := by
  induction g with
  | nil => rfl
  | cons x l ih =>
    show (low x 8 ++ lowG l).length = _
    rw [List.length_append, ih, List.length_cons, low_len]; omega

theorem ref_enc (d : Da) (h : d.ok) : low d.n 4 ++ low d.a 4 ++ low d.p 8 ++ lowG d.g = d.enc := by
  rw [low_four _ h.1, low_four _ h.2.1, low_eight _ h.2.2.1]
  have : ∀ g : List Int, (∀ z ∈ g, U64 z) → lowG g = encW (g.flatMap (fun x => [lo x, hi x])) := by
    intro g
    induction g with
    | nil => intro _; rfl
    | cons x l ih =>
      intro h
      show low x 8 ++ lowG l = encW (lo x :: hi x :: l.flatMap (fun x => [lo x, hi x]))
      rw [low_eight x (h x (by simp)), ih (fun z hz => h z (by simp [hz])), encW_cons, encW_cons, List.append_assoc]
  rw [this _ h.2.2.2.2]
  simp only [Da.enc, Da.words, encW_cons, List.append_assoc]

theorem num_four (l : List Int) (h4 : 4 ≤ l.length) : num (l.take 4) = r4 l := by
  match l, h4 with
  | a :: b :: c :: d :: r, _ =>
    show a + 256 * (b + 256 * (c + 256 * (d + 256 * 0))) = a + 256 * b + 65536 * c + 16777216 * d
    omega

theorem num_eight (l : List Int) (h8 : 8 ≤ l.length) : num (l.take 8) = both (r4 l) (r4 (l.drop 4)) := by
  match l, h8 with
  | a :: b :: c :: d :: e :: f :: g :: i :: r, _ =>
    show a + 256 * (b + 256 * (c + 256 * (d + 256 * (e + 256 * (f + 256 * (g + 256 * (i + 256 * 0))))))) = (a + 256 * b + 65536 * c + 16777216 * d) + 4294967296 * (e + 256 * f + 65536 * g + 16777216 * i)
    omega

theorem num_nn (l : List Int) (h : Byt l) : 0 ≤ num l := by
  induction l with
  | nil => exact Int.le_refl _
  | cons x l ih =>
    have h1 := ih (fun z hz => h z (by simp [hz]))
    have h2 := h x (by simp)
    show 0 ≤ x + 256 * num l
    omega

theorem num_lt (l : List Int) (h : Byt l) (k : Nat) (hk : l.length ≤ k) : num l < 256 ^ k := by
  induction l generalizing k with
  | nil => show (0 : Int) < _; exact Int.pow_pos (by decide)
  | cons x l ih =>
    match k, hk with
    | k + 1, hk =>
      have h1 := ih (fun z hz => h z (by simp [hz])) k (by simpa using hk)
      have h2 := h x (by simp)
      show x + 256 * num l < 256 ^ (k + 1)
      rw [Int.pow_succ]
      omega

theorem num_u (l : List Int) (h : Byt l) (hl : l.length ≤ 8) : U64 (num l) := by
  have := num_lt l h 8 hl
  exact ⟨num_nn l h, by omega⟩

theorem num_drop (l : List Int) (k : Nat) (hk : k < l.length) : num (l.drop k) = l.getD k 0 + 256 * num (l.drop (k + 1)) := by
  rw [List.drop_eq_getElem_cons hk, List.getD_eq_getElem?_getD, List.getElem?_eq_getElem hk]
  rfl

end Go.Proofs.Ytljceoojbppaeaa.D
