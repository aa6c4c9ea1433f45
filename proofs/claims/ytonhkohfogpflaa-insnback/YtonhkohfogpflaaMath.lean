/-
  Instructions and their bytes, as plain numbers: they undo one another.
-/
import Derived.Test.YtonhkohfogpflaaRows
namespace Go.Proofs.Ytonhkohfogpflaa

/-- an instruction. -/
structure In where
  c : Int
  t : Int
  f : Int
  k : Int

/-- what an instruction's fields may be. -/
def In.ok (x : In) : Prop := (0 ≤ x.c ∧ x.c ≤ 65535) ∧ (0 ≤ x.t ∧ x.t ≤ 255) ∧ (0 ≤ x.f ∧ x.f ≤ 255) ∧ (0 ≤ x.k ∧ x.k ≤ 4294967295)

/-- numbers that are bytes. -/
def Byt (l : List Int) : Prop := ∀ z ∈ l, 0 ≤ z ∧ z ≤ 255

/-- an instruction's bytes. -/
def In.enc (x : In) : List Int := [x.c % 256, x.c / 256, x.t, x.f, x.k % 256, x.k / 256 % 256, x.k / 65536 % 256, x.k / 16777216]

/-- the instruction of the first eight bytes. -/
def dec (l : List Int) : In := ⟨l.getD 0 0 + 256 * l.getD 1 0, l.getD 2 0, l.getD 3 0, l.getD 4 0 + 256 * l.getD 5 0 + 65536 * l.getD 6 0 + 16777216 * l.getD 7 0⟩

/-- no instruction. -/
def In.zero : In := ⟨0, 0, 0, 0⟩

/-- the instruction of bytes. -/
def decOf (l : List Int) : In := if l.length = 8 then dec l else In.zero

/-- what is wrong with bytes that are to be an instruction. -/
def errOf (n : Nat) : Int := if n < 8 then 2 else if 8 < n then 3 else 0

theorem In.enc_len (x : In) : x.enc.length = 8 := rfl

theorem In.enc_byt (x : In) (h : x.ok) : Byt x.enc := by
  obtain ⟨⟨a1, a2⟩, ⟨b1, b2⟩, ⟨c1, c2⟩, ⟨d1, d2⟩⟩ := h
  intro z hz
  simp only [In.enc, List.mem_cons, List.not_mem_nil, or_false] at hz
  rcases hz with rfl | rfl | rfl | rfl | rfl | rfl | rfl | rfl <;> omega

theorem In.ext' {x y : In} (h1 : x.c = y.c) (h2 : x.t = y.t) (h3 : x.f = y.f) (h4 : x.k = y.k) : x = y := by
  cases x; cases y; simp_all

theorem dec_enc (x : In) (r : List Int) (h : x.ok) : dec (x.enc ++ r) = x := by
  obtain ⟨⟨a1, a2⟩, ⟨b1, b2⟩, ⟨c1, c2⟩, ⟨d1, d2⟩⟩ := h
  refine In.ext' ?_ ?_ ?_ ?_
  · show x.c % 256 + 256 * (x.c / 256) = x.c
    omega
  · rfl
  · rfl
  · show x.k % 256 + 256 * (x.k / 256 % 256) + 65536 * (x.k / 65536 % 256) + 16777216 * (x.k / 16777216) = x.k
    omega

theorem enc_inj {x y : In} (hx : x.ok) (hy : y.ok) (h : x.enc = y.enc) : x = y := by
  have e1 := dec_enc x [] hx
  have e2 := dec_enc y [] hy
  rw [← e1, ← e2, h]

theorem byt_get {l : List Int} (h : Byt l) (k : Nat) : 0 ≤ l.getD k 0 ∧ l.getD k 0 ≤ 255 := by
  rw [List.getD_eq_getElem?_getD]
  by_cases hk : k < l.length
  · have := h _ (List.getElem_mem hk)
    rw [List.getElem?_eq_getElem hk]; exact this
  · rw [List.getElem?_eq_none (by omega)]; simp

theorem dec_ok (l : List Int) (h : Byt l) : (dec l).ok := by
  have g0 := byt_get h 0
  have g1 := byt_get h 1
  have g2 := byt_get h 2
  have g3 := byt_get h 3
  have g4 := byt_get h 4
  have g5 := byt_get h 5
  have g6 := byt_get h 6
  have g7 := byt_get h 7
  refine ⟨⟨?_, ?_⟩, g2, g3, ⟨?_, ?_⟩⟩
  · show 0 ≤ l.getD 0 0 + 256 * l.getD 1 0; omega
  · show l.getD 0 0 + 256 * l.getD 1 0 ≤ 65535; omega
  · show 0 ≤ l.getD 4 0 + 256 * l.getD 5 0 + 65536 * l.getD 6 0 + 16777216 * l.getD 7 0; omega
  · show l.getD 4 0 + 256 * l.getD 5 0 + 65536 * l.getD 6 0 + 16777216 * l.getD 7 0 ≤ 4294967295; omega

theorem zero_ok : In.zero.ok := by unfold In.ok In.zero; decide

theorem decOf_ok (l : List Int) (h : Byt l) : (decOf l).ok := by
  unfold decOf
  split
  · exact dec_ok l h
  · exact zero_ok

theorem enc_dec (l : List Int) (h : Byt l) (h8 : 8 ≤ l.length) : (dec l).enc = l.take 8 := by
  match l, h8, h with
  | a :: b :: c :: d :: e :: f :: g :: i :: r, _, h =>
    have ha := h a (by simp)
    have hb := h b (by simp)
    have he := h e (by simp)
    have hf := h f (by simp)
    have hg := h g (by simp)
    have hi := h i (by simp)
    have e1 : (a + 256 * b) % 256 = a := by omega
    have e2 : (a + 256 * b) / 256 = b := by omega
    have e3 : (e + 256 * f + 65536 * g + 16777216 * i) % 256 = e := by omega
    have e4 : (e + 256 * f + 65536 * g + 16777216 * i) / 256 % 256 = f := by omega
    have e5 : (e + 256 * f + 65536 * g + 16777216 * i) / 65536 % 256 = g := by omega
    have e6 : (e + 256 * f + 65536 * g + 16777216 * i) / 16777216 = i := by omega
    show [(a + 256 * b) % 256, (a + 256 * b) / 256, c, d, (e + 256 * f + 65536 * g + 16777216 * i) % 256, (e + 256 * f + 65536 * g + 16777216 * i) / 256 % 256, (e + 256 * f + 65536 * g + 16777216 * i) / 65536 % 256, (e + 256 * f + 65536 * g + 16777216 * i) / 16777216] = [a, b, c, d, e, f, g, i]
    rw [e1, e2, e3, e4, e5, e6]

/-- a program's bytes. -/
def encAll (l : List In) : List Int := l.flatMap In.enc

/-- the first instructions of bytes. -/
def decN (l : List Int) (n : Nat) : List In := (List.range n).map (fun i => dec (l.drop (i * 8)))

theorem encAll_nil : encAll [] = [] := rfl
theorem encAll_cons (x : In) (l : List In) : encAll (x :: l) = x.enc ++ encAll l := rfl
theorem encAll_snoc (l : List In) (x : In) : encAll (l ++ [x]) = encAll l ++ x.enc := by simp [encAll]

theorem encAll_len (l : List In) : (encAll l).length = l.length * 8 := by
  induction l with
  | nil => rfl
  | cons x l ih => rw [encAll_cons, List.length_append, ih, In.enc_len, List.length_cons]; omega

theorem encAll_byt (l : List In) (h : ∀ x ∈ l, x.ok) : Byt (encAll l) := by
  intro z hz
  simp only [encAll, List.mem_flatMap] at hz
  obtain ⟨x, hx, hz⟩ := hz
  exact x.enc_byt (h x hx) z hz

theorem decN_zero (l : List Int) : decN l 0 = [] := rfl
theorem decN_len (l : List Int) (n : Nat) : (decN l n).length = n := by simp [decN]
theorem decN_succ (l : List Int) (n : Nat) : decN l (n + 1) = decN l n ++ [dec (l.drop (n * 8))] := by simp [decN, List.range_succ]

theorem decN_ok (l : List Int) (n : Nat) (h : Byt l) : ∀ x ∈ decN l n, x.ok := by
  intro x hx
  simp only [decN, List.mem_map] at hx
  obtain ⟨i, _, rfl⟩ := hx
  exact dec_ok _ (fun z hz => h z (List.mem_of_mem_drop hz))

theorem decN_cons (l : List Int) (n : Nat) : decN l (n + 1) = dec l :: decN (l.drop 8) n := by
  induction n with
  | zero => simp [decN, List.range_succ]
  | succ n ih =>
    rw [decN_succ, ih, decN_succ, List.drop_drop]
    simp
    congr 2
    omega

theorem decN_encAll (l : List In) (h : ∀ x ∈ l, x.ok) : decN (encAll l) l.length = l := by
  induction l with
  | nil => rfl
  | cons x l ih =>
    rw [List.length_cons, decN_cons, encAll_cons, dec_enc x _ (h x (by simp)), show (x.enc ++ encAll l).drop 8 = encAll l from List.drop_left' (i := 8) (l₁ := x.enc) rfl, ih (fun y hy => h y (by simp [hy]))]

theorem encAll_decN (l : List Int) (n : Nat) (h : Byt l) (hn : l.length = n * 8) : encAll (decN l n) = l := by
  induction n generalizing l with
  | zero => rw [decN_zero, encAll_nil]; exact (List.eq_nil_of_length_eq_zero (by omega)).symm
  | succ n ih =>
    rw [decN_cons, encAll_cons, enc_dec l h (by omega), ih (l.drop 8) (fun z hz => h z (List.mem_of_mem_drop hz)) (by rw [List.length_drop]; omega), List.take_append_drop]

end Go.Proofs.Ytonhkohfogpflaa
