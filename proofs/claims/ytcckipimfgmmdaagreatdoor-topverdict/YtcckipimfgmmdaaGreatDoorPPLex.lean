/-
  Tokens of texts one behind the other, and of texts that are cut.
-/
import Derived.Test.YtcckipimfgmmdaaGreatDoorPLies
namespace Go.Proofs.YtcckipimfgmmdaaGreatDoor.P
open Go

theorem while_app (p : UInt8 → Bool) (l : List UInt8) (x : UInt8) (r : List UInt8) (hx : p x = false) : (l ++ x :: r).takeWhile p = l.takeWhile p := by
  induction l with
  | nil => rw [List.nil_append, List.takeWhile_cons, if_neg (by rw [hx]; decide)]; rfl
  | cons c l ih => rw [List.cons_append, List.takeWhile_cons, List.takeWhile_cons, ih]

theorem prefix_app (x : UInt8) (r : List UInt8) : ∀ (p l : List UInt8), (∀ c ∈ p, (c == x) = false) → p.isPrefixOf (l ++ x :: r) = p.isPrefixOf l := by
  intro p
  induction p with
  | nil => intro l _; cases l <;> rfl
  | cons c p ih =>
    intro l h
    cases l with
    | nil =>
      rw [List.nil_append]
      simp [List.isPrefixOf, h c List.mem_cons_self]
    | cons d l =>
      rw [List.cons_append]
      simp only [List.isPrefixOf]
      rw [ih l (fun e he => h e (List.mem_cons_of_mem _ he))]

theorem find_congr {α : Type} {p q : α → Bool} : ∀ (L : List α), (∀ x ∈ L, p x = q x) → L.find? p = L.find? q := by
  intro L
  induction L with
  | nil => intro _; rfl
  | cons x L ih =>
    intro h
    rw [List.find?_cons, List.find?_cons, h x List.mem_cons_self, ih (fun y hy => h y (List.mem_cons_of_mem _ hy))]

theorem sign_app (l r : List UInt8) : sign (l ++ 10 :: r) = sign l := by
  unfold sign
  apply find_congr
  intro p hp
  apply prefix_app
  simp [signs] at hp
  rcases hp with rfl | rfl | rfl | rfl | rfl | rfl | rfl | rfl | rfl <;> decide

theorem one_app {c : UInt8} {l : List UInt8} (b : List UInt8) : one (c :: l ++ 10 :: b) = one (c :: l) := by
  rw [List.cons_append]
  rcases Bool.eq_false_or_eq_true (loN c.toNat) with hl | hl
  · rw [one_lo' hl, one_lo' hl, ← List.cons_append, while_app _ _ _ _ (by decide)]
  · rcases Bool.eq_false_or_eq_true (dgN c.toNat) with hd | hd
    · rw [one_dg' hl hd, one_dg' hl hd, ← List.cons_append, while_app _ _ _ _ (by decide)]
    · rw [one_sg' hl hd, one_sg' hl hd, ← List.cons_append, sign_app]

/-- the tokens of two texts, with a line end between. -/
theorem go_app : ∀ (l : List UInt8) (k p : Nat) (ts : List Tok), k ≤ l.length → go k p l = .ok ts → ∃ A, ts = A ++ [⟨4, p + l.length, [], 0⟩] ∧ ∀ b, go k p (l ++ 10 :: b) = glue A (go 0 (p + l.length + 1) b) := by
  intro l
  induction l with
  | nil =>
    intro k p ts hk h
    obtain rfl : k = 0 := by simpa using hk
    cases h
    refine ⟨[], rfl, fun b => ?_⟩
    rw [List.nil_append, go_blank (by decide), glue_nil]
    rfl
  | cons c r ih =>
    intro k p ts hk h
    have hk' : k ≤ r.length + 1 := hk
    have hlen : p + (c :: r).length = p + 1 + r.length := by simp; omega
    by_cases h0 : 0 < k
    · rw [go_over h0] at h
      obtain ⟨A, h1, h2⟩ := ih _ _ _ (by omega) h
      refine ⟨A, by rw [hlen]; exact h1, fun b => ?_⟩
      rw [List.cons_append, go_over h0, h2 b, hlen]
    · obtain rfl : k = 0 := by omega
      rcases Bool.eq_false_or_eq_true (blN c.toNat) with hb | hb
      · rw [go_blank hb] at h
        obtain ⟨A, h1, h2⟩ := ih _ _ _ (Nat.zero_le _) h
        refine ⟨A, by rw [hlen]; exact h1, fun b => ?_⟩
        rw [List.cons_append, go_blank hb, h2 b, hlen]
      · by_cases hn : c.toNat = 35
        · rw [go_note hn, note_len hn, go_over (Nat.succ_pos _)] at h
          obtain ⟨A, h1, h2⟩ := ih _ _ _ (take_while_le _ _) h
          refine ⟨A, by rw [hlen]; exact h1, fun b => ?_⟩
          rw [List.cons_append, go_note hn, note_len hn, go_over (Nat.succ_pos _), while_app _ _ _ _ (by decide), hlen]
          exact h2 b
        · rw [go_one hb hn] at h
          split at h
          · cases h
          · next k' t n ho =>
            have tl := one_le ho
            have tl' : t.length ≤ r.length + 1 := tl
            cases hg : go (t.length - 1) (p + 1) r with
            | error e => rw [hg] at h; cases h
            | ok ts' =>
              rw [hg] at h
              obtain ⟨A, h1, h2⟩ := ih _ _ _ (by omega) hg
              cases h
              refine ⟨⟨k', p, t, n⟩ :: A, by rw [h1, hlen]; simp, fun b => ?_⟩
              rw [List.cons_append, go_one hb hn, ← List.cons_append, one_app, ho]
              simp only
              rw [h2 b, glue_glue, hlen]
              rfl

/-- a token at a text's front. -/
theorem go_tok {c : UInt8} {t' rest : List UInt8} {k n p : Nat} (h1 : blN c.toNat = false) (h2 : ¬ c.toNat = 35) (ho : one (c :: t' ++ rest) = .ok (k, c :: t', n)) :
    go 0 p (c :: t' ++ rest) = glue [⟨k, p, c :: t', n⟩] (go 0 (p + (c :: t').length) rest) := by
  rw [List.cons_append] at ho ⊢
  rw [go_one h1 h2, ho]
  simp only
  rw [show (c :: t').length - 1 = t'.length + 0 from by simp, go_skip _ _ _ _ (by simp), List.drop_left, show p + 1 + t'.length = p + (c :: t').length from by simp; omega]

def dlog : List UInt8 := [100, 101, 102, 97, 117, 108, 116, 32, 108, 111, 103, 59]

theorem go_dlog (b : List UInt8) : go 0 0 (dlog ++ b) = glue [⟨1, 0, [100, 101, 102, 97, 117, 108, 116], 0⟩, ⟨1, 8, [108, 111, 103], 0⟩, ⟨3, 11, [59], 0⟩] (go 0 12 b) := by
  have e1 : dlog ++ b = 100 :: [101, 102, 97, 117, 108, 116] ++ (32 :: ([108, 111, 103] ++ (59 :: b))) := rfl
  rw [e1, go_tok (k := 1) (n := 0) (by decide) (by decide) (by
    rw [List.cons_append, one_lo' (by decide)]
    rfl)]
  rw [go_blank (by decide)]
  rw [show ([108, 111, 103] ++ (59 :: b) : List UInt8) = 108 :: [111, 103] ++ (59 :: b) from rfl, go_tok (k := 1) (n := 0) (by decide) (by decide) (by
    rw [List.cons_append, one_lo' (by decide)]
    rfl)]
  rw [show (59 :: b : List UInt8) = 59 :: [] ++ b from rfl, go_tok (k := 3) (n := 0) (by decide) (by decide) (by
    rw [List.cons_append, one_sg' (by decide) (by decide)]
    rfl)]
  rw [glue_glue, glue_glue]
  rfl

/-- a text, cut: what begins it. -/
theorem while_take (p : UInt8 → Bool) (l : List UInt8) (m : Nat) (h : (l.takeWhile p).length ≤ m) : (l.take m).takeWhile p = l.takeWhile p := by
  induction l generalizing m with
  | nil => simp
  | cons c l ih =>
    cases m with
    | zero =>
      rw [List.takeWhile_cons] at h ⊢
      split at h
      · simp at h
      · next hc => rw [if_neg hc]; rfl
    | succ m =>
      rw [List.take_succ_cons, List.takeWhile_cons, List.takeWhile_cons]
      split
      · next hc =>
        rw [List.takeWhile_cons, if_pos hc] at h
        rw [ih m (by simpa using h)]
      · rfl

theorem sign_take {l t : List UInt8} {m : Nat} (h : sign l = some t) (hm : t.length ≤ m) : sign (l.take m) = some t := by
  have key : ∀ p : List UInt8, p.isPrefixOf (l.take m) = (p.isPrefixOf l && decide (p.length ≤ m)) := by
    intro p
    rw [Bool.eq_iff_iff, Bool.and_eq_true, List.isPrefixOf_iff_prefix, List.isPrefixOf_iff_prefix, decide_eq_true_iff, List.prefix_iff_eq_take, List.prefix_iff_eq_take]
    constructor
    · intro e
      have hl := congrArg List.length e
      rw [List.length_take, List.length_take] at hl
      have hpm : p.length ≤ m := by omega
      rw [List.take_take, Nat.min_eq_left hpm] at e
      exact ⟨e, hpm⟩
    · rintro ⟨e, hpm⟩
      rw [List.take_take, Nat.min_eq_left hpm]
      exact e
  unfold sign at h ⊢
  have h2 : signs.find? (fun p => p.isPrefixOf (l.take m)) = signs.find? (fun p => p.isPrefixOf l && decide (p.length ≤ m)) := find_congr _ (fun p _ => key p)
  rw [h2]
  clear h2 key
  generalize signs = L at h
  induction L with
  | nil => cases h
  | cons q L ih =>
    rw [List.find?_cons] at h ⊢
    split at h
    · next hq =>
      cases h
      rw [hq, decide_eq_true hm]
      rfl
    · next hq =>
      rw [hq]
      exact ih h

theorem one_take' {c : UInt8} {l : List UInt8} {k n m : Nat} {t : List UInt8} (h : one (c :: l) = .ok (k, t, n)) (hm : t.length ≤ m + 1) : one (c :: l.take m) = .ok (k, t, n) := by
  have e : (c :: l.take m : List UInt8) = (c :: l).take (m + 1) := rfl
  rcases Bool.eq_false_or_eq_true (loN c.toNat) with hl | hl
  · rw [one_lo' hl] at h ⊢
    cases h
    rw [e, while_take _ _ _ hm]
  · rcases Bool.eq_false_or_eq_true (dgN c.toNat) with hd | hd
    · rw [one_dg' hl hd] at h ⊢
      have ht : t = (c :: l).takeWhile ofW := by
        unfold numR at h
        split at h
        · cases h; rfl
        · cases h
      rw [e, while_take _ _ _ (by rw [← ht]; exact hm)]
      exact h
    · rw [one_sg' hl hd] at h ⊢
      unfold sgR at h
      split at h
      · next hs =>
        cases h
        rw [e, sign_take hs hm]
        rfl
      · cases h

/-- a text that is cut at a token's place: the tokens ahead of it. -/
theorem go_cut : ∀ (l : List UInt8) (k p q : Nat) (A B : List Tok) (x : Tok), k ≤ l.length → go k p l = .ok (A ++ x :: B) → x.at' = q → (∀ y ∈ A, y.at' + y.t.length ≤ q) → p + k ≤ q ∧ q - p ≤ l.length ∧ go k p (l.take (q - p)) = .ok (A ++ [⟨4, q, [], 0⟩]) := by
  intro l
  induction l with
  | nil =>
    intro k p q A B x hk h hq hA
    obtain rfl : k = 0 := by simpa using hk
    injection h with h
    cases A with
    | nil =>
      injection h with h1 h2
      subst h1
      dsimp only at hq
      subst hq
      exact ⟨by omega, by simp, by simp; rfl⟩
    | cons y A => simp at h
  | cons c r ih =>
    intro k p q A B x hk h hq hA
    have hk' : k ≤ r.length + 1 := hk
    have cut : ∀ k', p + 1 + k' ≤ q → (c :: r).take (q - p) = c :: r.take (q - (p + 1)) := by
      intro k' hq'
      rw [show q - p = q - (p + 1) + 1 from by omega, List.take_succ_cons]
    by_cases h0 : 0 < k
    · rw [go_over h0] at h
      obtain ⟨h1, h2, h3⟩ := ih _ _ _ _ _ _ (by omega) h hq hA
      refine ⟨by omega, by simp; omega, ?_⟩
      rw [cut _ h1, go_over h0, h3]
    · obtain rfl : k = 0 := by omega
      rcases Bool.eq_false_or_eq_true (blN c.toNat) with hb | hb
      · rw [go_blank hb] at h
        obtain ⟨h1, h2, h3⟩ := ih _ _ _ _ _ _ (Nat.zero_le _) h hq hA
        refine ⟨by omega, by simp; omega, ?_⟩
        rw [cut _ h1, go_blank hb, h3]
      · by_cases hn : c.toNat = 35
        · rw [go_note hn, note_len hn, go_over (Nat.succ_pos _)] at h
          obtain ⟨h1, h2, h3⟩ := ih _ _ _ _ _ _ (take_while_le _ _) h hq hA
          refine ⟨by omega, by simp; omega, ?_⟩
          rw [cut _ h1, go_note hn, note_len hn, go_over (Nat.succ_pos _), while_take _ _ _ (by omega)]
          exact h3
        · rw [go_one hb hn] at h
          split at h
          · cases h
          · next k' t n ho =>
            have tl := one_le ho
            have tl' : t.length ≤ r.length + 1 := tl
            have t1 := (one_take ho).2.1
            cases hg : go (t.length - 1) (p + 1) r with
            | error e => rw [hg] at h; cases h
            | ok ts' =>
              rw [hg] at h
              injection h with h
              cases A with
              | nil =>
                injection h with h1 h2
                subst h1
                dsimp only at hq
                subst hq
                refine ⟨by omega, by simp, ?_⟩
                rw [Nat.sub_self]
                rfl
              | cons y A =>
                injection h with h1 h2
                have h2' : ts' = A ++ x :: B := h2
                subst h1
                rw [h2'] at hg
                obtain ⟨g1, g2, g3⟩ := ih _ _ _ _ _ _ (by omega) hg hq (fun z hz => hA z (List.mem_cons_of_mem _ hz))
                have hy := hA _ List.mem_cons_self
                dsimp only at hy
                refine ⟨by omega, by simp; omega, ?_⟩
                rw [cut _ g1, go_one hb hn, one_take' ho (by omega)]
                simp only
                rw [g3]
                rfl

end Go.Proofs.YtcckipimfgmmdaaGreatDoor.P
