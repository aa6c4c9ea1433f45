/-
  Tokens in plain words: each stands in the text at its place; joined they are read as the same; behind blanks they are the same but for places.
-/
import Derived.Test.YtcckipimfgmmdaaGreatDoorPMath
namespace Go.Proofs.YtcckipimfgmmdaaGreatDoor.P
open Go

/-- a token that stands in a text. -/
structure Good (l : List UInt8) (x : Tok) : Prop where
  le : x.at' + x.t.length ≤ l.length
  eq : (l.drop x.at').take x.t.length = x.t
  ne : 1 ≤ x.t.length
  k : x.k = 1 ∨ x.k = 2 ∨ x.k = 3
  n : x.k = 2 ∨ x.n = 0
  st : (∀ c r, x.t = c :: r → blN c.toNat = false ∧ ¬ c.toNat = 35) ∧ ∀ b r, ofW b = false → ¬ b.toNat = 61 → one (x.t ++ b :: r) = .ok (x.k, x.t, x.n)

/-- tokens, one behind the other, to the end. -/
def Ch (l : List UInt8) : Nat → List Tok → Prop
  | _, [] => False
  | last, [x] => x = ⟨4, l.length, [], 0⟩ ∧ last ≤ l.length
  | last, x :: y :: r => (last ≤ x.at' ∧ Good l x) ∧ Ch l (x.at' + x.t.length) (y :: r)
theorem Ch.fin {l : List UInt8} {last : Nat} (h : last ≤ l.length) : Ch l last [⟨4, l.length, [], 0⟩] := ⟨rfl, h⟩
theorem Ch.tok {l : List UInt8} {last : Nat} {x y : Tok} {r : List Tok} (h : last ≤ x.at') (hx : Good l x) (hr : Ch l (x.at' + x.t.length) (y :: r)) : Ch l last (x :: y :: r) := ⟨⟨h, hx⟩, hr⟩
theorem Ch.ind {l : List UInt8} {motive : (last : Nat) → (ts : List Tok) → Ch l last ts → Prop}
    (fin : ∀ {last : Nat} (h : last ≤ l.length), motive last [⟨4, l.length, [], 0⟩] (Ch.fin h))
    (tok : ∀ {last : Nat} {x y : Tok} {r : List Tok} (h : last ≤ x.at') (hx : Good l x) (hr : Ch l (x.at' + x.t.length) (y :: r)), motive (x.at' + x.t.length) (y :: r) hr → motive last (x :: y :: r) (Ch.tok h hx hr)) :
    ∀ {last : Nat} {ts : List Tok} (h : Ch l last ts), motive last ts h := by
  intro last ts
  induction ts generalizing last with
  | nil => intro h; exact False.elim h
  | cons x ts ih =>
    intro h
    cases ts with
    | nil =>
      obtain ⟨rfl, he⟩ := id h
      exact fin he
    | cons y r =>
      obtain ⟨⟨h1, hx⟩, hr⟩ := id h
      exact tok h1 hx hr (ih hr)
theorem Ch.two {l : List UInt8} {motive : (last : Nat) → (ts : List Tok) → Ch l last ts → Prop}
    (fin : ∀ {last : Nat} (h : last ≤ l.length), motive last [⟨4, l.length, [], 0⟩] (Ch.fin h))
    (tok : ∀ {last : Nat} {x y : Tok} {r : List Tok} (h : last ≤ x.at') (hx : Good l x) (hr : Ch l (x.at' + x.t.length) (y :: r)), motive last (x :: y :: r) (Ch.tok h hx hr)) :
    ∀ {last : Nat} {ts : List Tok} (h : Ch l last ts), motive last ts h := fun h => Ch.ind fin (fun h hx hr _ => tok h hx hr) h

theorem Ch.ne {l : List UInt8} {last : Nat} {ts : List Tok} (h : Ch l last ts) : ∃ y r, ts = y :: r := by
  cases h using Ch.two with
  | fin h => exact ⟨_, _, rfl⟩
  | tok h hx hr => exact ⟨_, _, rfl⟩

theorem ch_cons {l : List UInt8} {last : Nat} {x : Tok} {r : List Tok} (h : last ≤ x.at') (hx : Good l x) (hr : Ch l (x.at' + x.t.length) r) : Ch l last (x :: r) := by
  obtain ⟨y, q, rfl⟩ := hr.ne
  exact .tok h hx hr

theorem while_cut (p : UInt8 → Bool) (t : List UInt8) (b : UInt8) (r : List UInt8) (ht : ∀ c ∈ t, p c = true) (hb : p b = false) : (t ++ b :: r).takeWhile p = t := by
  induction t with
  | nil => rw [List.nil_append, List.takeWhile_cons, if_neg (by rw [hb]; decide)]
  | cons c t ih =>
    rw [List.cons_append, List.takeWhile_cons, if_pos (ht c List.mem_cons_self), ih (fun d hd => ht d (List.mem_cons_of_mem _ hd))]

theorem one_lo' {c : UInt8} {r : List UInt8} (h : loN c.toNat = true) : one (c :: r) = .ok (1, (c :: r).takeWhile ofW, 0) := by
  unfold one
  simp only
  rw [if_pos h]
theorem one_dg' {c : UInt8} {r : List UInt8} (h : loN c.toNat = false) (h2 : dgN c.toNat = true) : one (c :: r) = numR ((c :: r).takeWhile ofW) := by
  unfold one
  simp only
  rw [if_neg (by rw [h]; decide), if_pos h2]
theorem one_sg' {c : UInt8} {r : List UInt8} (h : loN c.toNat = false) (h2 : dgN c.toNat = false) : one (c :: r) = sgR (sign (c :: r)) := by
  unfold one
  simp only
  rw [if_neg (by rw [h]; decide), if_neg (by rw [h2]; decide)]

theorem sign_mem {l t : List UInt8} (h : sign l = some t) : t ∈ signs ∧ t.isPrefixOf l = true := by
  unfold sign at h
  have hp := List.find?_some h
  exact ⟨List.mem_of_find?_eq_some h, hp⟩

/-- a sign, ahead of a byte that goes on none. -/
theorem sign_stable {t : List UInt8} (h : t ∈ signs) (b : UInt8) (r : List UInt8) (hb : ¬ b.toNat = 61) : sign (t ++ b :: r) = some t := by
  have hd : ((61 : UInt8) == b) = false := by
    rw [beq_eq_false_iff_ne]
    intro e
    apply hb
    rw [← e]
    rfl
  simp [signs] at h
  rcases h with rfl | rfl | rfl | rfl | rfl | rfl | rfl | rfl | rfl <;> simp [sign, signs, List.find?, List.isPrefixOf, hd]

/-- what is told of a token at a text's front: its kind, its worth, and that it stays, whatever stands behind. -/
theorem one_good {l : List UInt8} {k n : Nat} {t : List UInt8} (h : one l = .ok (k, t, n)) :
    (k = 1 ∨ k = 2 ∨ k = 3) ∧ (k = 2 ∨ n = 0) ∧ (∀ c r, t = c :: r → blN c.toNat = false ∧ ¬ c.toNat = 35) ∧ ∀ b r, ofW b = false → ¬ b.toNat = 61 → one (t ++ b :: r) = .ok (k, t, n) := by
  match l, h with
  | c :: r, h =>
    have hwc : wN c.toNat = true → blN c.toNat = false ∧ ¬ c.toNat = 35 := by
      intro hw
      constructor
      · unfold blN
        unfold wN loN dgN at hw
        simp at hw ⊢
        omega
      · unfold wN loN dgN at hw
        simp at hw
        omega
    rcases Bool.eq_false_or_eq_true (loN c.toNat) with hl | hl
    · rw [one_lo' hl] at h
      have hw : ofW c = true := by show wN _ = true; unfold wN; rw [hl]; rfl
      have ht : (c :: r).takeWhile ofW = c :: r.takeWhile ofW := by rw [List.takeWhile_cons, if_pos hw]
      have hall := take_while_all ofW (c :: r)
      rw [ht] at h hall
      cases h
      refine ⟨.inl rfl, .inr rfl, fun d q e => ?_, fun b q hb _ => ?_⟩
      · injection e with e _
        subst e
        exact hwc hw
      · rw [List.cons_append, one_lo' hl, ← List.cons_append, while_cut _ _ _ _ hall hb]
    · rcases Bool.eq_false_or_eq_true (dgN c.toNat) with hd | hd
      · rw [one_dg' hl hd] at h
        have hw : ofW c = true := by show wN _ = true; unfold wN; rw [hd]; simp
        have ht : (c :: r).takeWhile ofW = c :: r.takeWhile ofW := by rw [List.takeWhile_cons, if_pos hw]
        have hall := take_while_all ofW (c :: r)
        rw [ht] at h hall
        have hk : k = 2 ∧ t = c :: r.takeWhile ofW := by
          unfold numR at h
          split at h
          · cases h; exact ⟨rfl, rfl⟩
          · cases h
        obtain ⟨rfl, rfl⟩ := hk
        refine ⟨.inr (.inl rfl), .inl rfl, fun d q e => ?_, fun b q hb _ => ?_⟩
        · injection e with e _
          subst e
          exact hwc hw
        · rw [List.cons_append, one_dg' hl hd, ← List.cons_append, while_cut _ _ _ _ hall hb]
          exact h
      · rw [one_sg' hl hd] at h
        unfold sgR at h
        split at h
        · next hs =>
          cases h
          obtain ⟨hm, hp⟩ := sign_mem hs
          refine ⟨.inr (.inr rfl), .inr rfl, fun d q e => ?_, fun b q hb hq => ?_⟩
          · subst e
            simp [signs] at hm
            rcases hm with h | h | h | h | h | h | h | h | h <;> (obtain ⟨rfl, rfl⟩ := h; exact ⟨by decide, by decide⟩)
          · have hst := sign_stable hm b q hq
            have hsg : ∀ d q', t = d :: q' → loN d.toNat = false ∧ dgN d.toNat = false := by
              intro d q' e
              subst e
              simp [signs] at hm
              rcases hm with h | h | h | h | h | h | h | h | h <;> (obtain ⟨rfl, rfl⟩ := h; exact ⟨by decide, by decide⟩)
            match t, hst, hsg with
            | [], hst, _ => exact absurd hm (by decide)
            | d :: q', hst, hsg =>
              obtain ⟨h1, h2⟩ := hsg d q' rfl
              rw [List.cons_append, one_sg' h1 h2, ← List.cons_append, hst]
              rfl
        · cases h

theorem drop_take_pre {pre m : List UInt8} (k : Nat) : ((pre ++ m).drop pre.length).take k = m.take k := by
  rw [List.drop_left]

theorem go_ch (l : List UInt8) : ∀ (m pre : List UInt8) (k last : Nat) (ts : List Tok), l = pre ++ m → last ≤ pre.length + k → k ≤ m.length → go k pre.length m = .ok ts → Ch l last ts := by
  intro m
  induction m with
  | nil =>
    intro pre k last ts hl h1 h2 h
    cases h
    simp at h2 hl
    subst hl
    exact .fin (by omega)
  | cons c r ih =>
    intro pre k last ts hl h1 h2 h
    have hl' : l = (pre ++ [c]) ++ r := by rw [hl]; simp
    have hp : (pre ++ [c]).length = pre.length + 1 := by simp
    have h2' : k ≤ r.length + 1 := h2
    by_cases hk : 0 < k
    · rw [go_over hk, ← hp] at h
      exact ih _ _ _ _ hl' (by omega) (by omega) h
    · obtain rfl : k = 0 := by omega
      rcases Bool.eq_false_or_eq_true (blN c.toNat) with hb | hb
      · rw [go_blank hb, ← hp] at h
        exact ih _ _ _ _ hl' (by omega) (Nat.zero_le _) h
      · by_cases hn : c.toNat = 35
        · rw [go_note hn, note_len hn, go_over (Nat.succ_pos _), ← hp] at h
          exact ih _ _ _ _ hl' (by omega) (take_while_le _ _) h
        · rw [go_one hb hn] at h
          split at h
          · cases h
          · next k' t n ho =>
            obtain ⟨t1, t2, t3⟩ := one_take ho
            have tl := one_le ho
            obtain ⟨g1, g2, g3, g4⟩ := one_good ho
            cases hg : go (t.length - 1) (pre.length + 1) r with
            | error e => rw [hg] at h; cases h
            | ok ts' =>
              rw [hg] at h
              cases h
              rw [← hp] at hg
              have tl' : t.length ≤ r.length + 1 := tl
              refine ch_cons (by simpa using h1) ⟨?_, ?_, t2, g1, g2, g3, g4⟩ (ih _ _ _ _ hl' (by show pre.length + t.length ≤ _; omega) (by omega) hg)
              · rw [hl]
                simp
                omega
              · rw [hl]
                show ((pre ++ c :: r).drop pre.length).take t.length = t
                rw [drop_take_pre]
                exact t1

theorem go_err (l : List UInt8) : ∀ (m pre : List UInt8) (k c q : Nat), l = pre ++ m → go k pre.length m = .error (c, q) → (c = 5 ∨ c = 6) ∧ q < l.length := by
  intro m
  induction m with
  | nil => intro pre k c q hl h; cases h
  | cons d r ih =>
    intro pre k c q hl h
    have hl' : l = (pre ++ [d]) ++ r := by rw [hl]; simp
    have hp : (pre ++ [d]).length = pre.length + 1 := by simp
    by_cases hk : 0 < k
    · rw [go_over hk, ← hp] at h
      exact ih _ _ _ _ hl' h
    · obtain rfl : k = 0 := by omega
      rcases Bool.eq_false_or_eq_true (blN d.toNat) with hb | hb
      · rw [go_blank hb, ← hp] at h
        exact ih _ _ _ _ hl' h
      · by_cases hn : d.toNat = 35
        · rw [go_note hn, note_len hn, go_over (Nat.succ_pos _), ← hp] at h
          exact ih _ _ _ _ hl' h
        · rw [go_one hb hn] at h
          split at h
          · next e ho =>
            cases h
            refine ⟨?_, by rw [hl]; simp⟩
            unfold one at ho
            simp only at ho
            split at ho
            · cases ho
            · split at ho
              · unfold numR at ho
                split at ho
                · cases ho
                · cases ho; exact .inr rfl
              · unfold sgR at ho
                split at ho
                · cases ho
                · cases ho; exact .inl rfl
          · next k' t n ho =>
            cases hg : go (t.length - 1) (pre.length + 1) r with
            | error e =>
              rw [hg] at h
              cases h
              rw [← hp] at hg
              exact ih _ _ _ _ hl' hg
            | ok ts' => rw [hg] at h; cases h

theorem all_ch {l : List UInt8} {ts : List Tok} (h : all l = .ok ts) : Ch l 0 ts := by
  unfold all at h
  split at h
  · cases h
  · exact go_ch l l [] 0 0 ts rfl (Nat.zero_le _) (Nat.zero_le _) h

/-- all tokens' texts, with something between. -/
def jn (sep : List UInt8) (ts : List Tok) : List UInt8 := ts.flatMap fun x => x.t ++ sep

theorem jn_snoc (sep : List UInt8) (ts : List Tok) (x : Tok) : jn sep (ts ++ [x]) = jn sep ts ++ (x.t ++ sep) := by simp [jn]
theorem jn_cons (sep : List UInt8) (ts : List Tok) (x : Tok) : jn sep (x :: ts) = x.t ++ sep ++ jn sep ts := by simp [jn]

/-- blanks that end what stands ahead of them. -/
structure Sep (sep : List UInt8) : Prop where
  pass : ∀ p r, go 0 p (sep ++ r) = go 0 (p + sep.length) r
  head : ∃ b q, sep = b :: q ∧ ofW b = false ∧ ¬ b.toNat = 61
  len : sep.length ≤ 3

theorem sep_tab : Sep [9] := by
  refine ⟨fun p r => ?_, ⟨9, [], rfl, by decide, by decide⟩, by decide⟩
  exact go_blank (by decide)

theorem sep_note : Sep [35, 59, 10] := by
  refine ⟨fun p r => ?_, ⟨35, [59, 10], rfl, by decide, by decide⟩, by decide⟩
  show go 0 p (35 :: 59 :: 10 :: r) = go 0 (p + 3) r
  rw [go_note (by decide)]
  have h : ((35 :: 59 :: 10 :: r : List UInt8).takeWhile ofN).length = 2 := by
    rw [List.takeWhile_cons, if_pos (by decide), List.takeWhile_cons, if_pos (by decide), List.takeWhile_cons, if_neg (by decide)]
    rfl
  rw [h, go_over (by decide), go_over (by decide)]
  exact go_blank (by decide)

/-- tokens but for their places. -/
def kv (x : Tok) : Nat × List UInt8 × Nat := (x.k, x.t, x.n)

theorem go_jn {l sep : List UInt8} (hs : Sep sep) {last : Nat} {ts : List Tok} (h : Ch l last ts) : ∀ p, ∃ us, go 0 p (jn sep ts) = .ok us ∧ us.map kv = ts.map kv := by
  induction h using Ch.ind with
  | fin h =>
    intro p
    refine ⟨[⟨4, p + sep.length, [], 0⟩], ?_, rfl⟩
    have : jn sep [⟨4, l.length, [], 0⟩] = sep ++ [] := by simp [jn]
    rw [this, hs.pass]
    rfl
  | @tok last x y r h hx hr ih =>
    intro p
    obtain ⟨us, h1, h2⟩ := ih (p + x.t.length + sep.length)
    refine ⟨⟨x.k, p, x.t, x.n⟩ :: us, ?_, by simp [h2, kv]⟩
    obtain ⟨b, q, hb, hb1, hb2⟩ := hs.head
    have ho := hx.st.2 b (q ++ jn sep (y :: r)) hb1 hb2
    have he : x.t ++ b :: (q ++ jn sep (y :: r)) = jn sep (x :: y :: r) := by
      rw [jn_cons sep (y :: r) x]
      generalize jn sep (y :: r) = J
      rw [hb]
      simp
    rw [he] at ho
    have hne := hx.ne
    have hst := hx.st.1
    match ht : x.t, hne, hst with
    | c :: t', _, hst =>
      obtain ⟨g1, g2⟩ := hst c t' rfl
      have hj : jn sep (x :: y :: r) = c :: (t' ++ (sep ++ jn sep (y :: r))) := by
        rw [jn_cons sep (y :: r) x]
        generalize jn sep (y :: r) = J
        rw [ht]
        simp
      rw [hj] at ho ⊢
      rw [go_one g1 g2, ho, ht]
      simp only
      have hk : (c :: t').length - 1 = t'.length + 0 := by simp
      rw [hk, go_skip _ _ _ _ (by simp), List.drop_left, hs.pass]
      rw [ht] at h1
      rw [show p + 1 + t'.length + sep.length = p + (c :: t').length + sep.length from by simp; omega, h1]
      rfl

theorem jn_len {l sep : List UInt8} (hs : Sep sep) {last : Nat} {ts : List Tok} (h : Ch l last ts) : (jn sep ts).length + 4 * last ≤ 4 * l.length + 3 := by
  have hl := hs.len
  induction h using Ch.ind with
  | fin h =>
    have : jn sep [⟨4, l.length, [], 0⟩] = sep := by simp [jn]
    rw [this]
    omega
  | @tok last x y r h hx hr ih =>
    rw [jn_cons, List.length_append, List.length_append]
    have := hx.ne
    omega

/-- so far on. -/
def sh (d : Nat) (x : Tok) : Tok := ⟨x.k, x.at' + d, x.t, x.n⟩
def shR (d : Nat) : (Except (Nat × Nat) (List Tok)) → (Except (Nat × Nat) (List Tok))
  | .error (c, p) => .error (c, p + d)
  | .ok ts => .ok (ts.map (sh d))

theorem shR_glue (d : Nat) (a : List Tok) (r : (Except (Nat × Nat) (List Tok))) : shR d (glue a r) = glue (a.map (sh d)) (shR d r) := by
  cases r with
  | error e => rfl
  | ok ts => simp [glue, shR]

theorem go_shift (d : Nat) : ∀ (l : List UInt8) (k p : Nat), go k (p + d) l = shR d (go k p l) := by
  intro l
  induction l with
  | nil => intro k p; rfl
  | cons c r ih =>
    intro k p
    by_cases hk : 0 < k
    · rw [go_over hk, go_over hk, ← ih, show p + d + 1 = p + 1 + d from by omega]
    · obtain rfl : k = 0 := by omega
      rcases Bool.eq_false_or_eq_true (blN c.toNat) with hb | hb
      · rw [go_blank hb, go_blank hb, ← ih, show p + d + 1 = p + 1 + d from by omega]
      · by_cases hn : c.toNat = 35
        · rw [go_note hn, go_note hn, note_len hn, go_over (Nat.succ_pos _), go_over (Nat.succ_pos _), ← ih, show p + d + 1 = p + 1 + d from by omega]
        · rw [go_one hb hn, go_one hb hn]
          cases one (c :: r) with
          | error e => rfl
          | ok x =>
            obtain ⟨k', t, n⟩ := x
            simp only
            rw [shR_glue, ← ih, show p + d + 1 = p + 1 + d from by omega]
            rfl

/-- line ends, and a note. -/
def ahd (n : Nat) : List UInt8 := List.replicate n 10 ++ [35, 32, 97, 10]

theorem go_lines (n : Nat) : ∀ (p : Nat) (r : List UInt8), go 0 p (List.replicate n 10 ++ r) = go 0 (p + n) r := by
  induction n with
  | zero => intro p r; rfl
  | succ n ih =>
    intro p r
    rw [List.replicate_succ, List.cons_append, go_blank (by decide), ih, show p + 1 + n = p + (n + 1) from by omega]

theorem ahd_len (n : Nat) : (ahd n).length = n + 4 := by simp [ahd]

theorem go_ahd (n : Nat) (l : List UInt8) : go 0 0 (ahd n ++ l) = shR (n + 4) (go 0 0 l) := by
  unfold ahd
  rw [List.append_assoc, go_lines, Nat.zero_add]
  show go 0 n (35 :: 32 :: 97 :: 10 :: l) = _
  rw [go_note (by decide)]
  have h : ((35 :: 32 :: 97 :: 10 :: l : List UInt8).takeWhile ofN).length = 3 := by
    rw [List.takeWhile_cons, if_pos (by decide), List.takeWhile_cons, if_pos (by decide), List.takeWhile_cons, if_pos (by decide), List.takeWhile_cons, if_neg (by decide)]
    rfl
  rw [h, go_over (by decide), go_over (by decide), go_over (by decide)]
  rw [go_blank (by decide)]
  have h2 := go_shift (n + 4) l 0 0
  rw [Nat.zero_add] at h2
  exact h2

theorem all_ahd (n : Nat) (l : List UInt8) (hl : l.length ≤ 4000) (hn : n ≤ 100) : all (ahd n ++ l) = shR (n + 4) (all l) := by
  unfold all
  rw [if_neg (by rw [List.length_append, ahd_len]; omega), if_neg (by omega), go_ahd]

end Go.Proofs.YtcckipimfgmmdaaGreatDoor.P
