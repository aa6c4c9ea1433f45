/-
  Tokens by their texts: a token's first sign says its kind; what a number may be worth.
-/
import Derived.Test.YtcckipimfgmmdaaGreatDoorPPTop
import Derived.Test.YtcckipimfgmmdaaGreatDoorPPDesc
namespace Go.Proofs.YtcckipimfgmmdaaGreatDoor.P
open Go

theorem parse_lt (b : Nat) : ∀ (l : List UInt8) (a n : Nat), a < 18446744073709551616 → parse b a l = some n → n < 18446744073709551616 := by
  intro l
  induction l with
  | nil => intro a n ha h; simp [parse] at h; omega
  | cons c r ih =>
    intro a n ha h
    unfold parse at h
    split at h
    · next hc => exact ih _ _ hc.2 h
    · cases h
theorem numV_lt {t : List UInt8} {n : Nat} (h : numV t = some n) : n < 18446744073709551616 := by
  unfold numV at h
  split at h
  · split at h
    · exact parse_lt 16 _ 0 n (by decide) h
    · cases h
  · split at h
    · split at h
      · cases h; decide
      · cases h
    · exact parse_lt 10 _ 0 n (by decide) h

/-- what a token of a text is like: its text says its kind. -/
structure Tk (x : Tok) : Prop where
  k : (x.k = 4 ∧ x.t = []) ∨ ∃ c r, x.t = c :: r ∧ x.k = (if loN c.toNat then 1 else if dgN c.toNat then 2 else 3)
  n : x.n < 18446744073709551616

theorem good_tk {l : List UInt8} {x : Tok} (h : Good l x) : Tk x := by
  have ho := h.st.2 9 [] (by decide) (by decide)
  have hne := h.ne
  match ht : x.t, hne with
  | c :: t', _ =>
    rw [ht, List.cons_append] at ho
    rcases Bool.eq_false_or_eq_true (loN c.toNat) with hl | hl
    · rw [one_lo' hl] at ho
      injection ho with ho
      have h1 := congrArg (fun z => z.1) ho
      have h2 := congrArg (fun z => z.2.2) ho
      simp only at h1 h2
      exact ⟨.inr ⟨c, t', ht, by rw [if_pos hl]; exact h1.symm⟩, by rw [← h2]; decide⟩
    · rcases Bool.eq_false_or_eq_true (dgN c.toNat) with hd | hd
      · rw [one_dg' hl hd] at ho
        unfold numR at ho
        split at ho
        · next n hn =>
          injection ho with ho
          have h1 := congrArg (fun z => z.1) ho
          have h2 := congrArg (fun z => z.2.2) ho
          simp only at h1 h2
          exact ⟨.inr ⟨c, t', ht, by rw [if_neg (by rw [hl]; decide), if_pos hd]; exact h1.symm⟩, by rw [← h2]; exact numV_lt hn⟩
        · cases ho
      · rw [one_sg' hl hd] at ho
        unfold sgR at ho
        split at ho
        · injection ho with ho
          have h1 := congrArg (fun z => z.1) ho
          have h2 := congrArg (fun z => z.2.2) ho
          simp only at h1 h2
          exact ⟨.inr ⟨c, t', ht, by rw [if_neg (by rw [hl]; decide), if_neg (by rw [hd]; decide)]; exact h1.symm⟩, by rw [← h2]; decide⟩
        · cases ho

theorem all_tk {l : List UInt8} {ts : List Tok} (h : all l = .ok ts) : ∀ x ∈ ts, Tk x := by
  intro x hx
  obtain ⟨A, hA, gA, _⟩ := ch_init (all_ch h)
  rw [hA] at hx
  rcases List.mem_append.1 hx with hx | hx
  · exact good_tk (gA x hx)
  · simp at hx
    subst hx
    exact ⟨.inl ⟨rfl, rfl⟩, by show (0 : Nat) < _; decide⟩

section
variable {x : Tok}
theorem Tk.lo (h : Tk x) {c : UInt8} {r : List UInt8} (ht : x.t = c :: r) (hc : loN c.toNat = true) : x.k = 1 := by
  rcases h.k with ⟨_, h0⟩ | ⟨c', r', h1, h2⟩
  · rw [h0] at ht; cases ht
  · rw [ht] at h1
    cases h1
    rw [h2, if_pos hc]
theorem Tk.sg (h : Tk x) {c : UInt8} {r : List UInt8} (ht : x.t = c :: r) (hc : loN c.toNat = false) (hd : dgN c.toNat = false) : x.k = 3 := by
  rcases h.k with ⟨_, h0⟩ | ⟨c', r', h1, h2⟩
  · rw [h0] at ht; cases ht
  · rw [ht] at h1
    cases h1
    rw [h2, if_neg (by rw [hc]; decide), if_neg (by rw [hd]; decide)]
theorem Tk.isW (h : Tk x) (c : UInt8) (r : List UInt8) (hc : loN c.toNat = true) : isW x (c :: r) = (x.t == c :: r) := by
  unfold Go.Proofs.YtcckipimfgmmdaaGreatDoor.P.isW
  rcases Bool.eq_false_or_eq_true (x.t == c :: r) with e | e
  · rw [e, h.lo (beq_iff_eq.1 e) hc]; rfl
  · rw [e, Bool.and_false]
theorem Tk.isS (h : Tk x) (c : UInt8) (r : List UInt8) (hc : loN c.toNat = false) (hd : dgN c.toNat = false) : isS x (c :: r) = (x.t == c :: r) := by
  unfold Go.Proofs.YtcckipimfgmmdaaGreatDoor.P.isS
  rcases Bool.eq_false_or_eq_true (x.t == c :: r) with e | e
  · rw [e, h.sg (beq_iff_eq.1 e) hc hd]; rfl
  · rw [e, Bool.and_false]

theorem kind_word {t : List UInt8} (h : ¬ kindOf t = 0) : ∃ c r, t = c :: r ∧ loN c.toNat = true := by
  unfold kindOf at h
  repeat' split at h
  all_goals first | (next e => exact ⟨_, _, e, by decide⟩) | exact absurd rfl h
theorem arg_word {t : List UInt8} (h : ¬ argOf t = 0) : ∃ c r, t = c :: r ∧ loN c.toNat = true := by
  unfold argOf at h
  repeat' split at h
  all_goals first | (next e => exact ⟨_, _, e, by decide⟩) | exact absurd rfl h
theorem op_sign {t : List UInt8} (h : ¬ opOf t = 0) : ∃ c r, t = c :: r ∧ loN c.toNat = false ∧ dgN c.toNat = false := by
  unfold opOf at h
  repeat' split at h
  all_goals first | (next e => exact ⟨_, _, e, by decide, by decide⟩) | exact absurd rfl h

theorem Tk.isA (h : Tk x) : isA x = !(kindOf x.t == 0) := by
  unfold Go.Proofs.YtcckipimfgmmdaaGreatDoor.P.isA
  by_cases e : kindOf x.t = 0
  · simp [e]
  · obtain ⟨c, r, h1, h2⟩ := kind_word e
    rw [h.lo h1 h2]; rfl
theorem Tk.isG (h : Tk x) : isG x = !(argOf x.t == 0) := by
  unfold Go.Proofs.YtcckipimfgmmdaaGreatDoor.P.isG
  by_cases e : argOf x.t = 0
  · simp [e]
  · obtain ⟨c, r, h1, h2⟩ := arg_word e
    rw [h.lo h1 h2]; rfl
theorem Tk.isO (h : Tk x) : isO x = !(opOf x.t == 0) := by
  unfold Go.Proofs.YtcckipimfgmmdaaGreatDoor.P.isO
  by_cases e : opOf x.t = 0
  · simp [e]
  · obtain ⟨c, r, h1, h2, h3⟩ := op_sign e
    rw [h.sg h1 h2 h3]; rfl
theorem Tk.not_end (h : Tk x) (hn : ¬ x.t = []) : ¬ x.k = 4 := by
  rcases h.k with ⟨_, h0⟩ | ⟨c', r', h1, h2⟩
  · exact absurd h0 hn
  · rw [h2]
    split
    · decide
    · split <;> decide
end

/-- the tokens of a text, for a reader: each is like its text, and behind each but the end stands one. -/
structure Tks (ts : List Tok) : Prop where
  tk : ∀ i (h : i < ts.length), Tk ts[i]
  nx : ∀ i (h : i < ts.length), ¬ ts[i].k = 4 → i + 1 < ts.length
  pos : 0 < ts.length
  len : ts.length ≤ 100000

end Go.Proofs.YtcckipimfgmmdaaGreatDoor.P
