/-
  A number's digits are read as it is; texts that are shown are read as tokens.
-/
import Derived.Test.YtcllgpbgikidjaaDoorPWide
import Derived.Test.YtcllgpbgikidjaaDoorSLen
namespace Go.Proofs.YtcllgpbgikidjaaDoor
open Go

theorem parse_app (b : Nat) : ∀ (l m : List UInt8) (a : Nat), parse b a (l ++ m) = (parse b a l).bind fun v => parse b v m := by
  intro l
  induction l with
  | nil => intro m a; rfl
  | cons c l ih =>
    intro m a
    show (if dv c < b ∧ a * b + dv c < 18446744073709551616 then parse b (a * b + dv c) (l ++ m) else none) = (if dv c < b ∧ a * b + dv c < 18446744073709551616 then parse b (a * b + dv c) l else none).bind _
    split
    · exact ih m _
    · rfl

theorem dig_all : ∀ d : Fin 10, dv (UInt8.ofNat (48 + d.val)) = d.val ∧ dgN (UInt8.ofNat (48 + d.val)).toNat = true ∧ loN (UInt8.ofNat (48 + d.val)).toNat = false ∧ ofW (UInt8.ofNat (48 + d.val)) = true ∧ (¬ d.val = 0 → ¬ UInt8.ofNat (48 + d.val) = 48) := by decide
theorem dig_at {d : Nat} (h : d < 10) : dv (UInt8.ofNat (48 + d)) = d ∧ dgN (UInt8.ofNat (48 + d)).toNat = true ∧ loN (UInt8.ofNat (48 + d)).toNat = false ∧ ofW (UInt8.ofNat (48 + d)) = true ∧ (¬ d = 0 → ¬ UInt8.ofNat (48 + d) = 48) := dig_all ⟨d, h⟩

theorem parse_one {a d : Nat} (hd : d < 10) (h : a * 10 + d < 18446744073709551616) : parse 10 a [UInt8.ofNat (48 + d)] = some (a * 10 + d) := by
  have e := (dig_at hd).1
  show (if dv (UInt8.ofNat (48 + d)) < 10 ∧ a * 10 + dv (UInt8.ofNat (48 + d)) < 18446744073709551616 then some (a * 10 + dv (UInt8.ofNat (48 + d))) else none) = _
  rw [e, if_pos ⟨hd, h⟩]

/-- what a number's digits are like. -/
structure DecOk (n : Nat) (l : List UInt8) : Prop where
  num : n < 18446744073709551616 → parse 10 0 l = some n
  dig : ∀ c ∈ l, dgN c.toNat = true ∧ loN c.toNat = false ∧ ofW c = true
  lead : (n = 0 ∧ l = [48]) ∨ ∃ c r, l = c :: r ∧ ¬ c = 48

theorem dec_ok : ∀ n, DecOk n (Lib.decDigits n) := by
  intro n
  induction n using Nat.strongRecOn with
  | ind n ih =>
    rw [Lib.decDigits]
    split
    · next h =>
      have hd := dig_at h
      refine ⟨fun hn => ?_, ?_, ?_⟩
      · have := parse_one (a := 0) h (by omega)
        simpa using this
      · intro c hc
        have : c = UInt8.ofNat (48 + n) := by simpa using hc
        subst this
        exact ⟨hd.2.1, hd.2.2.1, hd.2.2.2.1⟩
      · by_cases h0 : n = 0
        · subst h0
          exact .inl ⟨rfl, rfl⟩
        · exact .inr ⟨_, _, rfl, hd.2.2.2.2 h0⟩
    · next h =>
      have hq := ih (n / 10) (by omega)
      have hd := dig_at (d := n % 10) (by omega)
      refine ⟨fun hn => ?_, ?_, ?_⟩
      · rw [parse_app, hq.num (by omega)]
        show parse 10 (n / 10) [UInt8.ofNat (48 + n % 10)] = _
        rw [parse_one (by omega) (by omega)]
        congr 1
        omega
      · intro c hc
        rcases List.mem_append.1 hc with h1 | h1
        · exact hq.dig c h1
        · have : c = UInt8.ofNat (48 + n % 10) := by simpa using h1
          subst this
          exact ⟨hd.2.1, hd.2.2.1, hd.2.2.2.1⟩
      · rcases hq.lead with ⟨h1, _⟩ | ⟨c, r, h1, h2⟩
        · omega
        · exact .inr ⟨c, r ++ [UInt8.ofNat (48 + n % 10)], by rw [h1]; rfl, h2⟩

theorem DecOk.numV {n : Nat} {l : List UInt8} (h : DecOk n l) (hn : n < 18446744073709551616) : numV l = some n := by
  have hp := h.num hn
  have h2 : ¬ l.take 2 = [48, 120] := by
    intro e
    have hm : (120 : UInt8) ∈ l := List.mem_of_mem_take (i := 2) (by rw [e]; simp)
    exact absurd (h.dig _ hm).1 (by decide)
  unfold Go.Proofs.YtcllgpbgikidjaaDoor.numV
  rw [if_neg h2]
  rcases h.lead with ⟨h0, e⟩ | ⟨c, r, e, hc⟩
  · subst h0 e
    rfl
  · rw [if_neg (by rw [e]; simpa using hc)]
    exact hp

theorem DecOk.ne {n : Nat} {l : List UInt8} (h : DecOk n l) : ∃ c r, l = c :: r := by
  rcases h.lead with ⟨_, e⟩ | ⟨c, r, e, _⟩
  · exact ⟨_, _, e⟩
  · exact ⟨c, r, e⟩

/-- a number. -/
theorem lx_num {n : Nat} (hn : n < 18446744073709551616) : Lx (Lib.decDigits n) [⟨2, 0, Lib.decDigits n, n⟩] := by
  have hk := dec_ok n
  generalize Lib.decDigits n = l at *
  obtain ⟨c, t, rfl⟩ := hk.ne
  intro p rest hr
  obtain ⟨b, q, rfl, h1, h2⟩ := hr
  have hc := hk.dig c List.mem_cons_self
  have hw : blN c.toNat = false ∧ ¬ c.toNat = 35 := by
    have := hc.1
    unfold dgN at this
    unfold blN
    simp at this ⊢
    omega
  refine ⟨[⟨2, p, c :: t, n⟩], rfl, go_tok hw.1 hw.2 ?_⟩
  rw [List.cons_append, one_dg' hc.2.1 hc.1, ← List.cons_append, while_cut _ _ _ _ (fun d hd => (hk.dig d hd).2.2) h1]
  unfold numR
  rw [hk.numV hn]

/-- a sign. -/
theorem lx_sign {t : List UInt8} (h : t ∈ signs) : Lx t [⟨3, 0, t, 0⟩] := by
  intro p rest hr
  obtain ⟨b, q, rfl, h1, h2⟩ := hr
  have hs := sign_stable h b q h2
  have hc : ∃ c r, t = c :: r ∧ loN c.toNat = false ∧ dgN c.toNat = false ∧ blN c.toNat = false ∧ ¬ c.toNat = 35 := by
    simp only [signs, List.mem_cons, List.not_mem_nil, or_false] at h
    rcases h with rfl | rfl | rfl | rfl | rfl | rfl | rfl | rfl | rfl <;> exact ⟨_, _, rfl, by decide, by decide, by decide, by decide⟩
  obtain ⟨c, r, rfl, g1, g2, g3, g4⟩ := hc
  refine ⟨[⟨3, p, c :: r, 0⟩], rfl, go_tok g3 g4 ?_⟩
  rw [List.cons_append, one_sg' g1 g2, ← List.cons_append, hs]
  rfl

theorem lx_nl : LxU [10] [] := by
  intro p rest
  exact ⟨[], rfl, by rw [List.cons_append, go_blank (by decide), glue_nil]; rfl⟩

/-- texts with a blank between. -/
theorem lx_joined : ∀ (L : List (List UInt8 × List Tok)), ¬ L = [] → (∀ x ∈ L, Lx x.1 x.2) → Lx (Lib.join (L.map Prod.fst) [32]) (L.flatMap Prod.snd) := by
  intro L
  induction L with
  | nil => intro h; exact absurd rfl h
  | cons x L ih =>
    intro _ h
    have hx := h x List.mem_cons_self
    cases L with
    | nil =>
      rw [List.map_cons, List.map_nil, Lib.join_one, List.flatMap_cons, List.flatMap_nil, List.append_nil]
      exact hx
    | cons y L =>
      have h2 := ih (by simp) fun z hz => h z (List.mem_cons_of_mem _ hz)
      have e : Lib.join ((x :: y :: L).map Prod.fst) [32] = x.1 ++ ([32] ++ Lib.join ((y :: L).map Prod.fst) [32]) := by
        rw [List.map_cons, Lib.join_cons, List.map_cons, Lib.join_cons]
        simp [Lib.joinTail]
      rw [e, List.flatMap_cons]
      have h3 : Lx ([32] ++ Lib.join ((y :: L).map Prod.fst) [32]) ([] ++ (y :: L).flatMap Prod.snd) := lx_blank.trans h2
      exact hx.trans h3 (fin_32 _)

/-- a line. -/
theorem lx_line {L : List (List UInt8 × List Tok)} (h0 : ¬ L = []) (h : ∀ x ∈ L, Lx x.1 x.2) : LxU (Lib.join (L.map Prod.fst) [32] ++ [59, 10]) (L.flatMap Prod.snd ++ [tS]) :=
  (lx_joined L h0 h).transU (C := [59, 10]) (M := [tS]) (lx_semi.transU lx_nl) (fin_59 _)

/-- a word, by what Is asks. -/
theorem lx_isWd {t : List UInt8} (h : isWd t = true) : Lx t [⟨1, 0, t, 0⟩] := by
  match t, h with
  | c :: r, h =>
    have h' : (loN c.toNat && decide (((c :: r).takeWhile ofW).length = (c :: r).length)) = true := h
    simp only [Bool.and_eq_true, decide_eq_true_eq] at h'
    refine lx_word h'.1 fun d hd => ?_
    have e : (c :: r).takeWhile ofW = c :: r := by
      have := take_while_take ofW (c :: r)
      rw [h'.2, List.take_length] at this
      exact this.symm
    rw [← e] at hd
    exact take_while_all ofW _ d hd

end Go.Proofs.YtcllgpbgikidjaaDoor
