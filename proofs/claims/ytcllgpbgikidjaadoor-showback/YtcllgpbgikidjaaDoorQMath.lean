/-
  QMath
-/
import Derived.Test.YtcllgpbgikidjaaDoorPWide
import Derived.Test.YtcllgpbgikidjaaDoorSLn
import Derived.Test.YtcllgpbgikidjaaDoorPTop
import Derived.Test.YtcllgpbgikidjaaDoorPTok
import Derived.Test.YtcllgpbgikidjaaDoorPar
/-
  A number's digits are read as it is; texts that are shown are read as tokens.
-/
namespace Go.Proofs.YtcllgpbgikidjaaDoor
open Go

theorem parse_app (b : Nat) : ∀ (l m : List UInt8) (a : Nat), parse b a (l ++ m) = (parse b a l).bind fun v => parse b v m := by
  intro l
  induction l with
  | nil => intro m a; rfl
  | cons c l ih =>
    intro m a
    show (if dv c < b ∧ a * b + dv c < 18446744073709551616 then parse b (a * b + dv c) (l ++ m) else none) = (if dv c < b ∧ a * b + dv c < 18446744073709551616 then parse b (a * b + dv c) l else none).bind _
    split
    · exact ih m _
    · rfl

theorem dig_all : ∀ d : Fin 10, dv (UInt8.ofNat (48 + d.val)) = d.val ∧ dgN (UInt8.ofNat (48 + d.val)).toNat = true ∧ loN (UInt8.ofNat (48 + d.val)).toNat = false ∧ ofW (UInt8.ofNat (48 + d.val)) = true ∧ (¬ d.val = 0 → ¬ UInt8.ofNat (48 + d.val) = 48) := by decide
theorem dig_at {d : Nat} (h : d < 10) : dv (UInt8.ofNat (48 + d)) = d ∧ dgN (UInt8.ofNat (48 + d)).toNat = true ∧ loN (UInt8.ofNat (48 + d)).toNat = false ∧ ofW (UInt8.ofNat (48 + d)) = true ∧ (¬ d = 0 → ¬ UInt8.ofNat (48 + d) = 48) := dig_all ⟨d, h⟩

theorem parse_one {a d : Nat} (hd : d < 10) (h : a * 10 + d < 18446744073709551616) : parse 10 a [UInt8.ofNat (48 + d)] = some (a * 10 + d) := by
  have e := (dig_at hd).1
  show (if dv (UInt8.ofNat (48 + d)) < 10 ∧ a * 10 + dv (UInt8.ofNat (48 + d)) < 18446744073709551616 then some (a * 10 + dv (UInt8.ofNat (48 + d))) else none) = _
  rw [e, if_pos ⟨hd, h⟩]

/-- what a number's digits are like. -/
structure DecOk (n : Nat) (l : List UInt8) : Prop where
  num : n < 18446744073709551616 → parse 10 0 l = some n
  dig : ∀ c ∈ l, dgN c.toNat = true ∧ loN c.toNat = false ∧ ofW c = true
  lead : (n = 0 ∧ l = [48]) ∨ ∃ c r, l = c :: r ∧ ¬ c = 48

theorem dec_ok : ∀ n, DecOk n (Lib.decDigits n) := by
  intro n
  induction n using Nat.strongRecOn with
  | ind n ih =>
    rw [Lib.decDigits]
    split
    · next h =>
      have hd := dig_at h
      refine ⟨fun hn => ?_, ?_, ?_⟩
      · have := parse_one (a := 0) h (by omega)
        simpa using this
      · intro c hc
        have : c = UInt8.ofNat (48 + n) := by simpa using hc
        subst this
        exact ⟨hd.2.1, hd.2.2.1, hd.2.2.2.1⟩
      · by_cases h0 : n = 0
        · subst h0
          exact .inl ⟨rfl, rfl⟩
        · exact .inr ⟨_, _, rfl, hd.2.2.2.2 h0⟩
    · next h =>
      have hq := ih (n / 10) (by omega)
      have hd := dig_at (d := n % 10) (by omega)
      refine ⟨fun hn => ?_, ?_, ?_⟩
      · rw [parse_app, hq.num (by omega)]
        show parse 10 (n / 10) [UInt8.ofNat (48 + n % 10)] = _
        rw [parse_one (by omega) (by omega)]
        congr 1
        omega
      · intro c hc
        rcases List.mem_append.1 hc with h1 | h1
        · exact hq.dig c h1
        · have : c = UInt8.ofNat (48 + n % 10) := by simpa using h1
          subst this
          exact ⟨hd.2.1, hd.2.2.1, hd.2.2.2.1⟩
      · rcases hq.lead with ⟨h1, _⟩ | ⟨c, r, h1, h2⟩
        · omega
        · exact .inr ⟨c, r ++ [UInt8.ofNat (48 + n % 10)], by rw [h1]; rfl, h2⟩

theorem DecOk.numV {n : Nat} {l : List UInt8} (h : DecOk n l) (hn : n < 18446744073709551616) : numV l = some n := by
  have hp := h.num hn
  have h2 : ¬ l.take 2 = [48, 120] := by
    intro e
    have hm : (120 : UInt8) ∈ l := List.mem_of_mem_take (i := 2) (by rw [e]; simp)
    exact absurd (h.dig _ hm).1 (by decide)
  unfold Go.Proofs.YtcllgpbgikidjaaDoor.numV
  rw [if_neg h2]
  rcases h.lead with ⟨h0, e⟩ | ⟨c, r, e, hc⟩
  · subst h0 e
    rfl
  · rw [if_neg (by rw [e]; simpa using hc)]
    exact hp

theorem DecOk.ne {n : Nat} {l : List UInt8} (h : DecOk n l) : ∃ c r, l = c :: r := by
  rcases h.lead with ⟨_, e⟩ | ⟨c, r, e, _⟩
  · exact ⟨_, _, e⟩
  · exact ⟨c, r, e⟩

/-- a number. -/
theorem lx_num {n : Nat} (hn : n < 18446744073709551616) : Lx (Lib.decDigits n) [⟨2, 0, Lib.decDigits n, n⟩] := by
  have hk := dec_ok n
  generalize Lib.decDigits n = l at *
  obtain ⟨c, t, rfl⟩ := hk.ne
  intro p rest hr
  obtain ⟨b, q, rfl, h1, h2⟩ := hr
  have hc := hk.dig c List.mem_cons_self
  have hw : blN c.toNat = false ∧ ¬ c.toNat = 35 := by
    have := hc.1
    unfold dgN at this
    unfold blN
    simp at this ⊢
    omega
  refine ⟨[⟨2, p, c :: t, n⟩], rfl, go_tok hw.1 hw.2 ?_⟩
  rw [List.cons_append, one_dg' hc.2.1 hc.1, ← List.cons_append, while_cut _ _ _ _ (fun d hd => (hk.dig d hd).2.2) h1]
  unfold numR
  rw [hk.numV hn]

/-- a sign. -/
theorem lx_sign {t : List UInt8} (h : t ∈ signs) : Lx t [⟨3, 0, t, 0⟩] := by
  intro p rest hr
  obtain ⟨b, q, rfl, h1, h2⟩ := hr
  have hs := sign_stable h b q h2
  have hc : ∃ c r, t = c :: r ∧ loN c.toNat = false ∧ dgN c.toNat = false ∧ blN c.toNat = false ∧ ¬ c.toNat = 35 := by
    simp only [signs, List.mem_cons, List.not_mem_nil, or_false] at h
    rcases h with rfl | rfl | rfl | rfl | rfl | rfl | rfl | rfl | rfl <;> exact ⟨_, _, rfl, by decide, by decide, by decide, by decide⟩
  obtain ⟨c, r, rfl, g1, g2, g3, g4⟩ := hc
  refine ⟨[⟨3, p, c :: r, 0⟩], rfl, go_tok g3 g4 ?_⟩
  rw [List.cons_append, one_sg' g1 g2, ← List.cons_append, hs]
  rfl

theorem lx_nl : LxU [10] [] := by
  intro p rest
  exact ⟨[], rfl, by rw [List.cons_append, go_blank (by decide), glue_nil]; rfl⟩

/-- texts with a blank between. -/
theorem lx_joined : ∀ (L : List (List UInt8 × List Tok)), ¬ L = [] → (∀ x ∈ L, Lx x.1 x.2) → Lx (Lib.join (L.map Prod.fst) [32]) (L.flatMap Prod.snd) := by
  intro L
  induction L with
  | nil => intro h; exact absurd rfl h
  | cons x L ih =>
    intro _ h
    have hx := h x List.mem_cons_self
    cases L with
    | nil =>
      rw [List.map_cons, List.map_nil, Lib.join_one, List.flatMap_cons, List.flatMap_nil, List.append_nil]
      exact hx
    | cons y L =>
      have h2 := ih (by simp) fun z hz => h z (List.mem_cons_of_mem _ hz)
      have e : Lib.join ((x :: y :: L).map Prod.fst) [32] = x.1 ++ ([32] ++ Lib.join ((y :: L).map Prod.fst) [32]) := by
        rw [List.map_cons, Lib.join_cons, List.map_cons, Lib.join_cons]
        simp [Lib.joinTail]
      rw [e, List.flatMap_cons]
      have h3 : Lx ([32] ++ Lib.join ((y :: L).map Prod.fst) [32]) ([] ++ (y :: L).flatMap Prod.snd) := lx_blank.trans h2
      exact hx.trans h3 (fin_32 _)

/-- a line. -/
theorem lx_line {L : List (List UInt8 × List Tok)} (h0 : ¬ L = []) (h : ∀ x ∈ L, Lx x.1 x.2) : LxU (Lib.join (L.map Prod.fst) [32] ++ [59, 10]) (L.flatMap Prod.snd ++ [tS]) :=
  (lx_joined L h0 h).transU (C := [59, 10]) (M := [tS]) (lx_semi.transU lx_nl) (fin_59 _)

/-- a word, by what Is asks. -/
theorem lx_isWd {t : List UInt8} (h : isWd t = true) : Lx t [⟨1, 0, t, 0⟩] := by
  match t, h with
  | c :: r, h =>
    have h' : (loN c.toNat && decide (((c :: r).takeWhile ofW).length = (c :: r).length)) = true := h
    simp only [Bool.and_eq_true, decide_eq_true_eq] at h'
    refine lx_word h'.1 fun d hd => ?_
    have e : (c :: r).takeWhile ofW = c :: r := by
      have := take_while_take ofW (c :: r)
      rw [h'.2, List.take_length] at this
      exact this.symm
    rw [← e] at hd
    exact take_while_all ofW _ d hd

end Go.Proofs.YtcllgpbgikidjaaDoor

/-
  What is shown is parsed as it was: in plain words.
-/
namespace Go.Proofs.YtcllgpbgikidjaaDoor
open Go

/-- rules out of numbers and texts. -/
def toC (c : Xc) : Cd := ⟨c.arg.toNat, c.op.toNat, c.mask.toNat, c.val.toNat⟩
def toR (x : Xl) : Rl := ⟨⟨x.k.toNat, x.a.toNat⟩, x.names.map lst, x.conds.map toC⟩

def tW (t : List UInt8) : Tok := ⟨1, 0, t, 0⟩
def tN (n : Nat) : Tok := ⟨2, 0, Lib.decDigits n, n⟩
def tG (t : List UInt8) : Tok := ⟨3, 0, t, 0⟩

/-- texts with their tokens. -/
abbrev Pr := List UInt8 × List Tok
def actP (k a : Int) : List Pr := (wordS k.toNat, [tW (wordS k.toNat)]) :: (if hasN k then [(Lib.decDigits a.toNat, [tN a.toNat])] else [])
def namesP : List ByteArray → List Pr
  | [] => []
  | [s] => [(lst s, [tW (lst s)])]
  | s :: r => (comma s, [tW (lst s), tC]) :: namesP r
def argW (n : Nat) : List UInt8 := [97, 114, 103] ++ Lib.decDigits n
def condP (x : Xc) : List Pr := (argW x.arg.toNat, [tW (argW x.arg.toNat)]) :: ((if x.mask == 18446744073709551615 then [] else [([38], [tG [38]]), (Lib.decDigits x.mask.toNat, [tN x.mask.toNat])]) ++ [(signS x.op.toNat, [tG (signS x.op.toNat)]), (Lib.decDigits x.val.toNat, [tN x.val.toNat])])
def condsP (ahead : ByteArray) : List Xc → List Pr
  | [] => []
  | x :: r => (lst ahead, [tW (lst ahead)]) :: (condP x ++ condsP wAndB r)
def ruleP (x : Xl) : List Pr := actP x.k x.a ++ (namesP x.names ++ condsP wWhenB x.conds)

theorem actP_fst (T : List Int) (k a : Int) : (actP k a).map Prod.fst = actT T k a := by
  unfold actP actT
  split <;> rfl
theorem namesP_fst : ∀ (l : List ByteArray), (namesP l).map Prod.fst = namesT l := by
  intro l
  induction l with
  | nil => rfl
  | cons x l ih =>
    cases l with
    | nil => rfl
    | cons y l => show comma x :: (namesP (y :: l)).map Prod.fst = comma x :: namesT (y :: l); rw [ih]
theorem condP_fst (T : List Int) (x : Xc) : (condP x).map Prod.fst = condT T x := by
  unfold condP condT
  split <;> rfl
theorem condsP_fst (T : List Int) : ∀ (l : List Xc) (a : ByteArray), (condsP a l).map Prod.fst = flat T (condsS a l) := by
  intro l
  induction l with
  | nil => intro a; rfl
  | cons x l ih =>
    intro a
    show lst a :: ((condP x ++ condsP wAndB l).map Prod.fst) = [lst a] ++ (condT T x ++ flat T (condsS wAndB l))
    rw [List.map_append, condP_fst T, ih]
    rfl
theorem ruleP_fst (T : List Int) (x : Xl) : (ruleP x).map Prod.fst = actT T x.k x.a ++ (namesT x.names ++ flat T (condsS wWhenB x.conds)) := by
  unfold ruleP
  rw [List.map_append, List.map_append, actP_fst T, namesP_fst, condsP_fst T]

theorem lx_wordS {k : Int} (h1 : 1 ≤ k) (h8 : k ≤ 8) : Lx (wordS k.toNat) [tW (wordS k.toNat)] := by
  refine lx_isWd ?_
  rcases eight h1 h8 with rfl | rfl | rfl | rfl | rfl | rfl | rfl | rfl <;> decide

theorem actP_lx {k a : Int} (h : actB k a = true) : ∀ x ∈ actP k a, Lx x.1 x.2 := by
  obtain ⟨h1, h2, h3, h4⟩ := actB_out h
  intro x hx
  unfold actP at hx
  rcases List.mem_cons.1 hx with rfl | h5
  · exact lx_wordS h1 h2
  · split at h5
    · have : x = (Lib.decDigits a.toNat, [tN a.toNat]) := by simpa using h5
      subst this
      exact lx_num (by omega)
    · cases h5

theorem namesP_lx : ∀ (l : List ByteArray), (∀ s ∈ l, isWd (lst s) = true) → ∀ x ∈ namesP l, Lx x.1 x.2 := by
  intro l
  induction l with
  | nil => intro _ x hx; cases hx
  | cons y l ih =>
    intro h x hx
    have hy := lx_isWd (h y List.mem_cons_self)
    cases l with
    | nil =>
      have : x = (lst y, [tW (lst y)]) := by simpa [namesP] using hx
      subst this
      exact hy
    | cons z l =>
      have hx2 : x ∈ (comma y, [tW (lst y), tC]) :: namesP (z :: l) := hx
      rcases List.mem_cons.1 hx2 with rfl | h3
      · exact (hy.transU lx_comma (fin_44 _)).lx
      · exact ih (fun s hs => h s (List.mem_cons_of_mem _ hs)) x h3

theorem arg_six {n : Nat} (h : n < 6) : n = 0 ∨ n = 1 ∨ n = 2 ∨ n = 3 ∨ n = 4 ∨ n = 5 := by omega
theorem argW_all {n : Nat} (h : n < 6) : argW n = [97, 114, 103, UInt8.ofNat (48 + n)] := by
  unfold argW
  rw [Lib.decDigits_one (by omega)]
  rfl
theorem lx_argW {n : Nat} (h : n < 6) : Lx (argW n) [tW (argW n)] := by
  refine lx_isWd ?_
  rw [argW_all h]
  rcases arg_six h with rfl | rfl | rfl | rfl | rfl | rfl <;> decide
theorem lx_signS {o : Int} (h1 : 1 ≤ o) (h6 : o ≤ 6) : Lx (signS o.toNat) [tG (signS o.toNat)] := by
  refine lx_sign ?_
  rcases six h1 h6 with rfl | rfl | rfl | rfl | rfl | rfl <;> decide

theorem condB_out {c : Xc} (h : condB c = true) : 0 ≤ c.arg ∧ c.arg < 6 ∧ 1 ≤ c.op ∧ c.op ≤ 6 := by
  unfold condB at h
  simp only [Bool.and_eq_true, decide_eq_true_eq] at h
  exact ⟨h.1.1.1, h.1.1.2, h.1.2, h.2⟩

theorem condP_lx {c : Xc} (h : condB c = true) (hm : U64 c.mask) (hv : U64 c.val) : ∀ x ∈ condP c, Lx x.1 x.2 := by
  obtain ⟨h1, h2, h3, h4⟩ := condB_out h
  obtain ⟨m1, m2⟩ := hm
  obtain ⟨v1, v2⟩ := hv
  intro x hx
  unfold condP at hx
  rcases List.mem_cons.1 hx with rfl | h5
  · exact lx_argW (by omega)
  · rcases List.mem_append.1 h5 with h6 | h6
    · split at h6
      · cases h6
      · simp only [List.mem_cons, List.not_mem_nil, or_false] at h6
        rcases h6 with rfl | rfl
        · exact lx_sign (by decide)
        · exact lx_num (by omega)
    · simp only [List.mem_cons, List.not_mem_nil, or_false] at h6
      rcases h6 with rfl | rfl
      · exact lx_signS h3 h4
      · exact lx_num (by omega)

theorem condsP_lx : ∀ (l : List Xc) (a : ByteArray), isWd (lst a) = true → (∀ c ∈ l, condB c = true ∧ U64 c.mask ∧ U64 c.val) → ∀ x ∈ condsP a l, Lx x.1 x.2 := by
  intro l
  induction l with
  | nil => intro a _ _ x hx; cases hx
  | cons c l ih =>
    intro a ha h x hx
    have hx2 : x ∈ (lst a, [tW (lst a)]) :: (condP c ++ condsP wAndB l) := hx
    rcases List.mem_cons.1 hx2 with rfl | h3
    · exact lx_isWd ha
    · rcases List.mem_append.1 h3 with h4 | h4
      · obtain ⟨g1, g2, g3⟩ := h c List.mem_cons_self
        exact condP_lx g1 g2 g3 x h4
      · exact ih wAndB (by decide) (fun d hd => h d (List.mem_cons_of_mem _ hd)) x h4

/-- a rule that may be shown, its numbers of 64 bits. -/
structure Fit (x : Xl) : Prop where
  b : ruleB x = true
  c : ∀ c ∈ x.conds, U64 c.mask ∧ U64 c.val

theorem ruleP_lx {x : Xl} (h : Fit x) : ∀ y ∈ ruleP x, Lx y.1 y.2 := by
  obtain ⟨h1, h2, h3, h4, h5, h6⟩ := ruleB_out h.b
  intro y hy
  unfold ruleP at hy
  rcases List.mem_append.1 hy with g | g
  · exact actP_lx h4 y g
  · rcases List.mem_append.1 g with g | g
    · exact namesP_lx _ h5 y g
    · exact condsP_lx _ _ (by decide) (fun c hc => ⟨h6 c hc, h.c c hc⟩) y g

theorem rule_lx (T : List Int) {x : Xl} (h : Fit x) : LxU (ruleT T x) ((ruleP x).flatMap Prod.snd ++ [tS]) := by
  unfold ruleT
  rw [← ruleP_fst T]
  refine lx_line ?_ (ruleP_lx h)
  unfold ruleP actP
  simp

def defP (k a : Int) : List Pr := (lst wDefaultB, [tW (lst wDefaultB)]) :: actP k a

theorem def_lx (T : List Int) {k a : Int} (h : actB k a = true) : LxU (defT T k a) ((defP k a).flatMap Prod.snd ++ [tS]) := by
  have e : defT T k a = Lib.join ((defP k a).map Prod.fst) [32] ++ [59, 10] := by
    unfold defT lineT defP
    rw [List.map_cons, actP_fst T]
    show Lib.join ([lst wDefaultB] ++ (actT T k a ++ [])) [32] ++ [59, 10] = _
    rw [List.append_nil]
    rfl
  rw [e]
  refine lx_line (by unfold defP; simp) fun x hx => ?_
  unfold defP at hx
  rcases List.mem_cons.1 hx with rfl | h1
  · exact lx_isWd (by decide)
  · exact actP_lx h x h1

def toks (k a : Int) (l : List Xl) : List Tok := ((defP k a).flatMap Prod.snd ++ [tS]) ++ l.flatMap fun x => (ruleP x).flatMap Prod.snd ++ [tS]

theorem text_lx (T : List Int) {k a : Int} (h : actB k a = true) : ∀ (l : List Xl), (∀ x ∈ l, Fit x) → LxU (textT T k a l) (toks k a l) := by
  intro l hl
  unfold textT toks
  refine (def_lx T h).transU ?_
  induction l with
  | nil => intro p rest; exact ⟨[], rfl, by simp [glue_nil]⟩
  | cons x l ih =>
    rw [List.flatMap_cons, List.flatMap_cons]
    exact (rule_lx T (hl x List.mem_cons_self)).transU (ih fun y hy => hl y (List.mem_cons_of_mem _ hy))

/-! token by token -/

theorem runs_app {s s' : St} {b : List Tok} : ∀ (a : List Tok), runs s a = .ok s' → runs s (a ++ b) = runs s' b := by
  intro a
  induction a generalizing s with
  | nil => intro h; cases h; rfl
  | cons x a ih =>
    intro h
    unfold runs at h
    rw [List.cons_append]
    conv => lhs; unfold runs
    split at h
    · cases h
    · next h4 =>
      rw [if_neg h4]
      split at h
      · cases h
      · next sx hs =>
        exact ih h

theorem runs_cons {s s' : St} {x : Tok} {r : List Tok} (h4 : ¬ x.k = 4) (hs : step s x = .ok s') : runs s (x :: r) = runs s' r := by
  conv => lhs; unfold runs
  rw [if_neg h4, hs]

theorem kind_wordS {k : Int} (h1 : 1 ≤ k) (h8 : k ≤ 8) : kindOf (wordS k.toNat) = k.toNat ∧ numK k.toNat = hasN k := by
  rcases eight h1 h8 with rfl | rfl | rfl | rfl | rfl | rfl | rfl | rfl <;> decide

theorem isA_word {k : Int} (h1 : 1 ≤ k) (h8 : k ≤ 8) : isA (tW (wordS k.toNat)) = true := by
  unfold isA
  rw [show (tW (wordS k.toNat)).t = wordS k.toNat from rfl, (kind_wordS h1 h8).1]
  simp [tW]
  omega

theorem actB_arg {k a : Int} (h : actB k a = true) (hn : hasN k = false) : a = 0 := by
  unfold actB at h
  rw [hn] at h
  simp at h
  exact h.2

theorem runs_act1 {k a : Int} (h : actB k a = true) (r : List Tok) : runs .s1 ((actP k a).flatMap Prod.snd ++ r) = runs (.s3 ⟨k.toNat, a.toNat⟩) r := by
  obtain ⟨h1, h2, h3, h4⟩ := actB_out h
  obtain ⟨e1, e2⟩ := kind_wordS h1 h2
  have hA := isA_word h1 h2
  unfold actP
  rcases Bool.eq_false_or_eq_true (hasN k) with hn | hn
  · rw [hn, if_pos rfl]
    show runs .s1 (tW (wordS k.toNat) :: tN a.toNat :: r) = _
    have s1 : step .s1 (tW (wordS k.toNat)) = .ok (.s2 k.toNat) := by
      show (if isA (tW (wordS k.toNat)) then (if numK (kindOf (wordS k.toNat)) then Except.ok (St.s2 (kindOf (wordS k.toNat))) else .ok (.s3 ⟨kindOf (wordS k.toNat), 0⟩)) else .error 7) = _
      rw [if_pos hA, e1, e2, hn, if_pos rfl]
    have s2 : step (.s2 k.toNat) (tN a.toNat) = .ok (.s3 ⟨k.toNat, a.toNat⟩) := by
      show (if isN (tN a.toNat) then (if 65535 < a.toNat then Except.error 6 else .ok (St.s3 ⟨k.toNat, a.toNat⟩)) else .error 7) = _
      rw [if_pos (show isN (tN a.toNat) = true from rfl), if_neg (by omega)]
    rw [runs_cons (show ¬ (1 : Nat) = 4 by decide) s1, runs_cons (show ¬ (2 : Nat) = 4 by decide) s2]
  · rw [hn, if_neg (by decide)]
    obtain rfl := actB_arg h hn
    show runs .s1 (tW (wordS k.toNat) :: r) = _
    have s1 : step .s1 (tW (wordS k.toNat)) = .ok (.s3 ⟨k.toNat, 0⟩) := by
      show (if isA (tW (wordS k.toNat)) then (if numK (kindOf (wordS k.toNat)) then Except.ok (St.s2 (kindOf (wordS k.toNat))) else .ok (.s3 ⟨kindOf (wordS k.toNat), 0⟩)) else .error 7) = _
      rw [if_pos hA, e1, e2, hn, if_neg (by decide)]
    rw [runs_cons (show ¬ (1 : Nat) = 4 by decide) s1]
    rfl

theorem runs_act4 {d : Ac} {rs : List Rl} (hl : rs.length < 64) {k a : Int} (h : actB k a = true) (r : List Tok) : runs (.s4 d rs) ((actP k a).flatMap Prod.snd ++ r) = runs (.s6 d rs ⟨k.toNat, a.toNat⟩ []) r := by
  obtain ⟨h1, h2, h3, h4⟩ := actB_out h
  obtain ⟨e1, e2⟩ := kind_wordS h1 h2
  have hA := isA_word h1 h2
  unfold actP
  rcases Bool.eq_false_or_eq_true (hasN k) with hn | hn
  · rw [hn, if_pos rfl]
    show runs (.s4 d rs) (tW (wordS k.toNat) :: tN a.toNat :: r) = _
    have s1 : step (.s4 d rs) (tW (wordS k.toNat)) = .ok (.s5 d rs k.toNat) := by
      show (if isA (tW (wordS k.toNat)) then (if 64 ≤ rs.length then Except.error 4 else if numK (kindOf (wordS k.toNat)) then .ok (St.s5 d rs (kindOf (wordS k.toNat))) else .ok (.s6 d rs ⟨kindOf (wordS k.toNat), 0⟩ [])) else .error 7) = _
      rw [if_pos hA, if_neg (by omega), e1, e2, hn, if_pos rfl]
    have s2 : step (.s5 d rs k.toNat) (tN a.toNat) = .ok (.s6 d rs ⟨k.toNat, a.toNat⟩ []) := by
      show (if isN (tN a.toNat) then (if 65535 < a.toNat then Except.error 6 else .ok (St.s6 d rs ⟨k.toNat, a.toNat⟩ [])) else .error 7) = _
      rw [if_pos (show isN (tN a.toNat) = true from rfl), if_neg (by omega)]
    rw [runs_cons (show ¬ (1 : Nat) = 4 by decide) s1, runs_cons (show ¬ (2 : Nat) = 4 by decide) s2]
  · rw [hn, if_neg (by decide)]
    obtain rfl := actB_arg h hn
    show runs (.s4 d rs) (tW (wordS k.toNat) :: r) = _
    have s1 : step (.s4 d rs) (tW (wordS k.toNat)) = .ok (.s6 d rs ⟨k.toNat, 0⟩ []) := by
      show (if isA (tW (wordS k.toNat)) then (if 64 ≤ rs.length then Except.error 4 else if numK (kindOf (wordS k.toNat)) then .ok (St.s5 d rs (kindOf (wordS k.toNat))) else .ok (.s6 d rs ⟨kindOf (wordS k.toNat), 0⟩ [])) else .error 7) = _
      rw [if_pos hA, if_neg (by omega), e1, e2, hn, if_neg (by decide)]
    rw [runs_cons (show ¬ (1 : Nat) = 4 by decide) s1]
    rfl

theorem runs_names {d : Ac} {rs : List Rl} {a : Ac} : ∀ (l : List ByteArray) (ns : List (List UInt8)) (r : List Tok), ¬ l = [] → ns.length + l.length ≤ 16 → runs (.s6 d rs a ns) ((namesP l).flatMap Prod.snd ++ r) = runs (.s7 d rs a (ns ++ l.map lst)) r := by
  intro l
  induction l with
  | nil => intro ns r h; exact absurd rfl h
  | cons x l ih =>
    intro ns r _ hl
    rw [List.length_cons] at hl
    have s1 : step (.s6 d rs a ns) (tW (lst x)) = .ok (.s7 d rs a (ns ++ [lst x])) := by
      show (if (1 == 1 : Bool) then (if 16 ≤ ns.length then Except.error 4 else .ok (St.s7 d rs a (ns ++ [lst x]))) else .error 7) = _
      rw [if_pos (show (1 == 1 : Bool) = true from rfl), if_neg (by omega)]
    cases l with
    | nil =>
      show runs (.s6 d rs a ns) (tW (lst x) :: r) = _
      rw [runs_cons (show ¬ (1 : Nat) = 4 by decide) s1]
      rfl
    | cons y l =>
      have s2 : step (.s7 d rs a (ns ++ [lst x])) tC = .ok (.s6 d rs a (ns ++ [lst x])) := rfl
      show runs (.s6 d rs a ns) (tW (lst x) :: tC :: ((namesP (y :: l)).flatMap Prod.snd ++ r)) = _
      rw [runs_cons (show ¬ (1 : Nat) = 4 by decide) s1, runs_cons (show ¬ (3 : Nat) = 4 by decide) s2, ih (ns ++ [lst x]) r (by simp) (by simp at hl ⊢; omega)]
      simp

theorem arg_of {n : Nat} (h : n < 6) : argOf (argW n) = n + 1 := by
  rw [argW_all h]
  rcases arg_six h with rfl | rfl | rfl | rfl | rfl | rfl <;> decide
theorem op_of {o : Int} (h1 : 1 ≤ o) (h6 : o ≤ 6) : opOf (signS o.toNat) = o.toNat ∧ ¬ signS o.toNat = [38] := by
  rcases six h1 h6 with rfl | rfl | rfl | rfl | rfl | rfl <;> decide

theorem runs_cond {d : Ac} {rs : List Rl} {a : Ac} {ns : List (List UInt8)} {cs : List Cd} (hl : cs.length < 8) {c : Xc} (h : condB c = true) (hm : U64 c.mask) (r : List Tok) : runs (.s8 d rs a ns cs) ((condP c).flatMap Prod.snd ++ r) = runs (.s13 d rs a ns (cs ++ [toC c])) r := by
  obtain ⟨h1, h2, h3, h4⟩ := condB_out h
  obtain ⟨o1, o2⟩ := op_of h3 h4
  have g1 := arg_of (n := c.arg.toNat) (by omega)
  obtain ⟨m1, m2⟩ := hm
  have hG : isG (tW (argW c.arg.toNat)) = true := by
    unfold isG
    rw [show (tW (argW c.arg.toNat)).t = argW c.arg.toNat from rfl, g1]
    simp [tW]
  have hO : isO (tG (signS c.op.toNat)) = true := by
    unfold isO
    rw [show (tG (signS c.op.toNat)).t = signS c.op.toNat from rfl, o1]
    simp [tG]
    omega
  have hS : isS (tG (signS c.op.toNat)) [38] = false := by
    unfold isS
    rw [show (tG (signS c.op.toNat)).t = signS c.op.toNat from rfl]
    simp [o2]
  have s8 : step (.s8 d rs a ns cs) (tW (argW c.arg.toNat)) = .ok (.s9 d rs a ns cs c.arg.toNat) := by
    show (if isG (tW (argW c.arg.toNat)) then (if 8 ≤ cs.length then Except.error 4 else .ok (St.s9 d rs a ns cs (argOf (argW c.arg.toNat) - 1))) else .error 7) = _
    rw [if_pos hG, if_neg (by omega), g1]
    rfl
  have s12 : ∀ m, step (.s12 d rs a ns cs c.arg.toNat m c.op.toNat) (tN c.val.toNat) = .ok (.s13 d rs a ns (cs ++ [⟨c.arg.toNat, c.op.toNat, m, c.val.toNat⟩])) := fun m => rfl
  unfold condP
  rcases Bool.eq_false_or_eq_true (c.mask == 18446744073709551615) with hk | hk
  · rw [hk, if_pos rfl]
    have hmk : c.mask.toNat = 18446744073709551615 := by
      have : c.mask = 18446744073709551615 := by simpa using hk
      omega
    show runs (.s8 d rs a ns cs) (tW (argW c.arg.toNat) :: tG (signS c.op.toNat) :: tN c.val.toNat :: r) = _
    have s9 : step (.s9 d rs a ns cs c.arg.toNat) (tG (signS c.op.toNat)) = .ok (.s12 d rs a ns cs c.arg.toNat 18446744073709551615 c.op.toNat) := by
      show (if isS (tG (signS c.op.toNat)) [38] then Except.ok (St.s10 d rs a ns cs c.arg.toNat) else if isO (tG (signS c.op.toNat)) then .ok (.s12 d rs a ns cs c.arg.toNat 18446744073709551615 (opOf (signS c.op.toNat))) else .error 7) = _
      rw [hS, if_neg (by decide), if_pos hO, o1]
    rw [runs_cons (show ¬ (1 : Nat) = 4 by decide) s8, runs_cons (show ¬ (3 : Nat) = 4 by decide) s9, runs_cons (show ¬ (2 : Nat) = 4 by decide) (s12 _)]
    unfold toC
    rw [hmk]
  · rw [hk, if_neg (by decide)]
    show runs (.s8 d rs a ns cs) (tW (argW c.arg.toNat) :: tG [38] :: tN c.mask.toNat :: tG (signS c.op.toNat) :: tN c.val.toNat :: r) = _
    have s9 : step (.s9 d rs a ns cs c.arg.toNat) (tG [38]) = .ok (.s10 d rs a ns cs c.arg.toNat) := rfl
    have s10 : step (.s10 d rs a ns cs c.arg.toNat) (tN c.mask.toNat) = .ok (.s11 d rs a ns cs c.arg.toNat c.mask.toNat) := rfl
    have s11 : step (.s11 d rs a ns cs c.arg.toNat c.mask.toNat) (tG (signS c.op.toNat)) = .ok (.s12 d rs a ns cs c.arg.toNat c.mask.toNat c.op.toNat) := by
      show (if isO (tG (signS c.op.toNat)) then Except.ok (St.s12 d rs a ns cs c.arg.toNat c.mask.toNat (opOf (signS c.op.toNat))) else .error 7) = _
      rw [if_pos hO, o1]
    rw [runs_cons (show ¬ (1 : Nat) = 4 by decide) s8, runs_cons (show ¬ (3 : Nat) = 4 by decide) s9, runs_cons (show ¬ (2 : Nat) = 4 by decide) s10, runs_cons (show ¬ (3 : Nat) = 4 by decide) s11, runs_cons (show ¬ (2 : Nat) = 4 by decide) (s12 _)]
    rfl

theorem runs_more {d : Ac} {rs : List Rl} {a : Ac} {ns : List (List UInt8)} : ∀ (l : List Xc) (cs : List Cd), cs.length + l.length ≤ 8 → (∀ c ∈ l, condB c = true ∧ U64 c.mask ∧ U64 c.val) → runs (.s13 d rs a ns cs) ((condsP wAndB l).flatMap Prod.snd ++ [tS]) = .ok (.s4 d (rs ++ [⟨a, ns, cs ++ l.map toC⟩])) := by
  intro l
  induction l with
  | nil => intro cs _ _; rw [List.map_nil, List.append_nil]; rfl
  | cons c l ih =>
    intro cs hl h
    rw [List.length_cons] at hl
    obtain ⟨g1, g2, g3⟩ := h c List.mem_cons_self
    have s13 : step (.s13 d rs a ns cs) (tW (lst wAndB)) = .ok (.s8 d rs a ns cs) := rfl
    have e : (condsP wAndB (c :: l)).flatMap Prod.snd ++ [tS] = tW (lst wAndB) :: ((condP c).flatMap Prod.snd ++ ((condsP wAndB l).flatMap Prod.snd ++ [tS])) := by
      show (([tW (lst wAndB)] ++ (condP c ++ condsP wAndB l).flatMap Prod.snd) ++ [tS]) = _
      rw [List.flatMap_append]
      simp
    rw [e, runs_cons (show ¬ (1 : Nat) = 4 by decide) s13, runs_cond (by omega) g1 g2, ih (cs ++ [toC c]) (by simp; omega) (fun x hx => h x (List.mem_cons_of_mem _ hx))]
    simp

theorem runs_conds {d : Ac} {rs : List Rl} {a : Ac} {ns : List (List UInt8)} (l : List Xc) (hl : l.length ≤ 8) (h : ∀ c ∈ l, condB c = true ∧ U64 c.mask ∧ U64 c.val) : runs (.s7 d rs a ns) ((condsP wWhenB l).flatMap Prod.snd ++ [tS]) = .ok (.s4 d (rs ++ [⟨a, ns, l.map toC⟩])) := by
  cases l with
  | nil => rfl
  | cons c l =>
    rw [List.length_cons] at hl
    obtain ⟨g1, g2, g3⟩ := h c List.mem_cons_self
    have s7 : step (.s7 d rs a ns) (tW (lst wWhenB)) = .ok (.s8 d rs a ns []) := rfl
    have e : (condsP wWhenB (c :: l)).flatMap Prod.snd ++ [tS] = tW (lst wWhenB) :: ((condP c).flatMap Prod.snd ++ ((condsP wAndB l).flatMap Prod.snd ++ [tS])) := by
      show (([tW (lst wWhenB)] ++ (condP c ++ condsP wAndB l).flatMap Prod.snd) ++ [tS]) = _
      rw [List.flatMap_append]
      simp
    rw [e, runs_cons (show ¬ (1 : Nat) = 4 by decide) s7, runs_cond (by simp) g1 g2, runs_more l ([] ++ [toC c]) (by simp; omega) (fun x hx => h x (List.mem_cons_of_mem _ hx))]
    rfl

theorem runs_rule {d : Ac} {rs : List Rl} (hl : rs.length < 64) {x : Xl} (h : Fit x) : runs (.s4 d rs) ((ruleP x).flatMap Prod.snd ++ [tS]) = .ok (.s4 d (rs ++ [toR x])) := by
  obtain ⟨h1, h2, h3, h4, h5, h6⟩ := ruleB_out h.b
  have e : (ruleP x).flatMap Prod.snd ++ [tS] = (actP x.k x.a).flatMap Prod.snd ++ ((namesP x.names).flatMap Prod.snd ++ ((condsP wWhenB x.conds).flatMap Prod.snd ++ [tS])) := by
    unfold ruleP
    rw [List.flatMap_append, List.flatMap_append]
    simp
  rw [e, runs_act4 hl h4, runs_names x.names [] _ (by intro e; rw [e] at h1; simp at h1) (by simpa using h2), runs_conds x.conds h3 (fun c hc => ⟨h6 c hc, h.c c hc⟩)]
  rfl

theorem runs_rules {d : Ac} : ∀ (l : List Xl) (rs : List Rl), rs.length + l.length ≤ 64 → (∀ x ∈ l, Fit x) → runs (.s4 d rs) (l.flatMap fun x => (ruleP x).flatMap Prod.snd ++ [tS]) = .ok (.s4 d (rs ++ l.map toR)) := by
  intro l
  induction l with
  | nil => intro rs _ _; rw [List.map_nil, List.append_nil]; rfl
  | cons x l ih =>
    intro rs hl h
    rw [List.length_cons] at hl
    rw [List.flatMap_cons, runs_app _ (runs_rule (by omega) (h x List.mem_cons_self)), ih (rs ++ [toR x]) (by simp; omega) (fun y hy => h y (List.mem_cons_of_mem _ hy))]
    simp

theorem runs_toks {k a : Int} (h : actB k a = true) {l : List Xl} (hl : l.length ≤ 64) (hf : ∀ x ∈ l, Fit x) : runs .s0 (toks k a l) = .ok (.s4 ⟨k.toNat, a.toNat⟩ (l.map toR)) := by
  unfold toks
  have s0 : step .s0 (tW (lst wDefaultB)) = .ok .s1 := rfl
  have s3 : step (.s3 ⟨k.toNat, a.toNat⟩) tS = .ok (.s4 ⟨k.toNat, a.toNat⟩ []) := rfl
  have e : ((defP k a).flatMap Prod.snd ++ [tS]) ++ (l.flatMap fun x => (ruleP x).flatMap Prod.snd ++ [tS]) = tW (lst wDefaultB) :: ((actP k a).flatMap Prod.snd ++ (tS :: l.flatMap fun x => (ruleP x).flatMap Prod.snd ++ [tS])) := by
    unfold defP
    simp
  rw [e, runs_cons (show ¬ (1 : Nat) = 4 by decide) s0, runs_act1 h, runs_cons (show ¬ (3 : Nat) = 4 by decide) s3, runs_rules l [] (by simpa using hl) hf]
  rfl

/-- P11.2, in plain words: what is shown is parsed as it was. -/
theorem prs_text (T : List Int) {k a : Int} {l : List Xl} (h : rulesB k a l = true) (hc : ∀ x ∈ l, ∀ c ∈ x.conds, U64 c.mask ∧ U64 c.val) (hlen : (textT T k a l).length ≤ 8192) : prs (textT T k a l) = .ok (⟨k.toNat, a.toNat⟩, l.map toR) := by
  have h0 : actB k a = true ∧ l.length ≤ 64 ∧ ∀ x ∈ l, ruleB x = true := by
    unfold rulesB at h
    simp only [Bool.and_eq_true, decide_eq_true_eq, List.all_eq_true] at h
    exact ⟨h.1.1, h.1.2, h.2⟩
  have hf : ∀ x ∈ l, Fit x := fun x hx => ⟨h0.2.2 x hx, hc x hx⟩
  obtain ⟨A, hA, hg⟩ := text_lx T h0.1 l hf 0 []
  rw [List.append_nil] at hg
  have hgo : go 0 (0 + (textT T k a l).length) [] = .ok [⟨4, 0 + (textT T k a l).length, [], 0⟩] := rfl
  rw [hgo] at hg
  have hall : all (textT T k a l) = .ok (A ++ [⟨4, 0 + (textT T k a l).length, [], 0⟩]) := by
    unfold all
    rw [if_neg (by omega), hg]
    rfl
  unfold prs
  rw [hall]
  show run .s0 (A ++ [_]) = _
  refine run_alike (toks k a l ++ [⟨4, 0 + (textT T k a l).length, [], 0⟩]) _ (by simp [hA]) ?_
  rw [run_app _ _ (runs_toks h0.1 h0.2.1 hf), run_end rfl]
  rfl

/-- too long a text. -/
theorem prs_long {l : List UInt8} (h : ¬ l.length ≤ 8192) : prs l = .error (4, 8192) ∨ ∃ p, prs l = .error (4, p) := by
  unfold prs all
  rw [if_pos (by omega)]
  exact .inr ⟨_, rfl⟩

end Go.Proofs.YtcllgpbgikidjaaDoor

/-
  What is parsed may be shown: in plain words.
-/
namespace Go.Proofs.YtcllgpbgikidjaaDoor
open Go

def AcZ (a : Ac) : Prop := numK a.k = false → a.a = 0
def CdZ (c : Cd) : Prop := c.mask < 18446744073709551616 ∧ c.val < 18446744073709551616
def RlZ (r : Rl) : Prop := AcZ r.act ∧ ∀ c ∈ r.conds, CdZ c
def RsZ (rs : List Rl) : Prop := ∀ r ∈ rs, RlZ r
def CsZ (cs : List Cd) : Prop := ∀ c ∈ cs, CdZ c

theorem RsZ.snoc {rs : List Rl} {r : Rl} (h : RsZ rs) (hr : RlZ r) : RsZ (rs ++ [r]) := by
  intro x hx
  rcases List.mem_append.1 hx with h1 | h1
  · exact h x h1
  · have : x = r := by simpa using h1
    subst this
    exact hr
theorem CsZ.snoc {cs : List Cd} {c : Cd} (h : CsZ cs) (hc : CdZ c) : CsZ (cs ++ [c]) := by
  intro x hx
  rcases List.mem_append.1 hx with h1 | h1
  · exact h x h1
  · have : x = c := by simpa using h1
    subst this
    exact hc
theorem csZ_nil : CsZ [] := fun c hc => by cases hc

/-- what holds where it is. -/
def InvZ : St → Prop
  | .inl () => True
  | .inr (.inl ()) => True
  | .inr (.inr (.inl k)) => numK k = true
  | .inr (.inr (.inr (.inl d))) => AcZ d
  | .inr (.inr (.inr (.inr (.inl (d, rs))))) => AcZ d ∧ RsZ rs
  | .inr (.inr (.inr (.inr (.inr (.inl (d, rs, k)))))) => AcZ d ∧ RsZ rs ∧ numK k = true
  | .inr (.inr (.inr (.inr (.inr (.inr (.inl (d, rs, a, _))))))) => AcZ d ∧ RsZ rs ∧ AcZ a
  | .inr (.inr (.inr (.inr (.inr (.inr (.inr (.inl (d, rs, a, _)))))))) => AcZ d ∧ RsZ rs ∧ AcZ a
  | .inr (.inr (.inr (.inr (.inr (.inr (.inr (.inr (.inl (d, rs, a, _, cs))))))))) => AcZ d ∧ RsZ rs ∧ AcZ a ∧ CsZ cs
  | .inr (.inr (.inr (.inr (.inr (.inr (.inr (.inr (.inr (.inl (d, rs, a, _, cs, _)))))))))) => AcZ d ∧ RsZ rs ∧ AcZ a ∧ CsZ cs
  | .inr (.inr (.inr (.inr (.inr (.inr (.inr (.inr (.inr (.inr (.inl (d, rs, a, _, cs, _))))))))))) => AcZ d ∧ RsZ rs ∧ AcZ a ∧ CsZ cs
  | .inr (.inr (.inr (.inr (.inr (.inr (.inr (.inr (.inr (.inr (.inr (.inl (d, rs, a, _, cs, _, m)))))))))))) => AcZ d ∧ RsZ rs ∧ AcZ a ∧ CsZ cs ∧ m < 18446744073709551616
  | .inr (.inr (.inr (.inr (.inr (.inr (.inr (.inr (.inr (.inr (.inr (.inr (.inl (d, rs, a, _, cs, _, m, _))))))))))))) => AcZ d ∧ RsZ rs ∧ AcZ a ∧ CsZ cs ∧ m < 18446744073709551616
  | .inr (.inr (.inr (.inr (.inr (.inr (.inr (.inr (.inr (.inr (.inr (.inr (.inr (d, rs, a, _, cs))))))))))))) => AcZ d ∧ RsZ rs ∧ AcZ a ∧ CsZ cs

theorem acz_num {k n : Nat} (h : numK k = true) : AcZ ⟨k, n⟩ := fun h2 => by
  have : numK k = false := h2
  rw [h] at this
  cases this
theorem acz_zero (k : Nat) : AcZ ⟨k, 0⟩ := fun _ => rfl

theorem step_invZ {S S' : St} {x : Tok} (h : InvZ S) (hx : x.n < 18446744073709551616) (hs : step S x = .ok S') : InvZ S' := by
  cases S using St.every <;> simp only [step] at hs
  case s0 => split at hs <;> cases hs; trivial
  case s1 =>
    split at hs
    · split at hs
      · next h1 => cases hs; exact h1
      · cases hs; exact acz_zero _
    · cases hs
  case s2 k =>
    split at hs
    · split at hs
      · cases hs
      · cases hs; exact acz_num h
    · cases hs
  case s3 d =>
    split at hs
    · cases hs; exact ⟨h, fun r hr => by cases hr⟩
    · cases hs
  case s4 d rs =>
    split at hs
    · split at hs
      · cases hs
      · split at hs
        · next h1 => cases hs; exact ⟨h.1, h.2, h1⟩
        · cases hs; exact ⟨h.1, h.2, acz_zero _⟩
    · cases hs
  case s5 d rs k =>
    split at hs
    · split at hs
      · cases hs
      · cases hs; exact ⟨h.1, h.2.1, acz_num h.2.2⟩
    · cases hs
  case s6 d rs a ns =>
    split at hs
    · split at hs
      · cases hs
      · cases hs; exact h
    · cases hs
  case s7 d rs a ns =>
    split at hs
    · cases hs; exact h
    · split at hs
      · cases hs; exact ⟨h.1, h.2.1, h.2.2, csZ_nil⟩
      · split at hs
        · cases hs; exact ⟨h.1, h.2.1.snoc ⟨h.2.2, csZ_nil⟩⟩
        · cases hs
  case s8 d rs a ns cs =>
    split at hs
    · split at hs
      · cases hs
      · cases hs; exact h
    · cases hs
  case s9 d rs a ns cs g =>
    split at hs
    · cases hs; exact h
    · split at hs
      · cases hs; exact ⟨h.1, h.2.1, h.2.2.1, h.2.2.2, by decide⟩
      · cases hs
  case s10 d rs a ns cs g =>
    split at hs
    · cases hs; exact ⟨h.1, h.2.1, h.2.2.1, h.2.2.2, hx⟩
    · cases hs
  case s11 d rs a ns cs g m =>
    split at hs
    · cases hs; exact h
    · cases hs
  case s12 d rs a ns cs g m o =>
    split at hs
    · cases hs; exact ⟨h.1, h.2.1, h.2.2.1, h.2.2.2.1.snoc ⟨h.2.2.2.2, hx⟩⟩
    · cases hs
  case s13 d rs a ns cs =>
    split at hs
    · cases hs; exact h
    · split at hs
      · cases hs; exact ⟨h.1, h.2.1.snoc ⟨h.2.2.1, h.2.2.2⟩⟩
      · cases hs

theorem run_invZ : ∀ (ts : List Tok) (S : St) (v : Ac × List Rl), InvZ S → (∀ x ∈ ts, x.n < 18446744073709551616) → run S ts = .ok v → AcZ v.1 ∧ RsZ v.2 := by
  intro ts
  induction ts with
  | nil => intro S v _ _ h; cases h
  | cons x ts ih =>
    intro S v hS hx h
    by_cases h4 : x.k = 4
    · rw [run_end h4] at h
      cases S using St.every <;> simp [done] at h
      subst h
      exact hS
    · cases hs : step S x with
      | error c => rw [run_err h4 hs] at h; cases h
      | ok S' =>
        rw [run_step h4 hs] at h
        exact ih S' v (step_invZ hS (hx x List.mem_cons_self) hs) (fun y hy => hx y (List.mem_cons_of_mem _ hy)) h

theorem prs_Z {l : List UInt8} {v : Ac × List Rl} (h : prs l = .ok v) : AcZ v.1 ∧ RsZ v.2 := by
  obtain ⟨ts, h1, h2⟩ := prs_ok h
  exact run_invZ ts .s0 v trivial (fun x hx => (all_tk h1 x hx).n) h2

theorem prs_names {l : List UInt8} {v : Ac × List Rl} (h : prs l = .ok v) : OkA v.1 ∧ OkL (fun t => Wd t ∧ t.length ≤ 8192) v.2 := by
  obtain ⟨ts, h1, h2⟩ := prs_ok h
  obtain ⟨A, hA, gA, _⟩ := ch_init (all_ch h1)
  have hl := (all_go h1).2
  refine run_inv ts .s0 v trivial (fun x hx hk => ?_) h2
  rw [hA] at hx
  rcases List.mem_append.1 hx with hx | hx
  · exact ⟨good_word (gA x hx) hk, by have := (gA x hx).le; omega⟩
  · simp at hx
    subst hx
    cases hk

/-- rules as numbers and texts. -/
def ofC (c : Cd) : Xc := ⟨c.arg, c.op, c.mask, c.val⟩
def ofR (r : Rl) : Xl := ⟨r.act.k, r.act.a, r.names.map bar, r.conds.map ofC⟩

theorem wd_is {t : List UInt8} (h : Wd t) : isWd t = true := by
  obtain ⟨c, r, rfl, h1, h2⟩ := h
  show (loN c.toNat && decide (((c :: r).takeWhile ofW).length = (c :: r).length)) = true
  have e : (c :: r).takeWhile ofW = c :: r := by
    have : ∀ (l : List UInt8), (∀ d ∈ l, ofW d = true) → l.takeWhile ofW = l := by
      intro l
      induction l with
      | nil => intro _; rfl
      | cons x l ih =>
        intro hx
        rw [List.takeWhile_cons, if_pos (hx x List.mem_cons_self), ih fun d hd => hx d (List.mem_cons_of_mem _ hd)]
    exact this _ h2
  rw [e, h1]
  simp

theorem hasN_num (k : Nat) : hasN (k : Int) = numK k := by
  unfold hasN numK
  have e3 : ((k : Int) == 3) = (k == 3) := by rw [Bool.eq_iff_iff]; simp; omega
  have e4 : ((k : Int) == 4) = (k == 4) := by rw [Bool.eq_iff_iff]; simp; omega
  have e6 : ((k : Int) == 6) = (k == 6) := by rw [Bool.eq_iff_iff]; simp; omega
  rw [e3, e4, e6]

theorem actB_of {a : Ac} (h : OkA a) (hz : AcZ a) : actB a.k a.a = true := by
  have h1 := h.lo
  have h2 := h.hi
  have h3 := h.arg
  rw [actB_mk (by omega) (by omega), hasN_num]
  rcases Bool.eq_false_or_eq_true (numK a.k) with hn | hn
  · rw [hn, if_pos rfl]
    simp
    omega
  · rw [hn, if_neg (by decide), hz hn]
    rfl

theorem ruleB_of {r : Rl} (h : OkR (fun t => Wd t ∧ t.length ≤ 8192) r) (hz : RlZ r) : ruleB (ofR r) = true ∧ (ofR r).in := by
  constructor
  · rw [ruleB_mk (by show 1 ≤ (r.names.map bar).length; rw [List.length_map]; exact h.n1) (by show (r.names.map bar).length ≤ 16; rw [List.length_map]; exact h.n16) (by show (r.conds.map ofC).length ≤ 8; rw [List.length_map]; exact h.c8)]
    have e1 : actB (ofR r).k (ofR r).a = true := actB_of h.act hz.1
    have e2 : ((ofR r).names.all fun s => isWd (lst s)) = true := by
      rw [List.all_eq_true]
      intro s hs
      obtain ⟨t, ht, rfl⟩ := List.mem_map.1 hs
      rw [lst_bar]
      exact wd_is (h.names t ht).1
    have e3 : (ofR r).conds.all condB = true := by
      rw [List.all_eq_true]
      intro c hc
      obtain ⟨d, hd, rfl⟩ := List.mem_map.1 hc
      have g := h.conds d hd
      have g1 := g.arg
      have g2 := g.lo
      have g3 := g.hi
      unfold condB ofC
      simp
      omega
    rw [e1, e2, e3]
    rfl
  · refine ⟨fun s hs => ?_, fun c hc => ?_⟩
    · obtain ⟨t, ht, rfl⟩ := List.mem_map.1 hs
      rw [bar_size]
      have := (h.names t ht).2
      omega
    · obtain ⟨d, hd, rfl⟩ := List.mem_map.1 hc
      have g := hz.2 d hd
      have g1 := g.1
      have g2 := g.2
      unfold U64 ofC
      constructor <;> constructor <;> simp <;> omega

/-- what is parsed may be shown. -/
theorem prs_right {l : List UInt8} {d : Ac} {rs : List Rl} (h : prs l = .ok (d, rs)) : rulesB d.k d.a (rs.map ofR) = true ∧ ∀ x ∈ rs.map ofR, x.in := by
  obtain ⟨h1, h2⟩ := prs_names h
  obtain ⟨z1, z2⟩ := prs_Z h
  constructor
  · unfold rulesB
    have e1 : actB d.k d.a = true := actB_of h1 z1
    have e2 : (rs.map ofR).all ruleB = true := by
      rw [List.all_eq_true]
      intro x hx
      obtain ⟨r, hr, rfl⟩ := List.mem_map.1 hx
      exact (ruleB_of (h2.2 r hr) (z2 r hr)).1
    rw [e1, e2, List.length_map, decide_eq_true h2.1]
    rfl
  · intro x hx
    obtain ⟨r, hr, rfl⟩ := List.mem_map.1 hx
    exact (ruleB_of (h2.2 r hr) (z2 r hr)).2

theorem toC_ofC (c : Cd) : toC (ofC c) = c := by
  unfold toC ofC
  simp
theorem toR_ofR (r : Rl) : toR (ofR r) = r := by
  obtain ⟨⟨k, a⟩, ns, cs⟩ := r
  unfold toR ofR
  simp only [Int.toNat_natCast, List.map_map]
  have e1 : (lst ∘ bar) = id := by funext t; exact lst_bar t
  have e2 : (toC ∘ ofC) = id := by funext t; exact toC_ofC t
  rw [e1, e2]
  simp
theorem ofC_toC {c : Xc} (h : condB c = true) (hm : U64 c.mask) (hv : U64 c.val) : ofC (toC c) = c := by
  obtain ⟨h1, h2, h3, h4⟩ := condB_out h
  obtain ⟨a, o, m, v⟩ := c
  obtain ⟨m1, _⟩ := hm
  obtain ⟨v1, _⟩ := hv
  unfold toC ofC
  simp only at h1 h3 m1 v1 ⊢
  congr 1 <;> omega
theorem ofR_toR {x : Xl} (h : Fit x) : ofR (toR x) = x := by
  obtain ⟨h1, h2, h3, h4, h5, h6⟩ := ruleB_out h.b
  obtain ⟨a1, a2, a3, a4⟩ := actB_out h4
  have hc := h.c
  obtain ⟨k, a, ns, cs⟩ := x
  simp only at a1 a3 h6 hc
  unfold toR ofR
  simp only [List.map_map]
  have e1 : (bar ∘ lst) = id := by funext t; exact bar_lst t
  have e2 : cs.map (ofC ∘ toC) = cs := by
    conv => rhs; rw [← List.map_id cs]
    apply List.map_congr_left
    intro c hcm
    exact ofC_toC (h6 c hcm) (hc c hcm).1 (hc c hcm).2
  rw [e1, e2, List.map_id]
  congr 1 <;> omega

end Go.Proofs.YtcllgpbgikidjaaDoor

/-
  What Parse tells, for whoever shows it.
-/
namespace Go.Proofs.YtcllgpbgikidjaaDoor
open Go.RowKit

theorem addr_add (g i : Nat) : (⟨g, 0, none⟩ : Addr).add i = ⟨g, i, none⟩ := by unfold Addr.add; split <;> simp_all

theorem owns_strR {w : World} {base : Nat} {v : Value} {l : List (List UInt8)} (h : w.ownsRow base 9 1 v l.length (cellsN l)) : StrR w v (l.map bar) := by
  rcases h.2 with ⟨rfl, h0⟩ | ⟨g, cap, cur, rfl, hb, hg, hnc, hcm, hcs, htake⟩
  · exact ⟨none, 0, by rw [List.length_map, h0], by rw [List.length_map, h0]; exact Nat.le_refl _, by decide, fun h => absurd h (by rw [List.length_map]; omega)⟩
  · refine ⟨_, cap, by rw [List.length_map], by rw [List.length_map]; exact hnc, by unfold maxLen at hcm; omega, fun _ => ⟨g, 0, rfl, fun i s hs => ?_⟩⟩
    rw [List.getElem?_map] at hs
    cases hj : l[i]? with
    | none => rw [hj] at hs; cases hs
    | some y =>
      rw [hj] at hs
      cases hs
      have := h.cells (g := g) rfl i (.string (bar y)) (by simp [cellsN, hj, nameC])
      rw [addr_add] at this
      rw [Nat.zero_add]
      exact this

theorem owns_cdR {w : World} {base : Nat} {v : Value} {l : List Cd} (h : w.ownsRow base 39 4 v l.length (cellsC l)) : CdR w v (l.map ofC) := by
  rcases h.2 with ⟨rfl, h0⟩ | ⟨g, cap, cur, rfl, hb, hg, hnc, hcm, hcs, htake⟩
  · exact ⟨none, 0, by rw [List.length_map, h0], by rw [List.length_map, h0]; exact Nat.le_refl _, by decide, fun h => absurd h (by rw [List.length_map]; omega)⟩
  · refine ⟨_, cap, by rw [List.length_map], by rw [List.length_map]; exact hnc, by unfold maxLen at hcm; omega, fun _ => ⟨g, 0, rfl, fun i s hs => ?_⟩⟩
    rw [List.getElem?_map] at hs
    cases hj : l[i]? with
    | none => rw [hj] at hs; cases hs
    | some y =>
      rw [hj] at hs
      cases hs
      have key : ∀ c u, c < 4 → y.cells[c]? = some u → w.cell? ⟨g, i * 4 + c, none⟩ = some u := by
        intro c u hc hu
        have := h.cells (g := g) rfl (i * 4 + c) u (by rw [cellsC_get l i y c hj hc]; exact hu)
        rw [addr_add] at this
        exact this
      rw [Nat.zero_add]
      exact ⟨key 0 _ (by decide) rfl, key 1 _ (by decide) rfl, key 2 _ (by decide) rfl, key 3 _ (by decide) rfl⟩

/-- a rule as it lies, for whoever shows it. -/
def ofV (x : Rv) : Xr := ⟨ofR x.r, x.vn, x.vc⟩

theorem owns_rlR {w : World} {base : Nat} {v : Value} {rv : List Rv} (h : w.ownsRow base 42 4 v rv.length (cellsR rv)) (hr : ∀ x ∈ rv, Rows2 w base x) : RlR w v (rv.map ofV) := by
  have hs : ∀ x ∈ rv.map ofV, StrR w x.vn x.r.names ∧ CdR w x.vc x.r.conds := by
    intro x hx
    obtain ⟨y, hy, rfl⟩ := List.mem_map.1 hx
    exact ⟨owns_strR (hr y hy).1, owns_cdR (hr y hy).2⟩
  rcases h.2 with ⟨rfl, h0⟩ | ⟨g, cap, cur, rfl, hb, hg, hnc, hcm, hcs, htake⟩
  · exact ⟨none, 0, by rw [List.length_map, h0], by rw [List.length_map, h0]; exact Nat.le_refl _, by decide, fun h => absurd h (by rw [List.length_map]; omega), hs⟩
  · refine ⟨_, cap, by rw [List.length_map], by rw [List.length_map]; exact hnc, by unfold maxLen at hcm; omega, fun _ => ⟨g, 0, rfl, fun i s hs => ?_⟩, hs⟩
    rw [List.getElem?_map] at hs
    cases hj : rv[i]? with
    | none => rw [hj] at hs; cases hs
    | some y =>
      rw [hj] at hs
      cases hs
      have key : ∀ c u, c < 4 → y.cells[c]? = some u → w.cell? ⟨g, i * 4 + c, none⟩ = some u := by
        intro c u hc hu
        have := h.cells (g := g) rfl (i * 4 + c) u (by rw [cellsR_get rv i y c hj hc]; exact hu)
        rw [addr_add] at this
        exact this
      rw [Nat.zero_add]
      exact ⟨key 0 _ (by decide) rfl, key 1 _ (by decide) rfl, key 2 _ (by decide) rfl, key 3 _ (by decide) rfl⟩

/-- what is told of a text, for whoever shows it. -/
def ParX (r : Except (Nat × Nat) (Ac × List Rl)) (e : Ending) (w' : World) : Prop :=
  match r with
  | .error (c, p) => e = .returned (.tuple #[.agg #[.int .i64 0, .int .i64 0, .slice none 0 0], .int .i64 c, .int .i64 p])
  | .ok (d, rs) => ∃ v l, l.map Xr.r = rs.map ofR ∧ e = .returned (.tuple #[.agg #[.int .i64 d.k, .int .i64 d.a, v], .int .i64 0, .int .i64 (-1)]) ∧ RlR w' v l

theorem parseX (s : ByteArray) (w : World) (hv : Vars w) :
    Calls Tryd.prog 9 #[.string s] w fun e w' => Below w.heap.size w w' ∧ ParX (prs (lst s)) e w' := by
  refine (parse_any s w hv).mono ?_
  rintro e w' ⟨hb, h⟩
  refine ⟨hb, ?_⟩
  generalize prs (lst s) = R at *
  obtain ⟨c, p⟩ | ⟨d, rs⟩ := R
  · exact h
  · obtain ⟨v, rv, rfl, h2, h3, h4⟩ := h
    exact ⟨v, rv.map ofV, by rw [List.map_map, List.map_map]; rfl, h2, owns_rlR h3 h4⟩

end Go.Proofs.YtcllgpbgikidjaaDoor
