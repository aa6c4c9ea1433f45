/-
  PQMath PSText.
-/
import Derived.Test.YtcckipimfgmmdaaGreatDoorGs13
set_option maxHeartbeats 2000000
/-
 A number's digits are read as it is; texts that are shown are read as tokens.
-/
namespace Go.Proofs.YtcckipimfgmmdaaGreatDoor.P
open Go
theorem parse_app (b : Nat) : ∀ (l m : List UInt8) (a : Nat), parse b a (l ++ m) = (parse b a l).bind fun v => parse b v m := by
 intro l
 induction l with
 | nil => intro m a; rfl
 | cons c l ih =>
  intro m a
  show (if dv c < b /\ a * b + dv c < 18446744073709551616 then parse b (a * b + dv c) (l ++ m) else none) = (if dv c < b /\ a * b + dv c < 18446744073709551616 then parse b (a * b + dv c) l else none).bind _
  split
  ·exact ih m _
  ·rfl
theorem dig_all : ∀ d : Fin 10, dv (UInt8.ofNat (48 + d.val)) = d.val /\ dgN (UInt8.ofNat (48 + d.val)).toNat = true /\ loN (UInt8.ofNat (48 + d.val)).toNat = false /\ ofW (UInt8.ofNat (48 + d.val)) = true /\ (¬ d.val = 0 -> ¬ UInt8.ofNat (48 + d.val) = 48) := by decide
theorem dig_at {d : Nat} (h : d < 10) : dv (UInt8.ofNat (48 + d)) = d /\ dgN (UInt8.ofNat (48 + d)).toNat = true /\ loN (UInt8.ofNat (48 + d)).toNat = false /\ ofW (UInt8.ofNat (48 + d)) = true /\ (¬ d = 0 -> ¬ UInt8.ofNat (48 + d) = 48) := dig_all ⟨d, h⟩
theorem parse_one {a d : Nat} (hd : d < 10) (h : a * 10 + d < 18446744073709551616) : parse 10 a [UInt8.ofNat (48 + d)] = some (a * 10 + d) := by
 have e := (dig_at hd).1
 show (if dv (UInt8.ofNat (48 + d)) < 10 /\ a * 10 + dv (UInt8.ofNat (48 + d)) < 18446744073709551616 then some (a * 10 + dv (UInt8.ofNat (48 + d))) else none) = _
 rw [e, if_pos ⟨hd, h⟩]
structure DecOk (n : Nat) (l : List UInt8) : Prop where
 num : n < 18446744073709551616 -> parse 10 0 l = some n
 dig : ∀ c ∈ l, dgN c.toNat = true /\ loN c.toNat = false /\ ofW c = true
 lead : (n = 0 /\ l = [48]) \/ ∃ c r, l = c :: r /\ ¬ c = 48
theorem dec_ok : ∀ n, DecOk n (Lib.decDigits n) := by
 intro n
 induction n using Nat.strongRecOn with
 | ind n ih =>
  rw [Lib.decDigits]
  split
  ·next h =>
   have hd := dig_at h
   refine ⟨fun hn => ?_, ?_, ?_⟩
   ·have := parse_one (a := 0) h (by omega)
    simpa using this
   ·intro c hc
    have : c = UInt8.ofNat (48 + n) := by simpa using hc
    subst this
    exact ⟨hd.2.1, hd.2.2.1, hd.2.2.2.1⟩
   ·by_cases h0 : n = 0
    ·subst h0
     exact .inl ⟨rfl, rfl⟩
    ·exact .inr ⟨_, _, rfl, hd.2.2.2.2 h0⟩
  ·next h =>
   have hq := ih (n / 10) (by omega)
   have hd := dig_at (d := n % 10) (by omega)
   refine ⟨fun hn => ?_, ?_, ?_⟩
   ·rw [parse_app, hq.num (by omega)]
    show parse 10 (n / 10) [UInt8.ofNat (48 + n % 10)] = _
    rw [parse_one (by omega) (by omega)]
    congr 1
    omega
   ·intro c hc
    rcases List.mem_append.1 hc with h1 | h1
    ·exact hq.dig c h1
    ·have : c = UInt8.ofNat (48 + n % 10) := by simpa using h1
     subst this
     exact ⟨hd.2.1, hd.2.2.1, hd.2.2.2.1⟩
   ·rcases hq.lead with ⟨h1, _⟩ | ⟨c, r, h1, h2⟩
    ·omega
    ·exact .inr ⟨c, r ++ [UInt8.ofNat (48 + n % 10)], by rw [h1]; rfl, h2⟩
theorem DecOk.numV {n : Nat} {l : List UInt8} (h : DecOk n l) (hn : n < 18446744073709551616) : numV l = some n := by
 have hp := h.num hn
 have h2 : ¬ l.take 2 = [48, 120] := by
  intro e
  have hm : (120 : UInt8) ∈ l := List.mem_of_mem_take (i := 2) (by rw [e]; simp)
  exact absurd (h.dig _ hm).1 (by decide)
 unfold Go.Proofs.YtcckipimfgmmdaaGreatDoor.P.numV
 rw [if_neg h2]
 rcases h.lead with ⟨h0, e⟩ | ⟨c, r, e, hc⟩
 ·subst h0 e
  rfl
 ·rw [if_neg (by rw [e]; simpa using hc)]
  exact hp
theorem DecOk.ne {n : Nat} {l : List UInt8} (h : DecOk n l) : ∃ c r, l = c :: r := by
 rcases h.lead with ⟨_, e⟩ | ⟨c, r, e, _⟩
 ·exact ⟨_, _, e⟩
 ·exact ⟨c, r, e⟩
theorem lx_num {n : Nat} (hn : n < 18446744073709551616) : Lx (Lib.decDigits n) [⟨2, 0, Lib.decDigits n, n⟩] := by
 have hk := dec_ok n
 generalize Lib.decDigits n = l at *
 obtain ⟨c, t, rfl⟩ := hk.ne
 intro p rest hr
 obtain ⟨b, q, rfl, h1, h2⟩ := hr
 have hc := hk.dig c List.mem_cons_self
 have hw : blN c.toNat = false /\ ¬ c.toNat = 35 := by
  have := hc.1
  unfold dgN at this
  unfold blN
  simp at this ⊢
  omega
 refine ⟨[⟨2, p, c :: t, n⟩], rfl, go_tok hw.1 hw.2 ?_⟩
 rw [List.cons_append, one_dg' hc.2.1 hc.1, <- List.cons_append, while_cut _ _ _ _ (fun d hd => (hk.dig d hd).2.2) h1]
 unfold numR
 rw [hk.numV hn]
theorem lx_sign {t : List UInt8} (h : t ∈ signs) : Lx t [⟨3, 0, t, 0⟩] := by
 intro p rest hr
 obtain ⟨b, q, rfl, h1, h2⟩ := hr
 have hs := sign_stable h b q h2
 have hc : ∃ c r, t = c :: r /\ loN c.toNat = false /\ dgN c.toNat = false /\ blN c.toNat = false /\ ¬ c.toNat = 35 := by
  simp only [signs, List.mem_cons, List.not_mem_nil, or_false] at h
  rcases h with rfl | rfl | rfl | rfl | rfl | rfl | rfl | rfl | rfl <;> exact ⟨_, _, rfl, by decide, by decide, by decide, by decide⟩
 obtain ⟨c, r, rfl, g1, g2, g3, g4⟩ := hc
 refine ⟨[⟨3, p, c :: r, 0⟩], rfl, go_tok g3 g4 ?_⟩
 rw [List.cons_append, one_sg' g1 g2, <- List.cons_append, hs]
 rfl
theorem lx_nl : LxU [10] [] := by
 intro p rest
 exact ⟨[], rfl, by rw [List.cons_append, go_blank (by decide), glue_nil]; rfl⟩
theorem lx_joined : ∀ (L : List (List UInt8 × List Tok)), ¬ L = [] -> (∀ x ∈ L, Lx x.1 x.2) -> Lx (Lib.join (L.map Prod.fst) [32]) (L.flatMap Prod.snd) := by
 intro L
 induction L with
 | nil => intro h; exact absurd rfl h
 | cons x L ih =>
  intro _ h
  have hx := h x List.mem_cons_self
  cases L with
  | nil =>
   rw [List.map_cons, List.map_nil, Lib.join_one, List.flatMap_cons, List.flatMap_nil, List.append_nil]
   exact hx
  | cons y L =>
   have h2 := ih (by simp) fun z hz => h z (List.mem_cons_of_mem _ hz)
   have e : Lib.join ((x :: y :: L).map Prod.fst) [32] = x.1 ++ ([32] ++ Lib.join ((y :: L).map Prod.fst) [32]) := by
    rw [List.map_cons, Lib.join_cons, List.map_cons, Lib.join_cons]
    simp [Lib.joinTail]
   rw [e, List.flatMap_cons]
   have h3 : Lx ([32] ++ Lib.join ((y :: L).map Prod.fst) [32]) ([] ++ (y :: L).flatMap Prod.snd) := lx_blank.trans h2
   exact hx.trans h3 (fin_32 _)
theorem lx_line {L : List (List UInt8 × List Tok)} (h0 : ¬ L = []) (h : ∀ x ∈ L, Lx x.1 x.2) : LxU (Lib.join (L.map Prod.fst) [32] ++ [59, 10]) (L.flatMap Prod.snd ++ [tS]) :=
 (lx_joined L h0 h).transU (C := [59, 10]) (M := [tS]) (lx_semi.transU lx_nl) (fin_59 _)
theorem lx_isWd {t : List UInt8} (h : isWd t = true) : Lx t [⟨1, 0, t, 0⟩] := by
 match t, h with
 | c :: r, h =>
  have h' : (loN c.toNat && decide (((c :: r).takeWhile ofW).length = (c :: r).length)) = true := h
  simp only [Bool.and_eq_true, decide_eq_true_eq] at h'
  refine lx_word h'.1 fun d hd => ?_
  have e : (c :: r).takeWhile ofW = c :: r := by
   have := take_while_take ofW (c :: r)
   rw [h'.2, List.take_length] at this
   exact this.symm
  rw [<- e] at hd
  exact take_while_all ofW _ d hd
end Go.Proofs.YtcckipimfgmmdaaGreatDoor.P
/-
 What is shown is parsed as it was: in plain words.
-/
namespace Go.Proofs.YtcckipimfgmmdaaGreatDoor.P
open Go
def toC (c : Xc) : Cd := ⟨c.arg.toNat, c.op.toNat, c.mask.toNat, c.val.toNat⟩
def toR (x : Xl) : Rl := ⟨⟨x.k.toNat, x.a.toNat⟩, x.names.map lst, x.conds.map toC⟩
def tW (t : List UInt8) : Tok := ⟨1, 0, t, 0⟩
def tN (n : Nat) : Tok := ⟨2, 0, Lib.decDigits n, n⟩
def tG (t : List UInt8) : Tok := ⟨3, 0, t, 0⟩
abbrev Pr := List UInt8 × List Tok
def actP (k a : Int) : List Pr := (wordS k.toNat, [tW (wordS k.toNat)]) :: (if hasN k then [(Lib.decDigits a.toNat, [tN a.toNat])] else [])
def namesP : List ByteArray -> List Pr
 | [] => []
 | [s] => [(lst s, [tW (lst s)])]
 | s :: r => (comma s, [tW (lst s), tC]) :: namesP r
def argW (n : Nat) : List UInt8 := [97, 114, 103] ++ Lib.decDigits n
def condP (x : Xc) : List Pr := (argW x.arg.toNat, [tW (argW x.arg.toNat)]) :: ((if x.mask == 18446744073709551615 then [] else [([38], [tG [38]]), (Lib.decDigits x.mask.toNat, [tN x.mask.toNat])]) ++ [(signS x.op.toNat, [tG (signS x.op.toNat)]), (Lib.decDigits x.val.toNat, [tN x.val.toNat])])
def condsP (ahead : ByteArray) : List Xc -> List Pr
 | [] => []
 | x :: r => (lst ahead, [tW (lst ahead)]) :: (condP x ++ condsP wAndB r)
def ruleP (x : Xl) : List Pr := actP x.k x.a ++ (namesP x.names ++ condsP wWhenB x.conds)
theorem actP_fst (T : List Int) (k a : Int) : (actP k a).map Prod.fst = actT T k a := by
 unfold actP actT
 split <;> rfl
theorem namesP_fst : ∀ (l : List ByteArray), (namesP l).map Prod.fst = namesT l := by
 intro l
 induction l with
 | nil => rfl
 | cons x l ih =>
  cases l with
  | nil => rfl
  | cons y l => show comma x :: (namesP (y :: l)).map Prod.fst = comma x :: namesT (y :: l); rw [ih]
theorem condP_fst (T : List Int) (x : Xc) : (condP x).map Prod.fst = condT T x := by
 unfold condP condT
 split <;> rfl
theorem condsP_fst (T : List Int) : ∀ (l : List Xc) (a : ByteArray), (condsP a l).map Prod.fst = flat T (condsS a l) := by
 intro l
 induction l with
 | nil => intro a; rfl
 | cons x l ih =>
  intro a
  show lst a :: ((condP x ++ condsP wAndB l).map Prod.fst) = [lst a] ++ (condT T x ++ flat T (condsS wAndB l))
  rw [List.map_append, condP_fst T, ih]
  rfl
theorem ruleP_fst (T : List Int) (x : Xl) : (ruleP x).map Prod.fst = actT T x.k x.a ++ (namesT x.names ++ flat T (condsS wWhenB x.conds)) := by
 unfold ruleP
 rw [List.map_append, List.map_append, actP_fst T, namesP_fst, condsP_fst T]
theorem lx_wordS {k : Int} (h1 : 1 <= k) (h8 : k <= 8) : Lx (wordS k.toNat) [tW (wordS k.toNat)] := by
 refine lx_isWd ?_
 rcases eight h1 h8 with rfl | rfl | rfl | rfl | rfl | rfl | rfl | rfl <;> decide
theorem actP_lx {k a : Int} (h : actB k a = true) : ∀ x ∈ actP k a, Lx x.1 x.2 := by
 obtain ⟨h1, h2, h3, h4⟩ := actB_out h
 intro x hx
 unfold actP at hx
 rcases List.mem_cons.1 hx with rfl | h5
 ·exact lx_wordS h1 h2
 ·split at h5
  ·have : x = (Lib.decDigits a.toNat, [tN a.toNat]) := by simpa using h5
   subst this
   exact lx_num (by omega)
  ·cases h5
theorem namesP_lx : ∀ (l : List ByteArray), (∀ s ∈ l, isWd (lst s) = true) -> ∀ x ∈ namesP l, Lx x.1 x.2 := by
 intro l
 induction l with
 | nil => intro _ x hx; cases hx
 | cons y l ih =>
  intro h x hx
  have hy := lx_isWd (h y List.mem_cons_self)
  cases l with
  | nil =>
   have : x = (lst y, [tW (lst y)]) := by simpa [namesP] using hx
   subst this
   exact hy
  | cons z l =>
   have hx2 : x ∈ (comma y, [tW (lst y), tC]) :: namesP (z :: l) := hx
   rcases List.mem_cons.1 hx2 with rfl | h3
   ·exact (hy.transU lx_comma (fin_44 _)).lx
   ·exact ih (fun s hs => h s (List.mem_cons_of_mem _ hs)) x h3
theorem arg_six {n : Nat} (h : n < 6) : n = 0 \/ n = 1 \/ n = 2 \/ n = 3 \/ n = 4 \/ n = 5 := by omega
theorem argW_all {n : Nat} (h : n < 6) : argW n = [97, 114, 103, UInt8.ofNat (48 + n)] := by
 unfold argW
 rw [Lib.decDigits_one (by omega)]
 rfl
theorem lx_argW {n : Nat} (h : n < 6) : Lx (argW n) [tW (argW n)] := by
 refine lx_isWd ?_
 rw [argW_all h]
 rcases arg_six h with rfl | rfl | rfl | rfl | rfl | rfl <;> decide
theorem lx_signS {o : Int} (h1 : 1 <= o) (h6 : o <= 6) : Lx (signS o.toNat) [tG (signS o.toNat)] := by
 refine lx_sign ?_
 rcases six h1 h6 with rfl | rfl | rfl | rfl | rfl | rfl <;> decide
theorem condB_out {c : Xc} (h : condB c = true) : 0 <= c.arg /\ c.arg < 6 /\ 1 <= c.op /\ c.op <= 6 := by
 unfold condB at h
 simp only [Bool.and_eq_true, decide_eq_true_eq] at h
 exact ⟨h.1.1.1, h.1.1.2, h.1.2, h.2⟩
theorem condP_lx {c : Xc} (h : condB c = true) (hm : U64 c.mask) (hv : U64 c.val) : ∀ x ∈ condP c, Lx x.1 x.2 := by
 obtain ⟨h1, h2, h3, h4⟩ := condB_out h
 obtain ⟨m1, m2⟩ := hm
 obtain ⟨v1, v2⟩ := hv
 intro x hx
 unfold condP at hx
 rcases List.mem_cons.1 hx with rfl | h5
 ·exact lx_argW (by omega)
 ·rcases List.mem_append.1 h5 with h6 | h6
  ·split at h6
   ·cases h6
   ·simp only [List.mem_cons, List.not_mem_nil, or_false] at h6
    rcases h6 with rfl | rfl
    ·exact lx_sign (by decide)
    ·exact lx_num (by omega)
  ·simp only [List.mem_cons, List.not_mem_nil, or_false] at h6
   rcases h6 with rfl | rfl
   ·exact lx_signS h3 h4
   ·exact lx_num (by omega)
theorem condsP_lx : ∀ (l : List Xc) (a : ByteArray), isWd (lst a) = true -> (∀ c ∈ l, condB c = true /\ U64 c.mask /\ U64 c.val) -> ∀ x ∈ condsP a l, Lx x.1 x.2 := by
 intro l
 induction l with
 | nil => intro a _ _ x hx; cases hx
 | cons c l ih =>
  intro a ha h x hx
  have hx2 : x ∈ (lst a, [tW (lst a)]) :: (condP c ++ condsP wAndB l) := hx
  rcases List.mem_cons.1 hx2 with rfl | h3
  ·exact lx_isWd ha
  ·rcases List.mem_append.1 h3 with h4 | h4
   ·obtain ⟨g1, g2, g3⟩ := h c List.mem_cons_self
    exact condP_lx g1 g2 g3 x h4
   ·exact ih wAndB (by decide) (fun d hd => h d (List.mem_cons_of_mem _ hd)) x h4
structure Fit (x : Xl) : Prop where
 b : ruleB x = true
 c : ∀ c ∈ x.conds, U64 c.mask /\ U64 c.val
theorem ruleP_lx {x : Xl} (h : Fit x) : ∀ y ∈ ruleP x, Lx y.1 y.2 := by
 obtain ⟨h1, h2, h3, h4, h5, h6⟩ := ruleB_out h.b
 intro y hy
 unfold ruleP at hy
 rcases List.mem_append.1 hy with g | g
 ·exact actP_lx h4 y g
 ·rcases List.mem_append.1 g with g | g
  ·exact namesP_lx _ h5 y g
  ·exact condsP_lx _ _ (by decide) (fun c hc => ⟨h6 c hc, h.c c hc⟩) y g
theorem rule_lx (T : List Int) {x : Xl} (h : Fit x) : LxU (ruleT T x) ((ruleP x).flatMap Prod.snd ++ [tS]) := by
 unfold ruleT
 rw [<- ruleP_fst T]
 refine lx_line ?_ (ruleP_lx h)
 unfold ruleP actP
 simp
def defP (k a : Int) : List Pr := (lst wDefaultB, [tW (lst wDefaultB)]) :: actP k a
theorem def_lx (T : List Int) {k a : Int} (h : actB k a = true) : LxU (defT T k a) ((defP k a).flatMap Prod.snd ++ [tS]) := by
 have e : defT T k a = Lib.join ((defP k a).map Prod.fst) [32] ++ [59, 10] := by
  unfold defT lineT defP
  rw [List.map_cons, actP_fst T]
  show Lib.join ([lst wDefaultB] ++ (actT T k a ++ [])) [32] ++ [59, 10] = _
  rw [List.append_nil]
  rfl
 rw [e]
 refine lx_line (by unfold defP; simp) fun x hx => ?_
 unfold defP at hx
 rcases List.mem_cons.1 hx with rfl | h1
 ·exact lx_isWd (by decide)
 ·exact actP_lx h x h1
def toks (k a : Int) (l : List Xl) : List Tok := ((defP k a).flatMap Prod.snd ++ [tS]) ++ l.flatMap fun x => (ruleP x).flatMap Prod.snd ++ [tS]
theorem text_lx (T : List Int) {k a : Int} (h : actB k a = true) : ∀ (l : List Xl), (∀ x ∈ l, Fit x) -> LxU (textT T k a l) (toks k a l) := by
 intro l hl
 unfold textT toks
 refine (def_lx T h).transU ?_
 induction l with
 | nil => intro p rest; exact ⟨[], rfl, by simp [glue_nil]⟩
 | cons x l ih =>
  rw [List.flatMap_cons, List.flatMap_cons]
  exact (rule_lx T (hl x List.mem_cons_self)).transU (ih fun y hy => hl y (List.mem_cons_of_mem _ hy))
/-! token by token -/
theorem runs_app {s s' : St} {b : List Tok} : ∀ (a : List Tok), runs s a = .ok s' -> runs s (a ++ b) = runs s' b := by
 intro a
 induction a generalizing s with
 | nil => intro h; cases h; rfl
 | cons x a ih =>
  intro h
  unfold runs at h
  rw [List.cons_append]
  conv => lhs; unfold runs
  split at h
  ·cases h
  ·next h4 =>
   rw [if_neg h4]
   split at h
   ·cases h
   ·next sx hs =>
    exact ih h
theorem runs_cons {s s' : St} {x : Tok} {r : List Tok} (h4 : ¬ x.k = 4) (hs : step s x = .ok s') : runs s (x :: r) = runs s' r := by
 conv => lhs; unfold runs
 rw [if_neg h4, hs]
theorem kind_wordS {k : Int} (h1 : 1 <= k) (h8 : k <= 8) : kindOf (wordS k.toNat) = k.toNat /\ numK k.toNat = hasN k := by
 rcases eight h1 h8 with rfl | rfl | rfl | rfl | rfl | rfl | rfl | rfl <;> decide
theorem isA_word {k : Int} (h1 : 1 <= k) (h8 : k <= 8) : isA (tW (wordS k.toNat)) = true := by
 unfold isA
 rw [show (tW (wordS k.toNat)).t = wordS k.toNat from rfl, (kind_wordS h1 h8).1]
 simp [tW]
 omega
theorem actB_arg {k a : Int} (h : actB k a = true) (hn : hasN k = false) : a = 0 := by
 unfold actB at h
 rw [hn] at h
 simp at h
 exact h.2
theorem runs_act1 {k a : Int} (h : actB k a = true) (r : List Tok) : runs .s1 ((actP k a).flatMap Prod.snd ++ r) = runs (.s3 ⟨k.toNat, a.toNat⟩) r := by
 obtain ⟨h1, h2, h3, h4⟩ := actB_out h
 obtain ⟨e1, e2⟩ := kind_wordS h1 h2
 have hA := isA_word h1 h2
 unfold actP
 rcases Bool.eq_false_or_eq_true (hasN k) with hn | hn
 ·rw [hn, if_pos rfl]
  show runs .s1 (tW (wordS k.toNat) :: tN a.toNat :: r) = _
  have s1 : step .s1 (tW (wordS k.toNat)) = .ok (.s2 k.toNat) := by
   show (if isA (tW (wordS k.toNat)) then (if numK (kindOf (wordS k.toNat)) then Except.ok (St.s2 (kindOf (wordS k.toNat))) else .ok (.s3 ⟨kindOf (wordS k.toNat), 0⟩)) else .error 7) = _
   rw [if_pos hA, e1, e2, hn, if_pos rfl]
  have s2 : step (.s2 k.toNat) (tN a.toNat) = .ok (.s3 ⟨k.toNat, a.toNat⟩) := by
   show (if isN (tN a.toNat) then (if 65535 < a.toNat then Except.error 6 else .ok (St.s3 ⟨k.toNat, a.toNat⟩)) else .error 7) = _
   rw [if_pos (show isN (tN a.toNat) = true from rfl), if_neg (by omega)]
  rw [runs_cons (show ¬ (1 : Nat) = 4 by decide) s1, runs_cons (show ¬ (2 : Nat) = 4 by decide) s2]
 ·rw [hn, if_neg (by decide)]
  obtain rfl := actB_arg h hn
  show runs .s1 (tW (wordS k.toNat) :: r) = _
  have s1 : step .s1 (tW (wordS k.toNat)) = .ok (.s3 ⟨k.toNat, 0⟩) := by
   show (if isA (tW (wordS k.toNat)) then (if numK (kindOf (wordS k.toNat)) then Except.ok (St.s2 (kindOf (wordS k.toNat))) else .ok (.s3 ⟨kindOf (wordS k.toNat), 0⟩)) else .error 7) = _
   rw [if_pos hA, e1, e2, hn, if_neg (by decide)]
  rw [runs_cons (show ¬ (1 : Nat) = 4 by decide) s1]
  rfl
theorem runs_act4 {d : Ac} {rs : List Rl} (hl : rs.length < 64) {k a : Int} (h : actB k a = true) (r : List Tok) : runs (.s4 d rs) ((actP k a).flatMap Prod.snd ++ r) = runs (.s6 d rs ⟨k.toNat, a.toNat⟩ []) r := by
 obtain ⟨h1, h2, h3, h4⟩ := actB_out h
 obtain ⟨e1, e2⟩ := kind_wordS h1 h2
 have hA := isA_word h1 h2
 unfold actP
 rcases Bool.eq_false_or_eq_true (hasN k) with hn | hn
 ·rw [hn, if_pos rfl]
  show runs (.s4 d rs) (tW (wordS k.toNat) :: tN a.toNat :: r) = _
  have s1 : step (.s4 d rs) (tW (wordS k.toNat)) = .ok (.s5 d rs k.toNat) := by
   show (if isA (tW (wordS k.toNat)) then (if 64 <= rs.length then Except.error 4 else if numK (kindOf (wordS k.toNat)) then .ok (St.s5 d rs (kindOf (wordS k.toNat))) else .ok (.s6 d rs ⟨kindOf (wordS k.toNat), 0⟩ [])) else .error 7) = _
   rw [if_pos hA, if_neg (by omega), e1, e2, hn, if_pos rfl]
  have s2 : step (.s5 d rs k.toNat) (tN a.toNat) = .ok (.s6 d rs ⟨k.toNat, a.toNat⟩ []) := by
   show (if isN (tN a.toNat) then (if 65535 < a.toNat then Except.error 6 else .ok (St.s6 d rs ⟨k.toNat, a.toNat⟩ [])) else .error 7) = _
   rw [if_pos (show isN (tN a.toNat) = true from rfl), if_neg (by omega)]
  rw [runs_cons (show ¬ (1 : Nat) = 4 by decide) s1, runs_cons (show ¬ (2 : Nat) = 4 by decide) s2]
 ·rw [hn, if_neg (by decide)]
  obtain rfl := actB_arg h hn
  show runs (.s4 d rs) (tW (wordS k.toNat) :: r) = _
  have s1 : step (.s4 d rs) (tW (wordS k.toNat)) = .ok (.s6 d rs ⟨k.toNat, 0⟩ []) := by
   show (if isA (tW (wordS k.toNat)) then (if 64 <= rs.length then Except.error 4 else if numK (kindOf (wordS k.toNat)) then .ok (St.s5 d rs (kindOf (wordS k.toNat))) else .ok (.s6 d rs ⟨kindOf (wordS k.toNat), 0⟩ [])) else .error 7) = _
   rw [if_pos hA, if_neg (by omega), e1, e2, hn, if_neg (by decide)]
  rw [runs_cons (show ¬ (1 : Nat) = 4 by decide) s1]
  rfl
theorem runs_names {d : Ac} {rs : List Rl} {a : Ac} : ∀ (l : List ByteArray) (ns : List (List UInt8)) (r : List Tok), ¬ l = [] -> ns.length + l.length <= 16 -> runs (.s6 d rs a ns) ((namesP l).flatMap Prod.snd ++ r) = runs (.s7 d rs a (ns ++ l.map lst)) r := by
 intro l
 induction l with
 | nil => intro ns r h; exact absurd rfl h
 | cons x l ih =>
  intro ns r _ hl
  rw [List.length_cons] at hl
  have s1 : step (.s6 d rs a ns) (tW (lst x)) = .ok (.s7 d rs a (ns ++ [lst x])) := by
   show (if (1 == 1 : Bool) then (if 16 <= ns.length then Except.error 4 else .ok (St.s7 d rs a (ns ++ [lst x]))) else .error 7) = _
   rw [if_pos (show (1 == 1 : Bool) = true from rfl), if_neg (by omega)]
  cases l with
  | nil =>
   show runs (.s6 d rs a ns) (tW (lst x) :: r) = _
   rw [runs_cons (show ¬ (1 : Nat) = 4 by decide) s1]
   rfl
  | cons y l =>
   have s2 : step (.s7 d rs a (ns ++ [lst x])) tC = .ok (.s6 d rs a (ns ++ [lst x])) := rfl
   show runs (.s6 d rs a ns) (tW (lst x) :: tC :: ((namesP (y :: l)).flatMap Prod.snd ++ r)) = _
   rw [runs_cons (show ¬ (1 : Nat) = 4 by decide) s1, runs_cons (show ¬ (3 : Nat) = 4 by decide) s2, ih (ns ++ [lst x]) r (by simp) (by simp at hl ⊢; omega)]
   simp
theorem arg_of {n : Nat} (h : n < 6) : argOf (argW n) = n + 1 := by
 rw [argW_all h]
 rcases arg_six h with rfl | rfl | rfl | rfl | rfl | rfl <;> decide
theorem op_of {o : Int} (h1 : 1 <= o) (h6 : o <= 6) : opOf (signS o.toNat) = o.toNat /\ ¬ signS o.toNat = [38] := by
 rcases six h1 h6 with rfl | rfl | rfl | rfl | rfl | rfl <;> decide
theorem runs_cond {d : Ac} {rs : List Rl} {a : Ac} {ns : List (List UInt8)} {cs : List Cd} (hl : cs.length < 8) {c : Xc} (h : condB c = true) (hm : U64 c.mask) (r : List Tok) : runs (.s8 d rs a ns cs) ((condP c).flatMap Prod.snd ++ r) = runs (.s13 d rs a ns (cs ++ [toC c])) r := by
 obtain ⟨h1, h2, h3, h4⟩ := condB_out h
 obtain ⟨o1, o2⟩ := op_of h3 h4
 have g1 := arg_of (n := c.arg.toNat) (by omega)
 obtain ⟨m1, m2⟩ := hm
 have hG : isG (tW (argW c.arg.toNat)) = true := by
  unfold isG
  rw [show (tW (argW c.arg.toNat)).t = argW c.arg.toNat from rfl, g1]
  simp [tW]
 have hO : isO (tG (signS c.op.toNat)) = true := by
  unfold isO
  rw [show (tG (signS c.op.toNat)).t = signS c.op.toNat from rfl, o1]
  simp [tG]
  omega
 have hS : isS (tG (signS c.op.toNat)) [38] = false := by
  unfold isS
  rw [show (tG (signS c.op.toNat)).t = signS c.op.toNat from rfl]
  simp [o2]
 have s8 : step (.s8 d rs a ns cs) (tW (argW c.arg.toNat)) = .ok (.s9 d rs a ns cs c.arg.toNat) := by
  show (if isG (tW (argW c.arg.toNat)) then (if 8 <= cs.length then Except.error 4 else .ok (St.s9 d rs a ns cs (argOf (argW c.arg.toNat) - 1))) else .error 7) = _
  rw [if_pos hG, if_neg (by omega), g1]
  rfl
 have s12 : ∀ m, step (.s12 d rs a ns cs c.arg.toNat m c.op.toNat) (tN c.val.toNat) = .ok (.s13 d rs a ns (cs ++ [⟨c.arg.toNat, c.op.toNat, m, c.val.toNat⟩])) := fun m => rfl
 unfold condP
 rcases Bool.eq_false_or_eq_true (c.mask == 18446744073709551615) with hk | hk
 ·rw [hk, if_pos rfl]
  have hmk : c.mask.toNat = 18446744073709551615 := by
   have : c.mask = 18446744073709551615 := by simpa using hk
   omega
  show runs (.s8 d rs a ns cs) (tW (argW c.arg.toNat) :: tG (signS c.op.toNat) :: tN c.val.toNat :: r) = _
  have s9 : step (.s9 d rs a ns cs c.arg.toNat) (tG (signS c.op.toNat)) = .ok (.s12 d rs a ns cs c.arg.toNat 18446744073709551615 c.op.toNat) := by
   show (if isS (tG (signS c.op.toNat)) [38] then Except.ok (St.s10 d rs a ns cs c.arg.toNat) else if isO (tG (signS c.op.toNat)) then .ok (.s12 d rs a ns cs c.arg.toNat 18446744073709551615 (opOf (signS c.op.toNat))) else .error 7) = _
   rw [hS, if_neg (by decide), if_pos hO, o1]
  rw [runs_cons (show ¬ (1 : Nat) = 4 by decide) s8, runs_cons (show ¬ (3 : Nat) = 4 by decide) s9, runs_cons (show ¬ (2 : Nat) = 4 by decide) (s12 _)]
  unfold toC
  rw [hmk]
 ·rw [hk, if_neg (by decide)]
  show runs (.s8 d rs a ns cs) (tW (argW c.arg.toNat) :: tG [38] :: tN c.mask.toNat :: tG (signS c.op.toNat) :: tN c.val.toNat :: r) = _
  have s9 : step (.s9 d rs a ns cs c.arg.toNat) (tG [38]) = .ok (.s10 d rs a ns cs c.arg.toNat) := rfl
  have s10 : step (.s10 d rs a ns cs c.arg.toNat) (tN c.mask.toNat) = .ok (.s11 d rs a ns cs c.arg.toNat c.mask.toNat) := rfl
  have s11 : step (.s11 d rs a ns cs c.arg.toNat c.mask.toNat) (tG (signS c.op.toNat)) = .ok (.s12 d rs a ns cs c.arg.toNat c.mask.toNat c.op.toNat) := by
   show (if isO (tG (signS c.op.toNat)) then Except.ok (St.s12 d rs a ns cs c.arg.toNat c.mask.toNat (opOf (signS c.op.toNat))) else .error 7) = _
   rw [if_pos hO, o1]
  rw [runs_cons (show ¬ (1 : Nat) = 4 by decide) s8, runs_cons (show ¬ (3 : Nat) = 4 by decide) s9, runs_cons (show ¬ (2 : Nat) = 4 by decide) s10, runs_cons (show ¬ (3 : Nat) = 4 by decide) s11, runs_cons (show ¬ (2 : Nat) = 4 by decide) (s12 _)]
  rfl
theorem runs_more {d : Ac} {rs : List Rl} {a : Ac} {ns : List (List UInt8)} : ∀ (l : List Xc) (cs : List Cd), cs.length + l.length <= 8 -> (∀ c ∈ l, condB c = true /\ U64 c.mask /\ U64 c.val) -> runs (.s13 d rs a ns cs) ((condsP wAndB l).flatMap Prod.snd ++ [tS]) = .ok (.s4 d (rs ++ [⟨a, ns, cs ++ l.map toC⟩])) := by
 intro l
 induction l with
 | nil => intro cs _ _; rw [List.map_nil, List.append_nil]; rfl
 | cons c l ih =>
  intro cs hl h
  rw [List.length_cons] at hl
  obtain ⟨g1, g2, g3⟩ := h c List.mem_cons_self
  have s13 : step (.s13 d rs a ns cs) (tW (lst wAndB)) = .ok (.s8 d rs a ns cs) := rfl
  have e : (condsP wAndB (c :: l)).flatMap Prod.snd ++ [tS] = tW (lst wAndB) :: ((condP c).flatMap Prod.snd ++ ((condsP wAndB l).flatMap Prod.snd ++ [tS])) := by
   show (([tW (lst wAndB)] ++ (condP c ++ condsP wAndB l).flatMap Prod.snd) ++ [tS]) = _
   rw [List.flatMap_append]
   simp
  rw [e, runs_cons (show ¬ (1 : Nat) = 4 by decide) s13, runs_cond (by omega) g1 g2, ih (cs ++ [toC c]) (by simp; omega) (fun x hx => h x (List.mem_cons_of_mem _ hx))]
  simp
theorem runs_conds {d : Ac} {rs : List Rl} {a : Ac} {ns : List (List UInt8)} (l : List Xc) (hl : l.length <= 8) (h : ∀ c ∈ l, condB c = true /\ U64 c.mask /\ U64 c.val) : runs (.s7 d rs a ns) ((condsP wWhenB l).flatMap Prod.snd ++ [tS]) = .ok (.s4 d (rs ++ [⟨a, ns, l.map toC⟩])) := by
 cases l with
 | nil => rfl
 | cons c l =>
  rw [List.length_cons] at hl
  obtain ⟨g1, g2, g3⟩ := h c List.mem_cons_self
  have s7 : step (.s7 d rs a ns) (tW (lst wWhenB)) = .ok (.s8 d rs a ns []) := rfl
  have e : (condsP wWhenB (c :: l)).flatMap Prod.snd ++ [tS] = tW (lst wWhenB) :: ((condP c).flatMap Prod.snd ++ ((condsP wAndB l).flatMap Prod.snd ++ [tS])) := by
   show (([tW (lst wWhenB)] ++ (condP c ++ condsP wAndB l).flatMap Prod.snd) ++ [tS]) = _
   rw [List.flatMap_append]
   simp
  rw [e, runs_cons (show ¬ (1 : Nat) = 4 by decide) s7, runs_cond (by simp) g1 g2, runs_more l ([] ++ [toC c]) (by simp; omega) (fun x hx => h x (List.mem_cons_of_mem _ hx))]
  rfl
theorem runs_rule {d : Ac} {rs : List Rl} (hl : rs.length < 64) {x : Xl} (h : Fit x) : runs (.s4 d rs) ((ruleP x).flatMap Prod.snd ++ [tS]) = .ok (.s4 d (rs ++ [toR x])) := by
 obtain ⟨h1, h2, h3, h4, h5, h6⟩ := ruleB_out h.b
 have e : (ruleP x).flatMap Prod.snd ++ [tS] = (actP x.k x.a).flatMap Prod.snd ++ ((namesP x.names).flatMap Prod.snd ++ ((condsP wWhenB x.conds).flatMap Prod.snd ++ [tS])) := by
  unfold ruleP
  rw [List.flatMap_append, List.flatMap_append]
  simp
 rw [e, runs_act4 hl h4, runs_names x.names [] _ (by intro e; rw [e] at h1; simp at h1) (by simpa using h2), runs_conds x.conds h3 (fun c hc => ⟨h6 c hc, h.c c hc⟩)]
 rfl
theorem runs_rules {d : Ac} : ∀ (l : List Xl) (rs : List Rl), rs.length + l.length <= 64 -> (∀ x ∈ l, Fit x) -> runs (.s4 d rs) (l.flatMap fun x => (ruleP x).flatMap Prod.snd ++ [tS]) = .ok (.s4 d (rs ++ l.map toR)) := by
 intro l
 induction l with
 | nil => intro rs _ _; rw [List.map_nil, List.append_nil]; rfl
 | cons x l ih =>
  intro rs hl h
  rw [List.length_cons] at hl
  rw [List.flatMap_cons, runs_app _ (runs_rule (by omega) (h x List.mem_cons_self)), ih (rs ++ [toR x]) (by simp; omega) (fun y hy => h y (List.mem_cons_of_mem _ hy))]
  simp
theorem runs_toks {k a : Int} (h : actB k a = true) {l : List Xl} (hl : l.length <= 64) (hf : ∀ x ∈ l, Fit x) : runs .s0 (toks k a l) = .ok (.s4 ⟨k.toNat, a.toNat⟩ (l.map toR)) := by
 unfold toks
 have s0 : step .s0 (tW (lst wDefaultB)) = .ok .s1 := rfl
 have s3 : step (.s3 ⟨k.toNat, a.toNat⟩) tS = .ok (.s4 ⟨k.toNat, a.toNat⟩ []) := rfl
 have e : ((defP k a).flatMap Prod.snd ++ [tS]) ++ (l.flatMap fun x => (ruleP x).flatMap Prod.snd ++ [tS]) = tW (lst wDefaultB) :: ((actP k a).flatMap Prod.snd ++ (tS :: l.flatMap fun x => (ruleP x).flatMap Prod.snd ++ [tS])) := by
  unfold defP
  simp
 rw [e, runs_cons (show ¬ (1 : Nat) = 4 by decide) s0, runs_act1 h, runs_cons (show ¬ (3 : Nat) = 4 by decide) s3, runs_rules l [] (by simpa using hl) hf]
 rfl
theorem prs_text (T : List Int) {k a : Int} {l : List Xl} (h : rulesB k a l = true) (hc : ∀ x ∈ l, ∀ c ∈ x.conds, U64 c.mask /\ U64 c.val) (hlen : (textT T k a l).length <= 8192) : prs (textT T k a l) = .ok (⟨k.toNat, a.toNat⟩, l.map toR) := by
 have h0 : actB k a = true /\ l.length <= 64 /\ ∀ x ∈ l, ruleB x = true := by
  unfold rulesB at h
  simp only [Bool.and_eq_true, decide_eq_true_eq, List.all_eq_true] at h
  exact ⟨h.1.1, h.1.2, h.2⟩
 have hf : ∀ x ∈ l, Fit x := fun x hx => ⟨h0.2.2 x hx, hc x hx⟩
 obtain ⟨A, hA, hg⟩ := text_lx T h0.1 l hf 0 []
 rw [List.append_nil] at hg
 have hgo : go 0 (0 + (textT T k a l).length) [] = .ok [⟨4, 0 + (textT T k a l).length, [], 0⟩] := rfl
 rw [hgo] at hg
 have hall : all (textT T k a l) = .ok (A ++ [⟨4, 0 + (textT T k a l).length, [], 0⟩]) := by
  unfold all
  rw [if_neg (by omega), hg]
  rfl
 unfold prs
 rw [hall]
 show run .s0 (A ++ [_]) = _
 refine run_alike (toks k a l ++ [⟨4, 0 + (textT T k a l).length, [], 0⟩]) _ (by simp [hA]) ?_
 rw [run_app _ _ (runs_toks h0.1 h0.2.1 hf), run_end rfl]
 rfl
end Go.Proofs.YtcckipimfgmmdaaGreatDoor.P
/-
 What is parsed may be shown: in plain words.
-/
namespace Go.Proofs.YtcckipimfgmmdaaGreatDoor.P
open Go
def AcZ (a : Ac) : Prop := numK a.k = false -> a.a = 0
def CdZ (c : Cd) : Prop := c.mask < 18446744073709551616 /\ c.val < 18446744073709551616
def RlZ (r : Rl) : Prop := AcZ r.act /\ ∀ c ∈ r.conds, CdZ c
def RsZ (rs : List Rl) : Prop := ∀ r ∈ rs, RlZ r
def CsZ (cs : List Cd) : Prop := ∀ c ∈ cs, CdZ c
theorem RsZ.snoc {rs : List Rl} {r : Rl} (h : RsZ rs) (hr : RlZ r) : RsZ (rs ++ [r]) := by
 intro x hx
 rcases List.mem_append.1 hx with h1 | h1
 ·exact h x h1
 ·have : x = r := by simpa using h1
  subst this
  exact hr
theorem CsZ.snoc {cs : List Cd} {c : Cd} (h : CsZ cs) (hc : CdZ c) : CsZ (cs ++ [c]) := by
 intro x hx
 rcases List.mem_append.1 hx with h1 | h1
 ·exact h x h1
 ·have : x = c := by simpa using h1
  subst this
  exact hc
theorem csZ_nil : CsZ [] := fun c hc => by cases hc
def InvZ : St -> Prop
 | .inl () => True
 | .inr (.inl ()) => True
 | .inr (.inr (.inl k)) => numK k = true
 | .inr (.inr (.inr (.inl d))) => AcZ d
 | .inr (.inr (.inr (.inr (.inl (d, rs))))) => AcZ d /\ RsZ rs
 | .inr (.inr (.inr (.inr (.inr (.inl (d, rs, k)))))) => AcZ d /\ RsZ rs /\ numK k = true
 | .inr (.inr (.inr (.inr (.inr (.inr (.inl (d, rs, a, _))))))) => AcZ d /\ RsZ rs /\ AcZ a
 | .inr (.inr (.inr (.inr (.inr (.inr (.inr (.inl (d, rs, a, _)))))))) => AcZ d /\ RsZ rs /\ AcZ a
 | .inr (.inr (.inr (.inr (.inr (.inr (.inr (.inr (.inl (d, rs, a, _, cs))))))))) => AcZ d /\ RsZ rs /\ AcZ a /\ CsZ cs
 | .inr (.inr (.inr (.inr (.inr (.inr (.inr (.inr (.inr (.inl (d, rs, a, _, cs, _)))))))))) => AcZ d /\ RsZ rs /\ AcZ a /\ CsZ cs
 | .inr (.inr (.inr (.inr (.inr (.inr (.inr (.inr (.inr (.inr (.inl (d, rs, a, _, cs, _))))))))))) => AcZ d /\ RsZ rs /\ AcZ a /\ CsZ cs
 | .inr (.inr (.inr (.inr (.inr (.inr (.inr (.inr (.inr (.inr (.inr (.inl (d, rs, a, _, cs, _, m)))))))))))) => AcZ d /\ RsZ rs /\ AcZ a /\ CsZ cs /\ m < 18446744073709551616
 | .inr (.inr (.inr (.inr (.inr (.inr (.inr (.inr (.inr (.inr (.inr (.inr (.inl (d, rs, a, _, cs, _, m, _))))))))))))) => AcZ d /\ RsZ rs /\ AcZ a /\ CsZ cs /\ m < 18446744073709551616
 | .inr (.inr (.inr (.inr (.inr (.inr (.inr (.inr (.inr (.inr (.inr (.inr (.inr (d, rs, a, _, cs))))))))))))) => AcZ d /\ RsZ rs /\ AcZ a /\ CsZ cs
theorem acz_num {k n : Nat} (h : numK k = true) : AcZ ⟨k, n⟩ := fun h2 => by
 have : numK k = false := h2
 rw [h] at this
 cases this
theorem acz_zero (k : Nat) : AcZ ⟨k, 0⟩ := fun _ => rfl
theorem step_invZ {S S' : St} {x : Tok} (h : InvZ S) (hx : x.n < 18446744073709551616) (hs : step S x = .ok S') : InvZ S' := by
 cases S using St.every <;> simp only [step] at hs
 case s0 => split at hs <;> cases hs; trivial
 case s1 =>
  split at hs
  ·split at hs
   ·next h1 => cases hs; exact h1
   ·cases hs; exact acz_zero _
  ·cases hs
 case s2 k =>
  split at hs
  ·split at hs
   ·cases hs
   ·cases hs; exact acz_num h
  ·cases hs
 case s3 d =>
  split at hs
  ·cases hs; exact ⟨h, fun r hr => by cases hr⟩
  ·cases hs
 case s4 d rs =>
  split at hs
  ·split at hs
   ·cases hs
   ·split at hs
    ·next h1 => cases hs; exact ⟨h.1, h.2, h1⟩
    ·cases hs; exact ⟨h.1, h.2, acz_zero _⟩
  ·cases hs
 case s5 d rs k =>
  split at hs
  ·split at hs
   ·cases hs
   ·cases hs; exact ⟨h.1, h.2.1, acz_num h.2.2⟩
  ·cases hs
 case s6 d rs a ns =>
  split at hs
  ·split at hs
   ·cases hs
   ·cases hs; exact h
  ·cases hs
 case s7 d rs a ns =>
  split at hs
  ·cases hs; exact h
  ·split at hs
   ·cases hs; exact ⟨h.1, h.2.1, h.2.2, csZ_nil⟩
   ·split at hs
    ·cases hs; exact ⟨h.1, h.2.1.snoc ⟨h.2.2, csZ_nil⟩⟩
    ·cases hs
 case s8 d rs a ns cs =>
  split at hs
  ·split at hs
   ·cases hs
   ·cases hs; exact h
  ·cases hs
 case s9 d rs a ns cs g =>
  split at hs
  ·cases hs; exact h
  ·split at hs
   ·cases hs; exact ⟨h.1, h.2.1, h.2.2.1, h.2.2.2, by decide⟩
   ·cases hs
 case s10 d rs a ns cs g =>
  split at hs
  ·cases hs; exact ⟨h.1, h.2.1, h.2.2.1, h.2.2.2, hx⟩
  ·cases hs
 case s11 d rs a ns cs g m =>
  split at hs
  ·cases hs; exact h
  ·cases hs
 case s12 d rs a ns cs g m o =>
  split at hs
  ·cases hs; exact ⟨h.1, h.2.1, h.2.2.1, h.2.2.2.1.snoc ⟨h.2.2.2.2, hx⟩⟩
  ·cases hs
 case s13 d rs a ns cs =>
  split at hs
  ·cases hs; exact h
  ·split at hs
   ·cases hs; exact ⟨h.1, h.2.1.snoc ⟨h.2.2.1, h.2.2.2⟩⟩
   ·cases hs
theorem run_invZ : ∀ (ts : List Tok) (S : St) (v : Ac × List Rl), InvZ S -> (∀ x ∈ ts, x.n < 18446744073709551616) -> run S ts = .ok v -> AcZ v.1 /\ RsZ v.2 := by
 intro ts
 induction ts with
 | nil => intro S v _ _ h; cases h
 | cons x ts ih =>
  intro S v hS hx h
  by_cases h4 : x.k = 4
  ·rw [run_end h4] at h
   cases S using St.every <;> simp [done] at h
   subst h
   exact hS
  ·cases hs : step S x with
   | error c => rw [run_err h4 hs] at h; cases h
   | ok S' =>
    rw [run_step h4 hs] at h
    exact ih S' v (step_invZ hS (hx x List.mem_cons_self) hs) (fun y hy => hx y (List.mem_cons_of_mem _ hy)) h
theorem prs_Z {l : List UInt8} {v : Ac × List Rl} (h : prs l = .ok v) : AcZ v.1 /\ RsZ v.2 := by
 obtain ⟨ts, h1, h2⟩ := prs_ok h
 exact run_invZ ts .s0 v trivial (fun x hx => (all_tk h1 x hx).n) h2
def ofC (c : Cd) : Xc := ⟨c.arg, c.op, c.mask, c.val⟩
def ofR (r : Rl) : Xl := ⟨r.act.k, r.act.a, r.names.map bar, r.conds.map ofC⟩
theorem ofC_toC {c : Xc} (h : condB c = true) (hm : U64 c.mask) (hv : U64 c.val) : ofC (toC c) = c := by
 obtain ⟨h1, h2, h3, h4⟩ := condB_out h
 obtain ⟨a, o, m, v⟩ := c
 obtain ⟨m1, _⟩ := hm
 obtain ⟨v1, _⟩ := hv
 unfold toC ofC
 simp only at h1 h3 m1 v1 ⊢
 congr 1 <;> omega
theorem ofR_toR {x : Xl} (h : Fit x) : ofR (toR x) = x := by
 obtain ⟨h1, h2, h3, h4, h5, h6⟩ := ruleB_out h.b
 obtain ⟨a1, a2, a3, a4⟩ := actB_out h4
 have hc := h.c
 obtain ⟨k, a, ns, cs⟩ := x
 simp only at a1 a3 h6 hc
 unfold toR ofR
 simp only [List.map_map]
 have e1 : (bar ∘ lst) = id := by funext t; exact bar_lst t
 have e2 : cs.map (ofC ∘ toC) = cs := by
  conv => rhs; rw [<- List.map_id cs]
  apply List.map_congr_left
  intro c hcm
  exact ofC_toC (h6 c hcm) (hc c hcm).1 (hc c hcm).2
 rw [e1, e2, List.map_id]
 congr 1 <;> omega
end Go.Proofs.YtcckipimfgmmdaaGreatDoor.P
/-
 What Parse tells, for whoever shows it.
-/
namespace Go.Proofs.YtcckipimfgmmdaaGreatDoor.P
open Go.RowKit
theorem isB_below {T e : TypeId} {B b : Nat} {bs : List Value} {w w' : World} (h : Lib.IsBuilder T e B b bs w) (hb : Below w.heap.size w w') : Lib.IsBuilder T e B b bs w' := by
 have key : ∀ p, Lib.BuilderAt T e B b p bs w -> Lib.BuilderAt T e B b p bs w' := by
  intro p hp
  have hlt := hp.lt
  obtain ⟨hB, v, hh, hown, hne⟩ := hp
  exact ⟨hB, v, by rw [hb.block b hlt]; exact hh, owns_below hown hb (Nat.le_refl _), hne⟩
 rcases h with h | h
 ·exact .inl (key _ h)
 ·exact .inr (key _ h)
theorem isB_lt {T e : TypeId} {B b : Nat} {bs : List Value} {w : World} (h : Lib.IsBuilder T e B b bs w) : b < w.heap.size := by
 rcases h with h | h
 ·exact h.lt
 ·exact h.lt
theorem ws_any (b : Nat) (acc t : List UInt8) (w : World) (h : Lib.IsBuilder 90 5 b b (Lib.byteCells acc) w) (h1 : acc.length <= 10000000000) (h2 : t.length <= 10000000000) :
  Calls Tryz.prog 32 #[.pointer (some ⟨b, 0, none⟩), .string (bar t)] w fun e w' => (∃ v, e = .returned v) /\ Lib.IsBuilder 90 5 b b (Lib.byteCells (acc ++ t)) w' /\ Below b w w' := by
 refine (Tryz.builder_ws b b (Lib.byteCells acc) (bar t) w h (by rw [Lib.byteCells_length, bar_size]; omega) (Nat.le_of_lt (isB_lt h))).mono ?_
 rintro e w' ⟨rfl, hB, hb⟩
 refine ⟨⟨_, rfl⟩, .inr ?_, hb⟩
 rw [Lib.byteCells_append]
 exact hB
theorem lineT_len {T : List Int} {l : List Sh} (h : (Lib.join (flat T l) [32]).length <= 100000000) : (lineT T l).length <= 100000002 := by
 unfold lineT
 rw [List.length_append]
 simp only [List.length_cons, List.length_nil]
 omega
theorem text_no (w : World) (k a : Int) (v : Value) (l : List Xr) (h : RlR w v l) (hl : l.length <= 1000) (hs : ∀ x ∈ l, x.r.names.length <= 9000000 /\ x.r.conds.length <= 9000000) (hB : rulesB k a (l.map Xr.r) = false) :
  Calls Tryz.prog 16 #[.agg #[.int .i64 k, .int .i64 a, v]] w fun e w' => e = .returned (.tuple #[.string ⟨#[]⟩, .int .i64 1]) /\ Below w.heap.size w w' := by
 obtain ⟨p1, c1, rfl⟩ : ∃ p c, v = .slice p l.length c := by obtain ⟨p, c, e, _⟩ := h; exact ⟨p, c, e⟩
 have be : Below w.heap.size w (w.alloc (Obj.cells #[.int .i64 k, .int .i64 a, .slice p1 l.length c1] 39)) := (Below.refl _ _).alloc (Nat.le_refl _) _
 have BE : Hid (Below w.heap.size w (w.alloc (Obj.cells #[.int .i64 k, .int .i64 a, .slice p1 l.length c1] 39))) := be
 have HR : Hid (Calls Tryz.prog 31 #[.agg #[.int .i64 k, .int .i64 a, .slice p1 l.length c1]] (w.alloc (Obj.cells #[.int .i64 k, .int .i64 a, .slice p1 l.length c1] 39)) fun e w' => e = .returned (.bool false) /\ Below (w.alloc (Obj.cells #[.int .i64 k, .int .i64 a, .slice p1 l.length c1] 39)).heap.size (w.alloc (Obj.cells #[.int .i64 k, .int .i64 a, .slice p1 l.length c1] 39)) w') := by
  have := right_any (w.alloc (Obj.cells #[.int .i64 k, .int .i64 a, .slice p1 l.length c1] 39)) k a (.slice p1 l.length c1) l (h.below be) hl hs
  rw [hB] at this
  exact this
 clear h be hs hB
 go_enter Tryz.func16, Tryz.ntmps16
 go_wp2_with fail
 refine HR.out.mono ?_
 rintro e w1 ⟨rfl, b1⟩
 go_wp2_with fail
 go_ret2
 exact ⟨rfl, BE.out.trans (b1.mono BE.out.size)⟩
theorem text_yes (T : List Int) (w : World) (k a : Int) (v : Value) (l : List Xr) (h : RlR w v l) (hl : l.length <= 1000) (hs : ∀ x ∈ l, x.r.names.length <= 9000000 /\ x.r.conds.length <= 9000000) (hB : rulesB k a (l.map Xr.r) = true) (hin : ∀ x ∈ l, x.r.in) (ht : Tb T w) :
  Calls Tryz.prog 16 #[.agg #[.int .i64 k, .int .i64 a, v]] w fun e w' => e = .returned (.tuple #[.string (bar (textT T k a (l.map Xr.r))), .int .i64 0]) /\ Below w.heap.size w w' := by
 obtain ⟨p1, c1, rfl⟩ : ∃ p c, v = .slice p l.length c := by obtain ⟨p, c, e, _⟩ := h; exact ⟨p, c, e⟩
 have be : Below w.heap.size w (w.alloc (Obj.cells #[.int .i64 k, .int .i64 a, .slice p1 l.length c1] 39)) := (Below.refl _ _).alloc (Nat.le_refl _) _
 have BE : Hid (Below w.heap.size w (w.alloc (Obj.cells #[.int .i64 k, .int .i64 a, .slice p1 l.length c1] 39))) := be
 have HR : Hid (Calls Tryz.prog 31 #[.agg #[.int .i64 k, .int .i64 a, .slice p1 l.length c1]] (w.alloc (Obj.cells #[.int .i64 k, .int .i64 a, .slice p1 l.length c1] 39)) fun e w' => e = .returned (.bool true) /\ Below (w.alloc (Obj.cells #[.int .i64 k, .int .i64 a, .slice p1 l.length c1] 39)).heap.size (w.alloc (Obj.cells #[.int .i64 k, .int .i64 a, .slice p1 l.length c1] 39)) w') := by
  have := right_any (w.alloc (Obj.cells #[.int .i64 k, .int .i64 a, .slice p1 l.length c1] 39)) k a (.slice p1 l.length c1) l (h.below be) hl hs
  rw [hB] at this
  exact this
 have HK : Hid (Blk (w.alloc (Obj.cells #[.int .i64 k, .int .i64 a, .slice p1 l.length c1] 39)) w.heap.size 39 [.int .i64 k, .int .i64 a, .slice p1 l.length c1]) := blk_new w _ _
 have HT : Hid (Tb T (w.alloc (Obj.cells #[.int .i64 k, .int .i64 a, .slice p1 l.length c1] 39))) := ht.below be
 have S0 : Hid (RlR (w.alloc (Obj.cells #[.int .i64 k, .int .i64 a, .slice p1 l.length c1] 39)) (.slice p1 l.length c1) l) := h.below be
 have hB2 : actB k a = true /\ l.length <= 64 /\ ∀ x ∈ l, ruleB x.r = true := by
  unfold rulesB at hB
  simp only [Bool.and_eq_true, decide_eq_true_eq, List.all_eq_true, List.mem_map, List.length_map] at hB
  exact ⟨hB.1.1, hB.1.2, fun x hx => hB.2 x.r ⟨x, hx, rfl⟩⟩
 have HA : Hid (1 <= k /\ k <= 8 /\ 0 <= a /\ a <= 65535) := actB_out hB2.1
 have HL : Hid (l.length <= 64) := hB2.2.1
 have HQ : Hid (∀ x ∈ l, ruleB x.r = true /\ x.r.in) := fun x hx => ⟨hB2.2.2 x hx, hin x hx⟩
 have hl64 : (l.length : Int) <= 64 := by have := hB2.2.1; omega
 clear h be hs hB hin ht hB2
 generalize hR : textT T k a (l.map Xr.r) = R
 have HRR : Hid (textT T k a (l.map Xr.r) = R) := hR
 clear hR
 go_enter Tryz.func16, Tryz.ntmps16
 go_wp2_with fail
 generalize (w.alloc (Obj.cells #[.int .i64 k, .int .i64 a, .slice p1 l.length c1] 39)) = X at *
 refine HR.out.mono ?_
 rintro e w1 ⟨rfl, b1⟩
 have HK1 : Hid (Blk w1 w.heap.size 39 [.int .i64 k, .int .i64 a, .slice p1 l.length c1]) := HK.out.over b1
 have HT1 : Hid (Tb T w1) := HT.out.below b1
 have S1 : Hid (RlR w1 (.slice p1 l.length c1) l) := S0.out.below b1
 have B1 : Hid (Below w.heap.size w w1) := BE.out.trans (b1.mono BE.out.size)
 have I1 : Hid (Lib.IsBuilder 90 5 w1.heap.size w1.heap.size (Lib.byteCells []) (w1.alloc (Obj.cells #[.pointer none, .slice none 0 0] 90))) := Lib.fresh_isBuilder _ _ _
 have b2 : Below w1.heap.size w1 (w1.alloc (Obj.cells #[.pointer none, .slice none 0 0] 90)) := (Below.refl _ _).alloc (Nat.le_refl _) _
 have t0 : (w1.alloc (Obj.cells #[.pointer none, .slice none 0 0] 90)).cell? ⟨w.heap.size, 0, none⟩ = some (.int .i64 k) := (HK1.out.over b2).cell 0
 have t1 : (w1.alloc (Obj.cells #[.pointer none, .slice none 0 0] 90)).cell? ⟨w.heap.size, 1, none⟩ = some (.int .i64 a) := (HK1.out.over b2).cell 1
 clear HK HT S0 BE b1 HR
 have HL1 : Hid (Calls Tryz.prog 33 #[.slice (some ⟨w1.heap.size + 1, 0, none⟩) 2 2] ((w1.alloc (Obj.cells #[.pointer none, .slice none 0 0] 90)).alloc (Obj.cells #[.iface 96 (.string ⟨#[100, 101, 102, 97, 117, 108, 116]⟩), .iface 97 (.agg #[.int .i64 k, .int .i64 a])] 134)) fun e w' => e = .returned (.string (bar (defT T k a))) /\ Below ((w1.alloc (Obj.cells #[.pointer none, .slice none 0 0] 90)).alloc (Obj.cells #[.iface 96 (.string ⟨#[100, 101, 102, 97, 117, 108, 116]⟩), .iface 97 (.agg #[.int .i64 k, .int .i64 a])] 134)).heap.size ((w1.alloc (Obj.cells #[.pointer none, .slice none 0 0] 90)).alloc (Obj.cells #[.iface 96 (.string ⟨#[100, 101, 102, 97, 117, 108, 116]⟩), .iface 97 (.agg #[.int .i64 k, .int .i64 a])] 134)) w') := by
  have ho := owns_new (w := w1.alloc (Obj.cells #[.pointer none, .slice none 0 0] 90)) (base := 0) 134 [.iface 96 (.string ⟨#[100, 101, 102, 97, 117, 108, 116]⟩), .iface 97 (.agg #[.int .i64 k, .int .i64 a])] (Nat.zero_le _) (by simp) (by simp)
  rw [size_alloc'] at ho
  have hok : ∀ W, ∀ y ∈ [Sh.wd wDefaultB, Sh.ac k a], y.ok W /\ y.sm := fun W y hy => by
   rcases List.mem_cons.1 hy with rfl | h1
   ·exact ⟨trivial, (by decide : wDefaultB.size <= 100)⟩
   ·rcases List.mem_cons.1 h1 with rfl | h2
    ·exact ⟨HA.out, trivial⟩
    ·cases h2
  exact line_any T _ 0 _ [Sh.wd wDefaultB, Sh.ac k a] ho (fun y hy => (hok _ y hy).1) (by simp) (by simp) (flat_join (W := w1) (hok w1) (by simp)) ((HT1.out.below b2).below ((Below.refl _ _).alloc (Nat.le_refl _) _))
 have HD : Hid ((defT T k a).length <= 100000002) := lineT_len (flat_join (W := w1) (fun y hy => by
   rcases List.mem_cons.1 hy with rfl | h1
   ·exact ⟨trivial, (by decide : wDefaultB.size <= 100)⟩
   ·rcases List.mem_cons.1 h1 with rfl | h2
    ·exact ⟨HA.out, trivial⟩
    ·cases h2) (by simp))
 have I3 : Hid (Lib.IsBuilder 90 5 w1.heap.size w1.heap.size (Lib.byteCells []) ((w1.alloc (Obj.cells #[.pointer none, .slice none 0 0] 90)).alloc (Obj.cells #[.iface 96 (.string ⟨#[100, 101, 102, 97, 117, 108, 116]⟩), .iface 97 (.agg #[.int .i64 k, .int .i64 a])] 134))) := isB_below I1.out ((Below.refl _ _).alloc (Nat.le_refl _) _)
 have B3 : Hid (Below w1.heap.size w1 ((w1.alloc (Obj.cells #[.pointer none, .slice none 0 0] 90)).alloc (Obj.cells #[.iface 96 (.string ⟨#[100, 101, 102, 97, 117, 108, 116]⟩), .iface 97 (.agg #[.int .i64 k, .int .i64 a])] 134))) := b2.alloc b2.size _
 clear I1 b2 HA
 go_wp2_with fail
 clear t0 t1
 generalize ((w1.alloc (Obj.cells #[.pointer none, .slice none 0 0] 90)).alloc (Obj.cells #[.iface 96 (.string ⟨#[100, 101, 102, 97, 117, 108, 116]⟩), .iface 97 (.agg #[.int .i64 k, .int .i64 a])] 134)) = Y at *
 refine HL1.out.mono ?_
 rintro e w4 ⟨rfl, b4⟩
 have W4 : Hid (Calls Tryz.prog 32 #[.pointer (some ⟨w1.heap.size, 0, none⟩), .string (bar (defT T k a))] w4 fun e w' => (∃ v, e = .returned v) /\ Lib.IsBuilder 90 5 w1.heap.size w1.heap.size (Lib.byteCells ([] ++ defT T k a)) w' /\ Below w1.heap.size w4 w') := ws_any _ [] _ w4 (isB_below I3.out b4) (by simp) (by have := HD.out; omega)
 have B4 : Hid (Below w1.heap.size w1 w4) := B3.out.trans (b4.mono B3.out.size)
 clear b4 I3 B3 HL1
 go_wp2_with fail
 refine W4.out.mono ?_
 rintro e w5 ⟨⟨v5, rfl⟩, i5, b5⟩
 have I5 : Hid (Lib.IsBuilder 90 5 w1.heap.size w1.heap.size (Lib.byteCells (textT T k a ((l.take 0).map Xr.r))) w5) := by
  show Lib.IsBuilder 90 5 w1.heap.size w1.heap.size (Lib.byteCells (textT T k a ((l.take 0).map Xr.r))) w5
  unfold textT
  simpa using i5
 have B5 : Hid (Below w1.heap.size w1 w5) := B4.out.trans b5
 have t2 : w5.cell? ⟨w.heap.size, 2, none⟩ = some (.slice p1 l.length c1) := (HK1.out.over B5.out).cell 2
 clear i5 b5 B4 W4
 have HB1 : Hid (w.heap.size <= w1.heap.size) := B1.out.size
 go_wp2_with fail
 generalize hbb : w1.heap.size = b at *
 have HBB : Hid (w1.heap.size = b) := hbb
 clear hbb
 go_loopw [20] (fun vi wr => ∃ i : Nat, vi = .int .i64 i /\ i <= l.length /\ Lib.IsBuilder 90 5 b b (Lib.byteCells (textT T k a ((l.take i).map Xr.r))) wr /\ Below b w1 wr /\ (textT T k a ((l.take i).map Xr.r)).length <= (i + 1) * 100000002) (fun vi _ => l.length - (intOf vi).toNat)
 case atStart => exact ⟨0, rfl, Nat.zero_le _, I5.out, B5.out, by unfold textT; simpa using HD.out⟩
 case round =>
  obtain ⟨i, rfl, hi, hI, hb, hlen⟩ := hrel
  have HI : Hid (Lib.IsBuilder 90 5 b b (Lib.byteCells (textT T k a ((l.take i).map Xr.r))) wr) := hI
  have HB : Hid (Below b w1 wr) := hb
  have HLN : Hid ((textT T k a ((l.take i).map Xr.r)).length <= (i + 1) * 100000002) := hlen
  have hbw : Below w1.heap.size w1 wr := by rw [HBB.out]; exact hb
  clear hI hlen
  by_cases hlt : i < l.length
  ·have hi1 : (i : Int) < (l.length : Int) := by omega
   obtain ⟨b1, o1, rfl, e1⟩ := rlR_at (S1.out.below hbw) hlt
   have hmem : l[i] ∈ l := List.getElem_mem hlt
   have hq := HQ.out _ hmem
   have hSx : StrR wr l[i].vn l[i].r.names /\ CdR wr l[i].vc l[i].r.conds := by obtain ⟨_, _, _, _, _, _, hr⟩ := S1.out.below hbw; exact hr _ hmem
   have HST : Hid (textT T k a ((l.take (i + 1)).map Xr.r) = textT T k a ((l.take i).map Xr.r) ++ lineT T (partsS l[i])) := textT_step hlt
   have HTw : Tb T wr := HT1.out.below hbw
   obtain ⟨p3, n3, c3, e3⟩ : ∃ p n c, l[i].vn = .slice p n c := by obtain ⟨p, c, e, _⟩ := hSx.1; exact ⟨p, _, c, e⟩
   obtain ⟨p4, n4, c4, e4⟩ : ∃ p n c, l[i].vc = .slice p n c := by obtain ⟨p, c, e, _⟩ := hSx.2; exact ⟨p, _, c, e⟩
   have b6 : Below wr.heap.size wr (wr.alloc (Obj.cells #[.int .i64 l[i].r.k, .int .i64 l[i].r.a, l[i].vn, l[i].vc] 87)) := (Below.refl _ _).alloc (Nat.le_refl _) _
   have HP : Hid (Calls Tryz.prog 34 #[.agg #[.int .i64 l[i].r.k, .int .i64 l[i].r.a, l[i].vn, l[i].vc]] (wr.alloc (Obj.cells #[.int .i64 l[i].r.k, .int .i64 l[i].r.a, l[i].vn, l[i].vc] 87)) fun e w' => ∃ v, e = .returned v /\ w'.ownsRow (wr.alloc (Obj.cells #[.int .i64 l[i].r.k, .int .i64 l[i].r.a, l[i].vn, l[i].vc] 87)).heap.size 134 1 v (partsS l[i]).length ((partsS l[i]).map Sh.val) /\ Below (wr.alloc (Obj.cells #[.int .i64 l[i].r.k, .int .i64 l[i].r.a, l[i].vn, l[i].vc] 87)).heap.size (wr.alloc (Obj.cells #[.int .i64 l[i].r.k, .int .i64 l[i].r.a, l[i].vn, l[i].vc] 87)) w') := parts_any _ l[i] (hSx.1.below b6) (hSx.2.below b6) (ruleB_out hq.1).2.2.1
   have HLn : Hid (∀ (W : World) (base : Nat) (v : Value), Below wr.heap.size wr W -> W.ownsRow base 134 1 v (partsS l[i]).length ((partsS l[i]).map Sh.val) -> Calls Tryz.prog 33 #[v] W fun e w' => e = .returned (.string (bar (lineT T (partsS l[i])))) /\ Below W.heap.size W w') := fun W base v hW ho => by
    have hok := parts_ok (W := W) hq.1 hq.2 (hSx.1.below hW)
    have hpl := parts_len hq.1
    exact line_any T W base v (partsS l[i]) ho (fun y hy => (hok y hy).1) (by omega) (by omega) (flat_join hok (by omega)) (HTw.below hW)
   have HLL : Hid ((lineT T (partsS l[i])).length <= 100000002) := lineT_len (flat_join (W := wr) (parts_ok hq.1 hq.2 hSx.1) (by have := parts_len hq.1; omega))
   have B6 : Hid (Below wr.heap.size wr (wr.alloc (Obj.cells #[.int .i64 l[i].r.k, .int .i64 l[i].r.a, l[i].vn, l[i].vc] 87))) := b6
   have HPL : Hid (2 <= (partsS l[i]).length) := (parts_len hq.1).1
   clear hmem hq hSx HTw b6 hb hbw
   generalize lineT T (partsS l[i]) = LT at *
   generalize partsS l[i] = PS at *
   generalize textT T k a ((l.take i).map Xr.r) = TX at *
   generalize l[i] = x at *
   obtain ⟨⟨xk, xa, ns, cs⟩, vn, vc⟩ := x
   obtain ⟨q0, q1, q2, q3⟩ := e1
   dsimp only at q0 q1 q2 q3 e3 e4 HP B6
   subst e3 e4
   go_wp2_with fail
   generalize (wr.alloc (Obj.cells #[.int .i64 xk, .int .i64 xa, .slice p3 n3 c3, .slice p4 n4 c4] 87)) = Z at *
   refine HP.out.mono ?_
   rintro e w6 ⟨v6, rfl, o6, b6⟩
   have B7 : Hid (Below wr.heap.size wr w6) := B6.out.trans (b6.mono B6.out.size)
   have L7 := HLn.out w6 _ _ B7.out o6
   have L8 : Hid (Calls Tryz.prog 33 #[v6] w6 fun e w' => e = .returned (.string (bar LT)) /\ Below w6.heap.size w6 w') := L7
   clear L7 o6 b6 HLn HP
   go_wp2_with fail
   refine L8.out.mono ?_
   rintro e w7 ⟨rfl, b7⟩
   have B8 : Hid (Below wr.heap.size wr w7) := B7.out.trans (b7.mono B7.out.size)
   have W8 : Hid (Calls Tryz.prog 32 #[.pointer (some ⟨b, 0, none⟩), .string (bar LT)] w7 fun e w' => (∃ v, e = .returned v) /\ Lib.IsBuilder 90 5 b b (Lib.byteCells (TX ++ LT)) w' /\ Below b w7 w') := ws_any b TX LT w7 (isB_below HI.out B8.out) (by have := HLN.out; have := HL.out; omega) (by have := HLL.out; omega)
   have HBb : Hid (b <= wr.heap.size) := Nat.le_of_lt (isB_lt HI.out)
   clear b7 B7 L8 B6
   go_wp2_with fail
   refine W8.out.mono ?_
   rintro e w8 ⟨⟨v8, rfl⟩, i8, b8⟩
   have B9 : Hid (Below b w1 w8) := HB.out.trans ((B8.out.mono HBb.out).trans b8)
   have I9 : Hid (Lib.IsBuilder 90 5 b b (Lib.byteCells (textT T k a ((l.take (i + 1)).map Xr.r))) w8) := by
    show Lib.IsBuilder 90 5 b b (Lib.byteCells (textT T k a ((l.take (i + 1)).map Xr.r))) w8
    rw [HST.out]
    exact i8
   clear i8 b8 W8
   go_wp2_with fail
   go_roundw
   case rel => exact ⟨i + 1, by go_num, hlt, I9.out, B9.out, by rw [HST.out, List.length_append]; have := HLN.out; have := HLL.out; omega⟩
   case measure => simp [intOf]; omega
  ·have hge : ¬ (i : Int) < (l.length : Int) := by omega
   have hfull : l.take i = l := List.take_of_length_le (by omega)
   rw [hfull, HRR.out] at HI
   have W9 : Hid (Calls Tryz.prog 35 #[.pointer (some ⟨b, 0, none⟩)] wr fun e w' => e = .returned (.string (bar R)) /\ Below b wr w') := Tryz.builder_str b b R wr HI.out (Nat.le_of_lt (isB_lt HI.out))
   clear hfull hb hbw
   go_wp2_with fail
   refine W9.out.mono ?_
   rintro e w9 ⟨rfl, b9⟩
   go_wp2_with fail
   go_ret2
   exact ⟨rfl, B1.out.trans ((HB.out.trans b9).mono HB1.out)⟩
end Go.Proofs.YtcckipimfgmmdaaGreatDoor.P
