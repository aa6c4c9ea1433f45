/-
  What is shown is parsed as it was: in plain words.
-/
import Derived.Test.YtcllgpbgikidjaaDoorQNum
import Derived.Test.YtcllgpbgikidjaaDoorPTop
namespace Go.Proofs.YtcllgpbgikidjaaDoor
open Go

/-- rules out of numbers and texts. -/
def toC (c : Xc) : Cd := ⟨c.arg.toNat, c.op.toNat, c.mask.toNat, c.val.toNat⟩
def toR (x : Xl) : Rl := ⟨⟨x.k.toNat, x.a.toNat⟩, x.names.map lst, x.conds.map toC⟩

def tW (t : List UInt8) : Tok := ⟨1, 0, t, 0⟩
def tN (n : Nat) : Tok := ⟨2, 0, Lib.decDigits n, n⟩
def tG (t : List UInt8) : Tok := ⟨3, 0, t, 0⟩

/-- texts with their tokens. -/
abbrev Pr := List UInt8 × List Tok
def actP (k a : Int) : List Pr := (wordS k.toNat, [tW (wordS k.toNat)]) :: (if hasN k then [(Lib.decDigits a.toNat, [tN a.toNat])] else [])
def namesP : List ByteArray → List Pr
  | [] => []
  | [s] => [(lst s, [tW (lst s)])]
  | s :: r => (comma s, [tW (lst s), tC]) :: namesP r
def argW (n : Nat) : List UInt8 := [97, 114, 103] ++ Lib.decDigits n
def condP (x : Xc) : List Pr := (argW x.arg.toNat, [tW (argW x.arg.toNat)]) :: ((if x.mask == 18446744073709551615 then [] else [([38], [tG [38]]), (Lib.decDigits x.mask.toNat, [tN x.mask.toNat])]) ++ [(signS x.op.toNat, [tG (signS x.op.toNat)]), (Lib.decDigits x.val.toNat, [tN x.val.toNat])])
def condsP (ahead : ByteArray) : List Xc → List Pr
  | [] => []
  | x :: r => (lst ahead, [tW (lst ahead)]) :: (condP x ++ condsP wAndB r)
def ruleP (x : Xl) : List Pr := actP x.k x.a ++ (namesP x.names ++ condsP wWhenB x.conds)

theorem actP_fst (T : List Int) (k a : Int) : (actP k a).map Prod.fst = actT T k a := by
  unfold actP actT
  split <;> rfl
theorem namesP_fst : ∀ (l : List ByteArray), (namesP l).map Prod.fst = namesT l := by
  intro l
  induction l with
  | nil => rfl
  | cons x l ih =>
    cases l with
    | nil => rfl
    | cons y l => show comma x :: (namesP (y :: l)).map Prod.fst = comma x :: namesT (y :: l); rw [ih]
theorem condP_fst (T : List Int) (x : Xc) : (condP x).map Prod.fst = condT T x := by
  unfold condP condT
  split <;> rfl
theorem condsP_fst (T : List Int) : ∀ (l : List Xc) (a : ByteArray), (condsP a l).map Prod.fst = flat T (condsS a l) := by
  intro l
  induction l with
  | nil => intro a; rfl
  | cons x l ih =>
    intro a
    show lst a :: ((condP x ++ condsP wAndB l).map Prod.fst) = [lst a] ++ (condT T x ++ flat T (condsS wAndB l))
    rw [List.map_append, condP_fst T, ih]
    rfl
theorem ruleP_fst (T : List Int) (x : Xl) : (ruleP x).map Prod.fst = actT T x.k x.a ++ (namesT x.names ++ flat T (condsS wWhenB x.conds)) := by
  unfold ruleP
  rw [List.map_append, List.map_append, actP_fst T, namesP_fst, condsP_fst T]

theorem lx_wordS {k : Int} (h1 : 1 ≤ k) (h8 : k ≤ 8) : Lx (wordS k.toNat) [tW (wordS k.toNat)] := by
  refine lx_isWd ?_
  rcases eight h1 h8 with rfl | rfl | rfl | rfl | rfl | rfl | rfl | rfl <;> decide

theorem actP_lx {k a : Int} (h : actB k a = true) : ∀ x ∈ actP k a, Lx x.1 x.2 := by
  obtain ⟨h1, h2, h3, h4⟩ := actB_out h
  intro x hx
  unfold actP at hx
  rcases List.mem_cons.1 hx with rfl | h5
  · exact lx_wordS h1 h2
  · split at h5
    · have : x = (Lib.decDigits a.toNat, [tN a.toNat]) := by simpa using h5
      subst this
      exact lx_num (by omega)
    · cases h5

theorem namesP_lx : ∀ (l : List ByteArray), (∀ s ∈ l, isWd (lst s) = true) → ∀ x ∈ namesP l, Lx x.1 x.2 := by
  intro l
  induction l with
  | nil => intro _ x hx; cases hx
  | cons y l ih =>
    intro h x hx
    have hy := lx_isWd (h y List.mem_cons_self)
    cases l with
    | nil =>
      have : x = (lst y, [tW (lst y)]) := by simpa [namesP] using hx
      subst this
      exact hy
    | cons z l =>
      have hx2 : x ∈ (comma y, [tW (lst y), tC]) :: namesP (z :: l) := hx
      rcases List.mem_cons.1 hx2 with rfl | h3
      · exact (hy.transU lx_comma (fin_44 _)).lx
      · exact ih (fun s hs => h s (List.mem_cons_of_mem _ hs)) x h3

theorem arg_six {n : Nat} (h : n < 6) : n = 0 ∨ n = 1 ∨ n = 2 ∨ n = 3 ∨ n = 4 ∨ n = 5 := by omega
theorem argW_all {n : Nat} (h : n < 6) : argW n = [97, 114, 103, UInt8.ofNat (48 + n)] := by
  unfold argW
  rw [Lib.decDigits_one (by omega)]
  rfl
theorem lx_argW {n : Nat} (h : n < 6) : Lx (argW n) [tW (argW n)] := by
  refine lx_isWd ?_
  rw [argW_all h]
  rcases arg_six h with rfl | rfl | rfl | rfl | rfl | rfl <;> decide
theorem lx_signS {o : Int} (h1 : 1 ≤ o) (h6 : o ≤ 6) : Lx (signS o.toNat) [tG (signS o.toNat)] := by
  refine lx_sign ?_
  rcases six h1 h6 with rfl | rfl | rfl | rfl | rfl | rfl <;> decide

theorem condB_out {c : Xc} (h : condB c = true) : 0 ≤ c.arg ∧ c.arg < 6 ∧ 1 ≤ c.op ∧ c.op ≤ 6 := by
  unfold condB at h
  simp only [Bool.and_eq_true, decide_eq_true_eq] at h
  exact ⟨h.1.1.1, h.1.1.2, h.1.2, h.2⟩

theorem condP_lx {c : Xc} (h : condB c = true) (hm : U64 c.mask) (hv : U64 c.val) : ∀ x ∈ condP c, Lx x.1 x.2 := by
  obtain ⟨h1, h2, h3, h4⟩ := condB_out h
  obtain ⟨m1, m2⟩ := hm
  obtain ⟨v1, v2⟩ := hv
  intro x hx
  unfold condP at hx
  rcases List.mem_cons.1 hx with rfl | h5
  · exact lx_argW (by omega)
  · rcases List.mem_append.1 h5 with h6 | h6
    · split at h6
      · cases h6
      · simp only [List.mem_cons, List.not_mem_nil, or_false] at h6
        rcases h6 with rfl | rfl
        · exact lx_sign (by decide)
        · exact lx_num (by omega)
    · simp only [List.mem_cons, List.not_mem_nil, or_false] at h6
      rcases h6 with rfl | rfl
      · exact lx_signS h3 h4
      · exact lx_num (by omega)

theorem condsP_lx : ∀ (l : List Xc) (a : ByteArray), isWd (lst a) = true → (∀ c ∈ l, condB c = true ∧ U64 c.mask ∧ U64 c.val) → ∀ x ∈ condsP a l, Lx x.1 x.2 := by
  intro l
  induction l with
  | nil => intro a _ _ x hx; cases hx
  | cons c l ih =>
    intro a ha h x hx
    have hx2 : x ∈ (lst a, [tW (lst a)]) :: (condP c ++ condsP wAndB l) := hx
    rcases List.mem_cons.1 hx2 with rfl | h3
    · exact lx_isWd ha
    · rcases List.mem_append.1 h3 with h4 | h4
      · obtain ⟨g1, g2, g3⟩ := h c List.mem_cons_self
        exact condP_lx g1 g2 g3 x h4
      · exact ih wAndB (by decide) (fun d hd => h d (List.mem_cons_of_mem _ hd)) x h4

/-- a rule that may be shown, its numbers of 64 bits. -/
structure Fit (x : Xl) : Prop where
  b : ruleB x = true
  c : ∀ c ∈ x.conds, U64 c.mask ∧ U64 c.val

theorem ruleP_lx {x : Xl} (h : Fit x) : ∀ y ∈ ruleP x, Lx y.1 y.2 := by
  obtain ⟨h1, h2, h3, h4, h5, h6⟩ := ruleB_out h.b
  intro y hy
  unfold ruleP at hy
  rcases List.mem_append.1 hy with g | g
  · exact actP_lx h4 y g
  · rcases List.mem_append.1 g with g | g
    · exact namesP_lx _ h5 y g
    · exact condsP_lx _ _ (by decide) (fun c hc => ⟨h6 c hc, h.c c hc⟩) y g

theorem rule_lx (T : List Int) {x : Xl} (h : Fit x) : LxU (ruleT T x) ((ruleP x).flatMap Prod.snd ++ [tS]) := by
  unfold ruleT
  rw [← ruleP_fst T]
  refine lx_line ?_ (ruleP_lx h)
  unfold ruleP actP
  simp

def defP (k a : Int) : List Pr := (lst wDefaultB, [tW (lst wDefaultB)]) :: actP k a

theorem def_lx (T : List Int) {k a : Int} (h : actB k a = true) : LxU (defT T k a) ((defP k a).flatMap Prod.snd ++ [tS]) := by
  have e : defT T k a = Lib.join ((defP k a).map Prod.fst) [32] ++ [59, 10] := by
    unfold defT lineT defP
    rw [List.map_cons, actP_fst T]
    show Lib.join ([lst wDefaultB] ++ (actT T k a ++ [])) [32] ++ [59, 10] = _
    rw [List.append_nil]
    rfl
  rw [e]
  refine lx_line (by unfold defP; simp) fun x hx => ?_
  unfold defP at hx
  rcases List.mem_cons.1 hx with rfl | h1
  · exact lx_isWd (by decide)
  · exact actP_lx h x h1

def toks (k a : Int) (l : List Xl) : List Tok := ((defP k a).flatMap Prod.snd ++ [tS]) ++ l.flatMap fun x => (ruleP x).flatMap Prod.snd ++ [tS]

theorem text_lx (T : List Int) {k a : Int} (h : actB k a = true) : ∀ (l : List Xl), (∀ x ∈ l, Fit x) → LxU (textT T k a l) (toks k a l) := by
  intro l hl
  unfold textT toks
  refine (def_lx T h).transU ?_
  induction l with
  | nil => intro p rest; exact ⟨[], rfl, by simp [glue_nil]⟩
  | cons x l ih =>
    rw [List.flatMap_cons, List.flatMap_cons]
    exact (rule_lx T (hl x List.mem_cons_self)).transU (ih fun y hy => hl y (List.mem_cons_of_mem _ hy))

/-! token by token -/

theorem runs_app {s s' : St} {b : List Tok} : ∀ (a : List Tok), runs s a = .ok s' → runs s (a ++ b) = runs s' b := by
  intro a
  induction a generalizing s with
  | nil => intro h; cases h; rfl
  | cons x a ih =>
    intro h
    unfold runs at h
    rw [List.cons_append]
    conv => lhs; unfold runs
    split at h
    · cases h
    · next h4 =>
      rw [if_neg h4]
      split at h
      · cases h
      · next sx hs =>
        exact ih h

theorem runs_cons {s s' : St} {x : Tok} {r : List Tok} (h4 : ¬ x.k = 4) (hs : step s x = .ok s') : runs s (x :: r) = runs s' r := by
  conv => lhs; unfold runs
  rw [if_neg h4, hs]

theorem kind_wordS {k : Int} (h1 : 1 ≤ k) (h8 : k ≤ 8) : kindOf (wordS k.toNat) = k.toNat ∧ numK k.toNat = hasN k := by
  rcases eight h1 h8 with rfl | rfl | rfl | rfl | rfl | rfl | rfl | rfl <;> decide

theorem isA_word {k : Int} (h1 : 1 ≤ k) (h8 : k ≤ 8) : isA (tW (wordS k.toNat)) = true := by
  unfold isA
  rw [show (tW (wordS k.toNat)).t = wordS k.toNat from rfl, (kind_wordS h1 h8).1]
  simp [tW]
  omega

theorem actB_arg {k a : Int} (h : actB k a = true) (hn : hasN k = false) : a = 0 := by
  unfold actB at h
  rw [hn] at h
  simp at h
  exact h.2

theorem runs_act1 {k a : Int} (h : actB k a = true) (r : List Tok) : runs .s1 ((actP k a).flatMap Prod.snd ++ r) = runs (.s3 ⟨k.toNat, a.toNat⟩) r := by
  obtain ⟨h1, h2, h3, h4⟩ := actB_out h
  obtain ⟨e1, e2⟩ := kind_wordS h1 h2
  have hA := isA_word h1 h2
  unfold actP
  rcases Bool.eq_false_or_eq_true (hasN k) with hn | hn
  · rw [hn, if_pos rfl]
    show runs .s1 (tW (wordS k.toNat) :: tN a.toNat :: r) = _
    have s1 : step .s1 (tW (wordS k.toNat)) = .ok (.s2 k.toNat) := by
      show (if isA (tW (wordS k.toNat)) then (if numK (kindOf (wordS k.toNat)) then Except.ok (St.s2 (kindOf (wordS k.toNat))) else .ok (.s3 ⟨kindOf (wordS k.toNat), 0⟩)) else .error 7) = _
      rw [if_pos hA, e1, e2, hn, if_pos rfl]
    have s2 : step (.s2 k.toNat) (tN a.toNat) = .ok (.s3 ⟨k.toNat, a.toNat⟩) := by
      show (if isN (tN a.toNat) then (if 65535 < a.toNat then Except.error 6 else .ok (St.s3 ⟨k.toNat, a.toNat⟩)) else .error 7) = _
      rw [if_pos (show isN (tN a.toNat) = true from rfl), if_neg (by omega)]
    rw [runs_cons (show ¬ (1 : Nat) = 4 by decide) s1, runs_cons (show ¬ (2 : Nat) = 4 by decide) s2]
  · rw [hn, if_neg (by decide)]
    obtain rfl := actB_arg h hn
    show runs .s1 (tW (wordS k.toNat) :: r) = _
    have s1 : step .s1 (tW (wordS k.toNat)) = .ok (.s3 ⟨k.toNat, 0⟩) := by
      show (if isA (tW (wordS k.toNat)) then (if numK (kindOf (wordS k.toNat)) then Except.ok (St.s2 (kindOf (wordS k.toNat))) else .ok (.s3 ⟨kindOf (wordS k.toNat), 0⟩)) else .error 7) = _
      rw [if_pos hA, e1, e2, hn, if_neg (by decide)]
    rw [runs_cons (show ¬ (1 : Nat) = 4 by decide) s1]
    rfl

theorem runs_act4 {d : Ac} {rs : List Rl} (hl : rs.length < 64) {k a : Int} (h : actB k a = true) (r : List Tok) : runs (.s4 d rs) ((actP k a).flatMap Prod.snd ++ r) = runs (.s6 d rs ⟨k.toNat, a.toNat⟩ []) r := by
  obtain ⟨h1, h2, h3, h4⟩ := actB_out h
  obtain ⟨e1, e2⟩ := kind_wordS h1 h2
  have hA := isA_word h1 h2
  unfold actP
  rcases Bool.eq_false_or_eq_true (hasN k) with hn | hn
  · rw [hn, if_pos rfl]
    show runs (.s4 d rs) (tW (wordS k.toNat) :: tN a.toNat :: r) = _
    have s1 : step (.s4 d rs) (tW (wordS k.toNat)) = .ok (.s5 d rs k.toNat) := by
      show (if isA (tW (wordS k.toNat)) then (if 64 ≤ rs.length then Except.error 4 else if numK (kindOf (wordS k.toNat)) then .ok (St.s5 d rs (kindOf (wordS k.toNat))) else .ok (.s6 d rs ⟨kindOf (wordS k.toNat), 0⟩ [])) else .error 7) = _
      rw [if_pos hA, if_neg (by omega), e1, e2, hn, if_pos rfl]
    have s2 : step (.s5 d rs k.toNat) (tN a.toNat) = .ok (.s6 d rs ⟨k.toNat, a.toNat⟩ []) := by
      show (if isN (tN a.toNat) then (if 65535 < a.toNat then Except.error 6 else .ok (St.s6 d rs ⟨k.toNat, a.toNat⟩ [])) else .error 7) = _
      rw [if_pos (show isN (tN a.toNat) = true from rfl), if_neg (by omega)]
    rw [runs_cons (show ¬ (1 : Nat) = 4 by decide) s1, runs_cons (show ¬ (2 : Nat) = 4 by decide) s2]
  · rw [hn, if_neg (by decide)]
    obtain rfl := actB_arg h hn
    show runs (.s4 d rs) (tW (wordS k.toNat) :: r) = _
    have s1 : step (.s4 d rs) (tW (wordS k.toNat)) = .ok (.s6 d rs ⟨k.toNat, 0⟩ []) := by
      show (if isA (tW (wordS k.toNat)) then (if 64 ≤ rs.length then Except.error 4 else if numK (kindOf (wordS k.toNat)) then .ok (St.s5 d rs (kindOf (wordS k.toNat))) else .ok (.s6 d rs ⟨kindOf (wordS k.toNat), 0⟩ [])) else .error 7) = _
      rw [if_pos hA, if_neg (by omega), e1, e2, hn, if_neg (by decide)]
    rw [runs_cons (show ¬ (1 : Nat) = 4 by decide) s1]
    rfl

theorem runs_names {d : Ac} {rs : List Rl} {a : Ac} : ∀ (l : List ByteArray) (ns : List (List UInt8)) (r : List Tok), ¬ l = [] → ns.length + l.length ≤ 16 → runs (.s6 d rs a ns) ((namesP l).flatMap Prod.snd ++ r) = runs (.s7 d rs a (ns ++ l.map lst)) r := by
  intro l
  induction l with
  | nil => intro ns r h; exact absurd rfl h
  | cons x l ih =>
    intro ns r _ hl
    rw [List.length_cons] at hl
    have s1 : step (.s6 d rs a ns) (tW (lst x)) = .ok (.s7 d rs a (ns ++ [lst x])) := by
      show (if (1 == 1 : Bool) then (if 16 ≤ ns.length then Except.error 4 else .ok (St.s7 d rs a (ns ++ [lst x]))) else .error 7) = _
      rw [if_pos (show (1 == 1 : Bool) = true from rfl), if_neg (by omega)]
    cases l with
    | nil =>
      show runs (.s6 d rs a ns) (tW (lst x) :: r) = _
      rw [runs_cons (show ¬ (1 : Nat) = 4 by decide) s1]
      rfl
    | cons y l =>
      have s2 : step (.s7 d rs a (ns ++ [lst x])) tC = .ok (.s6 d rs a (ns ++ [lst x])) := rfl
      show runs (.s6 d rs a ns) (tW (lst x) :: tC :: ((namesP (y :: l)).flatMap Prod.snd ++ r)) = _
      rw [runs_cons (show ¬ (1 : Nat) = 4 by decide) s1, runs_cons (show ¬ (3 : Nat) = 4 by decide) s2, ih (ns ++ [lst x]) r (by simp) (by simp at hl ⊢; omega)]
      simp

theorem arg_of {n : Nat} (h : n < 6) : argOf (argW n) = n + 1 := by
  rw [argW_all h]
  rcases arg_six h with rfl | rfl | rfl | rfl | rfl | rfl <;> decide
theorem op_of {o : Int} (h1 : 1 ≤ o) (h6 : o ≤ 6) : opOf (signS o.toNat) = o.toNat ∧ ¬ signS o.toNat = [38] := by
  rcases six h1 h6 with rfl | rfl | rfl | rfl | rfl | rfl <;> decide

theorem runs_cond {d : Ac} {rs : List Rl} {a : Ac} {ns : List (List UInt8)} {cs : List Cd} (hl : cs.length < 8) {c : Xc} (h : condB c = true) (hm : U64 c.mask) (r : List Tok) : runs (.s8 d rs a ns cs) ((condP c).flatMap Prod.snd ++ r) = runs (.s13 d rs a ns (cs ++ [toC c])) r := by
  obtain ⟨h1, h2, h3, h4⟩ := condB_out h
  obtain ⟨o1, o2⟩ := op_of h3 h4
  have g1 := arg_of (n := c.arg.toNat) (by omega)
  obtain ⟨m1, m2⟩ := hm
  have hG : isG (tW (argW c.arg.toNat)) = true := by
    unfold isG
    rw [show (tW (argW c.arg.toNat)).t = argW c.arg.toNat from rfl, g1]
    simp [tW]
  have hO : isO (tG (signS c.op.toNat)) = true := by
    unfold isO
    rw [show (tG (signS c.op.toNat)).t = signS c.op.toNat from rfl, o1]
    simp [tG]
    omega
  have hS : isS (tG (signS c.op.toNat)) [38] = false := by
    unfold isS
    rw [show (tG (signS c.op.toNat)).t = signS c.op.toNat from rfl]
    simp [o2]
  have s8 : step (.s8 d rs a ns cs) (tW (argW c.arg.toNat)) = .ok (.s9 d rs a ns cs c.arg.toNat) := by
    show (if isG (tW (argW c.arg.toNat)) then (if 8 ≤ cs.length then Except.error 4 else .ok (St.s9 d rs a ns cs (argOf (argW c.arg.toNat) - 1))) else .error 7) = _
    rw [if_pos hG, if_neg (by omega), g1]
    rfl
  have s12 : ∀ m, step (.s12 d rs a ns cs c.arg.toNat m c.op.toNat) (tN c.val.toNat) = .ok (.s13 d rs a ns (cs ++ [⟨c.arg.toNat, c.op.toNat, m, c.val.toNat⟩])) := fun m => rfl
  unfold condP
  rcases Bool.eq_false_or_eq_true (c.mask == 18446744073709551615) with hk | hk
  · rw [hk, if_pos rfl]
    have hmk : c.mask.toNat = 18446744073709551615 := by
      have : c.mask = 18446744073709551615 := by simpa using hk
      omega
    show runs (.s8 d rs a ns cs) (tW (argW c.arg.toNat) :: tG (signS c.op.toNat) :: tN c.val.toNat :: r) = _
    have s9 : step (.s9 d rs a ns cs c.arg.toNat) (tG (signS c.op.toNat)) = .ok (.s12 d rs a ns cs c.arg.toNat 18446744073709551615 c.op.toNat) := by
      show (if isS (tG (signS c.op.toNat)) [38] then Except.ok (St.s10 d rs a ns cs c.arg.toNat) else if isO (tG (signS c.op.toNat)) then .ok (.s12 d rs a ns cs c.arg.toNat 18446744073709551615 (opOf (signS c.op.toNat))) else .error 7) = _
      rw [hS, if_neg (by decide), if_pos hO, o1]
    rw [runs_cons (show ¬ (1 : Nat) = 4 by decide) s8, runs_cons (show ¬ (3 : Nat) = 4 by decide) s9, runs_cons (show ¬ (2 : Nat) = 4 by decide) (s12 _)]
    unfold toC
    rw [hmk]
  · rw [hk, if_neg (by decide)]
    show runs (.s8 d rs a ns cs) (tW (argW c.arg.toNat) :: tG [38] :: tN c.mask.toNat :: tG (signS c.op.toNat) :: tN c.val.toNat :: r) = _
    have s9 : step (.s9 d rs a ns cs c.arg.toNat) (tG [38]) = .ok (.s10 d rs a ns cs c.arg.toNat) := rfl
    have s10 : step (.s10 d rs a ns cs c.arg.toNat) (tN c.mask.toNat) = .ok (.s11 d rs a ns cs c.arg.toNat c.mask.toNat) := rfl
    have s11 : step (.s11 d rs a ns cs c.arg.toNat c.mask.toNat) (tG (signS c.op.toNat)) = .ok (.s12 d rs a ns cs c.arg.toNat c.mask.toNat c.op.toNat) := by
      show (if isO (tG (signS c.op.toNat)) then Except.ok (St.s12 d rs a ns cs c.arg.toNat c.mask.toNat (opOf (signS c.op.toNat))) else .error 7) = _
      rw [if_pos hO, o1]
    rw [runs_cons (show ¬ (1 : Nat) = 4 by decide) s8, runs_cons (show ¬ (3 : Nat) = 4 by decide) s9, runs_cons (show ¬ (2 : Nat) = 4 by decide) s10, runs_cons (show ¬ (3 : Nat) = 4 by decide) s11, runs_cons (show ¬ (2 : Nat) = 4 by decide) (s12 _)]
    rfl

theorem runs_more {d : Ac} {rs : List Rl} {a : Ac} {ns : List (List UInt8)} : ∀ (l : List Xc) (cs : List Cd), cs.length + l.length ≤ 8 → (∀ c ∈ l, condB c = true ∧ U64 c.mask ∧ U64 c.val) → runs (.s13 d rs a ns cs) ((condsP wAndB l).flatMap Prod.snd ++ [tS]) = .ok (.s4 d (rs ++ [⟨a, ns, cs ++ l.map toC⟩])) := by
  intro l
  induction l with
  | nil => intro cs _ _; rw [List.map_nil, List.append_nil]; rfl
  | cons c l ih =>
    intro cs hl h
    rw [List.length_cons] at hl
    obtain ⟨g1, g2, g3⟩ := h c List.mem_cons_self
    have s13 : step (.s13 d rs a ns cs) (tW (lst wAndB)) = .ok (.s8 d rs a ns cs) := rfl
    have e : (condsP wAndB (c :: l)).flatMap Prod.snd ++ [tS] = tW (lst wAndB) :: ((condP c).flatMap Prod.snd ++ ((condsP wAndB l).flatMap Prod.snd ++ [tS])) := by
      show (([tW (lst wAndB)] ++ (condP c ++ condsP wAndB l).flatMap Prod.snd) ++ [tS]) = _
      rw [List.flatMap_append]
      simp
    rw [e, runs_cons (show ¬ (1 : Nat) = 4 by decide) s13, runs_cond (by omega) g1 g2, ih (cs ++ [toC c]) (by simp; omega) (fun x hx => h x (List.mem_cons_of_mem _ hx))]
    simp

theorem runs_conds {d : Ac} {rs : List Rl} {a : Ac} {ns : List (List UInt8)} (l : List Xc) (hl : l.length ≤ 8) (h : ∀ c ∈ l, condB c = true ∧ U64 c.mask ∧ U64 c.val) : runs (.s7 d rs a ns) ((condsP wWhenB l).flatMap Prod.snd ++ [tS]) = .ok (.s4 d (rs ++ [⟨a, ns, l.map toC⟩])) := by
  cases l with
  | nil => rfl
  | cons c l =>
    rw [List.length_cons] at hl
    obtain ⟨g1, g2, g3⟩ := h c List.mem_cons_self
    have s7 : step (.s7 d rs a ns) (tW (lst wWhenB)) = .ok (.s8 d rs a ns []) := rfl
    have e : (condsP wWhenB (c :: l)).flatMap Prod.snd ++ [tS] = tW (lst wWhenB) :: ((condP c).flatMap Prod.snd ++ ((condsP wAndB l).flatMap Prod.snd ++ [tS])) := by
      show (([tW (lst wWhenB)] ++ (condP c ++ condsP wAndB l).flatMap Prod.snd) ++ [tS]) = _
      rw [List.flatMap_append]
      simp
    rw [e, runs_cons (show ¬ (1 : Nat) = 4 by decide) s7, runs_cond (by simp) g1 g2, runs_more l ([] ++ [toC c]) (by simp; omega) (fun x hx => h x (List.mem_cons_of_mem _ hx))]
    rfl

theorem runs_rule {d : Ac} {rs : List Rl} (hl : rs.length < 64) {x : Xl} (h : Fit x) : runs (.s4 d rs) ((ruleP x).flatMap Prod.snd ++ [tS]) = .ok (.s4 d (rs ++ [toR x])) := by
  obtain ⟨h1, h2, h3, h4, h5, h6⟩ := ruleB_out h.b
  have e : (ruleP x).flatMap Prod.snd ++ [tS] = (actP x.k x.a).flatMap Prod.snd ++ ((namesP x.names).flatMap Prod.snd ++ ((condsP wWhenB x.conds).flatMap Prod.snd ++ [tS])) := by
    unfold ruleP
    rw [List.flatMap_append, List.flatMap_append]
    simp
  rw [e, runs_act4 hl h4, runs_names x.names [] _ (by intro e; rw [e] at h1; simp at h1) (by simpa using h2), runs_conds x.conds h3 (fun c hc => ⟨h6 c hc, h.c c hc⟩)]
  rfl

theorem runs_rules {d : Ac} : ∀ (l : List Xl) (rs : List Rl), rs.length + l.length ≤ 64 → (∀ x ∈ l, Fit x) → runs (.s4 d rs) (l.flatMap fun x => (ruleP x).flatMap Prod.snd ++ [tS]) = .ok (.s4 d (rs ++ l.map toR)) := by
  intro l
  induction l with
  | nil => intro rs _ _; rw [List.map_nil, List.append_nil]; rfl
  | cons x l ih =>
    intro rs hl h
    rw [List.length_cons] at hl
    rw [List.flatMap_cons, runs_app _ (runs_rule (by omega) (h x List.mem_cons_self)), ih (rs ++ [toR x]) (by simp; omega) (fun y hy => h y (List.mem_cons_of_mem _ hy))]
    simp

theorem runs_toks {k a : Int} (h : actB k a = true) {l : List Xl} (hl : l.length ≤ 64) (hf : ∀ x ∈ l, Fit x) : runs .s0 (toks k a l) = .ok (.s4 ⟨k.toNat, a.toNat⟩ (l.map toR)) := by
  unfold toks
  have s0 : step .s0 (tW (lst wDefaultB)) = .ok .s1 := rfl
  have s3 : step (.s3 ⟨k.toNat, a.toNat⟩) tS = .ok (.s4 ⟨k.toNat, a.toNat⟩ []) := rfl
  have e : ((defP k a).flatMap Prod.snd ++ [tS]) ++ (l.flatMap fun x => (ruleP x).flatMap Prod.snd ++ [tS]) = tW (lst wDefaultB) :: ((actP k a).flatMap Prod.snd ++ (tS :: l.flatMap fun x => (ruleP x).flatMap Prod.snd ++ [tS])) := by
    unfold defP
    simp
  rw [e, runs_cons (show ¬ (1 : Nat) = 4 by decide) s0, runs_act1 h, runs_cons (show ¬ (3 : Nat) = 4 by decide) s3, runs_rules l [] (by simpa using hl) hf]
  rfl

/-- P11.2, in plain words: what is shown is parsed as it was. -/
theorem prs_text (T : List Int) {k a : Int} {l : List Xl} (h : rulesB k a l = true) (hc : ∀ x ∈ l, ∀ c ∈ x.conds, U64 c.mask ∧ U64 c.val) (hlen : (textT T k a l).length ≤ 8192) : prs (textT T k a l) = .ok (⟨k.toNat, a.toNat⟩, l.map toR) := by
  have h0 : actB k a = true ∧ l.length ≤ 64 ∧ ∀ x ∈ l, ruleB x = true := by
    unfold rulesB at h
    simp only [Bool.and_eq_true, decide_eq_true_eq, List.all_eq_true] at h
    exact ⟨h.1.1, h.1.2, h.2⟩
  have hf : ∀ x ∈ l, Fit x := fun x hx => ⟨h0.2.2 x hx, hc x hx⟩
  obtain ⟨A, hA, hg⟩ := text_lx T h0.1 l hf 0 []
  rw [List.append_nil] at hg
  have hgo : go 0 (0 + (textT T k a l).length) [] = .ok [⟨4, 0 + (textT T k a l).length, [], 0⟩] := rfl
  rw [hgo] at hg
  have hall : all (textT T k a l) = .ok (A ++ [⟨4, 0 + (textT T k a l).length, [], 0⟩]) := by
    unfold all
    rw [if_neg (by omega), hg]
    rfl
  unfold prs
  rw [hall]
  show run .s0 (A ++ [_]) = _
  refine run_alike (toks k a l ++ [⟨4, 0 + (textT T k a l).length, [], 0⟩]) _ (by simp [hA]) ?_
  rw [run_app _ _ (runs_toks h0.1 h0.2.1 hf), run_end rfl]
  rfl

/-- too long a text. -/
theorem prs_long {l : List UInt8} (h : ¬ l.length ≤ 8192) : prs l = .error (4, 8192) ∨ ∃ p, prs l = .error (4, p) := by
  unfold prs all
  rw [if_pos (by omega)]
  exact .inr ⟨_, rfl⟩

end Go.Proofs.YtcllgpbgikidjaaDoor
