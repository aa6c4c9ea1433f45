/-
  Tokens' texts with a note ahead of each; texts of many rules.
-/
import Derived.Test.YtcckipimfgmmdaaGreatDoorPPLex
import Derived.Test.YtcckipimfgmmdaaGreatDoorPPMath
namespace Go.Proofs.YtcckipimfgmmdaaGreatDoor.P
open Go

def spc : List UInt8 := [35, 32, 59, 10, 32]

/-- a note ahead of each token's text. -/
def wide (ts : List Tok) : List UInt8 := ts.flatMap fun x => spc ++ x.t

theorem wide_cons (x : Tok) (ts : List Tok) : wide (x :: ts) = spc ++ (x.t ++ wide ts) := by simp [wide]
theorem wide_snoc (ts : List Tok) (x : Tok) : wide (ts ++ [x]) = wide ts ++ (spc ++ x.t) := by simp [wide]

theorem go_spc (p : Nat) (r : List UInt8) : go 0 p (spc ++ r) = go 0 (p + 5) r := by
  show go 0 p (35 :: 32 :: 59 :: 10 :: 32 :: r) = _
  rw [go_note (by decide)]
  have h : ((35 :: 32 :: 59 :: 10 :: 32 :: r : List UInt8).takeWhile ofN).length = 3 := by
    rw [List.takeWhile_cons, if_pos (by decide), List.takeWhile_cons, if_pos (by decide), List.takeWhile_cons, if_pos (by decide), List.takeWhile_cons, if_neg (by decide)]
    rfl
  rw [h, go_over (by decide), go_over (by decide), go_over (by decide), go_blank (by decide), go_blank (by decide)]

theorem go_wide {l : List UInt8} {last : Nat} {ts : List Tok} (h : Ch l last ts) : ∀ p, ∃ us, go 0 p (wide ts) = .ok us ∧ us.map kv = ts.map kv := by
  induction h using Ch.ind with
  | fin h =>
    intro p
    refine ⟨[⟨4, p + 5, [], 0⟩], ?_, rfl⟩
    have : wide [⟨4, l.length, [], 0⟩] = spc ++ [] := by simp [wide]
    rw [this, go_spc]
    rfl
  | @tok last x y r h hx hr ih =>
    intro p
    obtain ⟨us, h1, h2⟩ := ih (p + 5 + x.t.length)
    refine ⟨⟨x.k, p + 5, x.t, x.n⟩ :: us, ?_, by simp [h2, kv]⟩
    obtain ⟨q, hq⟩ : ∃ q, wide (y :: r) = 35 :: q := ⟨_, by rw [wide_cons]; rfl⟩
    have ho := hx.st.2 35 q (by decide) (by decide)
    rw [wide_cons x, go_spc]
    have hne := hx.ne
    have hst := hx.st.1
    match ht : x.t, hne, hst with
    | c :: t', _, hst =>
      obtain ⟨g1, g2⟩ := hst c t' rfl
      rw [ht] at ho h1
      rw [hq] at h1 ⊢
      rw [go_tok g1 g2 ho, h1]
      rfl

/-- what ends a word or a sign. -/
def Fin' (r : List UInt8) : Prop := ∃ b q, r = b :: q ∧ ofW b = false ∧ ¬ b.toNat = 61

/-- bytes that are read as tokens, wherever they stand. -/
def Lx (B : List UInt8) (K : List Tok) : Prop := ∀ p rest, Fin' rest → ∃ A, A.map kv = K.map kv ∧ go 0 p (B ++ rest) = glue A (go 0 (p + B.length) rest)
/-- .. whatever stands behind. -/
def LxU (B : List UInt8) (K : List Tok) : Prop := ∀ p rest, ∃ A, A.map kv = K.map kv ∧ go 0 p (B ++ rest) = glue A (go 0 (p + B.length) rest)

theorem LxU.lx {B : List UInt8} {K : List Tok} (h : LxU B K) : Lx B K := fun p rest _ => h p rest

theorem lx_join {p : Nat} {B C rest : List UInt8} {A1 A2 : List Tok} (h1 : go 0 p (B ++ (C ++ rest)) = glue A1 (go 0 (p + B.length) (C ++ rest))) (h2 : go 0 (p + B.length) (C ++ rest) = glue A2 (go 0 (p + B.length + C.length) rest)) :
    go 0 p (B ++ C ++ rest) = glue (A1 ++ A2) (go 0 (p + (B ++ C).length) rest) := by
  rw [List.append_assoc, h1, h2, glue_glue, List.length_append, Nat.add_assoc]

theorem Fin'.app {C : List UInt8} (h : Fin' C) (rest : List UInt8) : Fin' (C ++ rest) := by
  obtain ⟨b, q, rfl, h1, h2⟩ := h
  exact ⟨b, q ++ rest, rfl, h1, h2⟩

theorem Lx.trans {B C : List UInt8} {K M : List Tok} (h1 : Lx B K) (h2 : Lx C M) (hC : Fin' C) : Lx (B ++ C) (K ++ M) := by
  intro p rest hr
  obtain ⟨A1, a1, g1⟩ := h1 p (C ++ rest) (hC.app rest)
  obtain ⟨A2, a2, g2⟩ := h2 (p + B.length) rest hr
  exact ⟨A1 ++ A2, by simp [a1, a2], lx_join g1 g2⟩
theorem Lx.transU {B C : List UInt8} {K M : List Tok} (h1 : Lx B K) (h2 : LxU C M) (hC : Fin' C) : LxU (B ++ C) (K ++ M) := by
  intro p rest
  obtain ⟨A1, a1, g1⟩ := h1 p (C ++ rest) (hC.app rest)
  obtain ⟨A2, a2, g2⟩ := h2 (p + B.length) rest
  exact ⟨A1 ++ A2, by simp [a1, a2], lx_join g1 g2⟩
theorem LxU.trans {B C : List UInt8} {K M : List Tok} (h1 : LxU B K) (h2 : Lx C M) : Lx (B ++ C) (K ++ M) := by
  intro p rest hr
  obtain ⟨A1, a1, g1⟩ := h1 p (C ++ rest)
  obtain ⟨A2, a2, g2⟩ := h2 (p + B.length) rest hr
  exact ⟨A1 ++ A2, by simp [a1, a2], lx_join g1 g2⟩
theorem LxU.transU {B C : List UInt8} {K M : List Tok} (h1 : LxU B K) (h2 : LxU C M) : LxU (B ++ C) (K ++ M) := by
  intro p rest
  obtain ⟨A1, a1, g1⟩ := h1 p (C ++ rest)
  obtain ⟨A2, a2, g2⟩ := h2 (p + B.length) rest
  exact ⟨A1 ++ A2, by simp [a1, a2], lx_join g1 g2⟩

theorem lx_blank : LxU [32] [] := by
  intro p rest
  exact ⟨[], rfl, by rw [List.cons_append, go_blank (by decide), glue_nil]; rfl⟩

/-- a word. -/
theorem lx_word {c : UInt8} {t : List UInt8} (hc : loN c.toNat = true) (ht : ∀ d ∈ c :: t, ofW d = true) : Lx (c :: t) [⟨1, 0, c :: t, 0⟩] := by
  intro p rest hr
  obtain ⟨b, q, rfl, h1, h2⟩ := hr
  have hw : blN c.toNat = false ∧ ¬ c.toNat = 35 := by
    unfold loN at hc
    unfold blN
    simp at hc ⊢
    omega
  refine ⟨[⟨1, p, c :: t, 0⟩], rfl, go_tok hw.1 hw.2 ?_⟩
  rw [List.cons_append, one_lo' hc, ← List.cons_append, while_cut _ _ _ _ ht h1]

/-- the number 1. -/
theorem lx_one : Lx [49] [⟨2, 0, [49], 1⟩] := by
  intro p rest hr
  obtain ⟨b, q, rfl, h1, h2⟩ := hr
  refine ⟨[⟨2, p, [49], 1⟩], rfl, go_tok (by decide) (by decide) ?_⟩
  rw [List.cons_append, one_dg' (by decide) (by decide), ← List.cons_append, while_cut _ _ _ _ (by decide) h1]
  rfl

theorem lx_comma : LxU [44] [⟨3, 0, [44], 0⟩] := by
  intro p rest
  refine ⟨[⟨3, p, [44], 0⟩], rfl, go_tok (by decide) (by decide) ?_⟩
  rw [List.cons_append, one_sg' (by decide) (by decide)]
  rfl
theorem lx_semi : LxU [59] [⟨3, 0, [59], 0⟩] := by
  intro p rest
  refine ⟨[⟨3, p, [59], 0⟩], rfl, go_tok (by decide) (by decide) ?_⟩
  rw [List.cons_append, one_sg' (by decide) (by decide)]
  rfl
/-- a sign and the number 1. -/
theorem lx_lt : Lx [60, 49] [⟨3, 0, [60], 0⟩, ⟨2, 0, [49], 1⟩] := by
  intro p rest hr
  obtain ⟨A, a, g⟩ := lx_one (p + 1) rest hr
  refine ⟨⟨3, p, [60], 0⟩ :: A, by simp [a, kv], ?_⟩
  show go 0 p (60 :: [] ++ ([49] ++ rest)) = _
  rw [go_tok (k := 3) (n := 0) (by decide) (by decide) (by
    rw [List.cons_append, one_sg' (by decide) (by decide)]
    rfl)]
  show glue _ (go 0 (p + 1) ([49] ++ rest)) = _
  rw [g, glue_glue]
  rfl

theorem fin_32 (r : List UInt8) : Fin' (32 :: r) := ⟨32, r, rfl, by decide, by decide⟩
theorem fin_44 (r : List UInt8) : Fin' (44 :: r) := ⟨44, r, rfl, by decide, by decide⟩
theorem fin_59 (r : List UInt8) : Fin' (59 :: r) := ⟨59, r, rfl, by decide, by decide⟩
theorem fin_60 (r : List UInt8) : Fin' (60 :: r) := ⟨60, r, rfl, by decide, by decide⟩

def tA : Tok := ⟨1, 0, [97], 0⟩
def tC : Tok := ⟨3, 0, [44], 0⟩
def tS : Tok := ⟨3, 0, [59], 0⟩
def tLog : Tok := ⟨1, 0, wLog, 0⟩
def tWhen : Tok := ⟨1, 0, wWhen, 0⟩
def tAnd : Tok := ⟨1, 0, wAnd, 0⟩
def tArg : List Tok := [⟨1, 0, [97, 114, 103, 48], 0⟩, ⟨3, 0, [60], 0⟩, ⟨2, 0, [49], 1⟩]

theorem lx_a : Lx [97] [tA] := lx_word (by decide) (by decide)
theorem lx_loga : Lx [108, 111, 103, 32, 97] [tLog, tA] := (lx_word (c := 108) (t := [111, 103]) (by decide) (by decide)).trans (lx_blank.trans lx_a) (fin_32 _)
theorem lx_ca : Lx [44, 97] [tC, tA] := lx_comma.trans lx_a
theorem lx_arg : Lx [97, 114, 103, 48, 60, 49] tArg := (lx_word (c := 97) (t := [114, 103, 48]) (by decide) (by decide)).trans lx_lt (fin_60 _)
theorem lx_when : Lx [32, 119, 104, 101, 110, 32, 97, 114, 103, 48, 60, 49] (tWhen :: tArg) := lx_blank.trans ((lx_word (c := 119) (t := [104, 101, 110]) (by decide) (by decide)).trans (lx_blank.trans lx_arg) (fin_32 _))
theorem lx_and : Lx [32, 97, 110, 100, 32, 97, 114, 103, 48, 60, 49] (tAnd :: tArg) := lx_blank.trans ((lx_word (c := 97) (t := [110, 100]) (by decide) (by decide)).trans (lx_blank.trans lx_arg) (fin_32 _))

end Go.Proofs.YtcckipimfgmmdaaGreatDoor.P
