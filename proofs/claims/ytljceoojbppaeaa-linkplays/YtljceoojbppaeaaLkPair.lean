/-
  Two rows of byte slices in a box of two cells.
-/
import Derived.Test.YtljceoojbppaeaaLkRows
namespace Go.Proofs.Ytljceoojbppaeaa
open Go.RowKit D

def ix (up : Bool) : Nat := if up then 0 else 1
/-- two rows, apart. -/
structure Prs (B : Nat) (w : World) (v u : Value) (s : Lk) : Prop where
  r0 : RowS B w v s.u
  r1 : RowS B w u s.d
  ap : ∀ k, v.ownBlock = some k → u.ownBlock ≠ some k
/-- a box of them. -/
def RfV (t : TypeId) (B : Nat) (w : World) (c : Nat) (s : Lk) : Prop := B ≤ c ∧ ∃ v u, Blk w c t [v, u] ∧ Prs B w v u s
theorem sk_set {L : List Nat} {B c i : Nat} {w : World} {t : TypeId} {l : List Value} {v : Value} (hb : Blk w c t l) (ht : t ∈ L) (hB : B ≤ c) : Sk L B w (w.setCell ⟨c, i, none⟩ v) := sk_kb (kb_set w c i v) hb ht hB
theorem RfV.sk {t : TypeId} {L : List Nat} {B c : Nat} {w w' : World} {s : Lk} (h : RfV t B w c s) (hs : Sk L B w w') (h5 : 5 ∉ L) (h37 : 37 ∉ L) (ht : t ∉ L) : RfV t B w' c s := by
  obtain ⟨hB, v, u, hb, hp⟩ := h
  exact ⟨hB, v, u, hs.blk hb ht, hp.r0.sk7 hs h5 h37, hp.r1.sk7 hs h5 h37, hp.ap⟩
theorem RfV.over {t : TypeId} {B c : Nat} {w w' : World} {s : Lk} (h : RfV t B w c s) (hB : B ≤ w.heap.size) (hb : Below w.heap.size w w') : RfV t B w' c s := h.sk (L := []) (sk_below hb hB) (by simp) (by simp) (by simp)
theorem rf_new (t : TypeId) (B : Nat) (w : World) (hB : B ≤ w.heap.size) : RfV t B (w.alloc (.cells #[.slice none 0 0, .slice none 0 0] t)) w.heap.size lk0 :=
  ⟨hB, _, _, blk_new w _ _, rowS_nil _ _, rowS_nil _ _, fun k e => by cases e⟩
/-- one of them, and another one in its place. -/
theorem RfV.sel {t : TypeId} {B c : Nat} {w : World} {s : Lk} (h : RfV t B w c s) (hB : B ≤ w.heap.size) (h5 : t ≠ 5) (h37 : t ≠ 37) (up : Bool) : ∃ v, w.cell? ⟨c, ix up, none⟩ = some v ∧ RowS B w v (s.sel up) ∧
    ∀ (w1 : World) (v' : Value) (l : List (List Int)), ApT B w w1 v v' l → w1.cell? ⟨c, ix up, none⟩ = some v ∧ w1.frozen? ⟨c, ix up, none⟩ = false ∧ RfV t B (w1.setCell ⟨c, ix up, none⟩ v') c (s.put up l) ∧ Sk [37, t] B w (w1.setCell ⟨c, ix up, none⟩ v') := by
  obtain ⟨hBc, v, u, hb, hp⟩ := h
  have n5 : 5 ∉ [t] := by simp; exact Ne.symm h5
  have n37 : 37 ∉ [t] := by simp; exact Ne.symm h37
  have nt : t ∉ [37] := by simp; exact h37
  cases up with
  | true =>
    refine ⟨v, hb.cell 0, hp.r0, fun w1 v' l ha => ?_⟩
    have hs := ha.sk hp.r0 hB
    have hb1 := hs.blk hb nt
    have hs2 : Sk [t] B w1 (w1.setCell ⟨c, 0, none⟩ v') := sk_set hb1 (by simp) hBc
    have h1 : RowS B w1 u s.d := hp.r1.sk hs (by simp) fun k e => ha.block k (hp.r1.blk k e).2.1 fun e2 => hp.ap k e2 e
    refine ⟨hb1.cell 0, hb1.f 0, ⟨hBc, v', u, hb1.set 0 v', ha.row.sk7 hs2 n5 n37, h1.sk7 hs2 n5 n37, fun k e1 e2 => ?_⟩, (hs.mono (by simp)).trans (hs2.mono (by simp))⟩
    rcases ha.own with e | ⟨g, e, hg⟩
    · exact hp.ap k (by rw [← e]; exact e1) e2
    · rw [e] at e1
      cases e1
      exact absurd (hp.r1.blk _ e2).2.1 (Nat.not_lt.2 hg)
  | false =>
    refine ⟨u, hb.cell 1, hp.r1, fun w1 v' l ha => ?_⟩
    have hs := ha.sk hp.r1 hB
    have hb1 := hs.blk hb nt
    have hs2 : Sk [t] B w1 (w1.setCell ⟨c, 1, none⟩ v') := sk_set hb1 (by simp) hBc
    have h1 : RowS B w1 v s.u := hp.r0.sk hs (by simp) fun k e => ha.block k (hp.r0.blk k e).2.1 fun e2 => hp.ap k e e2
    refine ⟨hb1.cell 1, hb1.f 1, ⟨hBc, v, v', hb1.set 1 v', h1.sk7 hs2 n5 n37, ha.row.sk7 hs2 n5 n37, fun k e1 e2 => ?_⟩, (hs.mono (by simp)).trans (hs2.mono (by simp))⟩
    rcases ha.own with e | ⟨g, e, hg⟩
    · exact hp.ap k e1 (by rw [← e]; exact e2)
    · rw [e] at e2
      cases e2
      exact absurd (hp.r0.blk _ e1).2.1 (Nat.not_lt.2 hg)
/-- the first one, by its number. -/
theorem RfV.cells {t : TypeId} {B c : Nat} {w : World} {s : Lk} (h : RfV t B w c s) : ∃ v u, w.cell? ⟨c, 0, none⟩ = some v ∧ w.cell? ⟨c, 1, none⟩ = some u ∧ RowS B w v s.u ∧ RowS B w u s.d := by
  obtain ⟨_, v, u, hb, hp⟩ := h
  exact ⟨v, u, hb.cell 0, hb.cell 1, hp.r0, hp.r1⟩

end Go.Proofs.Ytljceoojbppaeaa
