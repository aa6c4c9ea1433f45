/-
  Bytes that are cloned; a byte slice in a row that is another one.
-/
import Derived.Test.YtljceoojbppaeaaRfMem
import Derived.Test.YtljceoojbppaeaaLate
namespace Go.Proofs.Ytljceoojbppaeaa
open Go.RowKit D

/-- what a clone is. -/
structure Cln (B : Nat) (w w' : World) (v : Value) (f : List Int) : Prop where
  pc : PcT B w' v f
  nw : New w.heap.size v
  bel : Below w.heap.size w w'
  own : w'.ownsRow w.heap.size 5 1 v f.length (cellsB f)
theorem run_clone (B : Nat) {w : World} {ao : Option Addr} {m c : Nat} {f : List Int} (ty : TypeId) (hb : Bs w ao m f) (h0 : 0 < m) (h1 : m ≤ 1024) :
    ∃ v' w', (Builtin.append_ #[37, 37] ty #[.slice (some ⟨w.heap.size, 0, none⟩) 0 0, .slice ao m c]).run Try.prog (w.alloc (.cells #[] 5)) = .ok v' w' ∧ Cln B w w' v' f := by
  obtain ⟨i0, hi, hz0, hz1, hz2⟩ := info_parts Try.info5
  obtain ⟨g, off, rfl, _⟩ := hb.2.2 h0
  have hA : Below w.heap.size w (w.alloc (.cells #[] 5)) := (Below.refl _ _).alloc (Nat.le_refl _) _
  have hb2 := hb.below hA
  have hown : (w.alloc (.cells #[] 5)).ownsRow w.heap.size 5 1 (.slice (some ⟨w.heap.size, 0, none⟩) 0 0) 0 (cellsB []) := by
    refine ⟨rfl, .inr ⟨w.heap.size, 0, #[], rfl, Nat.le_refl _, heap_alloc_new _ _, Nat.le_refl _, by decide, rfl, rfl⟩⟩
  obtain ⟨v', w', q0, q1, q2, _⟩ := run_append_own (P := Try.prog) (w.alloc (.cells #[] 5)) w.heap.size 37 ty 5 i0 _ 1 1 Try.underlying37 hi hz0 hz1 hz2 rfl (by decide) _ 0 (cellsB []) hown ⟨g, off, none⟩ m c (cellsB f)
    (by simp [cellsB, hb.1]) hb2.news (by intro u hu; simp [cellsB] at hu; obtain ⟨z, _, rfl⟩ := hu; rfl) (by unfold maxLen; omega) (by omega) hA.size
  have q3 : w'.ownsRow w.heap.size 5 1 v' f.length (cellsB f) := by
    have := q1
    rw [Nat.zero_add, ← hb.1] at this
    simpa [cellsB] using this
  refine ⟨v', w', q0, pcT_owns q3 hb.2.1, owns_block q3, ⟨q2.os.trans hA.os, q2.tape.trans hA.tape, q2.output.trans hA.output, Nat.le_trans hA.size q2.size, fun k hk => (q2.block k (Nat.lt_of_lt_of_le hk hA.size) fun e => ?_).trans (hA.block k hk)⟩, q3⟩
  simp [Value.ownBlock] at e
  omega
theorem step_clone (B : Nat) {w : World} {ops : Array Oper} {o : Oper} {a : Act} {K : Act → World → Prop} {Q : Exit → Act → World → Prop} {E : Prop} (hgd : o.guard = none) (s x : Operand)
    (ho : o.op = .call { callee := .builtin .append, args := #[s, x], argTypes := #[37, 37] })
    (W : World) (hW : W = w.alloc (.cells #[] 5)) (hs : a.eval s = .slice (some ⟨w.heap.size, 0, none⟩) 0 0)
    (ao : Option Addr) (m c : Nat) (f : List Int) (hx : a.eval x = .slice ao m c) (hb : Bs w ao m f) (h0 : 0 < m) (h1 : m ≤ 1024)
    (h : ∀ v' w', Cln B w w' v' f → K (a.put o.dst v') w') :
    if Region.wanted o (yielded ops a.tmps) = true then Oper.wp Try.prog o a W K Q else E := by
  subst hW
  rw [if_pos (by simp [Region.wanted, hgd])]
  obtain ⟨v', w', hr, h2⟩ := run_clone B o.type (c := c) hb h0 h1
  unfold Oper.wp execOp
  simp only [ho, resolve, invoke, builtin, Sem.run_bind, Sem.run_pure, Result.andThen_ok, List.map_toArray, List.map_cons, List.map_nil, hs, hx, hr]
  exact h _ _ h2
theorem clone_l (B : Nat) {w : World} {ops : Array Oper} {rest : List Oper} {o : Oper} {a : Act} {Q : Exit → Act → World → Prop} (hgd : o.guard = none) (s x : Operand)
    (ho : o.op = .call { callee := .builtin .append, args := #[s, x], argTypes := #[37, 37] })
    (W : World) (hW : W = w.alloc (.cells #[] 5)) (hs : a.eval s = .slice (some ⟨w.heap.size, 0, none⟩) 0 0)
    (ao : Option Addr) (m c : Nat) (f : List Int) (hx : a.eval x = .slice ao m c) (hb : Bs w ao m f) (h0 : 0 < m) (h1 : m ≤ 1024)
    (h : ∀ v' w', Cln B w w' v' f → wpList Try.prog ops Q rest (a.put o.dst v') w') : wpList Try.prog ops Q (o :: rest) a W := by
  subst hW
  refine wpList_plain hgd fun _ hK => ?_
  obtain ⟨v', w', hr, h2⟩ := run_clone B o.type (c := c) hb h0 h1
  unfold Oper.wp execOp
  simp only [ho, resolve, invoke, builtin, Sem.run_bind, Sem.run_pure, Result.andThen_ok, List.map_toArray, List.map_cons, List.map_nil, hs, hx, hr]
  exact hK _ _ (h _ _ h2)
/-- a row of which one slice is another one. -/
theorem RowS.set {B : Nat} {w : World} {p : Option Addr} {c n : Nat} {ls : List (List Int)} {u : Value} {f : List Int} (h : RowS B w (.slice p n c) ls) {i : Nat} (hi : i < ls.length) (hu : PcT B w u f) (g : Nat) (hp : p = some ⟨g, 0, none⟩) :
    ApW B w (w.setCell ⟨g, i, none⟩ u) (.slice p n c) (.slice p n c) (ls.set i f) := by
  have hbk := h.blk g (by rw [hp]; rfl)
  obtain ⟨hB, hlt, cs, hcs⟩ := hbk
  have hone : u.oneCell' = true := by obtain ⟨⟨a, c, rfl, _⟩, _⟩ := hu; rfl
  have hsk : Sk [37] B w (w.setCell ⟨g, i, none⟩ u) := by
    refine sk_kb (t := 37) (l := cs.toList) (kb_set w g i u) ?_ (by simp) hB
    unfold Blk
    rw [hcs]
  obtain ⟨vs, ho, hq⟩ := h
  have hvl : vs.length = ls.length := by have := ho.1; omega
  refine ⟨⟨vs.set i u, ⟨by rw [List.length_set, List.length_set]; exact ho.1, ?_⟩, fun j l e => ?_⟩, by simp [World.setCell], by simp [World.setCell], by simp [World.setCell], by simp, fun k hk hne => ?_, fun k e => .inl e⟩
  · rcases ho.2 with ⟨e, hn⟩ | ⟨g', cap, cur, e, hg, hh, r1, r2, r3, r4⟩
    · omega
    · cases hp
      cases e
      refine .inr ⟨g, c, cur.setIfInBounds i u, ?_, hB, ?_, by rw [List.length_set]; exact r1, r2, by simpa using r3, ?_⟩
      · rw [List.length_set]
      · exact heap_setCell_same w g i cur 37 u hh
      · rw [List.length_set]
        rw [Array.toList_setIfInBounds, List.take_set, r4]
  · rw [List.getElem?_set] at e
    by_cases hij : i = j
    · subst hij
      rw [if_pos rfl, if_pos hi] at e
      cases e
      exact ⟨u, by rw [List.getElem?_set_self (by omega)], hu.sk hsk (by simp)⟩
    · rw [if_neg hij] at e
      obtain ⟨x, h1, h2⟩ := hq j l e
      exact ⟨x, by rw [List.getElem?_set_ne hij]; exact h1, h2.sk hsk (by simp)⟩
  · refine heap_setCell_other w ⟨g, i, none⟩ k u fun e => hne ?_
    rw [hp]
    show some g = some k
    rw [e]

end Go.Proofs.Ytljceoojbppaeaa
