/-
  Rows of byte slices of a call's own; what stands while they are turned.
-/
import Derived.Test.YtljceoojbppaeaaLkOpen
import Derived.Maps.AppendAt
namespace Go.Proofs.Ytljceoojbppaeaa
open Go.RowKit D

/-- what lies below a bound stands, and so do all blocks but those of some types. -/
structure Sk (L : List Nat) (B : Nat) (w w' : World) : Prop where
  bel : Below B w w'
  tag : ∀ (k : Nat) (cs : Array Value) (t : TypeId) (fr : Nat × Nat), w.heap[k]? = some (.cells cs t fr) → t ∉ L → w'.heap[k]? = w.heap[k]?
theorem Sk.refl (L : List Nat) (B : Nat) (w : World) : Sk L B w w := ⟨Below.refl _ _, fun _ _ _ _ _ _ => rfl⟩
theorem Sk.trans {L : List Nat} {B : Nat} {u w w' : World} (h : Sk L B u w) (k : Sk L B w w') : Sk L B u w' :=
  ⟨h.bel.trans k.bel, fun i cs t fr hi ht => by
    have e := h.tag i cs t fr hi ht
    rw [k.tag i cs t fr (by rw [e]; exact hi) ht]
    exact e⟩
theorem Sk.mono {L M : List Nat} {B : Nat} {w w' : World} (h : Sk L B w w') (hL : ∀ t ∈ L, t ∈ M) : Sk M B w w' := ⟨h.bel, fun i cs t fr hi ht => h.tag i cs t fr hi fun e => ht (hL t e)⟩
theorem Sk.lower {L : List Nat} {B C : Nat} {w w' : World} (h : Sk L B w w') (hB : C ≤ B) : Sk L C w w' := ⟨h.bel.mono hB, h.tag⟩
theorem sk_below {L : List Nat} {B : Nat} {w w' : World} (h : Below w.heap.size w w') (hB : B ≤ w.heap.size) : Sk L B w w' := ⟨h.mono hB, fun k _ _ _ hk _ => h.block k (lt_of_block hk)⟩
theorem sk_kb {L : List Nat} {B b : Nat} {w w' : World} {t : TypeId} {l : List Value} (h : Kb b w w') (hb : Blk w b t l) (ht : t ∈ L) (hB : B ≤ b) : Sk L B w w' := by
  refine ⟨h.below (Nat.le_of_lt (Nat.lt_of_le_of_lt hB hb.lt)) hB, fun k cs t' fr hk ht' => h.block k (lt_of_block hk) fun e => ?_⟩
  subst e
  unfold Blk at hb
  rw [hb] at hk
  cases hk
  exact ht' ht
theorem Sk.blk {L : List Nat} {B k : Nat} {w w' : World} {t : TypeId} {l : List Value} (h : Sk L B w w') (hb : Blk w k t l) (ht : t ∉ L) : Blk w' k t l := by
  unfold Blk
  rw [h.tag k _ t _ hb ht]
  exact hb
theorem LkV.sk {L : List Nat} {B b : Nat} {w w' : World} {s : Lk} (h : LkV w b s) (hs : Sk L B w w') (ht : 30 ∉ L) : LkV w' b s := ⟨hs.blk h.blk ht, h.ok⟩
theorem Below.size' {B : Nat} {w w' : World} (h : Below B w w') : w.heap.size ≤ w'.heap.size := h.size

/-- bytes that stand while rows are turned: they lie below the bound, or in a block of bytes. -/
def PcT (B : Nat) (w : World) (u : Value) (l : List Int) : Prop := PcV w u l ∧ (0 < l.length → ∃ k, u.ownBlock = some k ∧ (k < B ∨ ∃ cs fr, w.heap[k]? = some (.cells cs 5 fr)))
theorem PcT.sk {L : List Nat} {B : Nat} {w w' : World} {u : Value} {l : List Int} (h : PcT B w u l) (hs : Sk L B w w') (ht : 5 ∉ L) : PcT B w' u l := by
  obtain ⟨⟨a, cap, rfl, h1, h2⟩, h3⟩ := h
  have hst : 0 < l.length → ∃ k, (Value.slice a l.length cap).ownBlock = some k ∧ (k < B ∨ ∃ cs fr, w'.heap[k]? = some (.cells cs 5 fr)) ∧ w'.heap[k]? = w.heap[k]? := fun h0 => by
    obtain ⟨k, hk, hor⟩ := h3 h0
    rcases hor with hlt | ⟨cs, fr, hc⟩
    · exact ⟨k, hk, .inl hlt, hs.bel.block k hlt⟩
    · have e := hs.tag k cs 5 fr hc ht
      exact ⟨k, hk, .inr ⟨cs, fr, by rw [e]; exact hc⟩, e⟩
  refine ⟨⟨a, cap, rfl, ⟨h1.1, h1.2.1, fun h0 => ?_⟩, h2⟩, fun h0 => by obtain ⟨k, q1, q2, _⟩ := hst h0; exact ⟨k, q1, q2⟩⟩
  obtain ⟨g, off, ha, hc⟩ := h1.2.2 h0
  obtain ⟨k, q1, _, q3⟩ := hst h0
  rw [ha] at q1
  cases q1
  refine ⟨g, off, ha, fun i hi => ?_⟩
  rw [World.cell?_of_block (a := ⟨g, off + i, none⟩) q3]
  exact hc i hi
theorem pcT_in {B : Nat} {w : World} {u : Value} {l : List Int} (h : PcV w u l) (hB : w.heap.size ≤ B) : PcT B w u l := by
  refine ⟨h, fun h0 => ?_⟩
  obtain ⟨a, cap, rfl, h1, _⟩ := h
  obtain ⟨g, off, rfl, hc⟩ := h1.2.2 h0
  exact ⟨g, rfl, .inl (Nat.lt_of_lt_of_le (World.block_lt_of_cell? w _ (hc 0 h0)) hB)⟩
theorem pcT_owns {B base : Nat} {w : World} {v : Value} {n : Nat} {l : List Int} (h : w.ownsRow base 5 1 v n (cellsB l)) (hl : Byt l) : PcT B w v l := by
  obtain ⟨a, cap, rfl, h1, _, h2⟩ := owns_bs h hl
  have hn : l.length = n := h1.1
  subst hn
  refine ⟨⟨a, cap, rfl, h1, h2⟩, fun h0 => ?_⟩
  rcases h.2 with ⟨e, h3⟩ | ⟨g, cap', cur, e, _, hg, _⟩
  · omega
  · exact ⟨g, by rw [e]; rfl, .inr ⟨cur, _, hg⟩⟩

/-- a row of byte slices of the call's own. -/
def RowS (B : Nat) (w : World) (v : Value) (ls : List (List Int)) : Prop := ∃ vs, w.ownsRow B 37 1 v ls.length vs ∧ ∀ (i : Nat) (l : List Int), ls[i]? = some l → ∃ u, vs[i]? = some u ∧ PcT B w u l
theorem rowS_nil (B : Nat) (w : World) : RowS B w (.slice none 0 0) [] := ⟨[], ⟨rfl, .inl ⟨rfl, rfl⟩⟩, fun i l e => by simp at e⟩
theorem RowS.sk {L : List Nat} {B : Nat} {w w' : World} {v : Value} {ls : List (List Int)} (h : RowS B w v ls) (hs : Sk L B w w') (h5 : 5 ∉ L) (hv : ∀ k, v.ownBlock = some k → w'.heap[k]? = w.heap[k]?) : RowS B w' v ls := by
  obtain ⟨vs, ho, hp⟩ := h
  refine ⟨vs, ⟨ho.1, ?_⟩, fun i l e => ?_⟩
  · rcases ho.2 with hn | ⟨g, cap, cur, e, hg, hh, r⟩
    · exact .inl hn
    · exact .inr ⟨g, cap, cur, e, hg, by rw [hv g (by rw [e]; rfl)]; exact hh, r⟩
  · obtain ⟨u, h1, h2⟩ := hp i l e
    exact ⟨u, h1, h2.sk hs h5⟩
theorem RowS.blk {B : Nat} {w : World} {v : Value} {ls : List (List Int)} (h : RowS B w v ls) : ∀ k, v.ownBlock = some k → B ≤ k ∧ k < w.heap.size ∧ ∃ cs, w.heap[k]? = some (.cells cs 37 (0, 0)) := by
  obtain ⟨vs, ho, _⟩ := h
  intro k hk
  rcases ho.2 with ⟨rfl, _⟩ | ⟨g, cap, cur, rfl, hg, hh, r⟩
  · cases hk
  · cases hk
    exact ⟨hg, lt_of_block hh, cur, hh⟩
theorem RowS.sk7 {L : List Nat} {B : Nat} {w w' : World} {v : Value} {ls : List (List Int)} (h : RowS B w v ls) (hs : Sk L B w w') (h5 : 5 ∉ L) (h37 : 37 ∉ L) : RowS B w' v ls := h.sk hs h5 fun k e => by
  obtain ⟨_, _, cs, hc⟩ := h.blk k e
  exact hs.tag k cs 37 _ hc h37
theorem RowS.slice {B : Nat} {w : World} {v : Value} {ls : List (List Int)} (h : RowS B w v ls) : ∃ p c, v = .slice p ls.length c ∧ (p = none → c = 0) := by
  obtain ⟨vs, ho, _⟩ := h
  rcases ho.2 with ⟨rfl, hn⟩ | ⟨g, cap, cur, rfl, _⟩
  · exact ⟨none, 0, by rw [hn], fun _ => rfl⟩
  · exact ⟨_, cap, rfl, fun e => by cases e⟩
theorem RowS.at {B : Nat} {w : World} {p : Option Addr} {n c i : Nat} {ls : List (List Int)} (h : RowS B w (.slice p n c) ls) (hi : i < ls.length) : ∃ g a' c', p = some ⟨g, 0, none⟩ ∧ w.cell? ⟨g, i, none⟩ = some (.slice a' ls[i].length c') ∧ PcT B w (.slice a' ls[i].length c') ls[i] ∧ w.frozen? ⟨g, i, none⟩ = false ∧ Bs w a' ls[i].length ls[i] ∧ (a' = none → c' = 0) := by
  obtain ⟨vs, ho, hp⟩ := h
  obtain ⟨u, h1, h2⟩ := hp i _ (List.getElem?_eq_getElem hi)
  rcases id ho.2 with ⟨_, hn⟩ | ⟨g, cap, cur, e, _, hh, _⟩
  · omega
  · cases e
    obtain ⟨⟨a', c', rfl, h4, h5⟩, h6⟩ := h2
    have := ho.cells (g := g) rfl i _ h1
    rw [Addr.add_lit, Nat.zero_add] at this
    exact ⟨g, a', c', rfl, this, ⟨⟨a', c', rfl, h4, h5⟩, h6⟩, by simp [World.frozen?, hh], h4, h5⟩

theorem Try.info37 : (Try.prog.info? 37).map (fun i => (i.zero, i.size, i.bytes)) = some (some (.slice none 0 0), 1, 24) := by kernel_rfl
/-- what an append tells. -/
structure ApT (B : Nat) (w w' : World) (v v' : Value) (ls : List (List Int)) : Prop where
  row : RowS B w' v' ls
  os : w'.os = w.os
  tape : w'.tape = w.tape
  output : w'.output = w.output
  size : w.heap.size ≤ w'.heap.size
  block : ∀ k, k < w.heap.size → v.ownBlock ≠ some k → w'.heap[k]? = w.heap[k]?
  own : v'.ownBlock = v.ownBlock ∨ ∃ g, v'.ownBlock = some g ∧ w.heap.size ≤ g
theorem PcT.over {B : Nat} {w w' : World} {u : Value} {l : List Int} (h : PcT B w u l) (hB : B ≤ w.heap.size) (hb : Below w.heap.size w w') : PcT B w' u l := h.sk (L := []) (sk_below hb hB) (by simp)
theorem RowS.over {B : Nat} {w w' : World} {v : Value} {ls : List (List Int)} (h : RowS B w v ls) (hB : B ≤ w.heap.size) (hb : Below w.heap.size w w') : RowS B w' v ls := h.sk7 (L := []) (sk_below hb hB) (by simp) (by simp)
theorem run_app1 {B : Nat} {w : World} {v x : Value} {ls : List (List Int)} {l : List Int} (ty : TypeId) (h : RowS B w v ls) (hx : PcT B w x l) (hn : ls.length < 1000) (hB : B ≤ w.heap.size) :
    ∃ v' w', (Builtin.append_ #[32, 32] ty #[v, .slice (some ⟨w.heap.size, 0, none⟩) 1 1]).run Try.prog (w.alloc (.cells #[x] 37)) = .ok v' w' ∧ ApT B w w' v v' (ls ++ [l]) := by
  obtain ⟨i0, hi, hz0, hz1, hz2⟩ := info_parts Try.info37
  have hb : Below w.heap.size w (w.alloc (.cells #[x] 37)) := (Below.refl _ _).alloc (Nat.le_refl _) _
  obtain ⟨vs, ho, hp⟩ := h.over hB hb
  have hone : x.oneCell' = true := by obtain ⟨⟨a, c, rfl, _⟩, _⟩ := hx; rfl
  obtain ⟨v', w', q0, q1, q2, _, q4⟩ := run_append_own_at (P := Try.prog) (w.alloc (.cells #[x] 37)) B 32 ty 37 i0 _ 1 24 Try.underlying32 hi hz0 hz1 hz2 rfl (by decide) v ls.length vs ho ⟨w.heap.size, 0, none⟩ 1 1 [x] rfl
    (fun j u hu => by
      match j, hu with
      | 0, hu => cases hu; rw [Addr.add_lit, World.cell?_alloc_mark]; rfl)
    (fun u hu => by rw [List.mem_singleton] at hu; rw [hu]; exact hone) (by unfold maxLen; omega) (by omega) (Nat.le_trans hB hb.size)
  have hvl : vs.length = ls.length := by have := ho.1; omega
  have hsz : (w.alloc (.cells #[x] 37)).heap.size = w.heap.size + 1 := size_alloc' _ _
  have hown : ∀ k, v.ownBlock = some k → ∃ cs, (w.alloc (.cells #[x] 37)).heap[k]? = some (.cells cs 37 (0, 0)) ∧ B ≤ k := fun k e => by
    obtain ⟨h1, _, cs, h2⟩ := (h.over hB hb).blk k e
    exact ⟨cs, h2, h1⟩
  have hsk : Sk [37] B (w.alloc (.cells #[x] 37)) w' := by
    refine ⟨⟨q2.os, q2.tape, q2.output, q2.size, fun k hk => q2.block k (by omega) fun e => ?_⟩, fun k cs t fr hk ht => q2.block k (lt_of_block hk) fun e => ?_⟩
    · obtain ⟨_, _, h1⟩ := hown k e.symm
      omega
    · obtain ⟨cs', h1, _⟩ := hown k e.symm
      rw [h1] at hk
      cases hk
      simp at ht
  refine ⟨v', w', q0, ⟨⟨vs ++ [x], by rw [List.length_append, List.length_singleton]; exact q1, fun i m e => ?_⟩, q2.os.trans hb.os, q2.tape.trans hb.tape, q2.output.trans hb.output, Nat.le_trans hb.size q2.size, fun k hk hne => (q2.block k (by omega) fun e => hne e.symm).trans (hb.block k hk), ?_⟩⟩
  · rcases Nat.lt_or_ge i ls.length with h1 | h1
    · rw [List.getElem?_append_left h1] at e
      obtain ⟨u, h2, h3⟩ := hp i m e
      exact ⟨u, by rw [List.getElem?_append_left (by omega)]; exact h2, h3.sk hsk (by simp)⟩
    · rw [List.getElem?_append_right h1] at e
      have hi0 : i - ls.length = 0 := by
        have := (List.getElem?_eq_some_iff.1 e).1
        simpa using this
      rw [hi0] at e
      cases e
      exact ⟨x, by rw [List.getElem?_append_right (by omega), hvl, hi0]; rfl, (hx.over hB hb).sk hsk (by simp)⟩
  · rcases q4 with e | e
    · exact .inl e
    · exact .inr ⟨_, e, by rw [hsz]; omega⟩
section
variable {B : Nat} {w w' : World} {v v' : Value} {ls ls' : List (List Int)}
theorem ApT.sk (h : ApT B w w' v v' ls') (hv : RowS B w v ls) (hB : B ≤ w.heap.size) : Sk [37] B w w' := by
  refine ⟨⟨h.os, h.tape, h.output, h.size, fun k hk => h.block k (by omega) fun e => ?_⟩, fun k cs t fr hk ht => h.block k (lt_of_block hk) fun e => ?_⟩
  · have := (hv.blk k e).1
    omega
  · obtain ⟨_, _, cs', h1⟩ := hv.blk k e
    rw [h1] at hk
    cases hk
    simp at ht
end
theorem app_row1 {B : Nat} {w : World} {ops : Array Oper} {rest : List Oper} {o : Oper} {a : Act} {Q : Exit → Act → World → Prop} (hgd : o.guard = none) (s x : Operand)
    (ho : o.op = .call { callee := .builtin .append, args := #[s, x], argTypes := #[32, 32] })
    (v : Value) (ls : List (List Int)) (hs : a.eval s = v) (h : RowS B w v ls) (u : Value) (l : List Int) (hu : PcT B w u l) (W : World) (hW : W = w.alloc (.cells #[u] 37)) (hx : a.eval x = .slice (some ⟨w.heap.size, 0, none⟩) 1 1) (hn : ls.length < 1000) (hB : B ≤ w.heap.size)
    (hk : ∀ v' w', ApT B w w' v v' (ls ++ [l]) → wpList Try.prog ops Q rest (a.put o.dst v') w') : wpList Try.prog ops Q (o :: rest) a W := by
  subst hW
  refine wpList_plain hgd fun _ hK => ?_
  obtain ⟨v', w', hr, h2⟩ := run_app1 o.type h hu hn hB
  unfold Oper.wp execOp
  simp only [ho, resolve, invoke, builtin, Sem.run_bind, Sem.run_pure, Result.andThen_ok, List.map_toArray, List.map_cons, List.map_nil, hs, hx, hr]
  exact hK _ _ (hk v' w' h2)
theorem step_row1 {B : Nat} {w : World} {ops : Array Oper} {o : Oper} {a : Act} {K : Act → World → Prop} {Q : Exit → Act → World → Prop} {E : Prop} (hgd : o.guard = none) (s x : Operand)
    (ho : o.op = .call { callee := .builtin .append, args := #[s, x], argTypes := #[32, 32] })
    (v : Value) (ls : List (List Int)) (hs : a.eval s = v) (h : RowS B w v ls) (u : Value) (l : List Int) (hu : PcT B w u l) (W : World) (hW : W = w.alloc (.cells #[u] 37)) (hx : a.eval x = .slice (some ⟨w.heap.size, 0, none⟩) 1 1) (hn : ls.length < 1000) (hB : B ≤ w.heap.size)
    (hk : ∀ v' w', ApT B w w' v v' (ls ++ [l]) → K (a.put o.dst v') w') :
    if Region.wanted o (yielded ops a.tmps) = true then Oper.wp Try.prog o a W K Q else E := by
  subst hW
  rw [if_pos (by simp [Region.wanted, hgd])]
  obtain ⟨v', w', hr, h2⟩ := run_app1 o.type h hu hn hB
  unfold Oper.wp execOp
  simp only [ho, resolve, invoke, builtin, Sem.run_bind, Sem.run_pure, Result.andThen_ok, List.map_toArray, List.map_cons, List.map_nil, hs, hx, hr]
  exact hk v' w' h2

end Go.Proofs.Ytljceoojbppaeaa
