/-
  Two readers, and a row of bodies apart from both; calls as arguments.
-/
import Derived.Test.YtfjipaalelkpjaaFrCounts
import Derived.Deep.Grids
import Derived.Laws.AppendOwnNone
namespace Go.Proofs.Ytfjipaalelkpjaa
open Go.RowKit Go.Deep D

/-- truths that a slice leads to. -/
def BoR (w : World) (v : Value) (bs : List Bool) : Prop := ∃ a cap, v = .slice a bs.length cap ∧ ∀ i, i < bs.length → ∃ b o, a = some ⟨b, o, none⟩ ∧ w.cell? ⟨b, o + i, none⟩ = some (.bool (bs.getD i false))
theorem open_truths {H : Type} {enc : TypeId × Value → H} {w : World} {base : Nat} {held : Bool} {n : Nat} {x : DataW H × List MemPlace} {v : Value} (h : DataW.trod enc Try.prog w base (fun _ => true) held n 43 [v] = some x) : ∃ bs, BoR w v bs := by
  rcases open_bools Try.underlying43 Try.underlying4 (by kernel_rfl) h with ⟨hcs, _⟩ | ⟨a, len, cap, B, hcs, _, hl, hm, _, hcell⟩
  · simp at hcs
    subst hcs
    exact ⟨[], none, 0, rfl, fun i hi => absurd hi (Nat.not_lt_zero _)⟩
  · simp at hcs
    subst hcs
    refine ⟨(List.range len).map B, some a, cap, by simp, fun i hi => ?_⟩
    have hi' : i < len := by simpa using hi
    obtain ⟨b, off, spot⟩ := a
    have h0 := hcell 0 (by omega)
    have hspot : spot = none := by simpa [Addr.add] using World.cell?_spot h0
    subst hspot
    refine ⟨b, off, rfl, ?_⟩
    have := hcell i (by omega)
    rw [Addr.add_mid] at this
    rw [this]
    simp [hi']
theorem Rw.turned {X X' Y : Nat → Prop} {o : Value} {w w' : World} {ds : List (List Int)} {vs : List Value} (h : Rw X w o ds vs) (hk : Kp Y w w') (hY : ∀ k, k < w.heap.size → Y k → X k) (hX : ∀ k, X' k → X k ∨ w.heap.size ≤ k) : Rw X' w' o ds vs := by
  have h1 : Rw (fun k => X k ∨ w.heap.size ≤ k) w o ds vs := h.mono fun k hk e => e.elim id fun e => absurd hk (Nat.not_lt.2 e)
  exact (h1.kp hk fun k hk e => .inl (hY k hk e)).mono fun k _ e => hX k e
/-- the blocks of both readers. -/
def XX (b : Nat) (v : Value) (c : Nat) (u : Value) (k : Nat) : Prop := (k = b ∨ v.ownBlock = some k) ∨ (k = c ∨ u.ownBlock = some k)
/-- both readers, and what was found in the first so far. -/
structure Pc (w wr : World) (b c : Nat) (v u o : Value) (ds : List (List Int)) (vs : List Value) (l1 : List Int) (n1 : Nat) (l2 : List Int) (n2 : Nat) : Prop where
  f1 : Fd w.heap.size w wr b v l1 n1
  f2 : Fd w.heap.size w wr c u l2 n2
  bc : b ≠ c
  vc : v.ownBlock ≠ some c
  ub : u.ownBlock ≠ some b
  vu : ∀ k, v.ownBlock = some k → u.ownBlock ≠ some k
  rw : Rw (XX b v c u) wr o ds vs
  lo : Own w.heap.size o
theorem Pc.xlt {w wr : World} {b c n1 n2 : Nat} {v u o : Value} {ds : List (List Int)} {vs : List Value} {l1 l2 : List Int} (h : Pc w wr b c v u o ds vs l1 n1 l2 n2) : ∀ k, XX b v c u k → k < wr.heap.size := fun k e => by
  rcases e with (e | e) | (e | e)
  · rw [e]; exact h.f1.r.blk.lt
  · exact h.f1.r.wt.lt k e
  · rw [e]; exact h.f2.r.blk.lt
  · exact h.f2.r.wt.lt k e
theorem Fd.keep {X : Nat → Prop} {B : Nat} {w wr w' : World} {b n : Nat} {v : Value} {l : List Int} (h : Fd B w wr b v l n) (hk : Kp X wr w') (hb : ¬ X b) (hX : ∀ k, v.ownBlock = some k → ¬ X k) (hlo : ∀ k, X k → B ≤ k) : Fd B w w' b v l n :=
  ⟨h.r.kp hk hb hX, h.lo, h.own, h.bel.trans (hk.below (Nat.le_trans h.B h.bel.size) fun k hk e => absurd (hlo k e) (Nat.not_le.2 hk)), h.B⟩
/-- the first is fed. -/
theorem Pc.feed1 {w wr w' : World} {b c n1 n2 : Nat} {v v' u o : Value} {ds : List (List Int)} {vs : List Value} {l1 l2 k : List Int} (h : Pc w wr b c v u o ds vs l1 n1 l2 n2) (hr : Rdr w' b v' (l1 ++ k) n1) (ho : v'.ownBlock = v.ownBlock ∨ v'.ownBlock = some wr.heap.size) (hk : Kp (fun i => i = b ∨ v.ownBlock = some i) wr w') : Pc w w' b c v' u o ds vs (l1 ++ k) n1 l2 n2 := by
  refine ⟨h.f1.feed hr ho hk, h.f2.keep hk (fun e => e.elim (fun e => h.bc e.symm) h.vc) (fun q e1 e2 => e2.elim (fun e => h.ub (by rw [← e]; exact e1)) fun e => h.vu q e e1) (fun q e => e.elim (fun e => by rw [e]; exact h.f1.lo) (h.f1.own q)), h.bc, ?_, h.ub, ?_, h.rw.turned hk (fun q _ e => .inl e) ?_, h.lo⟩
  · intro e
    rcases ho with e2 | e2
    · exact h.vc (by rw [← e2]; exact e)
    · rw [e2] at e; cases e; exact absurd h.f2.r.blk.lt (Nat.lt_irrefl _)
  · intro q e e3
    rcases ho with e2 | e2
    · exact h.vu q (by rw [← e2]; exact e) e3
    · rw [e2] at e; cases e; exact absurd (h.f2.r.wt.lt _ e3) (Nat.lt_irrefl _)
  · intro q e
    rcases e with (e | e) | e
    · exact .inl (.inl (.inl e))
    · rcases ho with e2 | e2
      · exact .inl (.inl (.inr (by rw [← e2]; exact e)))
      · rw [e2] at e; cases e; exact .inr (Nat.le_refl _)
    · exact .inl (.inr e)
/-- the second is fed. -/
theorem Pc.feed2 {w wr w' : World} {b c n1 n2 : Nat} {v u u' o : Value} {ds : List (List Int)} {vs : List Value} {l1 l2 k : List Int} (h : Pc w wr b c v u o ds vs l1 n1 l2 n2) (hr : Rdr w' c u' (l2 ++ k) n2) (ho : u'.ownBlock = u.ownBlock ∨ u'.ownBlock = some wr.heap.size) (hk : Kp (fun i => i = c ∨ u.ownBlock = some i) wr w') : Pc w w' b c v u' o ds vs l1 n1 (l2 ++ k) n2 := by
  refine ⟨h.f1.keep hk (fun e => e.elim h.bc h.ub) (fun q e1 e2 => e2.elim (fun e => h.vc (by rw [← e]; exact e1)) fun e => h.vu q e1 e) (fun q e => e.elim (fun e => by rw [e]; exact h.f2.lo) (h.f2.own q)), h.f2.feed hr ho hk, h.bc, h.vc, ?_, ?_, h.rw.turned hk (fun q _ e => .inr e) ?_, h.lo⟩
  · intro e
    rcases ho with e2 | e2
    · exact h.ub (by rw [← e2]; exact e)
    · rw [e2] at e; cases e; exact absurd h.f1.r.blk.lt (Nat.lt_irrefl _)
  · intro q e1 e
    rcases ho with e2 | e2
    · exact h.vu q e1 (by rw [← e2]; exact e)
    · rw [e2] at e; cases e; exact absurd (h.f1.r.wt.lt _ e1) (Nat.lt_irrefl _)
  · intro q e
    rcases e with e | (e | e)
    · exact .inl (.inl e)
    · exact .inl (.inr (.inl e))
    · rcases ho with e2 | e2
      · exact .inl (.inr (.inr (by rw [← e2]; exact e)))
      · rw [e2] at e; cases e; exact .inr (Nat.le_refl _)
/-- the first is drained, and what is found is appended. -/
theorem Pc.drain1 {w wr w4 w5 : World} {b c n1 n2 : Nat} {v v4 u o o5 s : Value} {ds : List (List Int)} {vs ws : List Value} {l1 l2 : List Int} (h : Pc w wr b c v u o ds vs l1 n1 l2 n2) (ht : DrT b n1 v l1 wr s ws v4 w4) (ha : ApR (XX b v c u) w4 w5 o o5 (ds ++ (all sm l1).1) (vs ++ ws)) :
    Pc w w5 b c v4 u o5 (ds ++ (all sm l1).1) (vs ++ ws) (all sm l1).2.2 (n1 + (all sm l1).2.1) l2 n2 := by
  have h1 := h.f1.drain ht
  have h2 : Fd w.heap.size w w4 c u l2 n2 := h.f2.keep ht.k (fun e => h.bc e.symm) (fun q e1 e2 => h.ub (by rw [← e2]; exact e1)) fun q e => by rw [e]; exact h.f1.lo
  have hk5 : Kp (fun q => o.ownBlock = some q) w4 w5 := kp_grown ha.grown fun q e => e
  have nb : ∀ q, XX b v c u q → o.ownBlock ≠ some q := fun q e e2 => h.rw.ap q e2 e
  have ho4 : v4.ownBlock = v.ownBlock := ht.o
  refine ⟨h1.keep hk5 (nb b (.inl (.inl rfl))) (fun q e1 e2 => nb q (.inl (.inr (by rw [← ho4]; exact e1))) e2) h.lo, h2.keep hk5 (nb c (.inr (.inl rfl))) (fun q e1 e2 => nb q (.inr (.inr e1)) e2) h.lo, h.bc, by rw [ho4]; exact h.vc, h.ub, by rw [ho4]; exact h.vu, ?_, ?_⟩
  · have : XX b v4 c u = XX b v c u := by unfold XX; rw [ho4]
    rw [this]
    exact ha.rw
  · exact h.lo.next (Nat.le_trans h.f1.bel.size (ht.k.size)) ha.blk
theorem app_drn {X : Nat → Prop} {w : World} {ops : Array Oper} {rest : List Oper} {p : Oper} {a : Act} {Q : Exit → Act → World → Prop} (hgd : p.guard = none) (s x : Operand)
    (hp : p.op = .call { callee := .builtin .append, args := #[s, x], argTypes := #[28, 28] })
    (v : Value) (ls : List (List Int)) (vs : List Value) (hs : a.eval s = v) (h : Rw X w v ls vs) (q : Value) (hx : a.eval x = q) (B : Nat) (ms : List (List Int)) (ws : List Value) (hq : Rw (· < B) w q ms ws) (hB : ∀ k, X k ∨ v.ownBlock = some k → k < B) (hn : ls.length + ms.length ≤ 100000) (hX : ¬ X w.heap.size)
    (hk : ∀ v' w', ApR X w w' v v' (ls ++ ms) (vs ++ ws) → wpList Try.prog ops Q rest (a.put p.dst v') w') : wpList Try.prog ops Q (p :: rest) a w := by
  obtain ⟨i0, hi, hz0, hz1, hz2⟩ := info_parts Try.infoB
  have hwl : ws.length = ms.length := by have := hq.own.1; omega
  rcases Nat.eq_zero_or_pos ms.length with h0 | h0
  · obtain rfl : ms = [] := List.eq_nil_of_length_eq_zero h0
    obtain rfl : ws = [] := List.eq_nil_of_length_eq_zero hwl
    rcases hq.own.2 with ⟨rfl, _⟩ | ⟨g, cap, cur, rfl, _⟩
    · refine wpList_append_own_none hgd s x 28 hp 0 22 i0 1 Try.underlying28 hi v ls.length vs hs h.own hx ?_
      exact hk v w (by rw [List.append_nil, List.append_nil]; exact ⟨h, ⟨rfl, rfl, rfl, Nat.le_refl _, fun _ _ _ => rfl⟩, .inl rfl⟩)
    · exact app_rows hgd s x hp v ls vs hs h ⟨g, 0, none⟩ 0 cap hx [] [] rfl rfl (fun j z hz => by simp at hz) (fun i m hm => by simp at hm) hn hX hk
  · obtain ⟨qp, qc, rfl, _⟩ := hq.slice
    obtain ⟨g, rfl, hc⟩ := hq.cells h0
    refine app_rows hgd s x hp v ls vs hs h ⟨g, 0, none⟩ ms.length qc hx ms ws rfl hwl (fun j z hz => ?_) (fun i m hm => ?_) hn hX hk
    · rw [Addr.add_mid, Nat.zero_add]
      exact hc j z hz
    · obtain ⟨y, h1, h2⟩ := hq.bd i m hm
      exact ⟨y, h1, h2.mono fun k _ e => .inl (hB k e)⟩
/-- what was gone through has nothing more in it. -/
theorem all_rest (l : List Int) : all sm (all sm l).2.2 = ([], 0, (all sm l).2.2) := by
  have h := all_app sm [] l.length l (Nat.le_refl _)
  rw [List.append_nil, List.append_nil] at h
  have h1 := congrArg Prod.fst h
  have h2 := congrArg (fun p => p.2.1) h
  have h3 := congrArg (fun p => p.2.2) h
  dsimp only at h1 h2 h3
  have e1 : (all sm (all sm l).2.2).1 = [] := by
    have := congrArg List.length h1
    rw [List.length_append] at this
    exact List.eq_nil_of_length_eq_zero (by omega)
  have e2 : (all sm (all sm l).2.2).2.1 = 0 := by omega
  generalize hq : all sm (all sm l).2.2 = z at *
  obtain ⟨z1, z2, z3⟩ := z
  dsimp only at e1 e2 h3
  rw [e1, e2, ← h3]
/-- the first reader is as far as the second, less what was found. -/
def Ev (ds : List (List Int)) (l1 : List Int) (n1 : Nat) (l2 : List Int) : Prop := all sm l2 = (ds ++ (all sm l1).1, n1 + (all sm l1).2.1, (all sm l1).2.2)
theorem Ev.feed {ds : List (List Int)} {l1 l2 : List Int} {n1 : Nat} (h : Ev ds l1 n1 l2) (k : List Int) : Ev ds (l1 ++ k) n1 (l2 ++ k) := by
  unfold Ev at h ⊢
  rw [all_app sm k _ l2 (Nat.le_refl _), all_app sm k _ l1 (Nat.le_refl _), h]
  simp only [List.append_assoc, Nat.add_assoc]
theorem Ev.drain {ds : List (List Int)} {l1 l2 : List Int} {n1 : Nat} (h : Ev ds l1 n1 l2) : Ev (ds ++ (all sm l1).1) (all sm l1).2.2 (n1 + (all sm l1).2.1) l2 := by
  unfold Ev at h ⊢
  rw [all_rest, h]
  simp

end Go.Proofs.Ytfjipaalelkpjaa
