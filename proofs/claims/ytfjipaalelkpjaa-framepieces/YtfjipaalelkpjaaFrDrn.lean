/-
  Rows of bodies of a call's own, and all that is found in a reader.
-/
import Derived.Test.YtfjipaalelkpjaaFrRow
import Derived.Maps.AppendAt
namespace Go.Proofs.Ytfjipaalelkpjaa
open Go.RowKit D

/-- a body in a row: it lies in no block of X. -/
def Bd (X : Nat → Prop) (w : World) (u : Value) (l : List Int) : Prop := ∃ a cap, u = .slice a l.length cap ∧ Bs w a l.length l ∧ (a = none → cap = 0) ∧ (0 < l.length → ∀ ad, a = some ad → ¬ X ad.block)
theorem Bs.kp {X : Nat → Prop} {w w' : World} {a : Option Addr} {len : Nat} {l : List Int} (h : Bs w a len l) (hk : Kp X w w') (hX : 0 < len → ∀ ad, a = some ad → ¬ X ad.block) : Bs w' a len l := by
  refine ⟨h.1, h.2.1, fun h0 => ?_⟩
  obtain ⟨b, off, ha, hc⟩ := h.2.2 h0
  refine ⟨b, off, ha, fun i hi => ?_⟩
  rw [World.cell?_of_block (hk.block b (World.block_lt_of_cell? w _ (hc i hi)) (hX h0 _ ha))]
  exact hc i hi
theorem Bd.kp {X Y : Nat → Prop} {w w' : World} {u : Value} {l : List Int} (h : Bd X w u l) (hk : Kp Y w w') (hY : ∀ k, k < w.heap.size → Y k → X k) : Bd X w' u l := by
  obtain ⟨a, cap, rfl, h1, h2, h3⟩ := h
  refine ⟨a, cap, rfl, h1.kp hk fun h0 ad e hy => ?_, h2, h3⟩
  obtain ⟨b, off, e2, hc⟩ := h1.2.2 h0
  rw [e] at e2
  cases e2
  exact h3 h0 _ e (hY _ (World.block_lt_of_cell? w _ (hc 0 h0)) hy)
theorem Bd.mono {X Y : Nat → Prop} {w : World} {u : Value} {l : List Int} (h : Bd X w u l) (hY : ∀ k, k < w.heap.size → Y k → X k) : Bd Y w u l := by
  obtain ⟨a, cap, rfl, h1, h2, h3⟩ := h
  refine ⟨a, cap, rfl, h1, h2, fun h0 ad e hy => ?_⟩
  obtain ⟨b, off, e2, hc⟩ := h1.2.2 h0
  rw [e] at e2
  cases e2
  exact h3 h0 _ e (hY _ (World.block_lt_of_cell? w _ (hc 0 h0)) hy)
theorem Wt.bd {X : Nat → Prop} {w : World} {u : Value} {l : List Int} (h : Wt w u l) (hX : ∀ k, u.ownBlock = some k → ¬ X k) : Bd X w u l := by
  obtain ⟨a, cap, rfl, h1, _, _, h2⟩ := h.slice
  exact ⟨a, cap, rfl, h1, h2, fun _ ad e => hX _ (by rw [e]; rfl)⟩

/-- a row of bodies. -/
structure Rw (X : Nat → Prop) (w : World) (v : Value) (ls : List (List Int)) (vs : List Value) : Prop where
  own : w.ownsRow 0 22 1 v ls.length vs
  ap : ∀ k, v.ownBlock = some k → ¬ X k
  bd : ∀ (i : Nat) (l : List Int), ls[i]? = some l → ∃ u, vs[i]? = some u ∧ Bd (fun k => X k ∨ v.ownBlock = some k) w u l
theorem rw_nil (X : Nat → Prop) (w : World) : Rw X w (.slice none 0 0) [] [] := ⟨⟨rfl, .inl ⟨rfl, rfl⟩⟩, fun k e => (by cases e), fun i l e => by simp at e⟩
theorem Rw.lt {X : Nat → Prop} {w : World} {v : Value} {ls : List (List Int)} {vs : List Value} (h : Rw X w v ls vs) : ∀ k, v.ownBlock = some k → k < w.heap.size := D.own_lt h.own
theorem Rw.kp {X Y : Nat → Prop} {w w' : World} {v : Value} {ls : List (List Int)} {vs : List Value} (h : Rw X w v ls vs) (hk : Kp Y w w') (hY : ∀ k, k < w.heap.size → Y k → X k) : Rw X w' v ls vs := by
  refine ⟨⟨h.own.1, ?_⟩, h.ap, fun i l e => ?_⟩
  · rcases h.own.2 with hn | ⟨g, cap, cur, hv, hg, hh, r⟩
    · exact .inl hn
    · exact .inr ⟨g, cap, cur, hv, hg, by rw [hk.block g (lt_of_block hh) fun hy => h.ap g (by rw [hv]; rfl) (hY g (lt_of_block hh) hy)]; exact hh, r⟩
  · obtain ⟨u, h1, h2⟩ := h.bd i l e
    exact ⟨u, h1, h2.kp hk fun k hk hy => .inl (hY k hk hy)⟩
theorem Rw.over {X : Nat → Prop} {w w' : World} {v : Value} {ls : List (List Int)} {vs : List Value} (h : Rw X w v ls vs) (hb : Below w.heap.size w w') : Rw X w' v ls vs := h.kp (Y := fun _ => False) (kp_below hb) fun _ _ hf => hf.elim
theorem Rw.mono {X Y : Nat → Prop} {w : World} {v : Value} {ls : List (List Int)} {vs : List Value} (h : Rw X w v ls vs) (hY : ∀ k, k < w.heap.size → Y k → X k) : Rw Y w v ls vs :=
  ⟨h.own, fun k e hy => h.ap k e (hY k (h.lt k e) hy), fun i l e => by
    obtain ⟨u, h1, h2⟩ := h.bd i l e
    exact ⟨u, h1, h2.mono fun k hk hy => hy.elim (fun hy => .inl (hY k hk hy)) .inr⟩⟩
theorem Rw.cells {X : Nat → Prop} {w : World} {p : Option Addr} {n c : Nat} {ls : List (List Int)} {vs : List Value} (h : Rw X w (.slice p n c) ls vs) (h0 : 0 < ls.length) : ∃ g, p = some ⟨g, 0, none⟩ ∧ ∀ (j : Nat) (u : Value), vs[j]? = some u → w.cell? ⟨g, j, none⟩ = some u := by
  rcases id h.own.2 with ⟨_, hn⟩ | ⟨g, cap, cur, hv, _⟩
  · omega
  · cases hv
    refine ⟨g, rfl, fun j u hu => ?_⟩
    have := h.own.cells (g := g) rfl j u hu
    rwa [Addr.add_mid, Nat.zero_add] at this
theorem Rw.slice {X : Nat → Prop} {w : World} {v : Value} {ls : List (List Int)} {vs : List Value} (h : Rw X w v ls vs) : ∃ p c, v = .slice p ls.length c ∧ (p = none → c = 0) := by
  rcases h.own.2 with ⟨rfl, hn⟩ | ⟨g, cap, cur, rfl, _⟩
  · exact ⟨none, 0, by rw [hn], fun _ => rfl⟩
  · exact ⟨_, cap, rfl, fun e => by cases e⟩
theorem Rw.pcR {X : Nat → Prop} {w : World} {v : Value} {ls : List (List Int)} {vs : List Value} (h : Rw X w v ls vs) : PcR w v ls := by
  obtain ⟨p, c, rfl, _⟩ := h.slice
  refine ⟨p, c, rfl, fun h0 => ?_⟩
  obtain ⟨g, rfl, hc⟩ := h.cells h0
  refine ⟨g, 0, rfl, fun i l hi => ?_⟩
  obtain ⟨u, h1, a, cap, h2, h3, h4, _⟩ := h.bd i l hi
  exact ⟨u, by rw [Nat.zero_add]; exact hc i u h1, a, cap, h2, h3, h4⟩

theorem Try.infoB : (Try.prog.info? 22).map (fun i => (i.zero, i.size, i.bytes)) = some (some (.slice none 0 0), 1, 24) := by kernel_rfl
/-- what an append to a row of bodies tells. -/
structure ApR (X : Nat → Prop) (w w' : World) (v v' : Value) (ls : List (List Int)) (vs : List Value) : Prop where
  rw : Rw X w' v' ls vs
  grown : w.grownBy w' v.ownBlock
  blk : v'.ownBlock = v.ownBlock ∨ v'.ownBlock = some w.heap.size
theorem run_app {X : Nat → Prop} {w : World} (ty : TypeId) (v : Value) (ls : List (List Int)) (vs : List Value) (h : Rw X w v ls vs) (ad : Addr) (m c : Nat) (ms : List (List Int)) (ws : List Value) (hm : ms.length = m) (hws : ws.length = m)
    (hnews : ∀ (j : Nat) (u : Value), ws[j]? = some u → w.cell? (ad.add j) = some u) (hbd : ∀ (i : Nat) (l : List Int), ms[i]? = some l → ∃ u, ws[i]? = some u ∧ Bd (fun k => X k ∨ v.ownBlock = some k) w u l) (hn : ls.length + m ≤ 100000) (hX : ¬ X w.heap.size) :
    ∃ v' w', (Builtin.append_ #[28, 28] ty #[v, .slice (some ad) m c]).run Try.prog w = .ok v' w' ∧ ApR X w w' v v' (ls ++ ms) (vs ++ ws) := by
  obtain ⟨i0, hi, hz0, hz1, hz2⟩ := info_parts Try.infoB
  have hone : ∀ u ∈ ws, u.oneCell' = true := fun u hu => by
    obtain ⟨j, hj, rfl⟩ := List.mem_iff_getElem.1 hu
    obtain ⟨u, h1, a, cap, h2, _⟩ := hbd j ms[j] (List.getElem?_eq_getElem (by omega))
    rw [List.getElem?_eq_getElem hj] at h1
    cases h1
    rw [h2]
    rfl
  obtain ⟨v', w', q0, q1, q2, _, q4⟩ := run_append_own_at (P := Try.prog) w 0 28 ty 22 i0 _ 1 24 Try.underlying28 hi hz0 hz1 hz2 rfl (by decide) v ls.length vs h.own ad m c ws (by omega) hnews hone (by unfold maxLen; omega) (by omega) (Nat.zero_le _)
  have hk : Kp (fun k => v.ownBlock = some k) w w' := kp_grown q2 fun k e => e
  have hap : ∀ k, v'.ownBlock = some k → ¬ X k := fun k e => by
    rcases q4 with e2 | e2
    · exact h.ap k (by rw [← e2]; exact e)
    · rw [e2] at e
      cases e
      exact hX
  have old : ∀ u l, Bd (fun k => X k ∨ v.ownBlock = some k) w u l → Bd (fun k => X k ∨ v'.ownBlock = some k) w' u l := fun u l hb => by
    have h1 : Bd (fun k => X k ∨ v'.ownBlock = some k) w u l := hb.mono fun k hk hy => by
      rcases hy with hy | hy
      · exact .inl hy
      · rcases q4 with e2 | e2
        · exact .inr (by rw [← e2]; exact hy)
        · rw [e2] at hy
          cases hy
          exact absurd hk (Nat.lt_irrefl _)
    obtain ⟨a, cap, e1, b1, b2, b3⟩ := hb
    obtain ⟨a', cap', e1', _, _, b3'⟩ := h1
    rw [e1] at e1'
    cases e1'
    exact ⟨a, cap, e1, b1.kp hk fun h0 ad e hy => b3 h0 ad e (.inr hy), b2, b3'⟩
  refine ⟨v', w', q0, ⟨⟨by rw [List.length_append, hm]; exact q1, hap, fun i l e => ?_⟩, q2, q4⟩⟩
  have hvl : vs.length = ls.length := by have := h.own.1; omega
  rcases Nat.lt_or_ge i ls.length with hi' | hi'
  · rw [List.getElem?_append_left hi'] at e
    obtain ⟨u, h1, h2⟩ := h.bd i l e
    exact ⟨u, by rw [List.getElem?_append_left (by omega)]; exact h1, old u l h2⟩
  · rw [List.getElem?_append_right hi'] at e
    obtain ⟨u, h1, h2⟩ := hbd _ l e
    exact ⟨u, by rw [List.getElem?_append_right (by omega), hvl]; exact h1, old u l h2⟩
theorem app_rows {X : Nat → Prop} {w : World} {ops : Array Oper} {rest : List Oper} {o : Oper} {a : Act} {Q : Exit → Act → World → Prop} (hgd : o.guard = none) (s x : Operand)
    (ho : o.op = .call { callee := .builtin .append, args := #[s, x], argTypes := #[28, 28] })
    (v : Value) (ls : List (List Int)) (vs : List Value) (hs : a.eval s = v) (h : Rw X w v ls vs) (ad : Addr) (m c : Nat) (hx : a.eval x = .slice (some ad) m c) (ms : List (List Int)) (ws : List Value) (hm : ms.length = m) (hws : ws.length = m)
    (hnews : ∀ (j : Nat) (u : Value), ws[j]? = some u → w.cell? (ad.add j) = some u) (hbd : ∀ (i : Nat) (l : List Int), ms[i]? = some l → ∃ u, ws[i]? = some u ∧ Bd (fun k => X k ∨ v.ownBlock = some k) w u l) (hn : ls.length + m ≤ 100000) (hX : ¬ X w.heap.size)
    (hk : ∀ v' w', ApR X w w' v v' (ls ++ ms) (vs ++ ws) → wpList Try.prog ops Q rest (a.put o.dst v') w') : wpList Try.prog ops Q (o :: rest) a w :=
  wpList_plain hgd fun _ hK => by
    obtain ⟨v', w', hr, h2⟩ := run_app o.type v ls vs h ad m c ms ws hm hws hnews hbd hn hX
    unfold Oper.wp execOp
    simp only [ho, resolve, invoke, builtin, Sem.run_bind, Sem.run_pure, Result.andThen_ok, List.map_toArray, List.map_cons, List.map_nil, hs, hx, hr]
    exact hK _ _ (hk v' w' h2)
/-- one body more: it stands in a row just made. -/
theorem app_one {X : Nat → Prop} {w : World} {ops : Array Oper} {rest : List Oper} {o : Oper} {a : Act} {Q : Exit → Act → World → Prop} (hgd : o.guard = none) (s x : Operand)
    (ho : o.op = .call { callee := .builtin .append, args := #[s, x], argTypes := #[28, 28] })
    (v : Value) (ls : List (List Int)) (vs : List Value) (hs : a.eval s = v) (h : Rw X w v ls vs) (u : Value) (l : List Int) (hu : Bd (fun k => X k ∨ v.ownBlock = some k) w u l) (W : World) (hW : W = w.alloc (.cells #[u] 22))
    (hx : a.eval x = .slice (some ⟨w.heap.size, 0, none⟩) 1 1) (hn : ls.length + 1 ≤ 100000) (hX : ¬ X w.heap.size ∧ ¬ X (w.heap.size + 1))
    (hk : ∀ v' w', Rw X w' v' (ls ++ [l]) (vs ++ [u]) → Kp (fun k => v.ownBlock = some k) w w' → (v'.ownBlock = v.ownBlock ∨ v'.ownBlock = some (w.heap.size + 1)) → wpList Try.prog ops Q rest (a.put o.dst v') w') : wpList Try.prog ops Q (o :: rest) a W := by
  subst hW
  have hb : Below w.heap.size w (w.alloc (.cells #[u] 22)) := (Below.refl _ _).alloc (Nat.le_refl _) _
  refine app_rows hgd s x ho v ls vs hs (h.over hb) ⟨w.heap.size, 0, none⟩ 1 1 hx [l] [u] rfl rfl (fun j z hz => ?_) (fun i m hm => ?_) hn (by rw [size_alloc']; exact hX.2) fun v' w' hr => hk v' w' hr.rw ((kp_below hb).trans (kp_grown hr.grown fun k e => e)) (by have := hr.blk; rwa [size_alloc'] at this)
  · have : j = 0 := by
      have := (List.getElem?_eq_some_iff.1 hz).1
      simpa using this
    subst this
    cases hz
    rw [Addr.add_mid, World.cell?_alloc_mark]
    rfl
  · have : i = 0 := by
      have := (List.getElem?_eq_some_iff.1 hm).1
      simpa using this
    subst this
    cases hm
    exact ⟨u, rfl, hu.kp (Y := fun _ => False) (kp_below hb) fun _ _ hf => hf.elim⟩

/-- what 'drained' tells. -/
structure DrT (b n : Nat) (v : Value) (l : List Int) (w : World) (u : Value) (vs : List Value) (v' : Value) (w' : World) : Prop where
  rw : Rw (· < w.heap.size) w' u (all sm l).1 vs
  r : Rdr w' b v' (all sm l).2.2 (n + (all sm l).2.1)
  o : v'.ownBlock = v.ownBlock
  k : Kp (· = b) w w'
/-- on the way. -/
structure Dr (b n : Nat) (v : Value) (l : List Int) (w wr : World) (o : Value) (ds : List (List Int)) (vs : List Value) (v' : Value) (l' : List Int) (j : Nat) : Prop where
  rw : Rw (· < w.heap.size) wr o ds vs
  r : Rdr wr b v' l' (n + j)
  o : v'.ownBlock = v.ownBlock
  k : Kp (· = b) w wr
  e : all sm l = (ds ++ (all sm l').1, j + (all sm l').2.1, (all sm l').2.2)
  s : 8 * ds.length + j + l'.length ≤ l.length
theorem Dr.fin {b n j k : Nat} {v o v' v2 : Value} {l l' r : List Int} {w wr w' : World} {ds : List (List Int)} {vs : List Value} (h : Dr b n v l w wr o ds vs v' l' j) (hx : nxt sm l' = (k, none, r)) (hr : Rdr w' b v2 r (n + j + k)) (ho : v2.ownBlock = v'.ownBlock) (hk : Kp (· = b) wr w') (hb : b < w.heap.size) : DrT b n v l w o vs v2 w' := by
  have e := h.e
  rw [all_none hx] at e
  refine ⟨?_, ?_, ho.trans h.o, h.k.trans hk⟩
  · rw [e, List.append_nil]
    exact h.rw.kp hk fun k _ e => by rw [e]; exact hb
  · rw [e]
    dsimp only
    rw [← Nat.add_assoc]
    exact hr
theorem Dr.more {b n j k : Nat} {v o o' v' v2 : Value} {l l' r bd : List Int} {w wr w' : World} {ds : List (List Int)} {vs vs' : List Value} (h : Dr b n v l w wr o ds vs v' l' j) (hx : nxt sm l' = (k, some bd, r)) (hr : Rdr w' b v2 r (n + j + k)) (ho : v2.ownBlock = v'.ownBlock) (hk : Kp (fun i => i = b ∨ o.ownBlock = some i) wr w') (hrw : Rw (· < w.heap.size) w' o' (ds ++ [bd]) vs') : Dr b n v l w w' o' (ds ++ [bd]) vs' v2 r (j + k) := by
  have e := h.e
  rw [all_some hx] at e
  have hc := nxt_count sm l'
  rw [hx] at hc
  simp only [cst] at hc
  have hs := h.s
  refine ⟨hrw, by rw [← Nat.add_assoc]; exact hr, ho.trans h.o, ?_, ?_, ?_⟩
  · exact ⟨hk.os.trans h.k.os, hk.tape.trans h.k.tape, hk.output.trans h.k.output, Nat.le_trans h.k.size hk.size, fun i hi hne =>
      (hk.block i (Nat.lt_of_lt_of_le hi h.k.size) fun hx => hx.elim hne fun e => h.rw.ap i e hi).trans (h.k.block i hi hne)⟩
  · rw [e]
    simp only [List.append_assoc, List.singleton_append, Prod.mk.injEq, true_and, and_true]
    omega
  · rw [List.length_append, List.length_singleton]
    omega

end Go.Proofs.Ytfjipaalelkpjaa
