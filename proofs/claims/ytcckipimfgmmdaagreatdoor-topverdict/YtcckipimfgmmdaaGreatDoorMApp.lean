/-
  Rows of rules and of names that a call makes and appends to, beside blocks of its own.
-/
import Derived.Test.YtcckipimfgmmdaaGreatDoorMSAll
import Derived.Maps.AppendAt
import Derived.Laws.OwnMore
namespace Go.Proofs.YtcckipimfgmmdaaGreatDoor.M
open Go.RowKit

/-- a rule's cells; rules', names' cells. -/
def Xr.cl (x : Xr) : List Value := [.int .i64 x.r.k, .int .i64 x.r.a, x.vn, x.vc]
def cellsX (l : List Xr) : List Value := l.flatMap Xr.cl

theorem cellsX_length (l : List Xr) : (cellsX l).length = l.length * 4 := by
  induction l with
  | nil => rfl
  | cons x l ih =>
    show (x.cl ++ cellsX l).length = _
    rw [List.length_append, ih, List.length_cons, Nat.add_mul]
    show 4 + _ = _
    omega
theorem cellsX_get (l : List Xr) : ∀ (i : Nat) (x : Xr) (c : Nat), l[i]? = some x → c < 4 → (cellsX l)[i * 4 + c]? = x.cl[c]? := by
  induction l with
  | nil => intro i x c h; simp at h
  | cons y l ih =>
    intro i x c h hc
    show (y.cl ++ cellsX l)[i * 4 + c]? = _
    cases i with
    | zero =>
      simp at h
      subst h
      rw [List.getElem?_append_left (by show _ < 4; omega)]
      congr 1
      omega
    | succ i =>
      rw [List.getElem?_append_right (by show 4 ≤ _; omega)]
      rw [List.getElem?_cons_succ] at h
      rw [← ih i x c h hc]
      congr 1
      show (i + 1) * 4 + c - 4 = _
      omega
theorem cellsX_out (l : List Xr) : ∀ (j : Nat) (u : Value), (cellsX l)[j]? = some u → ∃ i c x, j = i * 4 + c ∧ c < 4 ∧ l[i]? = some x ∧ x.cl[c]? = some u := by
  intro j u h
  have hj : j < l.length * 4 := by rw [← cellsX_length]; exact (List.getElem?_eq_some_iff.1 h).1
  have hi : j / 4 < l.length := by omega
  refine ⟨j / 4, j % 4, l[j / 4], by omega, by omega, List.getElem?_eq_getElem hi, ?_⟩
  rw [← cellsX_get l (j / 4) l[j / 4] (j % 4) (List.getElem?_eq_getElem hi) (by omega), show j / 4 * 4 + j % 4 = j from by omega]
  exact h
theorem cellsX_app (l m : List Xr) : cellsX (l ++ m) = cellsX l ++ cellsX m := by simp [cellsX]
theorem cellsB_app (l m : List ByteArray) : cellsB (l ++ m) = cellsB l ++ cellsB m := by simp [cellsB]

/-- what is appended: nothing at all, or cells that lie somewhere. -/
def Src (w : World) (v : Value) (m : Nat) (news : List Value) : Prop :=
  (∃ ad c, v = .slice (some ad) m c ∧ ∀ j u, news[j]? = some u → w.cell? (ad.add j) = some u) ∨ (v = .slice none 0 0 ∧ m = 0 ∧ news = [])

/-- a slice that is nil, or leads somewhere. -/
def okS (v : Value) : Prop := (∃ ad n c, v = .slice (some ad) n c) ∨ v = .slice none 0 0

theorem add_none (b o j : Nat) : (⟨b, o, none⟩ : Addr).add j = ⟨b, o + j, none⟩ := Addr.add_lit b o j

theorem src_rules {w : World} {v : Value} {l : List Xr} (h : RlR w v l) (hs : okS v) : Src w v l.length (cellsX l) := by
  obtain ⟨a, cap, rfl, _, _, hc, _⟩ := h
  rcases hs with ⟨ad, n, c, e⟩ | e
  · cases e
    refine .inl ⟨ad, cap, rfl, fun j u hu => ?_⟩
    obtain ⟨i, c, x, rfl, hc4, hx, hu⟩ := cellsX_out l j u hu
    obtain ⟨b, o, e, hat⟩ := hc (by have := (List.getElem?_eq_some_iff.1 hx).1; omega)
    cases e
    obtain ⟨h0, h1, h2, h3⟩ := hat i x hx
    rw [add_none, ← Nat.add_assoc]
    match c, hc4, hu with
    | 0, _, hu => cases hu; exact h0
    | 1, _, hu => cases hu; exact h1
    | 2, _, hu => cases hu; exact h2
    | 3, _, hu => cases hu; exact h3
  · injection e with e1 e2 e3
    have : l = [] := List.eq_nil_of_length_eq_zero e2
    subst this
    exact .inr ⟨by rw [e1, e3]; rfl, rfl, rfl⟩
theorem src_names {w : World} {v : Value} {l : List ByteArray} (h : StrR w v l) (hs : okS v) : Src w v l.length (cellsB l) := by
  obtain ⟨a, cap, rfl, _, _, hc⟩ := h
  rcases hs with ⟨ad, n, c, e⟩ | e
  · cases e
    refine .inl ⟨ad, cap, rfl, fun j u hu => ?_⟩
    have hj : j < l.length := by have := (List.getElem?_eq_some_iff.1 hu).1; simpa [cellsB] using this
    obtain ⟨b, o, e, hat⟩ := hc (by omega)
    cases e
    rw [add_none]
    unfold cellsB at hu
    rw [List.getElem?_map, List.getElem?_eq_getElem hj] at hu
    cases hu
    exact hat j _ (List.getElem?_eq_getElem hj)
  · injection e with e1 e2 e3
    have : l = [] := List.eq_nil_of_length_eq_zero e2
    subst this
    exact .inr ⟨by rw [e1, e3]; rfl, rfl, rfl⟩

theorem one_rules {w : World} {v : Value} {l : List Xr} (h : RlR w v l) : ∀ u ∈ cellsX l, u.oneCell' = true := by
  obtain ⟨_, _, _, _, _, _, hr⟩ := h
  intro u hu
  obtain ⟨x, hx, hu⟩ := List.mem_flatMap.1 hu
  simp only [Xr.cl, List.mem_cons, List.not_mem_nil, or_false] at hu
  obtain ⟨⟨_, _, e1, _⟩, ⟨_, _, e2, _⟩⟩ := hr x hx
  rcases hu with rfl | rfl | rfl | rfl
  · rfl
  · rfl
  · rw [e1]; rfl
  · rw [e2]; rfl
theorem one_names (l : List ByteArray) : ∀ u ∈ cellsB l, u.oneCell' = true := by
  intro u hu
  obtain ⟨x, _, rfl⟩ := List.mem_map.1 hu
  rfl

theorem info_parts {t : TypeId} {z : Option Value} {s b : Nat} (h : (Tryz.prog.info? t).map (fun i => (i.zero, i.size, i.bytes)) = some (z, s, b)) : ∃ i, Tryz.prog.info? t = some i ∧ i.zero = z ∧ i.size = s ∧ i.bytes = b := by
  cases hi : Tryz.prog.info? t with
  | none => rw [hi] at h; cases h
  | some i =>
    rw [hi] at h
    simp at h
    exact ⟨i, rfl, h.1, h.2.1, h.2.2⟩
theorem Tryz.infoR : (Tryz.prog.info? 87).map (fun i => (i.zero, i.size, i.bytes)) = some (some (.agg #[.int .i64 0, .int .i64 0, .slice none 0 0, .slice none 0 0]), 4, 64) := by kernel_rfl

theorem run_app_rules (w : World) (ty : TypeId) (base : Nat) (v : Value) (n : Nat) (xs : List Value) (hown : w.ownsRow base 87 4 v n xs) (x : Value) (m : Nat) (k : List Xr) (hs : Src w x m (cellsX k)) (hm : k.length = m) (h1 : ∀ u ∈ cellsX k, u.oneCell' = true) (hn : n + m ≤ 1000000) (hbase : base ≤ w.heap.size) :
    ∃ v' w', (Builtin.append_ #[37, 37] ty #[v, x]).run Tryz.prog w = .ok v' w' ∧ w'.ownsRow base 87 4 v' (n + m) (xs ++ cellsX k) ∧ w.grownBy w' v.ownBlock ∧ (v'.ownBlock = v.ownBlock ∨ v'.ownBlock = some w.heap.size) := by
  obtain ⟨i0, hi, hz0, hz1, hz2⟩ := info_parts Tryz.infoR
  rcases hs with ⟨ad, c, rfl, hc⟩ | ⟨rfl, rfl, h0⟩
  · obtain ⟨v', w', r1, r2, r3, _, r5⟩ := run_append_own_at (P := Tryz.prog) w base 37 ty 87 i0 _ 4 64 Tryz.underlying37 hi hz0 hz1 hz2 rfl (by decide) v n xs hown ad m c (cellsX k) (by rw [cellsX_length, hm]) hc h1 (by unfold maxLen; omega) (by omega) hbase
    exact ⟨v', w', r1, r2, r3, r5⟩
  · rw [h0, List.append_nil]
    exact ⟨v, w, run_append_owned_none (P := Tryz.prog) (w := w) base 37 ty 87 i0 4 Tryz.underlying37 hi v n xs hown, hown, ⟨rfl, rfl, rfl, Nat.le_refl _, fun _ _ _ => rfl⟩, .inl rfl⟩
theorem run_app_names (w : World) (ty : TypeId) (base : Nat) (v : Value) (n : Nat) (xs : List Value) (hown : w.ownsRow base 9 1 v n xs) (x : Value) (m : Nat) (k : List ByteArray) (hs : Src w x m (cellsB k)) (hm : k.length = m) (hn : n + m ≤ 1000000) (hbase : base ≤ w.heap.size) :
    ∃ v' w', (Builtin.append_ #[22, 22] ty #[v, x]).run Tryz.prog w = .ok v' w' ∧ w'.ownsRow base 9 1 v' (n + m) (xs ++ cellsB k) ∧ w.grownBy w' v.ownBlock ∧ (v'.ownBlock = v.ownBlock ∨ v'.ownBlock = some w.heap.size) := by
  obtain ⟨i0, hi, hz0, hz1, hz2⟩ := info_parts Tryz.infoB
  rcases hs with ⟨ad, c, rfl, hc⟩ | ⟨rfl, rfl, h0⟩
  · obtain ⟨v', w', r1, r2, r3, _, r5⟩ := run_append_own_at (P := Tryz.prog) w base 22 ty 9 i0 _ 1 16 Tryz.underlying22 hi hz0 hz1 hz2 rfl (by decide) v n xs hown ad m c (cellsB k) (by simp [cellsB, hm]) hc (one_names k) (by unfold maxLen; omega) (by omega) hbase
    exact ⟨v', w', r1, r2, r3, r5⟩
  · rw [h0, List.append_nil]
    exact ⟨v, w, run_append_owned_none (P := Tryz.prog) (w := w) base 22 ty 9 i0 1 Tryz.underlying22 hi v n xs hown, hown, ⟨rfl, rfl, rfl, Nat.le_refl _, fun _ _ _ => rfl⟩, .inl rfl⟩

/-- what is known behind an append: the row, what was there, where the row lies. -/
def Apd (t sz B : Nat) (w : World) (v : Value) (n : Nat) (xs : List Value) (v' : Value) (w' : World) : Prop :=
  w'.ownsRow B t sz v' n xs ∧ w.grownBy w' v.ownBlock ∧ (v'.ownBlock = v.ownBlock ∨ v'.ownBlock = some w.heap.size)

theorem wp_app_rules {w : World} {o : Oper} {a : Act} {K : Act → World → Prop} {Q : Exit → Act → World → Prop} (s x : Operand)
    (ho : o.op = .call { callee := .builtin .append, args := #[s, x], argTypes := #[37, 37] })
    (base : Nat) (v : Value) (n : Nat) (xs : List Value) (hs : a.eval s = v) (hown : w.ownsRow base 87 4 v n xs) (xv : Value) (m : Nat) (k : List Xr) (hx : a.eval x = xv) (hsrc : Src w xv m (cellsX k)) (hm : k.length = m) (h1 : ∀ u ∈ cellsX k, u.oneCell' = true) (hn : n + m ≤ 1000000) (hbase : base ≤ w.heap.size)
    (h : ∀ v' w', Apd 87 4 base w v (n + m) (xs ++ cellsX k) v' w' → K (a.put o.dst v') w') : Oper.wp Tryz.prog o a w K Q := by
  obtain ⟨v', w', hr, h2, h3, h4⟩ := run_app_rules w o.type base v n xs hown xv m k hsrc hm h1 hn hbase
  unfold Oper.wp execOp
  simp only [ho, resolve, invoke, builtin, Sem.run_bind, Sem.run_pure, Result.andThen_ok, List.map_toArray, List.map_cons, List.map_nil, hs, hx, hr]
  exact h v' w' ⟨h2, h3, h4⟩
theorem wp_app_names {w : World} {o : Oper} {a : Act} {K : Act → World → Prop} {Q : Exit → Act → World → Prop} (s x : Operand)
    (ho : o.op = .call { callee := .builtin .append, args := #[s, x], argTypes := #[22, 22] })
    (base : Nat) (v : Value) (n : Nat) (xs : List Value) (hs : a.eval s = v) (hown : w.ownsRow base 9 1 v n xs) (xv : Value) (m : Nat) (k : List ByteArray) (hx : a.eval x = xv) (hsrc : Src w xv m (cellsB k)) (hm : k.length = m) (hn : n + m ≤ 1000000) (hbase : base ≤ w.heap.size)
    (h : ∀ v' w', Apd 9 1 base w v (n + m) (xs ++ cellsB k) v' w' → K (a.put o.dst v') w') : Oper.wp Tryz.prog o a w K Q := by
  obtain ⟨v', w', hr, h2, h3, h4⟩ := run_app_names w o.type base v n xs hown xv m k hsrc hm hn hbase
  unfold Oper.wp execOp
  simp only [ho, resolve, invoke, builtin, Sem.run_bind, Sem.run_pure, Result.andThen_ok, List.map_toArray, List.map_cons, List.map_nil, hs, hx, hr]
  exact h v' w' ⟨h2, h3, h4⟩

/-- at the list of a plain region's operations. -/
theorem wpList_app_rules {w : World} {ops : Array Oper} {rest : List Oper} {o : Oper} {a : Act} {Q : Exit → Act → World → Prop} (hgd : o.guard = none) (s x : Operand)
    (ho : o.op = .call { callee := .builtin .append, args := #[s, x], argTypes := #[37, 37] })
    (base : Nat) (v : Value) (n : Nat) (xs : List Value) (hs : a.eval s = v) (hown : w.ownsRow base 87 4 v n xs) (xv : Value) (m : Nat) (k : List Xr) (hx : a.eval x = xv) (hsrc : Src w xv m (cellsX k)) (hm : k.length = m) (h1 : ∀ u ∈ cellsX k, u.oneCell' = true) (hn : n + m ≤ 1000000) (hbase : base ≤ w.heap.size)
    (h : ∀ v' w', Apd 87 4 base w v (n + m) (xs ++ cellsX k) v' w' → wpList Tryz.prog ops Q rest (a.put o.dst v') w') : wpList Tryz.prog ops Q (o :: rest) a w :=
  wpList_plain hgd fun _ hK => wp_app_rules s x ho base v n xs hs hown xv m k hx hsrc hm h1 hn hbase fun v' w' ha => hK _ _ (h v' w' ha)

/-- at a step of a drawn region. -/
theorem step_of_wp {ops : Array Oper} {o : Oper} {a : Act} {w : World} {K : Act → World → Prop} {Q : Exit → Act → World → Prop} {E : Prop} (hgd : o.guard = none) (h : Oper.wp Tryz.prog o a w K Q) :
    if Region.wanted o (yielded ops a.tmps) = true then Oper.wp Tryz.prog o a w K Q else E := by
  rw [if_pos (by simp [Region.wanted, hgd])]
  exact h

/-- a row of the call's own. -/
structure Jn (t sz B : Nat) (a X : World) (v : Value) (n : Nat) (xs : List Value) : Prop where
  own : X.ownsRow B t sz v n xs
  be : Below B a X
  lB : B ≤ X.heap.size
/-- a block of the call's own, apart from a row. -/
structure Fr (B : Nat) (X : World) (v : Value) (b : Nat) (t : TypeId) (l : List Value) : Prop where
  blk : Blk X b t l
  ge : B ≤ b
  ne : ∀ j, v.ownBlock = some j → j ≠ b

section
variable {t sz B b n n' : Nat} {t' : TypeId} {a X Y : World} {v v' : Value} {xs xs' l : List Value}
theorem Jn.nil (h : Below B a X) (hB : B ≤ X.heap.size) : Jn t sz B a X (.slice none 0 0) 0 [] := ⟨⟨by simp, .inl ⟨rfl, rfl⟩⟩, h, hB⟩
theorem Jn.over (h : Jn t sz B a X v n xs) (hb : Below X.heap.size X Y) : Jn t sz B a Y v n xs := ⟨owns_below h.own hb (Nat.le_refl _), h.be.trans (hb.mono h.lB), Nat.le_trans h.lB hb.size⟩
theorem Jn.empty (h : Below B a X) (hB : B ≤ X.heap.size) : Jn t sz B a (X.alloc (Obj.cells #[] t)) (.slice (some ⟨X.heap.size, 0, none⟩) 0 0) 0 [] :=
  ⟨⟨by simp, .inr ⟨X.heap.size, 0, #[], rfl, hB, heap_alloc_new X _, Nat.le_refl _, by unfold maxLen; omega, by simp, by simp⟩⟩, h.alloc hB _, by rw [size_alloc']; omega⟩
theorem Jn.new (h : Below B a X) (hB : B ≤ X.heap.size) (c : List Value) (hc : c.length = n * sz) (hn : n ≤ 1000) : Jn t sz B a (X.alloc (Obj.cells c.toArray t)) (.slice (some ⟨X.heap.size, 0, none⟩) n n) n c :=
  ⟨⟨hc, .inr ⟨X.heap.size, n, c.toArray, rfl, hB, heap_alloc_new X _, Nat.le_refl _, by unfold maxLen; omega, by simpa using hc, by rw [← hc]; simp⟩⟩, h.alloc hB _, by rw [size_alloc']; omega⟩
theorem Jn.app (h : Jn t sz B a X v n xs) (ha : Apd t sz B X v n' xs' v' Y) : Jn t sz B a Y v' n' xs' := ⟨ha.1, h.be.grown ha.2.1 h.lB (owns_block h.own), Nat.le_trans h.lB ha.2.1.size⟩
theorem Jn.lt (h : Jn t sz B a X v n xs) : ∀ j, v.ownBlock = some j → j < X.heap.size := by
  intro j hj
  rcases h.own.2 with ⟨rfl, _⟩ | ⟨g, cap, cur, rfl, _, hg, _⟩
  · cases hj
  · cases hj; exact lt_of_block hg
theorem Jn.slice (h : Jn t sz B a X v n xs) : ∃ p c, v = .slice p n c := by
  rcases h.own.2 with ⟨rfl, h0⟩ | ⟨g', c, cur, rfl, _⟩
  · exact ⟨none, 0, by rw [h0]⟩
  · exact ⟨_, c, rfl⟩
theorem Fr.over (h : Fr B X v b t' l) (hb : Below X.heap.size X Y) : Fr B Y v b t' l := ⟨h.blk.over hb, h.ge, h.ne⟩
theorem Fr.new (h : Jn t sz B a X v n xs) (c : Array Value) : Fr B (X.alloc (Obj.cells c t')) v X.heap.size t' c.toList := ⟨blk_new X c t', h.lB, fun j hj => by have := h.lt j hj; omega⟩
theorem Fr.row (h : Fr B X v b t' l) (o : Obj) (n c : Nat) : Fr B (X.alloc o) (.slice (some ⟨X.heap.size, 0, none⟩) n c) b t' l := ⟨h.blk.alloc o, h.ge, fun j hj => by have := h.blk.lt; have e : X.heap.size = j := (by injection hj); omega⟩
theorem Fr.app (h : Fr B X v b t' l) (ha : Apd t sz B X v n' xs' v' Y) : Fr B Y v' b t' l := by
  refine ⟨?_, h.ge, fun j hj => ?_⟩
  · unfold Blk
    rw [ha.2.1.block b h.blk.lt (fun e => h.ne b e.symm rfl)]
    exact h.blk
  · rcases ha.2.2 with e | e
    · exact h.ne j (e ▸ hj)
    · rw [e] at hj; have := h.blk.lt; have e : X.heap.size = j := (by injection hj); omega
theorem Jn.setRow (h : Jn t sz B a X v n xs) (hf : Fr B X v b t' l) (cs : Array Value) : Jn t sz B a (X.setRow b cs) v n xs := by
  refine ⟨⟨h.own.1, ?_⟩, h.be.trans ⟨rfl, rfl, rfl, by simp, fun k hk => setRow_other _ _ _ _ (by have := hf.ge; omega)⟩, by have := h.lB; simpa using this⟩
  rcases h.own.2 with hn | ⟨g, cap, cur, hv, hg, hh, r⟩
  · exact .inl hn
  · refine .inr ⟨g, cap, cur, hv, hg, ?_, r⟩
    rw [setRow_other _ _ _ _ (by subst hv; exact hf.ne g rfl)]
    exact hh
end

/-- a row of rules, for a reader. -/
theorem Jn.rules {B : Nat} {a X : World} {v : Value} {l : List Xr} (h : Jn 87 4 B a X v l.length (cellsX l)) (hs : ∀ x ∈ l, StrR X x.vn x.r.names ∧ CdR X x.vc x.r.conds) : RlR X v l := by
  rcases h.own.2 with ⟨rfl, h0⟩ | ⟨g, cap, cur, rfl, hb, hg, hnc, hcm, hcs, htake⟩
  · exact ⟨none, 0, by rw [h0], by omega, by decide, fun h => absurd h (by omega), hs⟩
  · refine ⟨_, cap, rfl, hnc, by unfold maxLen at hcm; omega, fun _ => ⟨g, 0, rfl, fun i x hx => ?_⟩, hs⟩
    have key : ∀ c u, c < 4 → x.cl[c]? = some u → X.cell? ⟨g, 0 + i * 4 + c, none⟩ = some u := by
      intro c u hc hu
      have := h.own.cells (g := g) rfl (i * 4 + c) u (by rw [cellsX_get l i x c hx hc]; exact hu)
      rw [add_none] at this
      rw [Nat.add_assoc]
      exact this
    exact ⟨key 0 _ (by decide) rfl, key 1 _ (by decide) rfl, key 2 _ (by decide) rfl, key 3 _ (by decide) rfl⟩
/-- a row of names, for a reader. -/
theorem Jn.names {B : Nat} {a X : World} {v : Value} {l : List ByteArray} (h : Jn 9 1 B a X v l.length (cellsB l)) : StrR X v l := by
  rcases h.own.2 with ⟨rfl, h0⟩ | ⟨g, cap, cur, rfl, hb, hg, hnc, hcm, hcs, htake⟩
  · exact ⟨none, 0, by rw [h0], by omega, by decide, fun h => absurd h (by omega)⟩
  · refine ⟨_, cap, rfl, hnc, by unfold maxLen at hcm; omega, fun _ => ⟨g, 0, rfl, fun i x hx => ?_⟩⟩
    have := h.own.cells (g := g) rfl i (.string x) (by unfold cellsB; rw [List.getElem?_map, hx]; rfl)
    rw [add_none] at this
    exact this

theorem Jn.names' {B m : Nat} {a X : World} {v : Value} {l : List ByteArray} (h : Jn 9 1 B a X v m (cellsB l)) (hm : m = l.length) : StrR X v l := by
  subst hm
  exact h.names
theorem Jn.rules' {B m : Nat} {a X : World} {v : Value} {l : List Xr} (h : Jn 87 4 B a X v m (cellsX l)) (hm : m = l.length) (hs : ∀ x ∈ l, StrR X x.vn x.r.names ∧ CdR X x.vc x.r.conds) : RlR X v l := by
  subst hm
  exact h.rules hs

end Go.Proofs.YtcckipimfgmmdaaGreatDoor.M
