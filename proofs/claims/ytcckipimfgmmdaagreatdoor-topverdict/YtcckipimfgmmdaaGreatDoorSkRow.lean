/-
  Instructions in a row of the call's own: laid, appended, read; rows of rows.
-/
import Derived.Test.YtcckipimfgmmdaaGreatDoorSkMem
import Derived.Test.YtcckipimfgmmdaaGreatDoorVVGo
import Derived.Maps.AppendAt
import Derived.Laws.AppendOwnNone
namespace Go.Proofs.YtcckipimfgmmdaaGreatDoor.S
open Go.RowKit

/-- what a function tells that makes a program. -/
def Tld (w : World) (l : List V.In) (e : Ending) (w' : World) : Prop := ∃ v, e = .returned v ∧ w'.ownsRow w.heap.size 60 4 v l.length (V.cellsI l) ∧ Below w.heap.size w w'

theorem own_fresh (w : World) (base : Nat) (hb : base ≤ w.heap.size) (l : List V.In) (n : Nat) (hn : l.length = n) (hl : l.length ≤ 1000) (cs : Array Value) (hc : cs.toList = V.cellsI l) : (w.alloc (Obj.cells cs 60)).ownsRow base 60 4 (.slice (some ⟨w.heap.size, 0, none⟩) n n) n (V.cellsI l) := by
  subst hn
  have h4 := V.cellsI_length l
  have hs : cs.size = l.length * 4 := by rw [← Array.length_toList, hc, h4]
  refine ⟨h4, .inr ⟨w.heap.size, l.length, cs, rfl, hb, heap_alloc_new _ _, Nat.le_refl _, by unfold maxLen; omega, hs, ?_⟩⟩
  rw [hc, List.take_of_length_le (by omega)]

theorem own_in (w : World) (base : Nat) (hb : base ≤ w.heap.size) (c t f k : Int) (g : Nat) (hg : g = w.heap.size) : (w.alloc (Obj.cells #[.int .u16 c, .int .u8 t, .int .u8 f, .int .u32 k] 60)).ownsRow base 60 4 (.slice (some ⟨g, 0, none⟩) 1 1) 1 (V.cellsI [⟨c, t, f, k⟩]) := by
  subst hg
  exact own_fresh w base hb [⟨c, t, f, k⟩] 1 rfl (by simp) _ rfl
theorem own_in2 (w : World) (base : Nat) (hb : base ≤ w.heap.size) (c t f k c' t' f' k' : Int) (g : Nat) (hg : g = w.heap.size) : (w.alloc (Obj.cells #[.int .u16 c, .int .u8 t, .int .u8 f, .int .u32 k, .int .u16 c', .int .u8 t', .int .u8 f', .int .u32 k'] 60)).ownsRow base 60 4 (.slice (some ⟨g, 0, none⟩) 2 2) 2 (V.cellsI [⟨c, t, f, k⟩, ⟨c', t', f', k'⟩]) := by
  subst hg
  exact own_fresh w base hb [⟨c, t, f, k⟩, ⟨c', t', f', k'⟩] 2 rfl (by simp) _ rfl
theorem own_slice {w : World} {base sz : Nat} {t : TypeId} {v : Value} {n : Nat} {xs : List Value} (h : w.ownsRow base t sz v n xs) : ∃ a cap, v = .slice a n cap := by
  rcases h.2 with ⟨rfl, rfl⟩ | ⟨g, cap, cur, rfl, _⟩
  · exact ⟨none, 0, rfl⟩
  · exact ⟨_, cap, rfl⟩
theorem own_nil (w : World) (base : Nat) : w.ownsRow base 60 4 (.slice none 0 0) 0 (V.cellsI []) := ⟨by simp [V.cellsI], .inl ⟨rfl, rfl⟩⟩

/-- two rows that do not share a block. -/
def Apart (v u : Value) : Prop := ∀ j, v.ownBlock = some j → u.ownBlock ≠ some j

/-- what an append to a row leaves. -/
structure Grw (X Y : World) (base : Nat) (v v' : Value) (n : Nat) (l : List V.In) : Prop where
  own : Y.ownsRow base 60 4 v' n (V.cellsI l)
  grown : X.grownBy Y v.ownBlock
  blk : v'.ownBlock = v.ownBlock ∨ v'.ownBlock = some X.heap.size

/-- a row appended to a row of the call's own. -/
theorem run_app {w : World} (ty : TypeId) (base : Nat) (v : Value) (n : Nat) (l : List V.In) (hown : w.ownsRow base 60 4 v n (V.cellsI l))
    (base2 : Nat) (v2 : Value) (m : Nat) (k : List V.In) (hown2 : w.ownsRow base2 60 4 v2 m (V.cellsI k)) (hn : n + m ≤ 100000) (hbase : base ≤ w.heap.size) :
    ∃ v' w', (Builtin.append_ #[30, 30] ty #[v, v2]).run Tryz.prog w = .ok v' w' ∧ Grw w w' base v v' (n + m) (l ++ k) := by
  obtain ⟨i0, hi, hz0, hz1, hz2⟩ := info_parts V.Tryz.info60
  rcases hown2.2 with ⟨rfl, rfl⟩ | ⟨g, cap, cur, rfl, _⟩
  · have hk : k = [] := by
      have := hown2.1
      rw [V.cellsI_length] at this
      exact List.eq_nil_of_length_eq_zero (by omega)
    subst hk
    refine ⟨v, w, ?_, ⟨by simpa using hown, V.grow_refl _ _, .inl rfl⟩⟩
    exact run_append_owned_none w base 30 ty 60 i0 4 Tryz.underlying30 hi v n (V.cellsI l) hown
  · obtain ⟨v', w', h0, h1, h2, _, h4⟩ := run_append_own_at (P := Tryz.prog) w base 30 ty 60 i0 _ 4 8 Tryz.underlying30 hi hz0 hz1 hz2 rfl (by decide) v n (V.cellsI l) hown ⟨g, 0, none⟩ m cap (V.cellsI k) hown2.1 (hown2.cells (g := g) rfl) (V.cellsI_kind k) (by unfold maxLen; omega) (by omega) hbase
    exact ⟨v', w', h0, ⟨by rw [V.cellsI_app]; exact h1, h2, h4⟩⟩
theorem app_rows {w : World} {ops : Array Oper} {rest : List Oper} {o : Oper} {a : Act} {Q : Exit → Act → World → Prop} (hgd : o.guard = none) (s x : Operand)
    (ho : o.op = .call { callee := .builtin .append, args := #[s, x], argTypes := #[30, 30] })
    (base : Nat) (v : Value) (n : Nat) (l : List V.In) (hs : a.eval s = v) (hown : w.ownsRow base 60 4 v n (V.cellsI l))
    (base2 : Nat) (v2 : Value) (m : Nat) (k : List V.In) (hx : a.eval x = v2) (hown2 : w.ownsRow base2 60 4 v2 m (V.cellsI k))
    (hn : n + m ≤ 100000) (hbase : base ≤ w.heap.size)
    (h : ∀ v' w', Grw w w' base v v' (n + m) (l ++ k) → wpList Tryz.prog ops Q rest (a.put o.dst v') w') : wpList Tryz.prog ops Q (o :: rest) a w := by
  obtain ⟨v', w', hrun, hG⟩ := run_app o.type base v n l hown base2 v2 m k hown2 hn hbase
  refine wpList_plain hgd fun K hK => ?_
  unfold Oper.wp execOp
  simp only [ho, resolve, invoke, builtin, Sem.run_bind, Sem.run_pure, Result.andThen_ok, List.map_toArray, List.map_cons, List.map_nil, hs, hx, hrun]
  exact hK _ _ (h v' w' hG)
theorem step_rows {w : World} {ops : Array Oper} {o : Oper} {a : Act} {K : Act → World → Prop} {Q : Exit → Act → World → Prop} {E : Prop} (hgd : o.guard = none) (s x : Operand)
    (ho : o.op = .call { callee := .builtin .append, args := #[s, x], argTypes := #[30, 30] })
    (base : Nat) (v : Value) (n : Nat) (l : List V.In) (hs : a.eval s = v) (hown : w.ownsRow base 60 4 v n (V.cellsI l))
    (base2 : Nat) (v2 : Value) (m : Nat) (k : List V.In) (hx : a.eval x = v2) (hown2 : w.ownsRow base2 60 4 v2 m (V.cellsI k))
    (hn : n + m ≤ 100000) (hbase : base ≤ w.heap.size)
    (h : ∀ v' w', Grw w w' base v v' (n + m) (l ++ k) → K (a.put o.dst v') w') :
    if Region.wanted o (yielded ops a.tmps) = true then Oper.wp Tryz.prog o a w K Q else E := by
  rw [if_pos (by simp [Region.wanted, hgd])]
  obtain ⟨v', w', hrun, hG⟩ := run_app o.type base v n l hown base2 v2 m k hown2 hn hbase
  unfold Oper.wp execOp
  simp only [ho, resolve, invoke, builtin, Sem.run_bind, Sem.run_pure, Result.andThen_ok, List.map_toArray, List.map_cons, List.map_nil, hs, hx, hrun]
  exact h _ _ hG
theorem Grw.below {X Y : World} {base : Nat} {v v' : Value} {n : Nat} {l : List V.In} (h : Grw X Y base v v' n l) {w : World} {n0 : Nat} {l0 : List V.In} (hown : X.ownsRow base 60 4 v n0 (V.cellsI l0)) (hb : Below base w X) (hB : base ≤ X.heap.size) : Below base w Y :=
  hb.grown h.grown hB (V.owns_block hown)
/-- another row stays. -/
theorem Grw.kept {X Y : World} {base b2 : Nat} {v v' u : Value} {n m : Nat} {l : List V.In} {xs : List Value} (h : Grw X Y base v v' n l) (hu : X.ownsRow b2 60 4 u m xs) (ha : Apart v u) : Y.ownsRow b2 60 4 u m xs ∧ Apart v' u := by
  refine ⟨hu.kept h.grown ?_, fun j hj e => ?_⟩
  · cases hq : u.ownBlock with
    | none => exact .inl rfl
    | some j => exact .inr fun e => ha j e.symm hq
  · rcases h.blk with hb | hb
    · exact ha j (hb ▸ hj) e
    · rw [hb] at hj
      cases hj
      have := V.own_lt hu _ e
      omega

theorem below_new (w : World) (o : Obj) : Below w.heap.size w (w.alloc o) := (Below.refl _ _).alloc (Nat.le_refl _) _
theorem own_over {X Y : World} {b sz : Nat} {t : TypeId} {v : Value} {n : Nat} {xs : List Value} (h : X.ownsRow b t sz v n xs) (hb : Below X.heap.size X Y) : Y.ownsRow b t sz v n xs := V.owns_below h hb (Nat.le_refl _)

/-- rows of unlike types lie apart. -/
theorem own_ne {X : World} {b c s s' : Nat} {t t' : TypeId} {v u : Value} {n m : Nat} {xs ys : List Value} (ht : t ≠ t') (h : X.ownsRow b t s v n xs) (h' : X.ownsRow c t' s' u m ys) : v.ownBlock = none ∨ v.ownBlock ≠ u.ownBlock := by
  rcases h.2 with ⟨rfl, _⟩ | ⟨g, cap, cur, rfl, _, hg, _⟩
  · exact .inl rfl
  · rcases h'.2 with ⟨rfl, _⟩ | ⟨g', cap', cur', rfl, _, hg', _⟩
    · exact .inr (by intro e; cases e)
    · refine .inr fun e => ?_
      have e2 : g = g' := by simpa [Value.ownBlock] using e
      subst e2
      rw [hg] at hg'
      simp at hg'
      exact ht hg'.2

/-- a slice of filters, of the call's own. -/
theorem Tryz.infoFil : (Tryz.prog.info? 30).map (fun i => (i.zero, i.size, i.bytes)) = some (some (.slice none 0 0), 1, 24) := by kernel_rfl
structure GrwF (X Y : World) (base : Nat) (v v' : Value) (n : Nat) (vs : List Value) : Prop where
  own : Y.ownsRow base 30 1 v' n vs
  grown : X.grownBy Y v.ownBlock
  blk : v'.ownBlock = v.ownBlock ∨ v'.ownBlock = some X.heap.size
/-- how much filters cost. -/
def costL (ls : List (List V.In)) : Nat := (ls.map fun l => l.length + 4).sum
theorem costL_step {ls : List (List V.In)} {i : Nat} (h : i < ls.length) : costL (ls.take (i + 1)) = costL (ls.take i) + (ls[i].length + 4) := by
  unfold costL
  rw [List.take_succ_eq_append_getElem h, List.map_append, List.sum_append]
  simp
/-- a stack attaches a filter: the error, and the filters then. -/
def attE (ls : List (List V.In)) (l : List V.In) : Int := if (V.chk l).1 = 0 then (if 32 ≤ ls.length ∨ 32768 < costL ls + (l.length + 4) then 16 else 0) else (V.chk l).1
def attL (ls : List (List V.In)) (l : List V.In) : List (List V.In) := if attE ls l = 0 then ls ++ [l] else ls

end Go.Proofs.YtcckipimfgmmdaaGreatDoor.S
