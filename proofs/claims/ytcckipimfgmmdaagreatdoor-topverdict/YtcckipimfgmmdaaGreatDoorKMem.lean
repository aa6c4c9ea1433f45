/-
  Instructions in a row of the call's own: laid, appended, read.
-/
import Derived.Test.YtcckipimfgmmdaaGreatDoorKProg
import Derived.Test.YtcckipimfgmmdaaGreatDoorAValue
import Derived.Maps.AppendAt
namespace Go.Proofs.YtcckipimfgmmdaaGreatDoor
open Go.RowKit

/-- what a function tells that makes a program. -/
def Tld (w : World) (l : List V.In) (e : Ending) (w' : World) : Prop := ∃ v, e = .returned v ∧ w'.ownsRow w.heap.size 60 4 v l.length (V.cellsI l) ∧ Below w.heap.size w w'

theorem own_fresh (w : World) (base : Nat) (hb : base ≤ w.heap.size) (l : List V.In) (n : Nat) (hn : l.length = n) (hl : l.length ≤ 1000) (cs : Array Value) (hc : cs.toList = V.cellsI l) : (w.alloc (Obj.cells cs 60)).ownsRow base 60 4 (.slice (some ⟨w.heap.size, 0, none⟩) n n) n (V.cellsI l) := by
  subst hn
  have h4 := V.cellsI_length l
  have hs : cs.size = l.length * 4 := by rw [← Array.length_toList, hc, h4]
  refine ⟨h4, .inr ⟨w.heap.size, l.length, cs, rfl, hb, heap_alloc_new _ _, Nat.le_refl _, by unfold maxLen; omega, hs, ?_⟩⟩
  rw [hc, List.take_of_length_le (by omega)]

theorem own_in (w : World) (base : Nat) (hb : base ≤ w.heap.size) (c t f k : Int) (g : Nat) (hg : g = w.heap.size) : (w.alloc (Obj.cells #[.int .u16 c, .int .u8 t, .int .u8 f, .int .u32 k] 60)).ownsRow base 60 4 (.slice (some ⟨g, 0, none⟩) 1 1) 1 (V.cellsI [⟨c, t, f, k⟩]) := by
  subst hg
  exact own_fresh w base hb [⟨c, t, f, k⟩] 1 rfl (by simp) _ rfl
theorem own_in2 (w : World) (base : Nat) (hb : base ≤ w.heap.size) (c t f k c' t' f' k' : Int) (g : Nat) (hg : g = w.heap.size) : (w.alloc (Obj.cells #[.int .u16 c, .int .u8 t, .int .u8 f, .int .u32 k, .int .u16 c', .int .u8 t', .int .u8 f', .int .u32 k'] 60)).ownsRow base 60 4 (.slice (some ⟨g, 0, none⟩) 2 2) 2 (V.cellsI [⟨c, t, f, k⟩, ⟨c', t', f', k'⟩]) := by
  subst hg
  exact own_fresh w base hb [⟨c, t, f, k⟩, ⟨c', t', f', k'⟩] 2 rfl (by simp) _ rfl
theorem own_slice {w : World} {base sz : Nat} {t : TypeId} {v : Value} {n : Nat} {xs : List Value} (h : w.ownsRow base t sz v n xs) : ∃ a cap, v = .slice a n cap := by
  rcases h.2 with ⟨rfl, rfl⟩ | ⟨g, cap, cur, rfl, _⟩
  · exact ⟨none, 0, rfl⟩
  · exact ⟨_, cap, rfl⟩
theorem own_nil (w : World) (base : Nat) : w.ownsRow base 60 4 (.slice none 0 0) 0 (V.cellsI []) := ⟨by simp [V.cellsI], .inl ⟨rfl, rfl⟩⟩

/-- two rows that do not share a block. -/
def Apart (v u : Value) : Prop := ∀ j, v.ownBlock = some j → u.ownBlock ≠ some j

/-- what an append to a row leaves. -/
structure Grw (X Y : World) (base : Nat) (v v' : Value) (n : Nat) (l : List V.In) : Prop where
  own : Y.ownsRow base 60 4 v' n (V.cellsI l)
  grown : X.grownBy Y v.ownBlock
  blk : v'.ownBlock = v.ownBlock ∨ v'.ownBlock = some X.heap.size

/-- a row appended to a row of the call's own. -/
theorem run_app {w : World} (ty : TypeId) (base : Nat) (v : Value) (n : Nat) (l : List V.In) (hown : w.ownsRow base 60 4 v n (V.cellsI l))
    (base2 : Nat) (v2 : Value) (m : Nat) (k : List V.In) (hown2 : w.ownsRow base2 60 4 v2 m (V.cellsI k)) (hn : n + m ≤ 100000) (hbase : base ≤ w.heap.size) :
    ∃ v' w', (Builtin.append_ #[30, 30] ty #[v, v2]).run Tryz.prog w = .ok v' w' ∧ Grw w w' base v v' (n + m) (l ++ k) := by
  obtain ⟨i0, hi, hz0, hz1, hz2⟩ := info_parts V.Tryz.info60
  rcases hown2.2 with ⟨rfl, rfl⟩ | ⟨g, cap, cur, rfl, _⟩
  · have hk : k = [] := by
      have := hown2.1
      rw [V.cellsI_length] at this
      exact List.eq_nil_of_length_eq_zero (by omega)
    subst hk
    refine ⟨v, w, ?_, ⟨by simpa using hown, V.grow_refl _ _, .inl rfl⟩⟩
    exact run_append_owned_none w base 30 ty 60 i0 4 Tryz.underlying30 hi v n (V.cellsI l) hown
  · obtain ⟨v', w', h0, h1, h2, _, h4⟩ := run_append_own_at (P := Tryz.prog) w base 30 ty 60 i0 _ 4 8 Tryz.underlying30 hi hz0 hz1 hz2 rfl (by decide) v n (V.cellsI l) hown ⟨g, 0, none⟩ m cap (V.cellsI k) hown2.1 (hown2.cells (g := g) rfl) (V.cellsI_kind k) (by unfold maxLen; omega) (by omega) hbase
    exact ⟨v', w', h0, ⟨by rw [V.cellsI_app]; exact h1, h2, h4⟩⟩
theorem app_rows {w : World} {ops : Array Oper} {rest : List Oper} {o : Oper} {a : Act} {Q : Exit → Act → World → Prop} (hgd : o.guard = none) (s x : Operand)
    (ho : o.op = .call { callee := .builtin .append, args := #[s, x], argTypes := #[30, 30] })
    (base : Nat) (v : Value) (n : Nat) (l : List V.In) (hs : a.eval s = v) (hown : w.ownsRow base 60 4 v n (V.cellsI l))
    (base2 : Nat) (v2 : Value) (m : Nat) (k : List V.In) (hx : a.eval x = v2) (hown2 : w.ownsRow base2 60 4 v2 m (V.cellsI k))
    (hn : n + m ≤ 100000) (hbase : base ≤ w.heap.size)
    (h : ∀ v' w', Grw w w' base v v' (n + m) (l ++ k) → wpList Tryz.prog ops Q rest (a.put o.dst v') w') : wpList Tryz.prog ops Q (o :: rest) a w := by
  obtain ⟨v', w', hrun, hG⟩ := run_app o.type base v n l hown base2 v2 m k hown2 hn hbase
  refine wpList_plain hgd fun K hK => ?_
  unfold Oper.wp execOp
  simp only [ho, resolve, invoke, builtin, Sem.run_bind, Sem.run_pure, Result.andThen_ok, List.map_toArray, List.map_cons, List.map_nil, hs, hx, hrun]
  exact hK _ _ (h v' w' hG)
theorem step_rows {w : World} {ops : Array Oper} {o : Oper} {a : Act} {K : Act → World → Prop} {Q : Exit → Act → World → Prop} {E : Prop} (hgd : o.guard = none) (s x : Operand)
    (ho : o.op = .call { callee := .builtin .append, args := #[s, x], argTypes := #[30, 30] })
    (base : Nat) (v : Value) (n : Nat) (l : List V.In) (hs : a.eval s = v) (hown : w.ownsRow base 60 4 v n (V.cellsI l))
    (base2 : Nat) (v2 : Value) (m : Nat) (k : List V.In) (hx : a.eval x = v2) (hown2 : w.ownsRow base2 60 4 v2 m (V.cellsI k))
    (hn : n + m ≤ 100000) (hbase : base ≤ w.heap.size)
    (h : ∀ v' w', Grw w w' base v v' (n + m) (l ++ k) → K (a.put o.dst v') w') :
    if Region.wanted o (yielded ops a.tmps) = true then Oper.wp Tryz.prog o a w K Q else E := by
  rw [if_pos (by simp [Region.wanted, hgd])]
  obtain ⟨v', w', hrun, hG⟩ := run_app o.type base v n l hown base2 v2 m k hown2 hn hbase
  unfold Oper.wp execOp
  simp only [ho, resolve, invoke, builtin, Sem.run_bind, Sem.run_pure, Result.andThen_ok, List.map_toArray, List.map_cons, List.map_nil, hs, hx, hrun]
  exact h _ _ hG
theorem Grw.below {X Y : World} {base : Nat} {v v' : Value} {n : Nat} {l : List V.In} (h : Grw X Y base v v' n l) {w : World} {n0 : Nat} {l0 : List V.In} (hown : X.ownsRow base 60 4 v n0 (V.cellsI l0)) (hb : Below base w X) (hB : base ≤ X.heap.size) : Below base w Y :=
  hb.grown h.grown hB (V.owns_block hown)
/-- another row stays. -/
theorem Grw.kept {X Y : World} {base b2 : Nat} {v v' u : Value} {n m : Nat} {l : List V.In} {xs : List Value} (h : Grw X Y base v v' n l) (hu : X.ownsRow b2 60 4 u m xs) (ha : Apart v u) : Y.ownsRow b2 60 4 u m xs ∧ Apart v' u := by
  refine ⟨hu.kept h.grown ?_, fun j hj e => ?_⟩
  · cases hq : u.ownBlock with
    | none => exact .inl rfl
    | some j => exact .inr fun e => ha j e.symm hq
  · rcases h.blk with hb | hb
    · exact ha j (hb ▸ hj) e
    · rw [hb] at hj
      cases hj
      have := V.own_lt hu _ e
      omega

/-- an instruction as it lies in a cell that is handed back. -/
def cI (x : V.In) : Array Value := #[.int .u16 x.c, .int .u8 x.t, .int .u8 x.f, .int .u32 x.k]
theorem cellsI_one (x : V.In) : V.cellsI [x] = (cI x).toList := rfl

theorem at_op {P : Program} {ops : Array Oper} {Q : Exit → Act → World → Prop} {rest : List Oper} {o : Oper} {a : Act} {w : World} (op : Op) (_ho : o.op = op) (h : wpList P ops Q (o :: rest) a w) : wpList P ops Q (o :: rest) a w := h
theorem below_setRow {B : Nat} {a w : World} (h : Below B a w) {g : Nat} (hg : B ≤ g) (cs : Array Value) : Below B a (w.setRow g cs) := M.below_setRow h hg cs
theorem below_new (w : World) (o : Obj) : Below w.heap.size w (w.alloc o) := (Below.refl _ _).alloc (Nat.le_refl _) _
theorem below_two (w : World) (o p : Obj) : Below w.heap.size w ((w.alloc o).alloc p) := (below_new w o).alloc (below_new w o).size _
theorem size78 (x : V.In) : (Tryz.prog.info? 60).map (·.size) = some (cI x).size := by show (Tryz.prog.info? 60).map (·.size) = some 4; kernel_rfl
theorem cI_one (x : V.In) : (cI x).all (·.oneCell') = true := by simp [cI, Value.oneCell']

end Go.Proofs.YtcckipimfgmmdaaGreatDoor
