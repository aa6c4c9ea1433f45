/-
  Rows of texts: cut, appended to.
-/
import Derived.Test.YtilemgpopjlchaaDoorMem
import Derived.Test.YtilemgpopjlchaaDoorMath
import Derived.Maps.AppendAt
import Derived.Deep.MidRow
import Derived.OpenShut
import Derived.ProofKit
import Derived.Deep.Slices
import Derived.Deep.Fields
namespace Go.Proofs.YtilemgpopjlchaaDoor
open Go.ChangeShapes Go.WideShapes Go.ChangeAt Go.RowKit Go.Deep

/-- a type of slices of texts. -/
structure Ety (ts e : TypeId) (z : Value) : Prop where
  ht : Tryd.prog.underlying ts = some (.slice e)
  el : Tryd.prog.elem ts = e
  info : (Tryd.prog.info? e).map (fun i => (i.zero, i.size, i.bytes)) = some (some z, 1, 16)
  zc : z.cells.size = 1
  sz : ∀ w, (sizeOf e).run Tryd.prog w = .ok 1 w
theorem ety_s : Ety 52 9 (.string ⟨#[]⟩) := ⟨Tryd.underlying52, by kernel_rfl, by kernel_rfl, rfl, Tryd.sizeOf9⟩

/-- cells that a slice leads to. -/
def Sc (W : World) (x : Value) (ys : List Value) : Prop := ∃ ao c, x = .slice ao ys.length c ∧ (ao = none → ys = [] ∧ c = 0) ∧ ∀ a, ao = some a → ∀ j u, ys[j]? = some u → W.cell? (a.add j) = some u
theorem Sc.over {W W' : World} {x : Value} {ys : List Value} (h : Sc W x ys) (hb : Below W.heap.size W W') : Sc W' x ys := by
  obtain ⟨ao, c, rfl, h1, h2⟩ := h
  refine ⟨ao, c, rfl, h1, fun a e j u hu => ?_⟩
  have h3 := h2 a e j u hu
  rw [World.cell?_of_block (a := a.add j) (hb.block _ (World.block_lt_of_cell? W _ h3))]
  exact h3
theorem sc_row {W : World} {base : Nat} {e : TypeId} {v : Value} {n : Nat} {xs : List Value} (h : W.ownsRow base e 1 v n xs) : Sc W v xs := by
  have hn : xs.length = n := by have := h.1; omega
  subst hn
  rcases h.2 with ⟨rfl, h0⟩ | ⟨g, cap, cur, rfl, _⟩
  · have : xs = [] := List.eq_nil_of_length_eq_zero h0
    subst this
    exact ⟨none, 0, rfl, fun _ => ⟨rfl, rfl⟩, fun a e => by cases e⟩
  · exact ⟨some ⟨g, 0, none⟩, cap, rfl, fun e => (by cases e), fun a e => by cases e; exact h.cells (g := g) rfl⟩
theorem Sc.form {W : World} {x : Value} {ys : List Value} (h : Sc W x ys) : ∃ p c, x = .slice p ys.length c := by obtain ⟨p, c, e, _⟩ := h; exact ⟨p, c, e⟩

/-- cut from above. -/
theorem cut_hi {ts e : TypeId} {z : Value} (E : Ety ts e z) {W : World} {base n : Nat} {v : Value} {xs : List Value} (h : W.ownsRow base e 1 v n xs) (i : Nat) (hi : i ≤ n) :
    ∃ x, Sc W x (xs.take i) ∧ ∀ w, (Instr.sliceAt ts v none (some (.int .i64 i)) none).run Tryd.prog w = .ok x w := by
  have hn : xs.length = n := by have := h.1; omega
  have hu : Tryd.prog.underlying ts = some (.slice (Tryd.prog.elem ts)) := by rw [E.el]; exact E.ht
  rcases id h.2 with ⟨rfl, h0⟩ | ⟨g, cap, cur, rfl, _, _, hc, _⟩
  · obtain rfl : i = 0 := by omega
    refine ⟨.slice none 0 0, ⟨none, 0, by simp, fun _ => ⟨by simp, rfl⟩, fun a e => by cases e⟩, fun w => ?_⟩
    rw [run_sliceAt_slice w ts _ _ _ _ hu, run_slice_h w ts _ _ _ hu .i64 ((0 : Nat) : Int) (by omega) (by omega), E.el, E.sz]
    simp [Result.andThen, sliced]
  · refine ⟨.slice (some ⟨g, 0, none⟩) i cap, ⟨_, cap, by rw [List.length_take, hn, Nat.min_eq_left hi], fun e => (by cases e), fun a e j u hu => ?_⟩, fun w => ?_⟩
    · cases e
      exact h.cells (g := g) rfl j u (by
        rw [List.getElem?_take] at hu
        split at hu
        · exact hu
        · cases hu)
    · rw [run_sliceAt_slice w ts _ _ _ _ hu, run_slice_h w ts _ _ _ hu .i64 i (by omega) (by omega), E.el, E.sz]
      simp only [Result.andThen_ok, sliced, Int.toNat_natCast, Nat.sub_zero, Nat.zero_mul]
      by_cases h0 : cap = 0
      · rw [if_pos h0]
      · rw [if_neg h0, Option.map_some, Addr.add_lit, Nat.add_zero]
/-- cut from below. -/
theorem cut_lo {ts e : TypeId} {z : Value} (E : Ety ts e z) {W : World} {base n : Nat} {v : Value} {xs : List Value} (h : W.ownsRow base e 1 v n xs) (i : Nat) (hi : i ≤ n) :
    ∃ x, Sc W x (xs.drop i) ∧ ∀ w, (Instr.sliceAt ts v (some (.int .i64 i)) none none).run Tryd.prog w = .ok x w := by
  have hn : xs.length = n := by have := h.1; omega
  have hu : Tryd.prog.underlying ts = some (.slice (Tryd.prog.elem ts)) := by rw [E.el]; exact E.ht
  rcases id h.2 with ⟨rfl, h0⟩ | ⟨g, cap, cur, rfl, _, _, hc, _⟩
  · obtain rfl : i = 0 := by omega
    have hx : xs = [] := List.eq_nil_of_length_eq_zero (by omega)
    subst hx
    refine ⟨.slice none 0 0, ⟨none, 0, by simp, fun _ => ⟨by simp, rfl⟩, fun a e => by cases e⟩, fun w => ?_⟩
    rw [run_sliceAt_slice w ts _ _ _ _ hu, run_slice_l w ts _ _ _ hu .i64 ((0 : Nat) : Int) (by omega) (by omega), E.el, E.sz]
    simp [Result.andThen, sliced]
  · refine ⟨sliced (some ⟨g, 0, none⟩) i n cap 1, ?_, fun w => ?_⟩
    · unfold sliced
      by_cases h0 : cap = i
      · rw [if_pos h0]
        refine ⟨_, cap - i, by rw [List.length_drop, hn], fun e => (by cases e), fun a e j u hu => ?_⟩
        have : xs.drop i = [] := List.drop_of_length_le (by omega)
        rw [this] at hu
        cases hu
      · rw [if_neg h0, Option.map_some, Nat.mul_one, Addr.add_lit, Nat.zero_add]
        refine ⟨_, cap - i, by rw [List.length_drop, hn], fun e => (by cases e), fun a e j u hu => ?_⟩
        cases e
        rw [List.getElem?_drop] at hu
        have := h.cells (g := g) rfl (i + j) u hu
        rw [Addr.add_lit, Nat.zero_add] at this
        rw [Addr.add_lit]
        exact this
    · rw [run_sliceAt_slice w ts _ _ _ _ hu, run_slice_l w ts _ _ _ hu .i64 i (by omega) (by omega), E.el, E.sz]
      rfl

/-- what an append tells. -/
structure App (e : TypeId) (base : Nat) (w w' : World) (v v' : Value) (xs : List Value) : Prop where
  own : w'.ownsRow base e 1 v' xs.length xs
  grow : w.grownBy w' v.ownBlock
  at' : v'.ownBlock = v.ownBlock ∨ v'.ownBlock = some w.heap.size
theorem run_app {ts e : TypeId} {z : Value} (E : Ety ts e z) {W : World} {base n : Nat} {v x : Value} {xs ys : List Value} (h : W.ownsRow base e 1 v n xs) (hs : Sc W x ys) (h1 : ∀ u ∈ ys, u.oneCell' = true) (hb : n + ys.length ≤ 100000) (hbase : base ≤ W.heap.size) (ty : TypeId) :
    ∃ v' w', (Builtin.append_ #[ts, ts] ty #[v, x]).run Tryd.prog W = .ok v' w' ∧ App e base W w' v v' (xs ++ ys) := by
  have hn : xs.length = n := by have := h.1; omega
  obtain ⟨i0, hi, hz0, hz1, hz2⟩ := info_parts E.info
  obtain ⟨ao, c, rfl, hnil, hc⟩ := hs
  cases ao with
  | none =>
    obtain ⟨hy, rfl⟩ := hnil rfl
    subst hy
    exact ⟨v, W, run_append_owned_none (P := Tryd.prog) W base ts ty e i0 1 E.ht hi v n xs h, ⟨by rw [List.append_nil, hn]; exact h, ⟨rfl, rfl, rfl, Nat.le_refl _, fun _ _ _ => rfl⟩, .inl rfl⟩⟩
  | some a =>
    obtain ⟨v', w', q0, q1, q2, _, q4⟩ := run_append_own_at (P := Tryd.prog) W base ts ty e i0 z 1 16 E.ht hi hz0 hz1 hz2 E.zc (by decide) v n xs h a ys.length c ys (by omega) (hc a rfl) h1 (by unfold maxLen; omega) (by omega) hbase
    exact ⟨v', w', q0, by rw [List.length_append, hn]; exact q1, q2, q4⟩
/-- at a step of a drawn region. -/
theorem step_app {ts e : TypeId} {z : Value} (E : Ety ts e z) {W : World} {ops : Array Oper} {o : Oper} {a : Act} {K : Act → World → Prop} {Q : Exit → Act → World → Prop} {F : Prop} (hgd : o.guard = none) (s x : Operand)
    (ho : o.op = .call { callee := .builtin .append, args := #[s, x], argTypes := #[ts, ts] }) {base n : Nat} {v xv : Value} {xs ys : List Value} (hv : a.eval s = v) (hx : a.eval x = xv)
    (h : W.ownsRow base e 1 v n xs) (hs : Sc W xv ys) (h1 : ∀ u ∈ ys, u.oneCell' = true) (hb : n + ys.length ≤ 100000) (hbase : base ≤ W.heap.size)
    (hk : ∀ v' w', App e base W w' v v' (xs ++ ys) → K (a.put o.dst v') w') :
    if Region.wanted o (yielded ops a.tmps) = true then Oper.wp Tryd.prog o a W K Q else F := by
  rw [if_pos (by simp [Region.wanted, hgd])]
  obtain ⟨v', w', hr, h2⟩ := run_app E h hs h1 hb hbase o.type
  unfold Oper.wp execOp
  simp only [ho, resolve, invoke, builtin, Sem.run_bind, Sem.run_pure, Result.andThen_ok, List.map_toArray, List.map_cons, List.map_nil, hv, hx, hr]
  exact hk _ _ h2
/-- in a row of operations. -/
theorem list_app {ts e : TypeId} {z : Value} (E : Ety ts e z) {W : World} {ops : Array Oper} {rest : List Oper} {o : Oper} {a : Act} {Q : Exit → Act → World → Prop} (hgd : o.guard = none) (s x : Operand)
    (ho : o.op = .call { callee := .builtin .append, args := #[s, x], argTypes := #[ts, ts] }) {base n : Nat} {v xv : Value} {xs ys : List Value} (hv : a.eval s = v) (hx : a.eval x = xv)
    (h : W.ownsRow base e 1 v n xs) (hs : Sc W xv ys) (h1 : ∀ u ∈ ys, u.oneCell' = true) (hb : n + ys.length ≤ 100000) (hbase : base ≤ W.heap.size)
    (hk : ∀ v' w', App e base W w' v v' (xs ++ ys) → wpList Tryd.prog ops Q rest (a.put o.dst v') w') : wpList Tryd.prog ops Q (o :: rest) a W := by
  refine wpList_plain hgd fun _ hK => ?_
  obtain ⟨v', w', hr, h2⟩ := run_app E h hs h1 hb hbase o.type
  unfold Oper.wp execOp
  simp only [ho, resolve, invoke, builtin, Sem.run_bind, Sem.run_pure, Result.andThen_ok, List.map_toArray, List.map_cons, List.map_nil, hv, hx, hr]
  exact hK _ _ (hk v' w' h2)
theorem App.below {e : TypeId} {base : Nat} {w0 w w' : World} {v v' : Value} {xs : List Value} (h : App e base w w' v v' xs) {n : Nat} {ys : List Value} (hv : w.ownsRow w0.heap.size e 1 v n ys) (hb : Below w0.heap.size w0 w) : Below w0.heap.size w0 w' :=
  hb.grown h.grow hb.size fun j hj => owns_block hv j hj
/-- an empty row, just made. -/
theorem row_fresh (W : World) (e : TypeId) : (W.alloc (.cells #[] e)).ownsRow W.heap.size e 1 (.slice (some ⟨W.heap.size, 0, none⟩) 0 0) 0 [] :=
  ⟨rfl, .inr ⟨W.heap.size, 0, #[], rfl, Nat.le_refl _, heap_alloc_new _ _, Nat.le_refl _, by decide, rfl, rfl⟩⟩
theorem sc_one (W : World) (x : Value) (e : TypeId) : Sc (W.alloc (.cells #[x] e)) (.slice (some ⟨W.heap.size, 0, none⟩) 1 1) [x] :=
  ⟨_, 1, rfl, fun e => (by cases e), fun a e => by cases e; exact cell_one_new _ _ _⟩

/-- names in a row. -/
def cellsT (L : List (List UInt8)) : List Value := L.map fun n => .string (bar n)
theorem cellsT_len (L : List (List UInt8)) : (cellsT L).length = L.length := by simp [cellsT]
theorem cellsT_app (L M : List (List UInt8)) : cellsT (L ++ M) = cellsT L ++ cellsT M := by simp [cellsT]
theorem one_t (L : List (List UInt8)) : ∀ u ∈ cellsT L, u.oneCell' = true := by intro u hu; simp [cellsT] at hu; obtain ⟨z, _, rfl⟩ := hu; rfl
/-- names that a slice leads to. -/
def TxR (w : World) (v : Value) (L : List (List UInt8)) : Prop := Sc w v (cellsT L)
theorem TxR.over {w w' : World} {v : Value} {L : List (List UInt8)} (h : TxR w v L) (hb : Below w.heap.size w w') : TxR w' v L := Sc.over h hb
theorem TxR.form {w : World} {v : Value} {L : List (List UInt8)} (h : TxR w v L) : ∃ p c, v = .slice p L.length c := by
  obtain ⟨p, c, e⟩ := Sc.form h
  rw [cellsT_len] at e
  exact ⟨p, c, e⟩
theorem TxR.at {w : World} {p : Option Addr} {n c k : Nat} {L : List (List UInt8)} (h : TxR w (.slice p n c) L) (hk : k < L.length) : ∃ a, p = some a ∧ w.cell? (a.add k) = some (.string (bar L[k])) := by
  obtain ⟨ao, c', e, h1, h2⟩ := h
  cases e
  cases p with
  | none =>
    have := (h1 rfl).1
    have h3 := cellsT_len L
    rw [this] at h3
    simp at h3
    omega
  | some a => exact ⟨a, rfl, h2 a rfl k _ (by unfold cellsT; rw [List.getElem?_map, List.getElem?_eq_getElem hk]; rfl)⟩
theorem tx_row {w : World} {base : Nat} {v : Value} {n : Nat} {L : List (List UInt8)} (h : w.ownsRow base 9 1 v n (cellsT L)) : TxR w v L := sc_row h
theorem row_form {w : World} {base n : Nat} {v : Value} {xs : List Value} (h : w.ownsRow base 9 1 v n xs) : ∃ p c, v = .slice p n c := by
  rcases h.2 with ⟨rfl, h0⟩ | ⟨g, cap, cur, rfl, _⟩
  · exact ⟨none, 0, by rw [h0]⟩
  · exact ⟨_, cap, rfl⟩
theorem row_atT {w : World} {base n c k : Nat} {p : Option Addr} {L : List (List UInt8)} (h : w.ownsRow base 9 1 (.slice p n c) L.length (cellsT L)) (hk : k < L.length) : ∃ g, p = some ⟨g, 0, none⟩ ∧ base ≤ g ∧ w.cell? ⟨g, k, none⟩ = some (.string (bar L[k])) := by
  rcases id h.2 with ⟨e, h0⟩ | ⟨g, cap', cur, e, hg, _⟩
  · omega
  · cases e
    refine ⟨g, rfl, hg, ?_⟩
    have := h.cells (g := g) rfl k (.string (bar L[k])) (by unfold cellsT; rw [List.getElem?_map, List.getElem?_eq_getElem hk]; rfl)
    rw [Addr.add_lit, Nat.zero_add] at this
    exact this

/-- texts held against each other, as the walk lays it. -/
theorem txt_eq (l : List UInt8) (t : ByteArray) : ((bar l).toList == t.toList) = (l == lst t) := by
  rw [ByteArray.toList_eq, ByteArray.toList_eq]
  rfl
theorem ret_bool' {a b : Bool} (h : a = b) : Ending.returned (.bool a) = .returned (.bool b) := by rw [h]

end Go.Proofs.YtilemgpopjlchaaDoor
