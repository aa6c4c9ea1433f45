/-
  What may have turned behind a call; rows of numbers; notifications and calls in memory; what comes in.
-/
import Derived.Test.YtlckconhhhllkaaMem
import Derived.Test.YtlckconhhhllkaaMath
import Derived.Test.YtlckconhhhllkaaLate
import Derived.Maps.AppendAt
import Derived.Deep.MidRow
import Derived.OpenShut
import Derived.ProofKit
import Derived.Deep.Slices
import Derived.Deep.Fields
namespace Go.Proofs.Ytlckconhhhllkaa
open Go.ChangeShapes Go.WideShapes Go.ChangeAt Go.RowKit Go.Deep

theorem fr_lift {X : List Nat} {C : Nat} {w w' : World} (h : Fr [] X 0 w w') (hx : ∀ x ∈ X, C ≤ x) (hC : C ≤ w.heap.size) : Fr [] X C w w' :=
  ⟨⟨h.bel.os, h.bel.tape, h.bel.output, h.bel.size, fun k hk => by
    have hk2 : k < w.heap.size := by omega
    have e : w.heap[k]? = some w.heap[k] := Array.getElem?_eq_getElem hk2
    rw [e]
    exact h.blk k _ e (fun _ _ _ _ => by simp) fun hm => by have := hx k hm; omega⟩, h.blk⟩
/-- what lies below a bound stands, and so do all blocks of cells but those of some types (maps may turn). -/
structure Fc (L : List Nat) (B : Nat) (w w' : World) : Prop where
  bel : Below B w w'
  blk : ∀ (k : Nat) cs t fr, w.heap[k]? = some (.cells cs t fr) → t ∉ L → w'.heap[k]? = some (.cells cs t fr)
theorem Fc.refl (L : List Nat) (B : Nat) (w : World) : Fc L B w w := ⟨Below.refl _ _, fun _ _ _ _ h _ => h⟩
theorem Fc.trans {L : List Nat} {B : Nat} {u w w' : World} (h : Fc L B u w) (k : Fc L B w w') : Fc L B u w' := ⟨h.bel.trans k.bel, fun i cs t fr hi ht => k.blk i cs t fr (h.blk i cs t fr hi ht) ht⟩
theorem Fc.mono {L M : List Nat} {B C : Nat} {w w' : World} (h : Fc L B w w') (hL : ∀ t ∈ L, t ∈ M) (hB : C ≤ B) : Fc M C w w' := ⟨h.bel.mono hB, fun k cs t fr hk ht => h.blk k cs t fr hk fun m => ht (hL t m)⟩
theorem fc_below {L : List Nat} {B : Nat} {w w' : World} (h : Below w.heap.size w w') (hB : B ≤ w.heap.size) : Fc L B w w' := ⟨h.mono hB, fun k cs t fr hk _ => by rw [h.block k (lt_of_block hk)]; exact hk⟩
theorem Fr.fc {L : List Nat} {B : Nat} {w w' : World} (h : Fr L [] B w w') : Fc L B w w' := ⟨h.bel, fun k cs t fr hk ht => h.blk k _ hk (fun cs' t' fr' e => by cases e; exact ht) (by simp)⟩
theorem Blk.fc {L : List Nat} {B k : Nat} {w w' : World} {t : TypeId} {l : List Value} (h : Blk w k t l) (hs : Fc L B w w') (ht : t ∉ L) : Blk w' k t l := hs.blk k _ _ _ h ht
theorem owns_fc {L : List Nat} {B base sz : Nat} {w w' : World} {t : TypeId} {v : Value} {n : Nat} {xs : List Value} (h : w.ownsRow base t sz v n xs) (hs : Fc L B w w') (ht : t ∉ L) : w'.ownsRow base t sz v n xs := by
  refine ⟨h.1, ?_⟩
  rcases h.2 with hn | ⟨g, cap, cur, hv, hg, hh, r⟩
  · exact .inl hn
  · exact .inr ⟨g, cap, cur, hv, hg, hs.blk g _ _ _ hh ht, r⟩

/-- a type of slices of numbers. -/
structure Ety (ts e : TypeId) (z : Value) : Prop where
  ht : Try.prog.underlying ts = some (.slice e)
  el : Try.prog.elem ts = e
  info : (Try.prog.info? e).map (fun i => (i.zero, i.size, i.bytes)) = some (some z, 1, 8)
  zc : z.cells.size = 1
  sz : ∀ w, (sizeOf e).run Try.prog w = .ok 1 w
theorem ety_u : Ety 48 23 (.int .u64 0) := ⟨Try.underlying48, by kernel_rfl, by kernel_rfl, rfl, Try.sizeOf23⟩

/-- cells that a slice leads to. -/
def Sc (W : World) (x : Value) (ys : List Value) : Prop := ∃ ao c, x = .slice ao ys.length c ∧ (ao = none → ys = [] ∧ c = 0) ∧ ∀ a, ao = some a → ∀ j u, ys[j]? = some u → W.cell? (a.add j) = some u
theorem Sc.over {W W' : World} {x : Value} {ys : List Value} (h : Sc W x ys) (hb : Below W.heap.size W W') : Sc W' x ys := by
  obtain ⟨ao, c, rfl, h1, h2⟩ := h
  refine ⟨ao, c, rfl, h1, fun a e j u hu => ?_⟩
  have h3 := h2 a e j u hu
  rw [World.cell?_of_block (a := a.add j) (hb.block _ (World.block_lt_of_cell? W _ h3))]
  exact h3
theorem sc_row {W : World} {base : Nat} {e : TypeId} {v : Value} {n : Nat} {xs : List Value} (h : W.ownsRow base e 1 v n xs) : Sc W v xs := by
  have hn : xs.length = n := by have := h.1; omega
  subst hn
  rcases h.2 with ⟨rfl, h0⟩ | ⟨g, cap, cur, rfl, _⟩
  · have : xs = [] := List.eq_nil_of_length_eq_zero h0
    subst this
    exact ⟨none, 0, rfl, fun _ => ⟨rfl, rfl⟩, fun a e => by cases e⟩
  · exact ⟨some ⟨g, 0, none⟩, cap, rfl, fun e => (by cases e), fun a e => by cases e; exact h.cells (g := g) rfl⟩
theorem Sc.form {W : World} {x : Value} {ys : List Value} (h : Sc W x ys) : ∃ p c, x = .slice p ys.length c := by obtain ⟨p, c, e, _⟩ := h; exact ⟨p, c, e⟩

/-- cut from above. -/
theorem cut_hi {ts e : TypeId} {z : Value} (E : Ety ts e z) {W : World} {base n : Nat} {v : Value} {xs : List Value} (h : W.ownsRow base e 1 v n xs) (i : Nat) (hi : i ≤ n) :
    ∃ x, Sc W x (xs.take i) ∧ ∀ w, (Instr.sliceAt ts v none (some (.int .i64 i)) none).run Try.prog w = .ok x w := by
  have hn : xs.length = n := by have := h.1; omega
  have hu : Try.prog.underlying ts = some (.slice (Try.prog.elem ts)) := by rw [E.el]; exact E.ht
  rcases id h.2 with ⟨rfl, h0⟩ | ⟨g, cap, cur, rfl, _, _, hc, _⟩
  · obtain rfl : i = 0 := by omega
    refine ⟨.slice none 0 0, ⟨none, 0, by simp, fun _ => ⟨by simp, rfl⟩, fun a e => by cases e⟩, fun w => ?_⟩
    rw [run_sliceAt_slice w ts _ _ _ _ hu, run_slice_h w ts _ _ _ hu .i64 ((0 : Nat) : Int) (by omega) (by omega), E.el, E.sz]
    simp [Result.andThen, sliced]
  · refine ⟨.slice (some ⟨g, 0, none⟩) i cap, ⟨_, cap, by rw [List.length_take, hn, Nat.min_eq_left hi], fun e => (by cases e), fun a e j u hu => ?_⟩, fun w => ?_⟩
    · cases e
      exact h.cells (g := g) rfl j u (by
        rw [List.getElem?_take] at hu
        split at hu
        · exact hu
        · cases hu)
    · rw [run_sliceAt_slice w ts _ _ _ _ hu, run_slice_h w ts _ _ _ hu .i64 i (by omega) (by omega), E.el, E.sz]
      simp only [Result.andThen_ok, sliced, Int.toNat_natCast, Nat.sub_zero, Nat.zero_mul]
      by_cases h0 : cap = 0
      · rw [if_pos h0]
      · rw [if_neg h0, Option.map_some, Addr.add_lit, Nat.add_zero]
/-- cut from below. -/
theorem cut_lo {ts e : TypeId} {z : Value} (E : Ety ts e z) {W : World} {base n : Nat} {v : Value} {xs : List Value} (h : W.ownsRow base e 1 v n xs) (i : Nat) (hi : i ≤ n) :
    ∃ x, Sc W x (xs.drop i) ∧ ∀ w, (Instr.sliceAt ts v (some (.int .i64 i)) none none).run Try.prog w = .ok x w := by
  have hn : xs.length = n := by have := h.1; omega
  have hu : Try.prog.underlying ts = some (.slice (Try.prog.elem ts)) := by rw [E.el]; exact E.ht
  rcases id h.2 with ⟨rfl, h0⟩ | ⟨g, cap, cur, rfl, _, _, hc, _⟩
  · obtain rfl : i = 0 := by omega
    have hx : xs = [] := List.eq_nil_of_length_eq_zero (by omega)
    subst hx
    refine ⟨.slice none 0 0, ⟨none, 0, by simp, fun _ => ⟨by simp, rfl⟩, fun a e => by cases e⟩, fun w => ?_⟩
    rw [run_sliceAt_slice w ts _ _ _ _ hu, run_slice_l w ts _ _ _ hu .i64 ((0 : Nat) : Int) (by omega) (by omega), E.el, E.sz]
    simp [Result.andThen, sliced]
  · refine ⟨sliced (some ⟨g, 0, none⟩) i n cap 1, ?_, fun w => ?_⟩
    · unfold sliced
      by_cases h0 : cap = i
      · rw [if_pos h0]
        refine ⟨_, cap - i, by rw [List.length_drop, hn], fun e => (by cases e), fun a e j u hu => ?_⟩
        have : xs.drop i = [] := List.drop_of_length_le (by omega)
        rw [this] at hu
        cases hu
      · rw [if_neg h0, Option.map_some, Nat.mul_one, Addr.add_lit, Nat.zero_add]
        refine ⟨_, cap - i, by rw [List.length_drop, hn], fun e => (by cases e), fun a e j u hu => ?_⟩
        cases e
        rw [List.getElem?_drop] at hu
        have := h.cells (g := g) rfl (i + j) u hu
        rw [Addr.add_lit, Nat.zero_add] at this
        rw [Addr.add_lit]
        exact this
    · rw [run_sliceAt_slice w ts _ _ _ _ hu, run_slice_l w ts _ _ _ hu .i64 i (by omega) (by omega), E.el, E.sz]
      rfl

/-- what an append tells. -/
structure App (e : TypeId) (base : Nat) (w w' : World) (v v' : Value) (xs : List Value) : Prop where
  own : w'.ownsRow base e 1 v' xs.length xs
  grow : w.grownBy w' v.ownBlock
  at' : v'.ownBlock = v.ownBlock ∨ v'.ownBlock = some w.heap.size
theorem run_app {ts e : TypeId} {z : Value} (E : Ety ts e z) {W : World} {base n : Nat} {v x : Value} {xs ys : List Value} (h : W.ownsRow base e 1 v n xs) (hs : Sc W x ys) (h1 : ∀ u ∈ ys, u.oneCell' = true) (hb : n + ys.length ≤ 100000) (hbase : base ≤ W.heap.size) (ty : TypeId) :
    ∃ v' w', (Builtin.append_ #[ts, ts] ty #[v, x]).run Try.prog W = .ok v' w' ∧ App e base W w' v v' (xs ++ ys) := by
  have hn : xs.length = n := by have := h.1; omega
  obtain ⟨i0, hi, hz0, hz1, hz2⟩ := info_parts E.info
  obtain ⟨ao, c, rfl, hnil, hc⟩ := hs
  cases ao with
  | none =>
    obtain ⟨hy, rfl⟩ := hnil rfl
    subst hy
    exact ⟨v, W, run_append_owned_none (P := Try.prog) W base ts ty e i0 1 E.ht hi v n xs h, ⟨by rw [List.append_nil, hn]; exact h, ⟨rfl, rfl, rfl, Nat.le_refl _, fun _ _ _ => rfl⟩, .inl rfl⟩⟩
  | some a =>
    obtain ⟨v', w', q0, q1, q2, _, q4⟩ := run_append_own_at (P := Try.prog) W base ts ty e i0 z 1 8 E.ht hi hz0 hz1 hz2 E.zc (by decide) v n xs h a ys.length c ys (by omega) (hc a rfl) h1 (by unfold maxLen; omega) (by omega) hbase
    exact ⟨v', w', q0, by rw [List.length_append, hn]; exact q1, q2, q4⟩
/-- at a step of a drawn region. -/
theorem step_app {ts e : TypeId} {z : Value} (E : Ety ts e z) {W : World} {ops : Array Oper} {o : Oper} {a : Act} {K : Act → World → Prop} {Q : Exit → Act → World → Prop} {F : Prop} (hgd : o.guard = none) (s x : Operand)
    (ho : o.op = .call { callee := .builtin .append, args := #[s, x], argTypes := #[ts, ts] }) {base n : Nat} {v xv : Value} {xs ys : List Value} (hv : a.eval s = v) (hx : a.eval x = xv)
    (h : W.ownsRow base e 1 v n xs) (hs : Sc W xv ys) (h1 : ∀ u ∈ ys, u.oneCell' = true) (hb : n + ys.length ≤ 100000) (hbase : base ≤ W.heap.size)
    (hk : ∀ v' w', App e base W w' v v' (xs ++ ys) → K (a.put o.dst v') w') :
    if Region.wanted o (yielded ops a.tmps) = true then Oper.wp Try.prog o a W K Q else F := by
  rw [if_pos (by simp [Region.wanted, hgd])]
  obtain ⟨v', w', hr, h2⟩ := run_app E h hs h1 hb hbase o.type
  unfold Oper.wp execOp
  simp only [ho, resolve, invoke, builtin, Sem.run_bind, Sem.run_pure, Result.andThen_ok, List.map_toArray, List.map_cons, List.map_nil, hv, hx, hr]
  exact hk _ _ h2
/-- in a row of operations. -/
theorem list_app {ts e : TypeId} {z : Value} (E : Ety ts e z) {W : World} {ops : Array Oper} {rest : List Oper} {o : Oper} {a : Act} {Q : Exit → Act → World → Prop} (hgd : o.guard = none) (s x : Operand)
    (ho : o.op = .call { callee := .builtin .append, args := #[s, x], argTypes := #[ts, ts] }) {base n : Nat} {v xv : Value} {xs ys : List Value} (hv : a.eval s = v) (hx : a.eval x = xv)
    (h : W.ownsRow base e 1 v n xs) (hs : Sc W xv ys) (h1 : ∀ u ∈ ys, u.oneCell' = true) (hb : n + ys.length ≤ 100000) (hbase : base ≤ W.heap.size)
    (hk : ∀ v' w', App e base W w' v v' (xs ++ ys) → wpList Try.prog ops Q rest (a.put o.dst v') w') : wpList Try.prog ops Q (o :: rest) a W := by
  refine wpList_plain hgd fun _ hK => ?_
  obtain ⟨v', w', hr, h2⟩ := run_app E h hs h1 hb hbase o.type
  unfold Oper.wp execOp
  simp only [ho, resolve, invoke, builtin, Sem.run_bind, Sem.run_pure, Result.andThen_ok, List.map_toArray, List.map_cons, List.map_nil, hv, hx, hr]
  exact hK _ _ (hk v' w' h2)
theorem App.below {e : TypeId} {base : Nat} {w0 w w' : World} {v v' : Value} {xs : List Value} (h : App e base w w' v v' xs) {n : Nat} {ys : List Value} (hv : w.ownsRow w0.heap.size e 1 v n ys) (hb : Below w0.heap.size w0 w) : Below w0.heap.size w0 w' :=
  hb.grown h.grow hb.size fun j hj => owns_block hv j hj
/-- an empty row, just made. -/
theorem row_fresh (W : World) (e : TypeId) : (W.alloc (.cells #[] e)).ownsRow W.heap.size e 1 (.slice (some ⟨W.heap.size, 0, none⟩) 0 0) 0 [] :=
  ⟨rfl, .inr ⟨W.heap.size, 0, #[], rfl, Nat.le_refl _, heap_alloc_new _ _, Nat.le_refl _, by decide, rfl, rfl⟩⟩
theorem sc_one (W : World) (x : Value) (e : TypeId) : Sc (W.alloc (.cells #[x] e)) (.slice (some ⟨W.heap.size, 0, none⟩) 1 1) [x] :=
  ⟨_, 1, rfl, fun e => (by cases e), fun a e => by cases e; exact cell_one_new _ _ _⟩

theorem fr_set {L : List Nat} {B c i : Nat} {w : World} {t : TypeId} {l : List Value} {v : Value} (hb : Blk w c t l) (ht : t ∈ L) (hB : B ≤ c) : Fr L [] B w (w.setCell ⟨c, i, none⟩ v) := by
  refine ⟨⟨by simp [World.setCell], by simp [World.setCell], by simp [World.setCell], by simp, fun k hk => heap_setCell_other w ⟨c, i, none⟩ k v (fun e => by have : k = c := e; omega)⟩, fun k o hk hn _ => ?_⟩
  rw [heap_setCell_other w ⟨c, i, none⟩ k v]
  · exact hk
  · intro e
    have e2 : k = c := e
    subst e2
    unfold Blk at hb
    rw [hb] at hk
    cases hk
    exact hn _ _ _ rfl ht


theorem app_fr {e : TypeId} {base n : Nat} {w w' : World} {v v' : Value} {xs ys : List Value} (h : w.ownsRow base e 1 v n xs) (ha : App e base w w' v v' ys) (hB : base ≤ w.heap.size) : Fr [e] [] base w w' := by
  have hx : ∀ k, v.ownBlock = some k → base ≤ k ∧ ∃ cs, w.heap[k]? = some (.cells cs e (0, 0)) := fun k hk => by
    rcases h.2 with ⟨rfl, _⟩ | ⟨g, cap, cur, rfl, hg, hh, _⟩
    · cases hk
    · cases hk
      exact ⟨hg, cur, hh⟩
  refine ⟨⟨ha.grow.os, ha.grow.tape, ha.grow.output, ha.grow.size, fun k hk => ha.grow.block k (by omega) fun e2 => ?_⟩, fun k o hk ht _ => ?_⟩
  · have := (hx k e2.symm).1
    omega
  · rw [ha.grow.block k (Array.getElem?_eq_some_iff.1 hk).1 fun e2 => ?_]
    · exact hk
    · obtain ⟨_, cs, hc⟩ := hx k e2.symm
      rw [hc] at hk
      cases hk
      exact ht _ _ _ rfl (by simp)

def cellsU (l : List Int) : List Value := l.map (Value.int .u64)
theorem cellsU_len (l : List Int) : (cellsU l).length = l.length := by simp [cellsU]
theorem one_u (l : List Int) : ∀ u ∈ cellsU l, u.oneCell' = true := by intro u hu; simp [cellsU] at hu; obtain ⟨z, _, rfl⟩ := hu; rfl
theorem rowU_slice {w : World} {base : Nat} {v : Value} {ts : List Int} (h : w.ownsRow base 23 1 v ts.length (cellsU ts)) : ∃ p cap, v = .slice p ts.length cap := by
  rcases h.2 with ⟨rfl, h0⟩ | ⟨g, cap, cur, rfl, _⟩
  · exact ⟨none, 0, by rw [h0]⟩
  · exact ⟨_, cap, rfl⟩
theorem rowU_at {w : World} {base n cap : Nat} {p : Option Addr} {ts : List Int} (h : w.ownsRow base 23 1 (.slice p n cap) ts.length (cellsU ts)) {k : Nat} (hk : k < ts.length) : ∃ g, p = some ⟨g, 0, none⟩ ∧ base ≤ g ∧ w.cell? ⟨g, k, none⟩ = some (.int .u64 ts[k]) := by
  rcases id h.2 with ⟨e, h0⟩ | ⟨g, cap', cur, e, hg, _⟩
  · omega
  · cases e
    refine ⟨g, rfl, hg, ?_⟩
    have := h.cells (g := g) rfl k (.int .u64 ts[k]) (by unfold cellsU; rw [List.getElem?_map, List.getElem?_eq_getElem hk]; rfl)
    rw [Addr.add_lit, Nat.zero_add] at this
    exact this

/-- a notification as cells, and as a value. -/
def En.cells (x : En) : List Value := [.int .u64 x.id, .int .i64 x.ta, .int .i64 x.st, .int .i64 x.le, .int .i64 x.kd, .int .i64 x.vl]
def En.v (x : En) : Value := .agg #[.int .u64 x.id, .int .i64 x.ta, .int .i64 x.st, .int .i64 x.le, .int .i64 x.kd, .int .i64 x.vl]
/-- what is told of one that may be there. -/
def optV (o : Option En) : Value := .tuple #[(o.getD En.zero).v, .bool o.isSome]

/-- calls that a slice leads to. -/
def OpsR (w : World) (a : Option Addr) (len : Nat) (l : List Do) : Prop :=
  l.length = len ∧ len ≤ maxLen ∧ (∀ o ∈ l, U64 o.i) ∧ (0 < len → ∃ b o, a = some ⟨b, o, none⟩ ∧ ∀ (i : Nat) (p : Do), l[i]? = some p → w.cell? ⟨b, o + i * 5, none⟩ = some (.int .i64 p.d) ∧ w.cell? ⟨b, o + i * 5 + 1, none⟩ = some (.int .i64 p.n) ∧ w.cell? ⟨b, o + i * 5 + 2, none⟩ = some (.int .u64 p.i) ∧ w.cell? ⟨b, o + i * 5 + 3, none⟩ = some (.int .i64 p.k) ∧ w.cell? ⟨b, o + i * 5 + 4, none⟩ = some (.int .i64 p.v))
theorem OpsR.keep {w w' : World} {a : Option Addr} {len : Nat} {l : List Do} (h : OpsR w a len l) (hc : ∀ b o v, w.cell? ⟨b, o, none⟩ = some v → (∃ x, a = some x ∧ x.block = b) → w'.cell? ⟨b, o, none⟩ = some v) : OpsR w' a len l := by
  obtain ⟨h1, h2, h3, h4⟩ := h
  refine ⟨h1, h2, h3, fun h0 => ?_⟩
  obtain ⟨b, o, rfl, hx⟩ := h4 h0
  refine ⟨b, o, rfl, fun i z hi => ?_⟩
  obtain ⟨c0, c1, c2, c3, c4⟩ := hx i z hi
  have hb : ∃ x, some (⟨b, o, none⟩ : Addr) = some x ∧ x.block = b := ⟨_, rfl, rfl⟩
  exact ⟨hc _ _ _ c0 hb, hc _ _ _ c1 hb, hc _ _ _ c2 hb, hc _ _ _ c3 hb, hc _ _ _ c4 hb⟩
theorem OpsR.below {w w' : World} {a : Option Addr} {len : Nat} {l : List Do} (h : OpsR w a len l) (hb : Below w.heap.size w w') : OpsR w' a len l := h.keep fun b o v hc _ => by
  rw [hb.cell (p := ⟨b, o, none⟩) (World.block_lt_of_cell? w _ hc)]
  exact hc
theorem OpsR.at {w : World} {a : Option Addr} {len : Nat} {l : List Do} (h : OpsR w a len l) {i : Nat} (hi : i < l.length) : ∃ b o, a = some ⟨b, o, none⟩ ∧ w.cell? ⟨b, o + i * 5, none⟩ = some (.int .i64 l[i].d) ∧ w.cell? ⟨b, o + i * 5 + 1, none⟩ = some (.int .i64 l[i].n) ∧ w.cell? ⟨b, o + i * 5 + 2, none⟩ = some (.int .u64 l[i].i) ∧ w.cell? ⟨b, o + i * 5 + 3, none⟩ = some (.int .i64 l[i].k) ∧ w.cell? ⟨b, o + i * 5 + 4, none⟩ = some (.int .i64 l[i].v) := by
  obtain ⟨h1, h2, h3, h4⟩ := h
  obtain ⟨b, o, e, hc⟩ := h4 (by omega)
  exact ⟨b, o, e, hc i _ (List.getElem?_eq_getElem hi)⟩
theorem OpsR.u64 {w : World} {a : Option Addr} {len : Nat} {l : List Do} (h : OpsR w a len l) {i : Nat} (hi : i < l.length) : U64 l[i].i := h.2.2.1 _ (List.getElem_mem hi)

theorem cellsOp : Try.prog.cellsOf 37 = 5 := by kernel_rfl
theorem cellsOut : Try.prog.cellsOf 35 = 2 := by kernel_rfl
theorem cellsU64 : Try.prog.cellsOf 23 = 1 := by kernel_rfl
theorem cellsI : Try.prog.cellsOf 3 = 1 := by kernel_rfl
theorem u64_wf {z : Int} (h : (Lit.int .u64 z).wf = true) : U64 z := by
  simp [Lit.wf, IntKind.min, IntKind.max, IntKind.signed, IntKind.bits] at h
  unfold U64
  omega

theorem open_op {H : Type} {enc : TypeId × Value → H} {w : World} {base : Nat} {spare : Nat → Bool} {held : Bool} {n : Nat} {cs : List Value} {x : DataW H × List MemPlace} (hl : cs.length = 5) (h : DataW.trod enc Try.prog w base spare held n 37 cs = some x) :
    ∃ y : Do, U64 y.i ∧ cs = [.int .i64 y.d, .int .i64 y.n, .int .u64 y.i, .int .i64 y.k, .int .i64 y.v] := by
  obtain ⟨xs, k, _, _, _, hxl, hf⟩ := DataW.trod_struct Try.underlying37 h
  match xs, hxl, cs, hl with
  | [y0, y1, y2, y3], _, [v0, v1, v2, v3, v4], _ =>
    have g0 := hf 0 _ rfl
    have g1 := hf 1 _ rfl
    have g2 := hf 2 _ rfl
    have g3 := hf 3 _ rfl
    simp [cellsI, cellsU64, cellsOut] at g0 g1 g2 g3
    obtain ⟨a, ha, _, _⟩ := DataW.trod_int Try.underlying3 g0
    obtain ⟨b, hb, _, _⟩ := DataW.trod_int Try.underlying3 g1
    obtain ⟨c, hc, _, wc⟩ := DataW.trod_int Try.underlying23 g2
    simp at ha hb hc
    subst ha hb hc
    obtain ⟨xs2, k2, _, _, _, hxl2, hf2⟩ := DataW.trod_struct Try.underlying35 g3
    match xs2, hxl2 with
    | [z0, z1], _ =>
      have i0 := hf2 0 _ rfl
      have i1 := hf2 1 _ rfl
      simp [cellsI] at i0 i1
      obtain ⟨d, hd, _, _⟩ := DataW.trod_int Try.underlying3 i0
      obtain ⟨e, he, _, _⟩ := DataW.trod_int Try.underlying3 i1
      simp at hd he
      subst hd he
      exact ⟨⟨a, b, c, d, e⟩, u64_wf wc, rfl⟩

theorem open_ops {H : Type} {enc : TypeId × Value → H} {w : World} {base : Nat} {spare : Nat → Bool} {held : Bool} {fuel : Nat} {x : DataW H × List MemPlace} {a : Option Addr} {len cap : Nat} (h : DataW.trod enc Try.prog w base spare held fuel 24 [.slice a len cap] = some x) :
    ∃ l, OpsR w a len l := by
  rcases open_slice Try.underlying24 h with ⟨h0, _⟩ | ⟨a', len', cap', m, n, D, Pl, hcs, hb, hl, hm, hmm, _, hx⟩
  · simp at h0
    obtain ⟨rfl, rfl, rfl⟩ := h0
    exact ⟨[], rfl, Nat.zero_le _, by simp, fun h => absurd h (by omega)⟩
  · simp at hcs
    obtain ⟨rfl, rfl, rfl⟩ := hcs
    have hlm : len ≤ m := by rw [hmm]; split <;> omega
    haveI : Inhabited Do := ⟨⟨0, 0, 0, 0, 0⟩⟩
    obtain ⟨f, hf⟩ := choose_lt (α := Do) (n := len) (p := fun i y => U64 y.i ∧ w.cells? base (a'.add (i * 5)) 5 = some [.int .i64 y.d, .int .i64 y.n, .int .u64 y.i, .int .i64 y.k, .int .i64 y.v]) (fun i hi => by
      obtain ⟨cs', h1, h2⟩ := hx i (by omega)
      rw [cellsOp] at h1
      obtain ⟨_, hlen, _⟩ := World.cells?_some h1
      obtain ⟨y, hy, rfl⟩ := open_op hlen h2
      exact ⟨y, hy, h1⟩)
    refine ⟨(List.range len).map f, by simp, by omega, ?_, fun h0 => ?_⟩
    · intro y hy
      obtain ⟨i, hi, rfl⟩ := List.mem_map.1 hy
      exact (hf i (by simpa using hi)).1
    · obtain ⟨b, off, spot⟩ := a'
      have c0 := (World.cells?_some (hf 0 h0).2).2.2 0 (by omega)
      have hspot : spot = none := by
        have : (({ block := b, off := off, spot := spot } : Addr).add (0 * 5)).add 0 = ⟨b, off, spot⟩ := by cases spot <;> simp [Addr.add]
        rw [this] at c0
        simpa using World.cell?_spot c0
      subst hspot
      refine ⟨b, off, rfl, fun i y hi => ?_⟩
      have hil : i < len := by
        have := (List.getElem?_eq_some_iff.1 hi).1
        simpa using this
      simp [hil] at hi
      subst hi
      obtain ⟨_, _, hc⟩ := World.cells?_some (hf i hil).2
      have key : ∀ c, (({ block := b, off := off, spot := none } : Addr).add (i * 5)).add c = ⟨b, off + i * 5 + c, none⟩ := by intro c; rw [Addr.add_lit, Addr.add_lit]
      have k0 := hc 0 (by decide)
      have k1 := hc 1 (by decide)
      have k2 := hc 2 (by decide)
      have k3 := hc 3 (by decide)
      have k4 := hc 4 (by decide)
      rw [key] at k0 k1 k2 k3 k4
      exact ⟨k0, k1, k2, k3, k4⟩

/-- .. and there is room for as many. -/
theorem open_opsc {H : Type} {enc : TypeId × Value → H} {w : World} {base : Nat} {spare : Nat → Bool} {held : Bool} {fuel : Nat} {x : DataW H × List MemPlace} {a : Option Addr} {len cap : Nat} (h : DataW.trod enc Try.prog w base spare held fuel 24 [.slice a len cap] = some x) :
    ∃ l, OpsR w a len l ∧ len ≤ cap ∧ cap ≤ maxLen := by
  obtain ⟨l, hl⟩ := open_ops h
  refine ⟨l, hl, ?_⟩
  rcases open_slice Try.underlying24 h with ⟨h0, _⟩ | ⟨a', len', cap', m, n, D, Pl, hcs, hb, hl, hm, _⟩
  · simp at h0
    obtain ⟨rfl, rfl, rfl⟩ := h0
    exact ⟨Nat.le_refl _, Nat.zero_le _⟩
  · simp at hcs
    obtain ⟨rfl, rfl, rfl⟩ := hcs
    exact ⟨hl, hm⟩
/-- .. and what it was read as has so many. -/
theorem open_opsd {H : Type} {enc : TypeId × Value → H} {w : World} {base : Nat} {spare : Nat → Bool} {held : Bool} {fuel : Nat} {x : DataW H × List MemPlace} {a : Option Addr} {len cap : Nat} (h : DataW.trod enc Try.prog w base spare held fuel 24 [.slice a len cap] = some x) :
    ∃ l, OpsR w a len l ∧ (len = 0 ∨ ∃ e s, x.1 = .slice e s ∧ e.length = len) := by
  obtain ⟨l, hl⟩ := open_ops h
  refine ⟨l, hl, ?_⟩
  rcases open_slice Try.underlying24 h with ⟨h0, _⟩ | ⟨a', len', cap', m, n, D, Pl, hcs, hb, hl, hm, _, hx, _⟩
  · simp at h0
    exact .inl h0.2.1
  · simp at hcs
    obtain ⟨rfl, rfl, rfl⟩ := hcs
    subst hx
    exact .inr ⟨_, _, rfl, by simp⟩
/-- one of them, cut out. -/
theorem cut_one {bb oo len cap : Nat} (hc : len ≤ cap) (k : Nat) (hk : k < len) (w : World) :
    (Instr.sliceAt 24 (.slice (some ⟨bb, oo, none⟩) len cap) (some (.int .i64 k)) (some (.int .i64 ((k : Int) + 1))) none).run Try.prog w = .ok (.slice (some ⟨bb, oo + k * 5, none⟩) 1 (cap - k)) w := by
  have hu : Try.prog.underlying 24 = some (.slice (Try.prog.elem 24)) := by kernel_rfl
  have hel : Try.prog.elem 24 = 37 := by kernel_rfl
  have hz : ∀ w, (sizeOf 37).run Try.prog w = .ok 5 w := Try.sizeOf37
  rw [run_sliceAt_slice w 24 _ _ _ _ hu, run_slice_lh w 24 _ _ _ hu .i64 .i64 (k : Int) ((k : Int) + 1) (by omega) (by omega) (by omega), hel, hz]
  simp only [Result.andThen_ok, sliced, Int.toNat_natCast]
  rw [if_neg (by omega), Option.map_some, Addr.add_lit, show ((k : Int) + 1).toNat - k = 1 by omega]
theorem OpsR.one {w : World} {bb oo len : Nat} {l : List Do} (h : OpsR w (some ⟨bb, oo, none⟩) len l) {k : Nat} (hk : k < l.length) : OpsR w (some ⟨bb, oo + k * 5, none⟩) 1 [l[k]] := by
  obtain ⟨b, o, e, c0, c1, c2, c3, c4⟩ := h.at hk
  cases e
  refine ⟨rfl, by unfold maxLen; omega, fun o ho => ?_, fun _ => ⟨_, _, rfl, fun i p hi => ?_⟩⟩
  · rw [List.mem_singleton] at ho
    subst ho
    exact h.u64 hk
  · cases i with
    | zero =>
      cases hi
      simp only [Nat.zero_mul, Nat.add_zero]
      exact ⟨c0, c1, c2, c3, c4⟩
    | succ i => simp at hi

theorem arr2 {α : Type} {cs : Array α} (h : cs.size = 2) : ∃ c0 c1, cs = #[c0, c1] := by
  obtain ⟨l⟩ := cs
  match l, h with
  | [c0, c1], _ => exact ⟨c0, c1, rfl⟩
theorem cellsTwo : Try.prog.cellsOf 22 = 2 := by kernel_rfl
/-- two numbers by value. -/
theorem open_two {H : Type} {enc : TypeId × Value → H} {w : World} {base b0 : Nat} {spare : Nat → Bool} {held : Bool} {r : Reach} {v : Value} {d : DataW H} {p : List MemPlace}
    (hv : Value.okWide Try.prog w r b0 22 v) (h : DataW.Trod enc Try.prog w base spare held 22 v d p) :
    ∃ x : Int × Int, v = .agg #[.int .i64 x.1, .int .i64 x.2] ∧ True := by
  unfold Value.okWide at hv
  rw [Try.underlying22] at hv
  obtain ⟨cs, rfl, hsz, _⟩ := hv
  obtain ⟨c0, c1, rfl⟩ := arr2 (hsz.trans cellsTwo)
  obtain ⟨fuel, hf⟩ := h
  obtain ⟨xs, m, _, hx, _, hlen, hi⟩ := DataW.trod_array Try.underlying22 hf
  have h0 := hi 0 (by omega)
  have h1 := hi 1 (by omega)
  rw [cellsI] at h0 h1
  simp only [Value.cells, Nat.zero_mul, List.drop_zero, Nat.one_mul] at h0 h1
  match xs, hlen with
  | [y0, y1], _ =>
    obtain ⟨a, e0, _, _⟩ := DataW.trod_int Try.underlying3 (by simpa using h0)
    obtain ⟨b, e1, _, _⟩ := DataW.trod_int Try.underlying3 (by simpa using h1)
    simp at e0 e1
    subst e0 e1
    exact ⟨(a, b), rfl, trivial⟩

theorem wrap_u' {z : Int} (h1 : 0 ≤ z) (h2 : z < 18446744073709551616) : IntKind.u64.wrap z = z := by
  have h3 : IntKind.u64.wrap z = z % 18446744073709551616 := by simp [IntKind.wrap, IntKind.signed, IntKind.bits]
  rw [h3]
  omega

end Go.Proofs.Ytlckconhhhllkaa
