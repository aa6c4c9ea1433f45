/-
  The document's timers, as they lie: two rows in a box; what is cut from rows and appended to them.
-/
import Derived.Test.YtifddbfcongepaaRsg
import Derived.Test.YtifddbfcongepaaTick
import Derived.Test.YtifddbfcongepaaLate
import Derived.Maps.AppendAt
namespace Go.Proofs.Ytifddbfcongepaa
open Go.RowKit Go.Maps

/-- a type of slices of numbers. -/
structure Ety (ts e : TypeId) (z : Value) : Prop where
  ht : Try.prog.underlying ts = some (.slice e)
  el : Try.prog.elem ts = e
  info : (Try.prog.info? e).map (fun i => (i.zero, i.size, i.bytes)) = some (some z, 1, 8)
  zc : z.cells.size = 1
  sz : ∀ w, (sizeOf e).run Try.prog w = .ok 1 w
theorem ety_u : Ety 37 31 (.int .u64 0) := ⟨Try.underlying37, by kernel_rfl, by kernel_rfl, rfl, Try.sizeOf31⟩
theorem ety_i : Ety 40 3 (.int .i64 0) := ⟨Try.underlying40, by kernel_rfl, by kernel_rfl, rfl, Try.sizeOf3⟩

/-- cells that a slice leads to. -/
def Sc (W : World) (x : Value) (ys : List Value) : Prop := ∃ ao c, x = .slice ao ys.length c ∧ (ao = none → ys = [] ∧ c = 0) ∧ ∀ a, ao = some a → ∀ j u, ys[j]? = some u → W.cell? (a.add j) = some u
theorem Sc.over {W W' : World} {x : Value} {ys : List Value} (h : Sc W x ys) (hb : Below W.heap.size W W') : Sc W' x ys := by
  obtain ⟨ao, c, rfl, h1, h2⟩ := h
  refine ⟨ao, c, rfl, h1, fun a e j u hu => ?_⟩
  have h3 := h2 a e j u hu
  rw [World.cell?_of_block (a := a.add j) (hb.block _ (World.block_lt_of_cell? W _ h3))]
  exact h3
theorem sc_row {W : World} {base : Nat} {e : TypeId} {v : Value} {n : Nat} {xs : List Value} (h : W.ownsRow base e 1 v n xs) : Sc W v xs := by
  have hn : xs.length = n := by have := h.1; omega
  subst hn
  rcases h.2 with ⟨rfl, h0⟩ | ⟨g, cap, cur, rfl, _⟩
  · have : xs = [] := List.eq_nil_of_length_eq_zero h0
    subst this
    exact ⟨none, 0, rfl, fun _ => ⟨rfl, rfl⟩, fun a e => by cases e⟩
  · exact ⟨some ⟨g, 0, none⟩, cap, rfl, fun e => (by cases e), fun a e => by cases e; exact h.cells (g := g) rfl⟩
theorem Sc.form {W : World} {x : Value} {ys : List Value} (h : Sc W x ys) : ∃ p c, x = .slice p ys.length c := by obtain ⟨p, c, e, _⟩ := h; exact ⟨p, c, e⟩

/-- cut from above. -/
theorem cut_hi {ts e : TypeId} {z : Value} (E : Ety ts e z) {W : World} {base n : Nat} {v : Value} {xs : List Value} (h : W.ownsRow base e 1 v n xs) (i : Nat) (hi : i ≤ n) :
    ∃ x, Sc W x (xs.take i) ∧ ∀ w, (Instr.sliceAt ts v none (some (.int .i64 i)) none).run Try.prog w = .ok x w := by
  have hn : xs.length = n := by have := h.1; omega
  have hu : Try.prog.underlying ts = some (.slice (Try.prog.elem ts)) := by rw [E.el]; exact E.ht
  rcases id h.2 with ⟨rfl, h0⟩ | ⟨g, cap, cur, rfl, _, _, hc, _⟩
  · obtain rfl : i = 0 := by omega
    refine ⟨.slice none 0 0, ⟨none, 0, by simp, fun _ => ⟨by simp, rfl⟩, fun a e => by cases e⟩, fun w => ?_⟩
    rw [run_sliceAt_slice w ts _ _ _ _ hu, run_slice_h w ts _ _ _ hu .i64 ((0 : Nat) : Int) (by omega) (by omega), E.el, E.sz]
    simp [Result.andThen, sliced]
  · refine ⟨.slice (some ⟨g, 0, none⟩) i cap, ⟨_, cap, by rw [List.length_take, hn, Nat.min_eq_left hi], fun e => (by cases e), fun a e j u hu => ?_⟩, fun w => ?_⟩
    · cases e
      exact h.cells (g := g) rfl j u (by
        rw [List.getElem?_take] at hu
        split at hu
        · exact hu
        · cases hu)
    · rw [run_sliceAt_slice w ts _ _ _ _ hu, run_slice_h w ts _ _ _ hu .i64 i (by omega) (by omega), E.el, E.sz]
      simp only [Result.andThen_ok, sliced, Int.toNat_natCast, Nat.sub_zero, Nat.zero_mul]
      by_cases h0 : cap = 0
      · rw [if_pos h0]
      · rw [if_neg h0, Option.map_some, Addr.add_lit, Nat.add_zero]
/-- cut from below. -/
theorem cut_lo {ts e : TypeId} {z : Value} (E : Ety ts e z) {W : World} {base n : Nat} {v : Value} {xs : List Value} (h : W.ownsRow base e 1 v n xs) (i : Nat) (hi : i ≤ n) :
    ∃ x, Sc W x (xs.drop i) ∧ ∀ w, (Instr.sliceAt ts v (some (.int .i64 i)) none none).run Try.prog w = .ok x w := by
  have hn : xs.length = n := by have := h.1; omega
  have hu : Try.prog.underlying ts = some (.slice (Try.prog.elem ts)) := by rw [E.el]; exact E.ht
  rcases id h.2 with ⟨rfl, h0⟩ | ⟨g, cap, cur, rfl, _, _, hc, _⟩
  · obtain rfl : i = 0 := by omega
    have hx : xs = [] := List.eq_nil_of_length_eq_zero (by omega)
    subst hx
    refine ⟨.slice none 0 0, ⟨none, 0, by simp, fun _ => ⟨by simp, rfl⟩, fun a e => by cases e⟩, fun w => ?_⟩
    rw [run_sliceAt_slice w ts _ _ _ _ hu, run_slice_l w ts _ _ _ hu .i64 ((0 : Nat) : Int) (by omega) (by omega), E.el, E.sz]
    simp [Result.andThen, sliced]
  · refine ⟨sliced (some ⟨g, 0, none⟩) i n cap 1, ?_, fun w => ?_⟩
    · unfold sliced
      by_cases h0 : cap = i
      · rw [if_pos h0]
        refine ⟨_, cap - i, by rw [List.length_drop, hn], fun e => (by cases e), fun a e j u hu => ?_⟩
        have : xs.drop i = [] := List.drop_of_length_le (by omega)
        rw [this] at hu
        cases hu
      · rw [if_neg h0, Option.map_some, Nat.mul_one, Addr.add_lit, Nat.zero_add]
        refine ⟨_, cap - i, by rw [List.length_drop, hn], fun e => (by cases e), fun a e j u hu => ?_⟩
        cases e
        rw [List.getElem?_drop] at hu
        have := h.cells (g := g) rfl (i + j) u hu
        rw [Addr.add_lit, Nat.zero_add] at this
        rw [Addr.add_lit]
        exact this
    · rw [run_sliceAt_slice w ts _ _ _ _ hu, run_slice_l w ts _ _ _ hu .i64 i (by omega) (by omega), E.el, E.sz]
      rfl

/-- what an append tells. -/
structure App (e : TypeId) (base : Nat) (w w' : World) (v v' : Value) (xs : List Value) : Prop where
  own : w'.ownsRow base e 1 v' xs.length xs
  grow : w.grownBy w' v.ownBlock
  at' : v'.ownBlock = v.ownBlock ∨ v'.ownBlock = some w.heap.size
theorem run_app {ts e : TypeId} {z : Value} (E : Ety ts e z) {W : World} {base n : Nat} {v x : Value} {xs ys : List Value} (h : W.ownsRow base e 1 v n xs) (hs : Sc W x ys) (h1 : ∀ u ∈ ys, u.oneCell' = true) (hb : n + ys.length ≤ 100000) (hbase : base ≤ W.heap.size) (ty : TypeId) :
    ∃ v' w', (Builtin.append_ #[ts, ts] ty #[v, x]).run Try.prog W = .ok v' w' ∧ App e base W w' v v' (xs ++ ys) := by
  have hn : xs.length = n := by have := h.1; omega
  obtain ⟨i0, hi, hz0, hz1, hz2⟩ := info_parts E.info
  obtain ⟨ao, c, rfl, hnil, hc⟩ := hs
  cases ao with
  | none =>
    obtain ⟨hy, rfl⟩ := hnil rfl
    subst hy
    exact ⟨v, W, run_append_owned_none (P := Try.prog) W base ts ty e i0 1 E.ht hi v n xs h, ⟨by rw [List.append_nil, hn]; exact h, ⟨rfl, rfl, rfl, Nat.le_refl _, fun _ _ _ => rfl⟩, .inl rfl⟩⟩
  | some a =>
    obtain ⟨v', w', q0, q1, q2, _, q4⟩ := run_append_own_at (P := Try.prog) W base ts ty e i0 z 1 8 E.ht hi hz0 hz1 hz2 E.zc (by decide) v n xs h a ys.length c ys (by omega) (hc a rfl) h1 (by unfold maxLen; omega) (by omega) hbase
    exact ⟨v', w', q0, by rw [List.length_append, hn]; exact q1, q2, q4⟩
/-- at a step of a drawn region. -/
theorem step_app {ts e : TypeId} {z : Value} (E : Ety ts e z) {W : World} {ops : Array Oper} {o : Oper} {a : Act} {K : Act → World → Prop} {Q : Exit → Act → World → Prop} {F : Prop} (hgd : o.guard = none) (s x : Operand)
    (ho : o.op = .call { callee := .builtin .append, args := #[s, x], argTypes := #[ts, ts] }) {base n : Nat} {v xv : Value} {xs ys : List Value} (hv : a.eval s = v) (hx : a.eval x = xv)
    (h : W.ownsRow base e 1 v n xs) (hs : Sc W xv ys) (h1 : ∀ u ∈ ys, u.oneCell' = true) (hb : n + ys.length ≤ 100000) (hbase : base ≤ W.heap.size)
    (hk : ∀ v' w', App e base W w' v v' (xs ++ ys) → K (a.put o.dst v') w') :
    if Region.wanted o (yielded ops a.tmps) = true then Oper.wp Try.prog o a W K Q else F := by
  rw [if_pos (by simp [Region.wanted, hgd])]
  obtain ⟨v', w', hr, h2⟩ := run_app E h hs h1 hb hbase o.type
  unfold Oper.wp execOp
  simp only [ho, resolve, invoke, builtin, Sem.run_bind, Sem.run_pure, Result.andThen_ok, List.map_toArray, List.map_cons, List.map_nil, hv, hx, hr]
  exact hk _ _ h2
/-- in a row of operations. -/
theorem list_app {ts e : TypeId} {z : Value} (E : Ety ts e z) {W : World} {ops : Array Oper} {rest : List Oper} {o : Oper} {a : Act} {Q : Exit → Act → World → Prop} (hgd : o.guard = none) (s x : Operand)
    (ho : o.op = .call { callee := .builtin .append, args := #[s, x], argTypes := #[ts, ts] }) {base n : Nat} {v xv : Value} {xs ys : List Value} (hv : a.eval s = v) (hx : a.eval x = xv)
    (h : W.ownsRow base e 1 v n xs) (hs : Sc W xv ys) (h1 : ∀ u ∈ ys, u.oneCell' = true) (hb : n + ys.length ≤ 100000) (hbase : base ≤ W.heap.size)
    (hk : ∀ v' w', App e base W w' v v' (xs ++ ys) → wpList Try.prog ops Q rest (a.put o.dst v') w') : wpList Try.prog ops Q (o :: rest) a W := by
  refine wpList_plain hgd fun _ hK => ?_
  obtain ⟨v', w', hr, h2⟩ := run_app E h hs h1 hb hbase o.type
  unfold Oper.wp execOp
  simp only [ho, resolve, invoke, builtin, Sem.run_bind, Sem.run_pure, Result.andThen_ok, List.map_toArray, List.map_cons, List.map_nil, hv, hx, hr]
  exact hK _ _ (hk v' w' h2)
theorem App.below {e : TypeId} {base : Nat} {w0 w w' : World} {v v' : Value} {xs : List Value} (h : App e base w w' v v' xs) {n : Nat} {ys : List Value} (hv : w.ownsRow w0.heap.size e 1 v n ys) (hb : Below w0.heap.size w0 w) : Below w0.heap.size w0 w' :=
  hb.grown h.grow hb.size fun j hj => owns_block hv j hj
/-- an empty row, just made. -/
theorem row_fresh (W : World) (e : TypeId) : (W.alloc (.cells #[] e)).ownsRow W.heap.size e 1 (.slice (some ⟨W.heap.size, 0, none⟩) 0 0) 0 [] :=
  ⟨rfl, .inr ⟨W.heap.size, 0, #[], rfl, Nat.le_refl _, heap_alloc_new _ _, Nat.le_refl _, by decide, rfl, rfl⟩⟩
theorem sc_one (W : World) (x : Value) (e : TypeId) : Sc (W.alloc (.cells #[x] e)) (.slice (some ⟨W.heap.size, 0, none⟩) 1 1) [x] :=
  ⟨_, 1, rfl, fun e => (by cases e), fun a e => by cases e; exact cell_one_new _ _ _⟩

def cellsN (l : List Int) : List Value := l.map (Value.int .i64)
def lefts (T : Tm) : List Int := T.map (·.2)
theorem one_z (l : List Int) : ∀ u ∈ cellsZ l, u.oneCell' = true := by intro u hu; simp [cellsZ] at hu; obtain ⟨z, _, rfl⟩ := hu; rfl
theorem one_i (l : List Int) : ∀ u ∈ cellsN l, u.oneCell' = true := by intro u hu; simp [cellsN] at hu; obtain ⟨z, _, rfl⟩ := hu; rfl

/-- the document's timers: a box of three cells, and two rows. -/
structure RfC (w : World) (base b : Nat) (v : Int) (vi vl : Value) (ks ls : List Int) : Prop where
  bb : base ≤ b
  blk : Blk w b 42 [.int .i64 v, vi, vl]
  ri : w.ownsRow base 31 1 vi ks.length (cellsZ ks)
  rl : w.ownsRow base 3 1 vl ls.length (cellsN ls)
def RfT (w : World) (base b : Nat) (v : Int) (T : Tm) : Prop := ∃ vi vl, RfC w base b v vi vl (keys T) (lefts T)
theorem RfC.fr {L : List Nat} {C : Nat} {w w' : World} {base b : Nat} {v : Int} {vi vl : Value} {ks ls : List Int} (h : RfC w base b v vi vl ks ls) (hs : Fr L [] C w w') (h1 : 42 ∉ L) (h2 : 31 ∉ L) (h3 : 3 ∉ L) : RfC w' base b v vi vl ks ls :=
  ⟨h.bb, h.blk.fr hs h1 (by simp), owns_fr h.ri hs h2 (fun _ _ => by simp), owns_fr h.rl hs h3 (fun _ _ => by simp)⟩
theorem RfC.over {w w' : World} {base b : Nat} {v : Int} {vi vl : Value} {ks ls : List Int} (h : RfC w base b v vi vl ks ls) (hb : Below w.heap.size w w') : RfC w' base b v vi vl ks ls := h.fr (L := []) (C := 0) (fr_below hb (Nat.zero_le _)) (by simp) (by simp) (by simp)
theorem RfT.over {w w' : World} {base b : Nat} {v : Int} {T : Tm} (h : RfT w base b v T) (hb : Below w.heap.size w w') : RfT w' base b v T := by obtain ⟨vi, vl, h⟩ := h; exact ⟨vi, vl, h.over hb⟩
theorem fr_set {L : List Nat} {B c i : Nat} {w : World} {t : TypeId} {l : List Value} {v : Value} (hb : Blk w c t l) (ht : t ∈ L) (hB : B ≤ c) : Fr L [] B w (w.setCell ⟨c, i, none⟩ v) := by
  refine ⟨⟨by simp [World.setCell], by simp [World.setCell], by simp [World.setCell], by simp, fun k hk => heap_setCell_other w ⟨c, i, none⟩ k v (fun e => by have : k = c := e; omega)⟩, fun k o hk hn _ => ?_⟩
  rw [heap_setCell_other w ⟨c, i, none⟩ k v]
  · exact hk
  · intro e
    have e2 : k = c := e
    subst e2
    unfold Blk at hb
    rw [hb] at hk
    cases hk
    exact hn _ _ _ rfl ht

end Go.Proofs.Ytifddbfcongepaa
