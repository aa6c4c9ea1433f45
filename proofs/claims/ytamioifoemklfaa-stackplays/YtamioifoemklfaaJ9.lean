/-
  Texts of this seat, joined: AMem, StOps, Late.
-/
import Derived.Test.YtamioifoemklfaaJ8
import Derived.WalkKit
import Derived.WalkSpells
import Derived.WalkLawsBesides
import Derived.Laws.AppendOwnNone
import Derived.Laws.MakeOwn
import Derived.Laws.OwnMore
import Derived.Laws.Rows
import Derived.Laws.Tables
import Derived.Laws.CopyOwn
import Derived.Laws.StructEq
import Derived.BigQuiet
import Derived.Deep.DeepCutAuto
import Derived.Deep.RegionHeld3

namespace Go.Proofs.Ytamioifoemklfaa.A
open Go.RowKit

theorem Try.info23 : (Try.prog.info? 23).map (fun i => (i.zero, i.size, i.bytes)) = some (some (.int .u32 0), 1, 4) := by kernel_rfl
theorem Try.size79 : (Try.prog.info? 79).map (·.size) = some 9 := by kernel_rfl

theorem ret_int {k : IntKind} {a b : Int} (h : a = b) : Ending.returned (.int k a) = .returned (.int k b) := by rw [h]
theorem ret_bool {a b : Bool} (h : a = b) : Ending.returned (.bool a) = .returned (.bool b) := by rw [h]

theorem owns_block {w : World} {base sz : Nat} {t : TypeId} {v : Value} {n : Nat} {xs : List Value} (h : w.ownsRow base t sz v n xs) : ∀ k, v.ownBlock = some k → base ≤ k := by
  intro k hk
  rcases h.2 with ⟨rfl, rfl⟩ | ⟨g, cap, cur, rfl, hb, _⟩
  · cases hk
  · cases hk; exact hb

theorem owns_lower {w : World} {B B' sz : Nat} {t : TypeId} {v : Value} {n : Nat} {xs : List Value} (h : w.ownsRow B t sz v n xs) (hB : B' ≤ B) : w.ownsRow B' t sz v n xs := by
  refine ⟨h.1, ?_⟩
  rcases h.2 with hn | ⟨g, cap, cur, hv, hg, r⟩
  · exact .inl hn
  · exact .inr ⟨g, cap, cur, hv, Nat.le_trans hB hg, r⟩

/-- a row stays where no block below a bound is touched, and it lies below. -/
theorem owns_below {w w' : World} {base sz B : Nat} {t : TypeId} {v : Value} {n : Nat} {xs : List Value} (h : w.ownsRow base t sz v n xs) (hb : Below B w w') (hB : w.heap.size ≤ B) : w'.ownsRow base t sz v n xs := by
  refine ⟨h.1, ?_⟩
  rcases h.2 with hn | ⟨g, cap, cur, hv, hg, hh, r⟩
  · exact .inl hn
  · exact .inr ⟨g, cap, cur, hv, hg, by rw [hb.block g (Nat.lt_of_lt_of_le (lt_of_block hh) hB)]; exact hh, r⟩

theorem grow_refl (w : World) (r : Option Nat) : w.grownBy w r := ⟨rfl, rfl, rfl, Nat.le_refl _, fun _ _ _ => rfl⟩

theorem size_alloc' (w : World) (o : Obj) : (w.alloc o).heap.size = w.heap.size + 1 := by
  show (w.heap.push o).size = _
  simp

theorem below_drewN (w : World) (n : Nat) : Below w.heap.size w (w.drewN n) := by
  induction n with
  | zero => exact Below.refl _ _
  | succ n ih => exact ih.drew

/-- a block of cells that nobody froze. -/
def Blk (w : World) (b : Nat) (t : TypeId) (l : List Value) : Prop := w.heap[b]? = some (.cells l.toArray t (0, 0))

section
variable {w : World} {b : Nat} {t : TypeId} {l : List Value}
theorem Blk.cell (h : Blk w b t l) (i : Nat) : w.cell? ⟨b, i, none⟩ = l[i]? := by
  rw [cell_of_row w b i _ _ _ h]
  simp
theorem Blk.f (h : Blk w b t l) (i : Nat) : w.frozen? ⟨b, i, none⟩ = false := frozen_of_row w b i _ _ h
theorem Blk.lt (h : Blk w b t l) : b < w.heap.size := lt_of_block h
theorem Blk.below {w' : World} {B : Nat} (h : Blk w b t l) (hb : Below B w w') (hB : b < B) : Blk w' b t l := by unfold Blk; rw [hb.block b hB]; exact h
theorem Blk.over {w' : World} (h : Blk w b t l) (hb : Below w.heap.size w w') : Blk w' b t l := h.below hb h.lt
theorem Blk.drew (h : Blk w b t l) : Blk w.drew b t l := h
theorem Blk.set (h : Blk w b t l) (i : Nat) (v : Value) : Blk (w.setCell ⟨b, i, none⟩ v) b t (l.set i v) := by
  have := heap_setCell_same w b i _ _ v h
  unfold Blk
  rw [this]
  simp
theorem Blk.other (h : Blk w b t l) (a : Addr) (v : Value) (hne : b ≠ a.block) : Blk (w.setCell a v) b t l := by
  unfold Blk
  rw [heap_setCell_other w a b v hne]
  exact h
theorem Blk.row (h : Blk w b t l) (cs : Array Value) : Blk (w.setRow b cs) b t cs.toList := by
  unfold Blk
  rw [setRow_heap w b _ cs _ _ h]
theorem Blk.row_other (h : Blk w b t l) (g : Nat) (cs : Array Value) (hne : b ≠ g) : Blk (w.setRow g cs) b t l := by
  unfold Blk
  rw [setRow_other w g b cs hne]
  exact h
theorem Blk.alloc (h : Blk w b t l) (o : Obj) : Blk (w.alloc o) b t l := by
  unfold Blk
  have hb : Below w.heap.size w (w.alloc o) := (Below.refl _ _).alloc (Nat.le_refl _) _
  rw [hb.block b h.lt]
  exact h
end

theorem blk_new (w : World) (cs : Array Value) (t : TypeId) : Blk (w.alloc (Obj.cells cs t)) w.heap.size t cs.toList := by
  unfold Blk
  rw [heap_alloc_new]

theorem blk_new' (w : World) (o : Obj) (cs : Array Value) (t : TypeId) : Blk ((w.alloc o).alloc (Obj.cells cs t)) (w.heap.size + 1) t cs.toList := by
  have := blk_new (w.alloc o) cs t
  rw [size_alloc'] at this
  exact this

/-- an item of an array by value. -/
theorem index_row (t e : TypeId) (n : Nat) (ik k : IntKind) (ht : Try.prog.underlying t = some (.array n e)) (he : Try.prog.underlying e = some (.int k)) (hsz : ∀ w, (sizeOf e).run Try.prog w = .ok 1 w)
    (A : Array Value) (i : Nat) (x : Int) (hi : i < n) (hA : A[i]? = some (.int k x)) (W : World) : (Instr.index t (.agg A) (.int ik i)).run Try.prog W = .ok (.int k x) W := by
  have hc : (0 : Int) ≤ (i : Int) ∧ (i : Int) < (n : Int) := by omega
  simp [Instr.index, asIntOf, run_underlying ht, hsz, part, isAgg, run_underlying he, hc, hA]
  intro h
  omega

/-- the numbers that a slice leads to. -/
def Ns (k : IntKind) (w : World) (a : Option Addr) (len : Nat) (l : List Int) : Prop :=
  l.length = len ∧ (0 < len → ∃ b off, a = some ⟨b, off, none⟩ ∧ ∀ i, i < len → w.cell? ⟨b, off + i, none⟩ = some (.int k (l.getD i 0)))

theorem Ns.below {k : IntKind} {w w' : World} {a : Option Addr} {len : Nat} {l : List Int} (h : Ns k w a len l) (hb : Below w.heap.size w w') : Ns k w' a len l := by
  refine ⟨h.1, fun h0 => ?_⟩
  obtain ⟨b, off, ha, hc⟩ := h.2 h0
  refine ⟨b, off, ha, fun i hi => ?_⟩
  rw [hb.cell (p := ⟨b, off + i, none⟩) (World.block_lt_of_cell? w _ (hc i hi))]
  exact hc i hi


/-- numbers as cells. -/
def cellsU (l : List Int) : List Value := l.map (Value.int .u32)

theorem cellsU_app (l m : List Int) : cellsU (l ++ m) = cellsU l ++ cellsU m := by simp [cellsU]
theorem cellsU_one (l : List Int) : (cellsU l).toArray.all (·.oneCell') = true := by simp [cellsU, Value.oneCell']

theorem owns_ns {w : World} {base : Nat} {v : Value} {n : Nat} {l : List Int} (h : w.ownsRow base 23 1 v n (cellsU l)) : ∃ a cap, v = .slice a n cap ∧ Ns .u32 w a n l ∧ n ≤ cap ∧ (a = none → cap = 0) := by
  have hlen : l.length = n := by have := h.1; simpa [cellsU] using this
  rcases h.2 with ⟨rfl, rfl⟩ | ⟨g, cap, cur, rfl, hb, hg, hnc, hcm, hcs, htake⟩
  · exact ⟨none, 0, rfl, ⟨hlen, fun h => absurd h (by omega)⟩, by omega, fun _ => rfl⟩
  · refine ⟨_, cap, rfl, ⟨hlen, fun _ => ⟨g, 0, rfl, fun i hi => ?_⟩⟩, hnc, fun h => by cases h⟩
    have := h.cells (g := g) rfl i (.int .u32 (l.getD i 0)) (by simp [cellsU, List.getElem?_eq_getElem (show i < l.length from by omega)])
    rw [show (⟨g, 0 + i, none⟩ : Addr) = (⟨g, 0, none⟩ : Addr).add i from by unfold Addr.add; split <;> simp_all]
    exact this

theorem Ns.news {w : World} {x : Addr} {len : Nat} {l : List Int} (h : Ns .u32 w (some x) len l) : ∀ j u, (cellsU l)[j]? = some u → w.cell? (x.add j) = some u := by
  intro j u hu
  have hj : j < l.length := by
    have := (List.getElem?_eq_some_iff.1 hu).1
    simpa [cellsU] using this
  obtain ⟨b, off, e, hc⟩ := h.2 (by have := h.1; omega)
  cases e
  have := hc j (by have := h.1; omega)
  rw [show (⟨b, off + j, none⟩ : Addr) = (⟨b, off, none⟩ : Addr).add j from by unfold Addr.add; split <;> simp_all] at this
  rw [this]
  simp [cellsU, List.getElem?_eq_getElem hj] at hu ⊢
  exact hu

theorem Ns.nil {k : IntKind} {w : World} {len : Nat} {l : List Int} (h : Ns k w none len l) : len = 0 ∧ l = [] := by
  have h0 : len = 0 := by
    rcases Nat.eq_zero_or_pos len with e | e
    · exact e
    · obtain ⟨_, _, e, _⟩ := h.2 e
      cases e
  exact ⟨h0, List.eq_nil_of_length_eq_zero (by rw [h.1, h0])⟩

theorem Ns.drop {k : IntKind} {w : World} {b off len : Nat} {l : List Int} (h : Ns k w (some ⟨b, off, none⟩) len l) (i : Nat) (hi : i ≤ len) : Ns k w (some ⟨b, off + i, none⟩) (len - i) (l.drop i) := by
  refine ⟨by rw [List.length_drop, h.1], fun h0 => ⟨b, off + i, rfl, fun j hj => ?_⟩⟩
  obtain ⟨_, _, e, hc⟩ := h.2 (by omega)
  cases e
  rw [Nat.add_assoc, hc (i + j) (by omega)]
  simp

theorem append_nums {w : World} {ops : Array Oper} {rest : List Oper} {o : Oper} {a : Act} {Q : Exit → Act → World → Prop} (hgd : o.guard = none) (s x : Operand)
    (ho : o.op = .call { callee := .builtin .append, args := #[s, x], argTypes := #[62, 62] })
    (base : Nat) (v : Value) (n : Nat) (l : List Int) (hs : a.eval s = v) (hown : w.ownsRow base 23 1 v n (cellsU l))
    (ao : Option Addr) (m c : Nat) (k : List Int) (hx : a.eval x = .slice ao m c) (hao : ao = none → c = 0) (hb : Ns .u32 w ao m k)
    (hn : n + m ≤ 1000000000) (hbase : base ≤ w.heap.size)
    (h : ∀ v' w', w'.ownsRow base 23 1 v' (n + m) (cellsU (l ++ k)) → w.grownBy w' v.ownBlock → wpList Try.prog ops Q rest (a.put o.dst v') w') : wpList Try.prog ops Q (o :: rest) a w := by
  obtain ⟨i0, hi, hz0, hz1, hz2⟩ := info_parts Try.info23
  cases ao with
  | none =>
    obtain ⟨rfl, rfl⟩ := hb.nil
    obtain rfl := hao rfl
    refine wpList_append_own_none hgd s x 62 ho base 23 i0 1 Try.underlying62 hi v n (cellsU l) hs hown hx ?_
    exact h v w (by simpa using hown) (grow_refl _ _)
  | some ad =>
    refine wpList_append_own _ hgd s x 62 ho base 23 i0 (.int .u32 0) 1 4 Try.underlying62 hi hz0 hz1 hz2 rfl (by decide) v n (cellsU l) hs hown ad m c (cellsU k) hx (by simp [cellsU, hb.1]) hb.news (by intro u hu; simp [cellsU] at hu; obtain ⟨z, _, rfl⟩ := hu; rfl) (by unfold maxLen; omega) (by omega) hbase ?_
    intro v' w' h1 h2 _
    exact h v' w' (by rw [cellsU_app]; exact h1) h2

/-- a row of two numbers, just made. -/
theorem ns_two (w : World) (p q : Int) : Ns .u32 (w.alloc (.cells #[.int .u32 p, .int .u32 q] 23)) (some ⟨w.heap.size, 0, none⟩) 2 [p, q] := by
  refine ⟨rfl, fun _ => ⟨_, _, rfl, fun i hi => ?_⟩⟩
  match i, hi with
  | 0, _ => simp
  | 1, _ => simp

/-- an act as a value. -/
def actV (k a : Int) : Value := .agg #[.int .i64 k, .int .i64 a]

/-- are two acts the same? -/
def sameA (k a k' a' : Int) : Bool := k == k' && a == a'

theorem sameA_self (k a : Int) : sameA k a k a = true := by simp [sameA]

theorem equalIn_act (k a k' a' : Int) (w : World) : (Op.equalIn 10000 47 (.agg #[.int .i64 k, .int .i64 a]) (.agg #[.int .i64 k', .int .i64 a'])).run Try.prog w = .ok (sameA k a k' a') w := by
  have u3 := Try.underlying3
  have a3 := Try.isAgg3
  have z3 := Try.sizeOf3
  have hS : Try.prog.underlying 47 = some (.struct (Try.prog.fieldsOf 47)) := by kernel_rfl
  have hp : Try.prog.stoodInHeld 47 = false := by kernel_rfl
  rw [show (10000 : Nat) = 9999 + 1 from rfl, run_equalIn_agg w 9999 47 _ _ hS hp]
  simp only [Program.fieldsOf, Try.underlying47]
  go_simp
  unfold sameA
  by_cases h1 : k = k' <;> by_cases h2 : a = a' <;> simp [h1, h2]

theorem eql_act (k a k' a' : Int) (w : World) : (binOp .eql 47 (.agg #[.int .i64 k, .int .i64 a]) (.agg #[.int .i64 k', .int .i64 a'])).run Try.prog w = .ok (.bool (sameA k a k' a')) w := by
  rw [run_eql_struct, equalIn_act]
  rfl

theorem neq_act (k a k' a' : Int) (w : World) : (binOp .neq 47 (.agg #[.int .i64 k, .int .i64 a]) (.agg #[.int .i64 k', .int .i64 a'])).run Try.prog w = .ok (.bool (!sameA k a k' a')) w := by
  rw [run_neq_struct, equalIn_act]
  rfl

/-- an act in a box of its own, and all that was there stands. -/
def Box (w : World) (g : Nat) (k a : Int) (X : World) : Prop := X.cell? ⟨g, 0, none⟩ = some (.int .i64 k) ∧ X.cell? ⟨g, 1, none⟩ = some (.int .i64 a) ∧ g < X.heap.size ∧ Below w.heap.size w X

theorem Box.over {w : World} {g : Nat} {k a : Int} {X Y : World} (h : Box w g k a X) (hb : Below X.heap.size X Y) : Box w g k a Y :=
  ⟨(hb.cell (p := ⟨g, 0, none⟩) h.2.2.1).trans h.1, (hb.cell (p := ⟨g, 1, none⟩) h.2.2.1).trans h.2.1, Nat.lt_of_lt_of_le h.2.2.1 hb.size, h.2.2.2.trans (hb.mono h.2.2.2.size)⟩

theorem Box.drew {w : World} {g : Nat} {k a : Int} {X : World} (h : Box w g k a X) : Box w g k a X.drew := h.over (Below.refl _ _).drew

theorem box_new (w : World) (k a : Int) : Box w w.heap.size k a (w.alloc (Obj.cells #[.int .i64 k, .int .i64 a] 47)) :=
  ⟨(blk_new w _ 47).cell 0, (blk_new w _ 47).cell 1, (blk_new w _ 47).lt, (Below.refl _ _).alloc (Nat.le_refl _) _⟩

/-- an act's kind. -/
theorem field_act (k a : Int) (w : World) : (Instr.field 47 (.agg #[.int .i64 k, .int .i64 a]) 0).run Try.prog w = .ok (.int .i64 k) w := by kernel_rfl

end Go.Proofs.Ytamioifoemklfaa.A

namespace Go.Proofs.Ytamioifoemklfaa
open Go.RowKit

theorem cell_own {w : World} {base sz : Nat} {t : TypeId} {a : Option Addr} {n cap i : Nat} {xs : List Value} {u : Value} (h : w.ownsRow base t sz (.slice a n cap) n xs) (hi : xs[i]? = some u) : ∃ g, a = some ⟨g, 0, none⟩ ∧ w.cell? ⟨g, i, none⟩ = some u := by
  have hl := (List.getElem?_eq_some_iff.1 hi).1
  rcases h.2 with ⟨e, h0⟩ | ⟨g, c, cur, e, _⟩
  · rw [h.1, h0] at hl
    omega
  · cases e
    have := h.cells (g := g) rfl i u hi
    rw [Addr.add_lit, Nat.zero_add] at this
    exact ⟨g, rfl, this⟩
/-- some of a program's instructions. -/
theorem ins_part {w : World} {base : Nat} {a : Option Addr} {n cap : Nat} {L : List V.In} (h : w.ownsRow base 56 4 (.slice a n cap) n (V.cellsI L)) (hl : ∀ x ∈ L, x.ok) (p m : Nat) (hm : p + m ≤ n) (h0 : 0 < m) :
    ∃ g, a = some ⟨g, 0, none⟩ ∧ FlV w (.slice (some ⟨g, p * 4, none⟩) m m) ((L.drop p).take m) := by
  have hlen : L.length = n := by have := h.1; rw [V.cellsI_length] at this; omega
  obtain ⟨g, rfl, _⟩ : ∃ g, a = some ⟨g, 0, none⟩ ∧ True := by
    rcases h.2 with ⟨e, h1⟩ | ⟨g, c, cur, e, _⟩
    · omega
    · cases e
      exact ⟨g, rfl, trivial⟩
  have hcm : n ≤ maxLen := by
    rcases h.2 with ⟨e, _⟩ | ⟨_, _, _, e, _, _, h1, h2, _⟩
    · cases e
    · cases e
      omega
  have hk : ((L.drop p).take m).length = m := by rw [List.length_take, List.length_drop]; omega
  refine ⟨g, rfl, _, _, by rw [hk], ⟨rfl, fun x hx => hl x (List.mem_of_mem_drop (List.mem_of_mem_take hx)), fun _ => ⟨g, p * 4, rfl, fun i x hx => ?_⟩⟩, by rw [hk]; omega, by rw [hk]; exact Nat.le_refl _, fun e => by cases e⟩
  have hx2 : L[p + i]? = some x := by
    have hi := (List.getElem?_eq_some_iff.1 hx).1
    rw [List.getElem?_take_of_lt (by omega), List.getElem?_drop] at hx
    exact hx
  have key : ∀ c u, c < 4 → x.cells[c]? = some u → w.cell? ⟨g, p * 4 + i * 4 + c, none⟩ = some u := by
    intro c u hc hu
    have := h.cells (g := g) rfl ((p + i) * 4 + c) u (by rw [V.cellsI_get L (p + i) x c hx2 hc]; exact hu)
    rw [Addr.add_lit, Nat.zero_add, Nat.add_mul] at this
    exact this
  exact ⟨key 0 _ (by decide) rfl, key 1 _ (by decide) rfl, key 2 _ (by decide) rfl, key 3 _ (by decide) rfl⟩

theorem slice_full (W : World) (t e : TypeId) (ht : Try.prog.underlying t = some (.slice e)) (a : Option Addr) (ha : a = none ∨ ∃ g, a = some ⟨g, 0, none⟩) (n cap : Nat) (h : n ≤ cap) (h2 : cap ≤ maxLen) {sz : Nat} (hs : (sizeOf e).run Try.prog W = .ok sz W) :
    (Instr.slice t (.slice a n cap) none (some (.int .i64 n)) (some (.int .i64 n))).run Try.prog W = .ok (.slice a n n) W := by
  have e1 : Try.prog.elem t = e := by simp [Program.elem, ht]
  have h3 : cap ≤ 9223372036854775807 := by unfold maxLen at h2; omega
  have h4 : (n : Int) ≤ (cap : Int) := by omega
  rcases ha with rfl | ⟨g, rfl⟩
  · simp [Instr.slice, run_underlying ht, Instr.sliceBounds, run_sliceBound, hs, h4, Sem.run_bind, Result.andThen]
  · simp [Instr.slice, run_underlying ht, Instr.sliceBounds, run_sliceBound, hs, h4, Sem.run_bind, Result.andThen, Addr.add]

set_option maxRecDepth 8000 in
theorem len_any (X : World) (b : Nat) (vc ve : Value) (ls : List (List V.In)) (hS : StkV X b vc ve ls) :
    Calls Try.prog 12 #[.pointer (some ⟨b, 0, none⟩)] X fun e w' => e = .returned (.int .i64 (ls.length : Nat)) ∧ w' = X := by
  obtain ⟨ae, ce, rfl⟩ := own_slice hS.ends
  have c1 := hS.blk.cell 1
  simp only [List.getElem?_cons_succ, List.getElem?_cons_zero] at c1
  clear hS
  go_enter Try.func12, Try.ntmps12
  go_wp2_with fail
  go_ret
  exact ⟨rfl, rfl⟩

set_option maxRecDepth 8000 in
theorem cost_any (X : World) (b : Nat) (vc ve : Value) (ls : List (List V.In)) (hS : StkV X b vc ve ls) (h1 : ls.flatten.length ≤ 100000) (h2 : ls.length ≤ 1000) :
    Calls Try.prog 13 #[.pointer (some ⟨b, 0, none⟩)] X fun e w' => e = .returned (.int .i64 (costL ls : Nat)) ∧ Below X.heap.size X w' := by
  have HL : Hid (∀ m, Calls Try.prog 12 #[.pointer (some ⟨b, 0, none⟩)] (X.drewN m) fun e w' => e = .returned (.int .i64 (ls.length : Nat)) ∧ w' = X.drewN m) := fun m => len_any _ b vc ve ls (hS.over (A.below_drewN X m))
  have HB : Hid (∀ m, Below X.heap.size X (X.drewN m)) := fun m => A.below_drewN X m
  have HC : Hid ((costL ls : Int) = (ls.flatten.length : Int) + 4 * (ls.length : Int)) := by unfold Hid; rw [cost_flat]; omega
  obtain ⟨ac, cc, rfl⟩ := own_slice hS.code
  have c0 := hS.blk.cell 0
  simp only [List.getElem?_cons_zero] at c0
  clear hS
  have e1 : IntKind.i64.wrap (4 * (ls.length : Int)) = 4 * (ls.length : Int) := by rw [IntKind.wrap_i64]; omega
  have e2 : IntKind.i64.wrap ((ls.flatten.length : Int) + 4 * (ls.length : Int)) = (ls.flatten.length : Int) + 4 * (ls.length : Int) := by rw [IntKind.wrap_i64]; omega
  generalize costL ls = cl at *
  generalize ls.flatten.length = fl at *
  generalize ls.length = nl at *
  go_enter Try.func13, Try.ntmps13
  go_upto_region 1 with fail
  go_quiet ((first | (go_at_call 12; exact Calls.quiet_of_same (HL.out _))))
  go_wp2_with fail
  go_ret
  exact ⟨by rw [HC.out]; rfl, HB.out _⟩

set_option maxRecDepth 8000 in
set_option maxHeartbeats 1000000 in
theorem filter_any (X : World) (b : Nat) (vc ve : Value) (ls : List (List V.In)) (hS : StkV X b vc ve ls) (hok : OkS ls) (i : Nat) (hi : i < ls.length) :
    Calls Try.prog 35 #[.pointer (some ⟨b, 0, none⟩), .int .i64 i] X fun e w' => ∃ v, e = .returned v ∧ FlV X v ls[i] ∧ Below X.heap.size X w' := by
  have hlen := chk_len (hok.1 ls[i] (List.getElem_mem hi)).1
  have htf := take_flat hi
  have hfl := flat_le ls (i + 1)
  have hfc : ls.flatten.length ≤ 32768 := by have := hok.2.2; rw [cost_flat] at this; omega
  have h32 := hok.2.1
  obtain ⟨ac, cc, rfl⟩ := own_slice hS.code
  obtain ⟨ae, ce, rfl⟩ := own_slice hS.ends
  have hLok : ∀ x ∈ ls.flatten, x.ok := fun x hx => by
    obtain ⟨l, hl, hx⟩ := List.mem_flatten.1 hx
    exact (hok.1 l hl).2 x hx
  have hcc : ls.flatten.length ≤ cc := by
    rcases hS.code.2 with ⟨e, h⟩ | ⟨_, _, _, e, _, _, h1, _⟩
    · simp at e; omega
    · simp at e; omega
  obtain ⟨g, rfl, hFl⟩ := ins_part hS.code hLok (ls.take i).flatten.length ls[i].length (by omega) hlen.1
  rw [flat_at hi] at hFl
  obtain ⟨ge, rfl, ce1⟩ := cell_own hS.ends (i := i) (u := .int .i64 ((ls.take (i + 1)).flatten.length : Nat)) (by unfold V.cellsN; rw [List.getElem?_map, endsF_get 0 ls i hi, Nat.zero_add]; rfl)
  have c0 := hS.blk.cell 0
  have c1 := hS.blk.cell 1
  simp only [List.getElem?_cons_zero, List.getElem?_cons_succ] at c0 c1
  have HF : Hid (∀ o, o = (ls.take i).flatten.length * 4 → FlV X (.slice (some ⟨g, o, none⟩) ls[i].length ls[i].length) ls[i]) := fun o e => e ▸ hFl
  have HB : Hid (∀ m, Below X.heap.size X (X.drewN m)) := fun m => A.below_drewN X m
  have HP : Hid (∀ j, i = j + 1 → X.cell? ⟨ge, j, none⟩ = some (.int .i64 ((ls.take i).flatten.length : Nat))) := fun j e => by
    subst e
    obtain ⟨g2, e2, h2⟩ := cell_own hS.ends (i := j) (u := .int .i64 ((ls.take (j + 1)).flatten.length : Nat)) (by unfold V.cellsN; rw [List.getElem?_map, endsF_get 0 ls j (by omega), Nat.zero_add]; rfl)
    cases e2
    exact h2
  have HZ : Hid (i = 0 → (ls.take i).flatten.length = 0) := fun e => by subst e; rfl
  clear hS hLok hFl
  rw [htf] at ce1
  obtain ⟨q, hq⟩ : ∃ q, q = (ls.take i).flatten.length + ls[i].length := ⟨_, rfl⟩
  rw [← hq] at ce1
  have hk1 : q ≤ ls.flatten.length := by omega
  have hk2 : q - (ls.take i).flatten.length = ls[i].length := by omega
  have hk3 : (ls.take i).flatten.length < q := by omega
  clear hq
  clear htf hfl hok
  generalize (ls.take i).flatten.length = p at *
  generalize ls.flatten.length = fl at *
  have HI : Hid (i < ls.length) := hi
  generalize ls[i] = li at *
  generalize li.length = m at *
  have hi1 : (i : Int) < (ls.length : Int) := by omega
  have hsl : ∀ W : World, (Instr.slice 31 (.slice (some ⟨g, 0, none⟩) fl cc) (some (.int .i64 (p : Nat))) (some (.int .i64 (q : Nat))) (some (.int .i64 (q : Nat)))).run Try.prog W = .ok (.slice (some ⟨g, p * 4, none⟩) m m) W := fun W => by
    have q1 : (p : Int) ≤ (q : Int) := by omega
    have q2 : (q : Int) ≤ (cc : Int) := by omega
    have q3 : ¬ q = p := by omega
    have q4 : (sizeOf 56).run Try.prog W = .ok 4 W := by
      obtain ⟨i0, hi0, _, hz1, _⟩ := info_parts V.Try.info56
      simp [sizeOf, typeInfo, hi0, hz1]
    simp [Instr.slice, run_underlying Try.underlying31, Instr.sliceBounds, run_sliceBound, q1, q2, q3, q4, hk2, Sem.run_bind, Result.andThen, Addr.add]
    intro hp
    rw [hp]
  go_enter Try.func35, Try.ntmps35
  go_upto_region 1 with fail
  go_quiet (fail)
  by_cases h0 : i = 0
  · have hp := HZ.out h0
    have h00 : ¬ (0 : Int) < (i : Int) := by omega
    subst hp
    go_wp2_with fail
    go_ret
    exact ⟨_, rfl, HF.out _ rfl, HB.out _⟩
  · obtain ⟨j, rfl⟩ : ∃ j, i = j + 1 := ⟨i - 1, by omega⟩
    have cj := HP.out j rfl
    have h00 : (0 : Int) < ((j + 1 : Nat) : Int) := by omega
    go_wp2_with fail
    go_ret
    exact ⟨_, rfl, HF.out _ rfl, HB.out _⟩

end Go.Proofs.Ytamioifoemklfaa

namespace Go.Proofs.Ytamioifoemklfaa

section
variable {P : Program} {ops : Array Oper} {Q : Exit → Act → World → Prop} {md : Region.Mode} {S : World → Prop} {E : List Nat}

/-- whatever order is picked: S holds behind every operation but those of E. -/
def wpAnyL (P : Program) (md : Region.Mode) (ops : Array Oper) (Q : Exit → Act → World → Prop) (S : World → Prop) (E : List Nat) : Nat → Array Bool → Act → World → Prop
  | 0, listed, a, w => Region.ready md ops listed = [] ∧ Q .normal a w
  | fuel + 1, listed, a, w => (Region.ready md ops listed = [] → Q .normal a w) ∧ ∀ i ∈ Region.ready md ops listed, wpOp P ops Q i (fun a' w' => (E.contains i = false → S w') ∧ wpAnyL P md ops Q S E fuel (listed.setIfInBounds i true) a' w') a w

theorem wpAny_of_late : ∀ (fuel : Nat) (listed : Array Bool) (a : Act) (w : World), wpAnyL P md ops Q S E fuel listed a w → wpAny P md ops Q fuel listed a w
  | 0, _, _, _, h => h
  | fuel + 1, _, _, _, h => ⟨h.1, fun i hi => wpOp_mono (fun a' w' h' => wpAny_of_late fuel _ a' w' h'.2) (h.2 i hi)⟩

/-- each of D waits for i, or for one of D. -/
def Waits (md : Region.Mode) (ops : Array Oper) (i : Nat) (D : List Nat) : Bool := D.all fun j => match ops[j]? with | some o => o.after.any (fun e => Region.binds md e && (e.on == i || D.contains e.on)) | none => false
/-- none of D has come up. -/
def Unl (listed : Array Bool) (D : List Nat) : Bool := D.all fun j => !listed.getD j true

theorem unl_out {listed : Array Bool} {k : Nat} (h : listed.getD k true = false) : listed.getD k false = false := by
  rcases Nat.lt_or_ge k listed.size with h' | h'
  · simp [h'] at h ⊢; exact h
  · simp [Array.getElem?_eq_none h'] at h
theorem not_down {listed : Array Bool} {i j : Nat} {D : List Nat} (hi : listed.getD i true = false) (hD : ∀ d ∈ D, listed.getD d true = false) (hW : Waits md ops i D = true) (hj : j ∈ Region.ready md ops listed) : j ∉ D := by
  intro hjD
  obtain ⟨_, o, ho, hall⟩ := mem_ready.1 hj
  have h1 := List.all_eq_true.1 hW j hjD
  simp only [ho] at h1
  obtain ⟨k, hk, h2⟩ := Array.any_eq_true.1 h1
  rw [Bool.and_eq_true, Bool.or_eq_true] at h2
  have h3 := hall _ (Array.getElem_mem hk) h2.1
  rcases h2.2 with h4 | h4
  · rw [eq_of_beq h4, unl_out hi] at h3
    cases h3
  · rw [unl_out (hD _ (List.contains_iff_mem.1 h4))] at h3
    cases h3

theorem wpAnyL_first {i : Nat} {oi : Oper} {v : Value} {D : List Nat} (hi : ops[i]? = some oi) (hsel : ∀ (j : Nat) (o : Oper) cs b, ops[j]? = some o → o.op ≠ .select cs b)
    (hQ : ∀ c a w, Q (.panic c) (a.put oi.dst v) w → Q (.panic c) a w) (hW : Waits md ops i D = true) (hE : ∀ j, E.contains j = true → j ∈ D) :
    ∀ (fuel : Nat) (listed : Array Bool) (a : Act) (w : World),
      (∀ j oj, ops[j]? = some oj → j ≠ i → listed.getD j true = false → (∀ e ∈ oj.after, Region.binds md e = true → e.on ≠ i) → oi.apart ops oj = true) →
      i ∈ Region.ready md ops listed → (∀ d ∈ D, listed.getD d true = false) → YieldsIf P ops S oi v a → S w →
      wpAnyL P md ops Q S E fuel (listed.setIfInBounds i true) (a.put oi.dst v) w → wpAnyL P md ops Q S E (fuel + 1) listed a w := by
  intro fuel
  induction fuel with
  | zero =>
    intro listed a w _ hr _ hy hS H
    refine ⟨fun h => absurd hr (by rw [h]; exact List.not_mem_nil), fun j hj => ?_⟩
    by_cases hji : j = i
    · subst hji
      exact hy.wpOp hi hS ⟨fun _ => hS, H⟩
    · exact absurd (ready_mono hj hji) (by rw [H.1]; exact List.not_mem_nil)
  | succ fuel ih =>
    intro listed a w hfree hr hD hy hS H
    refine ⟨fun h => absurd hr (by rw [h]; exact List.not_mem_nil), fun j hj => ?_⟩
    by_cases hji : j = i
    · subst hji
      exact hy.wpOp hi hS ⟨fun _ => hS, H⟩
    · have hiu := (mem_ready.1 hr).1
      have hjD := not_down hiu hD hW hj
      have hjE : E.contains j = false := by
        cases hc : E.contains j with
        | false => rfl
        | true => exact absurd (hE j hc) hjD
      obtain ⟨hjun, oj, hoj, hall⟩ := mem_ready.1 hj
      have hnot : ∀ e ∈ oj.after, Region.binds md e = true → e.on ≠ i := fun e he hb heq => by
        have h1 := hall e he hb
        rw [heq, unl_out hiu] at h1
        cases h1
      have h2 := wpOp_putIf hoj (hfree j oj hoj hji hjun hnot) (fun cs b => hsel i oi cs b hi) (fun cs b => hsel j oj cs b hoj) hQ hy (H.2 j (ready_mono hj hji))
      refine wpOp_mono (fun a' w' h3 => ⟨h3.2.1, ih (listed.setIfInBounds j true) a' w' (fun k ok hk hki hun hno => hfree k ok hk hki ?_ hno) (ready_mono hr (Ne.symm hji)) (fun d hd => ?_) h3.1 (h3.2.1 hjE) ?_⟩) h2
      · by_cases hjk : j = k
        · exact hjk ▸ hjun
        · rw [getD_set_ne true hjk] at hun
          exact hun
      · rw [getD_set_ne true (fun e : j = d => hjD (by rw [e]; exact hd))]
        exact hD d hd
      · rw [Array.setIfInBounds_comm _ _ hji]
        exact h3.2.2

/-- take number i first: all of E wait for it, by way of D. -/
theorem wpAnyL_take {i : Nat} {oi : Oper} {v : Value} {fuel : Nat} {listed : Array Bool} {a : Act} {w : World} (D : List Nat) (hW : Waits md ops i D = true) (hE : E.all (D.contains ·) = true) (hD : Unl listed D = true) (hi : ops[i]? = some oi)
    (hs : Region.noSelect ops = true) (hf : Region.free md ops listed i = true) (hr : (Region.ready md ops listed).contains i = true)
    (hQ : ∀ c a w, Q (.panic c) (a.put oi.dst v) w → Q (.panic c) a w) (hy : YieldsIf P ops S oi v a) (hS : S w)
    (h : wpAnyL P md ops Q S E fuel (listed.setIfInBounds i true) (a.put oi.dst v) w) : wpAnyL P md ops Q S E (fuel + 1) listed a w :=
  wpAnyL_first hi (Region.noSelect_spec hs) hQ hW (fun j hj => List.contains_iff_mem.1 (List.all_eq_true.1 hE j (List.contains_iff_mem.1 hj))) fuel listed a w (Region.free_spec hi hf) (List.contains_iff_mem.1 hr)
    (fun d hd => by have := List.all_eq_true.1 hD d hd; simpa using this) hy hS h

/-- the one that may come up comes up. -/
theorem wpAnyL_one {i fuel : Nat} {listed : Array Bool} {a : Act} {w : World} {o : Oper} (hr : Region.ready md ops listed = [i]) (ho : ops[i]? = some o)
    (h : ∀ K : Act → World → Prop, Shut (∀ a w, (E.contains i = false → S w) → wpAnyL P md ops Q S E fuel (listed.setIfInBounds i true) a w → K a w) → if Region.wanted o (yielded ops a.tmps) = true then Oper.wp P o a w K Q else K (a.put o.dst undef) w) :
    wpAnyL P md ops Q S E (fuel + 1) listed a w :=
  ⟨fun h0 => (by rw [hr] at h0; cases h0), fun j hj => by
    rw [hr] at hj
    cases List.mem_singleton.1 hj
    exact wpOp_step ho (fun K hK => h K (fun a w hS hW => hK a w ⟨hS, hW⟩))⟩

theorem wpAnyL_done {listed : Array Bool} {a : Act} {w : World} (hr : Region.ready md ops listed = []) (h : Q .normal a w) : ∀ fuel, wpAnyL P md ops Q S E fuel listed a w
  | 0 => ⟨hr, h⟩
  | _ + 1 => ⟨fun _ => h, fun i hi => (by rw [hr] at hi; cases hi)⟩

theorem wp_region_late {id : Nat} {a : Act} {w : World} (hm : P.follows .mixedOrders = true) (hS : S w.drew)
    (h : S w.drew → wpAnyL P .any ops Q S E ops.size (Array.replicate ops.size false) a w.drew) : (Code.region id ops true).wp P Q a w :=
  wp_region_any hm (wpAny_of_late _ _ _ _ (h hS))

end
end Go.Proofs.Ytamioifoemklfaa
