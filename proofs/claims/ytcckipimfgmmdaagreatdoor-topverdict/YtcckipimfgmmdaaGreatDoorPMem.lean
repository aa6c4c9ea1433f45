/-
  Tokens as they lie in memory; rows of them that a call makes; a text's iterator in any world; the two errors that strconv hands on.
-/
import Derived.Test.YtcckipimfgmmdaaGreatDoorPMath
import Derived.Test.YtcckipimfgmmdaaGreatDoorChecked
import Derived.WalkKit
import Derived.WalkSpells
import Derived.WalkLawsBesides
import Derived.Laws.AppendOwnNone
import Derived.Laws.MakeOwn
import Derived.Laws.OwnMore
import Derived.Laws.Rows
import Derived.Laws.Tables
import Derived.Laws.CopyOwn
import Derived.Laws.StructEq
import Derived.Laws.RangeString
import Derived.Laws.RangeAny
import Derived.Laws.IdiomStrings
namespace Go.Proofs.YtcckipimfgmmdaaGreatDoor.P
open Go.RowKit

theorem Tryz.info108 : (Tryz.prog.info? 108).map (fun i => (i.zero, i.size, i.bytes)) = some (some (.agg #[.int .i64 0, .int .i64 0, .string ⟨#[]⟩, .int .u64 0]), 4, 40) := by kernel_rfl
theorem Tryz.size108 : (Tryz.prog.info? 108).map (·.size) = some 4 := by kernel_rfl

theorem ret_int {k : IntKind} {a b : Int} (h : a = b) : Ending.returned (.int k a) = .returned (.int k b) := by rw [h]
theorem ret_bool {a b : Bool} (h : a = b) : Ending.returned (.bool a) = .returned (.bool b) := by rw [h]

theorem owns_block {w : World} {base sz : Nat} {t : TypeId} {v : Value} {n : Nat} {xs : List Value} (h : w.ownsRow base t sz v n xs) : ∀ k, v.ownBlock = some k → base ≤ k := by
  intro k hk
  rcases h.2 with ⟨rfl, rfl⟩ | ⟨g, cap, cur, rfl, hb, _⟩
  · cases hk
  · cases hk; exact hb

theorem owns_lower {w : World} {B B' sz : Nat} {t : TypeId} {v : Value} {n : Nat} {xs : List Value} (h : w.ownsRow B t sz v n xs) (hB : B' ≤ B) : w.ownsRow B' t sz v n xs := by
  refine ⟨h.1, ?_⟩
  rcases h.2 with hn | ⟨g, cap, cur, hv, hg, r⟩
  · exact .inl hn
  · exact .inr ⟨g, cap, cur, hv, Nat.le_trans hB hg, r⟩

/-- a row stays where no block below a bound is touched, and it lies below. -/
theorem owns_below {w w' : World} {base sz B : Nat} {t : TypeId} {v : Value} {n : Nat} {xs : List Value} (h : w.ownsRow base t sz v n xs) (hb : Below B w w') (hB : w.heap.size ≤ B) : w'.ownsRow base t sz v n xs := by
  refine ⟨h.1, ?_⟩
  rcases h.2 with hn | ⟨g, cap, cur, hv, hg, hh, r⟩
  · exact .inl hn
  · exact .inr ⟨g, cap, cur, hv, hg, by rw [hb.block g (Nat.lt_of_lt_of_le (lt_of_block hh) hB)]; exact hh, r⟩

theorem size_alloc' (w : World) (o : Obj) : (w.alloc o).heap.size = w.heap.size + 1 := by
  show (w.heap.push o).size = _
  simp

theorem below_drewN (w : World) (n : Nat) : Below w.heap.size w (w.drewN n) := by
  induction n with
  | zero => exact Below.refl _ _
  | succ n ih => exact ih.drew

/-- a block of cells that nobody froze. -/
def Blk (w : World) (b : Nat) (t : TypeId) (l : List Value) : Prop := w.heap[b]? = some (.cells l.toArray t (0, 0))

section
variable {w : World} {b : Nat} {t : TypeId} {l : List Value}
theorem Blk.cell (h : Blk w b t l) (i : Nat) : w.cell? ⟨b, i, none⟩ = l[i]? := by
  rw [cell_of_row w b i _ _ _ h]
  simp
theorem Blk.f (h : Blk w b t l) (i : Nat) : w.frozen? ⟨b, i, none⟩ = false := frozen_of_row w b i _ _ h
theorem Blk.lt (h : Blk w b t l) : b < w.heap.size := lt_of_block h
theorem Blk.below {w' : World} {B : Nat} (h : Blk w b t l) (hb : Below B w w') (hB : b < B) : Blk w' b t l := by unfold Blk; rw [hb.block b hB]; exact h
theorem Blk.over {w' : World} (h : Blk w b t l) (hb : Below w.heap.size w w') : Blk w' b t l := h.below hb h.lt
theorem Blk.set (h : Blk w b t l) (i : Nat) (v : Value) : Blk (w.setCell ⟨b, i, none⟩ v) b t (l.set i v) := by
  have := heap_setCell_same w b i _ _ v h
  unfold Blk
  rw [this]
  simp
theorem Blk.other (h : Blk w b t l) (a : Addr) (v : Value) (hne : b ≠ a.block) : Blk (w.setCell a v) b t l := by
  unfold Blk
  rw [heap_setCell_other w a b v hne]
  exact h
theorem Blk.row (h : Blk w b t l) (cs : Array Value) : Blk (w.setRow b cs) b t cs.toList := by
  unfold Blk
  rw [setRow_heap w b _ cs _ _ h]
theorem Blk.alloc (h : Blk w b t l) (o : Obj) : Blk (w.alloc o) b t l := by
  unfold Blk
  have hb : Below w.heap.size w (w.alloc o) := (Below.refl _ _).alloc (Nat.le_refl _) _
  rw [hb.block b h.lt]
  exact h
end

theorem blk_new (w : World) (cs : Array Value) (t : TypeId) : Blk (w.alloc (Obj.cells cs t)) w.heap.size t cs.toList := by
  unfold Blk
  rw [heap_alloc_new]

/-- a token as a value. -/
def tokA (k p : Int) (s : ByteArray) (n : Int) : Array Value := #[.int .i64 k, .int .i64 p, .string s, .int .u64 n]

/-- a token as cells. -/
def Tok.cells (x : Tok) : List Value := [.int .i64 x.k, .int .i64 x.at', .string (bar x.t), .int .u64 x.n]

/-- tokens as cells. -/
def cellsT (l : List Tok) : List Value := l.flatMap Tok.cells

theorem cellsT_snoc (l : List Tok) (x : Tok) : cellsT (l ++ [x]) = cellsT l ++ x.cells := by simp [cellsT]

theorem cellsT_length (l : List Tok) : (cellsT l).length = l.length * 4 := by
  induction l with
  | nil => rfl
  | cons x l ih =>
    show (x.cells ++ cellsT l).length = _
    rw [List.length_append, ih, List.length_cons, Nat.add_mul]
    show 4 + _ = _
    omega

theorem cellsT_get (l : List Tok) : ∀ (i : Nat) (x : Tok) (c : Nat), l[i]? = some x → c < 4 → (cellsT l)[i * 4 + c]? = x.cells[c]? := by
  induction l with
  | nil => intro i x c h; simp at h
  | cons y l ih =>
    intro i x c h hc
    show (y.cells ++ cellsT l)[i * 4 + c]? = _
    cases i with
    | zero =>
      simp at h
      subst h
      rw [List.getElem?_append_left (by show _ < 4; omega)]
      congr 1
      omega
    | succ i =>
      rw [List.getElem?_append_right (by show 4 ≤ _; omega)]
      rw [List.getElem?_cons_succ] at h
      rw [← ih i x c h hc]
      congr 1
      show (i + 1) * 4 + c - 4 = _
      omega

/-- the cells of a token. -/
def Tok.at (x : Tok) (w : World) (b o : Nat) : Prop :=
  w.cell? ⟨b, o, none⟩ = some (.int .i64 x.k) ∧ w.cell? ⟨b, o + 1, none⟩ = some (.int .i64 x.at') ∧ w.cell? ⟨b, o + 2, none⟩ = some (.string (bar x.t)) ∧ w.cell? ⟨b, o + 3, none⟩ = some (.int .u64 x.n)

/-- the tokens that a slice leads to. -/
def Toks (w : World) (a : Option Addr) (len : Nat) (l : List Tok) : Prop :=
  l.length = len ∧ (0 < len → ∃ b, a = some ⟨b, 0, none⟩ ∧ ∀ (i : Nat) (x : Tok), l[i]? = some x → x.at w b (i * 4))

theorem Tok.at.below {x : Tok} {w w' : World} {b o : Nat} (h : x.at w b o) (hb : Below w.heap.size w w') : x.at w' b o := by
  obtain ⟨h1, h2, h3, h4⟩ := h
  have hlt : b < w.heap.size := World.block_lt_of_cell? w _ h1
  exact ⟨(hb.cell (p := ⟨b, o, none⟩) hlt).trans h1, (hb.cell (p := ⟨b, o + 1, none⟩) hlt).trans h2, (hb.cell (p := ⟨b, o + 2, none⟩) hlt).trans h3, (hb.cell (p := ⟨b, o + 3, none⟩) hlt).trans h4⟩

theorem Toks.below {w w' : World} {a : Option Addr} {len : Nat} {l : List Tok} (h : Toks w a len l) (hb : Below w.heap.size w w') : Toks w' a len l := by
  refine ⟨h.1, fun h0 => ?_⟩
  obtain ⟨b, ha, hc⟩ := h.2 h0
  exact ⟨b, ha, fun i x hi => (hc i x hi).below hb⟩

theorem owns_toks {w : World} {base : Nat} {v : Value} {n : Nat} {l : List Tok} (h : w.ownsRow base 108 4 v n (cellsT l)) : ∃ a cap, v = .slice a n cap ∧ Toks w a n l := by
  have hlen : l.length = n := by have := h.1; rw [cellsT_length] at this; omega
  rcases h.2 with ⟨rfl, rfl⟩ | ⟨g, cap, cur, rfl, hb, hg, hnc, hcm, hcs, htake⟩
  · exact ⟨none, 0, rfl, hlen, fun h => absurd h (by omega)⟩
  · refine ⟨_, cap, rfl, hlen, fun _ => ⟨g, rfl, fun i x hx => ?_⟩⟩
    have key : ∀ c u, c < 4 → x.cells[c]? = some u → w.cell? ⟨g, i * 4 + c, none⟩ = some u := by
      intro c u hc hu
      have := h.cells (g := g) rfl (i * 4 + c) u (by rw [cellsT_get l i x c hx hc]; exact hu)
      rw [show (⟨g, i * 4 + c, none⟩ : Addr) = (⟨g, 0, none⟩ : Addr).add (i * 4 + c) from by unfold Addr.add; split <;> simp_all]
      exact this
    exact ⟨key 0 _ (by decide) rfl, key 1 _ (by decide) rfl, key 2 _ (by decide) rfl, key 3 _ (by decide) rfl⟩

theorem new_cells (w : World) (x : Tok) (o : Obj) (ho : o = .cells #[.int .i64 x.k, .int .i64 x.at', .string (bar x.t), .int .u64 x.n] 108) : ∀ j u, x.cells[j]? = some u → (w.alloc o).cell? ((⟨w.heap.size, 0, none⟩ : Addr).add j) = some u := by
  subst ho
  intro j u hu
  match j, hu with
  | 0, hu => cases hu; simp [Addr.add]
  | 1, hu => cases hu; simp [Addr.add]
  | 2, hu => cases hu; simp [Addr.add]
  | 3, hu => cases hu; simp [Addr.add]

theorem append_tok {w : World} {ops : Array Oper} {rest : List Oper} {o : Oper} {a : Act} {Q : Exit → Act → World → Prop} (hgd : o.guard = none) (s x : Operand)
    (ho : o.op = .call { callee := .builtin .append, args := #[s, x], argTypes := #[69, 69] })
    (base : Nat) (v : Value) (n : Nat) (l : List Tok) (hs : a.eval s = v) (hown : w.ownsRow base 108 4 v n (cellsT l))
    (it : Tok) (ad : Addr) (hx : a.eval x = .slice (some ad) 1 1) (hnews : ∀ j u, it.cells[j]? = some u → w.cell? (ad.add j) = some u)
    (hn : n ≤ 1000000) (hbase : base ≤ w.heap.size)
    (h : ∀ v' w', w'.ownsRow base 108 4 v' (n + 1) (cellsT (l ++ [it])) → w.grownBy w' v.ownBlock → wpList Tryz.prog ops Q rest (a.put o.dst v') w') : wpList Tryz.prog ops Q (o :: rest) a w := by
  obtain ⟨i0, hi, hz0, hz1, hz2⟩ := info_parts Tryz.info108
  refine wpList_append_own _ hgd s x 69 ho base 108 i0 _ 4 40 Tryz.underlying69 hi hz0 hz1 hz2 rfl (by decide) v n (cellsT l) hs hown ad 1 1 it.cells hx rfl hnews (by intro u hu; simp [Tok.cells] at hu; rcases hu with rfl | rfl | rfl | rfl <;> rfl) (by unfold maxLen; omega) (by omega) hbase ?_
  intro v' w' h1 h2 _
  exact h v' w' (by rw [cellsT_snoc]; exact h1) h2

/-- an iterator, moved on. -/
def iterTo (w : World) (b : Nat) (s : ByteArray) (pos : Nat) : World := { w with heap := w.heap.setIfInBounds b (.stringIter s pos) }

theorem iterTo_at {w : World} {b : Nat} {s s' : ByteArray} {pos pos' : Nat} (h : w.heap[b]? = some (.stringIter s pos)) : (iterTo w b s' pos').heap[b]? = some (.stringIter s' pos') := by
  show (w.heap.setIfInBounds b _)[b]? = _
  have hb : b < w.heap.size := (Array.getElem?_eq_some_iff.1 h).1
  rw [Array.getElem?_setIfInBounds_self_of_lt hb]

theorem iterTo_other {w : World} {b k : Nat} {s : ByteArray} {pos : Nat} (h : k ≠ b) : (iterTo w b s pos).heap[k]? = w.heap[k]? := by
  show (w.heap.setIfInBounds b _)[k]? = _
  rw [Array.getElem?_setIfInBounds_ne (Ne.symm h)]

theorem iterTo_size {w : World} {b : Nat} {s : ByteArray} {pos : Nat} : (iterTo w b s pos).heap.size = w.heap.size := by
  show (w.heap.setIfInBounds b _).size = _
  simp

theorem iterTo_below {B : Nat} {a w : World} (h : Below B a w) {b : Nat} (hb : B ≤ b) (s : ByteArray) (pos : Nat) : Below B a (iterTo w b s pos) :=
  ⟨h.os, h.tape, h.output, by rw [iterTo_size]; exact h.size, fun k hk => by rw [iterTo_other (by omega)]; exact h.block k hk⟩

theorem iterTo_owns {w : World} {base sz : Nat} {t : TypeId} {v : Value} {n : Nat} {xs : List Value} (h : w.ownsRow base t sz v n xs) {b : Nat} {s s' : ByteArray} {pos pos' : Nat} (hb : w.heap[b]? = some (.stringIter s pos)) : (iterTo w b s' pos').ownsRow base t sz v n xs := by
  refine ⟨h.1, ?_⟩
  rcases h.2 with hn | ⟨g, cap, cur, hv, hg, hh, r⟩
  · exact .inl hn
  · refine .inr ⟨g, cap, cur, hv, hg, ?_, r⟩
    rw [iterTo_other (by intro e; rw [e, hb] at hh; cases hh)]
    exact hh

theorem next_at (w : World) (b : Nat) (s : ByteArray) (pos : Nat) (ty : TypeId) (hb : w.heap[b]? = some (.stringIter s pos)) (h : pos < s.size) :
    (Instr.next (.pointer (some ⟨b, 0, none⟩)) true ty).run Tryz.prog w =
      .ok (.tuple #[.bool true, .int .i64 pos, .int .i32 (Utf8.decode s pos).1]) (iterTo w b s (pos + (Utf8.decode s pos).2)) := by
  simp only [Instr.next, getObj, setObj, Sem.run_bind, Sem.run, hb, Result.andThen, h, if_true]
  simp [goInt, iterTo]

theorem next_end (w : World) (b : Nat) (s : ByteArray) (pos : Nat) (ty : TypeId) (hb : w.heap[b]? = some (.stringIter s pos)) (h : ¬ pos < s.size) :
    (Instr.next (.pointer (some ⟨b, 0, none⟩)) true ty).run Tryz.prog w = .ok (.tuple #[.bool false]) w := by
  simp [Instr.next, getObj, Sem.run, hb, h]

/-- strconv's two errors are laid. -/
def Vars (w : World) : Prop := ∃ t0 v0 t1 v1, w.cell? ⟨1, 0, none⟩ = some (.iface t0 v0) ∧ w.cell? ⟨2, 0, none⟩ = some (.iface t1 v1)

theorem Vars.below {w w' : World} (h : Vars w) (hb : Below w.heap.size w w') : Vars w' := by
  obtain ⟨t0, v0, t1, v1, h0, h1⟩ := h
  exact ⟨t0, v0, t1, v1, (hb.cell (p := ⟨1, 0, none⟩) (World.block_lt_of_cell? w _ h0)).trans h0, (hb.cell (p := ⟨2, 0, none⟩) (World.block_lt_of_cell? w _ h1)).trans h1⟩

end Go.Proofs.YtcckipimfgmmdaaGreatDoor.P
