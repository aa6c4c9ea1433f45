/-
  A run as it lies in memory: the struct behind the pointer, and the map of its cells.
-/
import Derived.Test.YtcckipimfgmmdaaGreatDoorVVSmall
import Derived.Maps.Own
import Derived.Maps.Views
namespace Go.Proofs.YtcckipimfgmmdaaGreatDoor.V
open Go.RowKit Go.Maps

/-- nothing has turned but two blocks; new ones may be there. -/
structure But (b m : Nat) (w w' : World) : Prop where
  os : w'.os = w.os
  tape : w'.tape = w.tape
  output : w'.output = w.output
  size : w.heap.size ≤ w'.heap.size
  block : ∀ k, k < w.heap.size → k ≠ b → k ≠ m → w'.heap[k]? = w.heap[k]?

section
variable {b m : Nat} {w w' v : World}
theorem But.refl (b m : Nat) (w : World) : But b m w w := ⟨rfl, rfl, rfl, Nat.le_refl _, fun _ _ _ _ => rfl⟩
theorem But.trans (h : But b m w w') (k : But b m w' v) : But b m w v :=
  ⟨k.os.trans h.os, k.tape.trans h.tape, k.output.trans h.output, Nat.le_trans h.size k.size, fun i hi h1 h2 => (k.block i (Nat.lt_of_lt_of_le hi h.size) h1 h2).trans (h.block i hi h1 h2)⟩
theorem But.of (h : Below w.heap.size w w') : But b m w w' := ⟨h.os, h.tape, h.output, h.size, fun k hk _ _ => h.block k hk⟩
theorem But.over (h : But b m w w') (k : Below w'.heap.size w' v) : But b m w v := h.trans (But.of k)
theorem But.drew (h : But b m w w') : But b m w w'.drew := ⟨h.os, h.tape, h.output, h.size, h.block⟩
theorem But.set (h : But b m w w') (i : Nat) (u : Value) : But b m w (w'.setCell ⟨b, i, none⟩ u) :=
  h.trans ⟨rfl, rfl, rfl, by simp [World.setCell], fun k _ h1 _ => Below.heap_setCell _ _ _ _ h1⟩
theorem But.grown (h : But b m w w') (g : w'.grownBy v (some m)) : But b m w v :=
  h.trans ⟨g.os, g.tape, g.output, g.size, fun k hk _ h2 => g.block k hk (fun e => h2 (by injection e))⟩
theorem But.below {B : Nat} {w0 : World} (h : Below B w0 w) (k : But b m w w') (hb : B ≤ b) (hm : B ≤ m) (hB : B ≤ w.heap.size) : Below B w0 w' :=
  h.trans ⟨k.os, k.tape, k.output, k.size, fun i hi => k.block i (by omega) (by omega) (by omega)⟩
theorem But.blk {j : Nat} {t : TypeId} {l : List Value} (h : But b m w w') (k : Blk w j t l) (h1 : j ≠ b) (h2 : j ≠ m) : Blk w' j t l := by
  unfold Blk at *
  rw [h.block j (lt_of_block k) h1 h2]
  exact k
theorem But.row {base sz : Nat} {t : TypeId} {x : Value} {n : Nat} {xs : List Value} (h : But b m w w') (k : w.ownsRow base t sz x n xs) (h1 : b < base) (h2 : m < base) : w'.ownsRow base t sz x n xs := by
  refine ⟨k.1, ?_⟩
  rcases k.2 with hn | ⟨g, cap, cur, hv, hg, hh, r⟩
  · exact .inl hn
  · exact .inr ⟨g, cap, cur, hv, hg, by rw [h.block g (lt_of_block hh) (by omega) (by omega)]; exact hh, r⟩
end

theorem wf32 {k : Int} (h : U32 k) : (Lit.int .u32 k).wf = true := by
  unfold U32 at h
  have e1 : IntKind.u32.min = 0 := by decide
  have e2 : IntKind.u32.max = 4294967295 := by decide
  simp [Lit.wf, e1, e2]
  exact h

theorem zero23 (w : World) : (zeroValue 23).run Tryz.prog w = .ok (.int .u32 0) w := by kernel_rfl

/-- block m is a map of at most n cells, that reads so; a cell that is not there is 0. -/
def Cel (w : World) (m n : Nat) (C : Int → Int) : Prop :=
  ∃ D : DataW Unit, w.ownsMap Tryz.prog 23 (plainElem Tryz.prog 23) m n D ∧ IsMap D ∧ ∀ k, U32 k → D.atKey (.int .u32 k) (.lit (.int .u32 0)) = .lit (.int .u32 (C k))

theorem cel_new (w : World) : Cel (w.alloc (.map #[] 0)) w.heap.size 0 (fun _ => 0) :=
  ⟨.map [], World.ownsMap_made w _ _ _, isMap_empty, fun _ _ => rfl⟩

section
variable {w w' : World} {m n : Nat} {C : Int → Int}
theorem Cel.lt (h : Cel w m n C) : m < w.heap.size := by obtain ⟨D, h1, _⟩ := h; exact h1.lt
theorem Cel.kept {r : Option Nat} (h : Cel w m n C) (hg : w.grownBy w' r) (hne : some m ≠ r) : Cel w' m n C := by obtain ⟨D, h1, h2⟩ := h; exact ⟨D, h1.kept hg hne, h2⟩
theorem Cel.over (h : Cel w m n C) (hb : Below w.heap.size w w') : Cel w' m n C := h.kept (r := none) ⟨hb.os, hb.tape, hb.output, hb.size, fun k hk _ => hb.block k hk⟩ (by simp)
theorem Cel.drew (h : Cel w m n C) : Cel w.drew m n C := h
theorem Cel.mono {n' : Nat} (h : Cel w m n C) (hn : n ≤ n') : Cel w m n' C := by obtain ⟨D, h1, h2⟩ := h; exact ⟨D, h1.mono hn, h2⟩
theorem Cel.set (h : Cel w m n C) (b i : Nat) (u : Value) (hne : m ≠ b) : Cel (w.setCell ⟨b, i, none⟩ u) m n C :=
  h.kept (r := some b) ⟨rfl, rfl, rfl, by simp [World.setCell], fun k _ h1 => Below.heap_setCell _ _ _ _ (fun e => h1 (by rw [e]))⟩ (fun e => hne (by injection e))
set_option maxRecDepth 100000 in
theorem Cel.look (h : Cel w m n C) (k : Int) (hk : U32 k) : (Instr.lookup 146 (.map (some m)) (.int .u32 k) false).run Tryz.prog w = .ok (.int .u32 (C k)) w := by
  obtain ⟨D, h1, _, h2⟩ := h
  obtain ⟨c, hrun, hat, _⟩ := h1.lookup_int (int_keyed Tryz.underlying23) Tryz.underlying146 Tryz.underlying23 (zero23 w) (keyOf_int_mk Tryz.underlying23 (wf32 hk))
  rw [h2 k hk] at hat
  injection hat with hat
  injection hat with _ hat
  rw [hrun, hat]
set_option maxRecDepth 100000 in
theorem Cel.put (h : Cel w m n C) (k v : Int) (hk : U32 k) (hv : U32 v) (hn : n ≤ 1000000) : ∃ w', (Instr.mapUpdate 146 (.map (some m)) (.int .u32 k) (.int .u32 v)).run Tryz.prog w = .ok () w' ∧ Cel w' m (n + 1) (putC C k v) ∧ w.grownBy w' (some m) := by
  obtain ⟨D, h1, h3, h2⟩ := h
  obtain ⟨w', hrun, ho, hg⟩ := h1.update (int_keyed Tryz.underlying23) Tryz.underlying146 (by unfold maxLen; omega) (keyOf_int_mk Tryz.underlying23 (wf32 hk)) (plainElem_int Tryz.underlying23 (wf32 hv))
  refine ⟨w', hrun, ⟨_, ho, h3.put _ _, fun j hj => ?_⟩, hg⟩
  unfold putC
  by_cases e : j = k
  · subst e
    rw [if_pos rfl, atKey_put_same h3 (by trivial)]
  · rw [if_neg e, atKey_put_other (by intro h; injection h; contradiction)]
    exact h2 j hj
end

/-- a run, behind a pointer. -/
def Vm (w : World) (b m n : Nat) (d : Da) (s : St) : Prop :=
  Blk w b 148 (d.cells ++ [.int .u32 s.a, .int .u32 s.x, .map (some m), .int .u32 s.ans]) ∧ Cel w m n s.c

section
variable {w w' : World} {b m n : Nat} {d : Da} {s : St}
theorem Vm.cells (h : Vm w b m n d s) (hd : d.ok) : w.cell? ⟨b, 9, none⟩ = some (.int .u32 s.a) ∧ w.cell? ⟨b, 10, none⟩ = some (.int .u32 s.x) ∧ w.cell? ⟨b, 11, none⟩ = some (.map (some m)) ∧ w.cell? ⟨b, 12, none⟩ = some (.int .u32 s.ans) := by
  have hl := d.cells_len hd
  refine ⟨?_, ?_, ?_, ?_⟩ <;> (rw [h.1.cell, List.getElem?_append_right (by omega), hl]; rfl)
theorem Vm.call (h : Vm w b m n d s) (hd : d.ok) (i : Nat) (hi : i < 9) : w.cell? ⟨b, i, none⟩ = d.cells[i]? := by
  have hl := d.cells_len hd
  rw [h.1.cell, List.getElem?_append_left (by omega)]
theorem Vm.over (h : Vm w b m n d s) (hb : Below w.heap.size w w') : Vm w' b m n d s := ⟨h.1.over hb, h.2.over hb⟩
theorem Vm.drew (h : Vm w b m n d s) : Vm w.drew b m n d s := h
theorem Vm.mono {n' : Nat} (h : Vm w b m n d s) (hn : n ≤ n') : Vm w b m n' d s := ⟨h.1, h.2.mono hn⟩
theorem Vm.f (h : Vm w b m n d s) (i : Nat) : w.frozen? ⟨b, i, none⟩ = false := h.1.f i
theorem Vm.setA (h : Vm w b m n d s) (hd : d.ok) (hne : m ≠ b) (v : Int) : Vm (w.setCell ⟨b, 9, none⟩ (.int .u32 v)) b m n d { s with a := v } := by
  refine ⟨?_, h.2.set b 9 _ hne⟩
  have := h.1.set 9 (.int .u32 v)
  rw [List.set_append_right _ _ (by rw [d.cells_len hd]; omega), d.cells_len hd] at this
  exact this
theorem Vm.setX (h : Vm w b m n d s) (hd : d.ok) (hne : m ≠ b) (v : Int) : Vm (w.setCell ⟨b, 10, none⟩ (.int .u32 v)) b m n d { s with x := v } := by
  refine ⟨?_, h.2.set b 10 _ hne⟩
  have := h.1.set 10 (.int .u32 v)
  rw [List.set_append_right _ _ (by rw [d.cells_len hd]; omega), d.cells_len hd] at this
  exact this
theorem Vm.setAns (h : Vm w b m n d s) (hd : d.ok) (hne : m ≠ b) (v : Int) : Vm (w.setCell ⟨b, 12, none⟩ (.int .u32 v)) b m n d { s with ans := v } := by
  refine ⟨?_, h.2.set b 12 _ hne⟩
  have := h.1.set 12 (.int .u32 v)
  rw [List.set_append_right _ _ (by rw [d.cells_len hd]; omega), d.cells_len hd] at this
  exact this
theorem Vm.put (h : Vm w b m n d s) (hne : m ≠ b) (C : Int → Int) (hg : w.grownBy w' (some m)) (hc : Cel w' m (n + 1) C) : Vm w' b m (n + 1) d { s with c := C } := by
  refine ⟨?_, hc⟩
  have := h.1
  unfold Blk at *
  rw [hg.block b (lt_of_block this) (fun e => hne (by injection e with e; exact e.symm))]
  exact this
end

end Go.Proofs.YtcckipimfgmmdaaGreatDoor.V
