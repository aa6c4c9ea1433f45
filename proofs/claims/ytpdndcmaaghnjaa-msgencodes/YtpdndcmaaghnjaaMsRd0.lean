/-
  The message of bytes, by package msg, read by its kind: what is read so far, as it lies.
-/
import Derived.Test.YtpdndcmaaghnjaaMsCall2
import Derived.Test.YtpdndcmaaghnjaaMsRight
import Derived.Test.YtpdndcmaaghnjaaMsWtr
import Derived.Test.YtpdndcmaaghnjaaLate
namespace Go.Proofs.Ytpdndcmaaghnjaa
open Go.RowKit
open D (Da Blk)
open K (numR textR endR)

/-- a message that is read: its reader, its cells, the cells of the result. -/
structure MR (w0 : World) (res mb rb : Nat) (st : List Int × Int) (R : List Value) (W : World) : Prop where
  rd : K.Rd W rb st
  m : Blk W mb 28 R
  r : Blk W res 28 zero15
  b : Below w0.heap.size w0 W
  h1 : rb ≠ mb
  h2 : rb ≠ res
  h3 : mb ≠ res
  l1 : w0.heap.size ≤ rb
  l2 : w0.heap.size ≤ mb
  l3 : w0.heap.size ≤ res
theorem blk_grown {w w' : World} {g b : Nat} {t : TypeId} {R : List Value} (h : Blk w g t R) (k : w.grownBy w' (some b)) (hne : b ≠ g) : Blk w' g t R := by
  unfold D.Blk at *
  rw [k.block g (lt_of_block h) (fun e => hne (by cases e; rfl))]
  exact h
theorem MR.num {w0 W W' : World} {res mb rb : Nat} {st st' : List Int × Int} {R : List Value} (h : MR w0 res mb rb st R W) (hr : K.Rd W' rb st') (hg : W.grownBy W' (some rb)) : MR w0 res mb rb st' R W' :=
  ⟨hr, blk_grown h.m hg h.h1, blk_grown h.r hg h.h2, h.b.grown hg h.b.size (fun k e => by cases e; exact h.l1), h.h1, h.h2, h.h3, h.l1, h.l2, h.l3⟩
theorem MR.set {w0 W : World} {res mb rb : Nat} {st : List Int × Int} {R : List Value} (h : MR w0 res mb rb st R W) (i : Nat) (v : Value) : MR w0 res mb rb st (R.set i v) (W.setCell ⟨mb, i, none⟩ v) := by
  refine ⟨?_, h.m.set i v, h.r.other _ _ (fun e => h.h3 e.symm), h.b.setCell h.l2 _, h.h1, h.h2, h.h3, h.l1, h.l2, h.l3⟩
  refine h.rd.grown (row := some mb) (K.grown_set _ _ _ _) (fun e => h.h1 (by cases e; rfl)) (fun g C f hC e => ?_)
  cases e
  have hm := h.m
  unfold D.Blk at hm
  rw [hm] at hC
  simp at hC
theorem MR.drew {w0 W : World} {res mb rb : Nat} {st : List Int × Int} {R : List Value} (h : MR w0 res mb rb st R W) : MR w0 res mb rb st R W.drew :=
  ⟨h.rd.below (D.below_drewN W 1), h.m.drew, h.r.drew, h.b.drew, h.h1, h.h2, h.h3, h.l1, h.l2, h.l3⟩
theorem MR.rlt {w0 W : World} {res mb rb : Nat} {st : List Int × Int} {R : List Value} (h : MR w0 res mb rb st R W) : rb < W.heap.size := h.rd.lt

theorem results_mg {fn : Func} {p u : Tmp} (h : fn.results = #[.cell p 28, .tmp u]) (tmps : Array Value) (w : World) (g : Nat) (l : List Value) (y : Value)
    (hp : tmps.getD p undef = .pointer (some ⟨g, 0, none⟩)) (hg : Blk w g 28 l) (hl : (Try.prog.info? 28).map (·.size) = some l.toArray.size) (hy : tmps.getD u undef = y) :
    (results fn tmps).run Try.prog w = .ok (.tuple #[.agg l.toArray, y]) w := by
  rw [results_cell_tmp h, hp, hy]
  simp [asAddr, run_loadVar_row w g 28 28 l.toArray (0, 0) _ hg Try.underlying28 rfl hl]

end Go.Proofs.Ytpdndcmaaghnjaa
