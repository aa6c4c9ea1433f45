/-
  The condition that holds where another one does not, by package cond and by the document: proved.
-/
import Derived.Test.YtcckipimfgmmdaaGreatDoorCForm
namespace Go.Proofs.YtcckipimfgmmdaaGreatDoor.C
open Go.RowKit

/-- a condition in a box of its own, another block behind it, and all that was there stands. -/
def Kc (w : World) (l : List Value) (t : TypeId) (r : List Value) (X : World) : Prop := Blk X w.heap.size 139 l ∧ Blk X (w.heap.size + 1) t r ∧ Below w.heap.size w X

theorem Kc.over {w X Y : World} {l r : List Value} {t : TypeId} (h : Kc w l t r X) (hb : Below X.heap.size X Y) : Kc w l t r Y := ⟨h.1.over hb, h.2.1.over hb, h.2.2.trans (hb.mono h.2.2.size)⟩

theorem kc_new (w : World) (l r : List Value) (t : TypeId) : Kc w l t r ((w.alloc (Obj.cells l.toArray 139)).alloc (Obj.cells r.toArray t)) :=
  ⟨(blk_new w _ 139).alloc _, blk_new' w _ _ t, room_below w _ _⟩

theorem Kc.set {w X : World} {l r : List Value} {t : TypeId} (h : Kc w l t r X) (i : Nat) (x : Value) : Kc w (l.set i x) t r (X.setCell ⟨w.heap.size, i, none⟩ x) :=
  ⟨h.1.set i x, h.2.1.other ⟨w.heap.size, i, none⟩ x (Nat.succ_ne_self _), h.2.2.setCell (p := ⟨w.heap.size, i, none⟩) (Nat.le_refl _) x⟩

theorem results_row2 {fn : Func} {p u : Tmp} (h : fn.results = #[.cell p 139, .tmp u]) (tmps : Array Value) (w : World) (g : Nat) (l : List Value) (y : Value)
    (hp : tmps.getD p undef = .pointer (some ⟨g, 0, none⟩)) (hg : Blk w g 139 l) (hl : (Tryz.prog.info? 139).map (·.size) = some l.toArray.size) (hy : tmps.getD u undef = y) :
    (results fn tmps).run Tryz.prog w = .ok (.tuple #[.agg l.toArray, y]) w := by
  rw [results_cell_tmp h, hp, hy]
  simp [asAddr, run_loadVar_row w g 139 139 l.toArray (0, 0) _ hg Tryz.underlying139 rfl hl]

theorem co_one (a o m v : Int) : (#[.int .i64 a, .int .i64 o, .int .u64 m, .int .u64 v] : Array Value).all (·.oneCell') = true := by simp [Value.oneCell']

/-- what Not tells. -/
def notV (a o m v : Int) : Value := if rightB a o = true then .tuple #[.agg #[.int .i64 a, .int .i64 (opp o), .int .u64 m, .int .u64 v], .int .i64 0] else .tuple #[.agg #[.int .i64 0, .int .i64 0, .int .u64 0, .int .u64 0], .int .i64 1]


end Go.Proofs.YtcckipimfgmmdaaGreatDoor.C
