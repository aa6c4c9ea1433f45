/-
  What a call tells; a function that is ranged over; nodes as values.
-/
import Derived.Test.YtilemgpopjlchaaDoorRCl
import Derived.Test.YtilemgpopjlchaaDoorVMath
import Derived.RangeFuncNested
import Derived.RangeFuncBound
import Derived.RangeFuncCalls
import Derived.RangeFuncLeaves
import Derived.RangeFuncBox
import Derived.Shelf.Abstract
import Derived.OwnWalkIn
import Derived.TacticsInMore
import Derived.LoopNIn
import Derived.LoopIn
namespace Go.Proofs.YtilemgpopjlchaaDoor
open Go.RowKit Go.Shelf

/-- what a call tells; nothing that was there has turned. -/
def Tells (W : World) (v : Value) (e : Ending) (w' : World) : Prop := e = .returned v ∧ Below W.heap.size W w'
/-- a name that is handed out. -/
def encT (x : List UInt8) : Array Value := #[.string (bar x)]
/-- a function that hands out the names of l, as long as what lies below w0's end stands. -/
structure SeqN (w0 : World) (l : List UInt8) (gf : Nat) (lb : Array Value) : Prop where
  ent : Enters Tryd.prog gf
  stops : SeqStopsK Fence.wide 2 Tryd.prog gf lb encT (Below w0.heap.size) (fun ys => ys = namesP l) (fun pre => pre <+: namesP l) (namesP l).length w0
theorem boxed_over {W W' : World} {B : Nat} {t : TypeId} {v : Value} (h : Boxed W B t v) (hb : Below W.heap.size W W') : Boxed W' B t v := (hb.block B h.lt).trans h
theorem below_set' {C : Nat} {w : World} {b i : Nat} {v : Value} (h : C ≤ b) : Below C w (w.setCell ⟨b, i, none⟩ v) :=
  ⟨by simp [World.setCell], by simp [World.setCell], by simp [World.setCell], by simp, fun k hk => heap_setCell_other w ⟨b, i, none⟩ k v (fun e => by have : k = b := e; omega)⟩
theorem err_ok {l : List UInt8} (h : rightP l = true) : errP l = 0 := if_pos h
theorem err_no {l : List UInt8} (h : rightP l = false) : errP l = 1 := by unfold errP; rw [h]; rfl

end Go.Proofs.YtilemgpopjlchaaDoor
