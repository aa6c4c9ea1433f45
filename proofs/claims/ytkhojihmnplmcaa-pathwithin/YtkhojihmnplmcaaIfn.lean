/-
  What the program's Names tells, as an interface: a function that is ranged over.
-/
import Derived.Test.YtkhojihmnplmcaaIfp
import Derived.RangeFuncNested
import Derived.RangeFuncBound
import Derived.RangeFuncCalls
import Derived.RangeFuncLeaves
import Derived.RangeFuncBox
import Derived.Shelf.Abstract
import Derived.OwnWalkIn
import Derived.TacticsInMore
import Derived.LoopNIn
import Derived.LoopIn
namespace Go.Proofs.Ytkhojihmnplmcaa
open Go.RowKit Go.Shelf

/-- a name that is handed out. -/
def encT (x : List UInt8) : Array Value := #[.string (bar x)]
/-- a function that hands out the names of l, as long as what lies below w0's end stands. -/
structure SeqN (w0 : World) (l : List UInt8) (gf : Nat) (lb : Array Value) : Prop where
  ent : Enters Try.prog gf
  stops : SeqStopsK Fence.wide 2 Try.prog gf lb encT (Below w0.heap.size) (fun ys => ys = namesP l) (fun pre => pre <+: namesP l) (namesP l).length w0
structure Ifn : Prop where
  base : Ifp
  names : ∀ (s : ByteArray) (W : World), s.size ≤ 5000 → Calls Try.prog 16 #[.string s] W fun e w' => ∃ gf lb, e = .returned (.func (.func gf) #[] lb) ∧ Below W.heap.size W w' ∧ SeqN w' (lst s) gf lb
  join : ∀ (v : Value) (L : List (List UInt8)) (base : Nat) (W : World), W.ownsRow base 9 1 v L.length (cellsT L) → L.length ≤ 100000 → (joinF L).length ≤ 1000000 → Calls Try.prog 18 #[v] W (Tells W (.string (bar (joinP L))))
theorem boxed_over {W W' : World} {B : Nat} {t : TypeId} {v : Value} (h : Boxed W B t v) (hb : Below W.heap.size W W') : Boxed W' B t v := (hb.block B h.lt).trans h

end Go.Proofs.Ytkhojihmnplmcaa
