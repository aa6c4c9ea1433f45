/-
  Short names for laws of lists, and a step of a drawn region.
-/
import Derived.Deep.RegionHeld3
import Derived.WalkKit
import Derived.KernelRfl
namespace Go.Proofs.YtmcgcbgblgmmkaaGreatDoor
open Go
theorem zA {α : Type} {l : List α} {i : Nat} {a : α} : l.toArray.setIfInBounds i a = (l.set i a).toArray := by simp
theorem zB {α : Type} {x b : α} {l : List α} : (x :: l).set 0 b = b :: l := rfl
theorem zC {α : Type} {x b : α} {l : List α} {i : Nat} : (x :: l).set (i + 1) b = x :: l.set i b := rfl
theorem zD {α : Type} {l : List α} {i : Nat} (h : i < l.toArray.size) : getElem l.toArray i h = getElem l i (by simpa using h) := rfl
theorem zE {α : Type} {x : α} {l : List α} {h : 0 < (x :: l).length} : getElem (x :: l) 0 h = x := rfl
theorem zF {α : Type} {x : α} {l : List α} {i : Nat} {h : i + 1 < (x :: l).length} : getElem (x :: l) (i + 1) h = getElem l i (Nat.lt_of_succ_lt_succ h) := rfl
theorem tk {P : Program} {md : Region.Mode} {ops : Array Oper} {Q : Exit → Act → World → Prop} {S : World → Prop} (i : Nat) {oi : Oper} (v : Value) {fuel : Nat} {listed : Array Bool} {a : Act} {w : World} (hS : S w) (hy : ∀ w, S w → (execOp a.eval oi).run P w = .ok (.value v) w)
    (h : wpAnyH P md ops Q S fuel (listed.setIfInBounds i true) (a.put oi.dst v) w) (hi : ops[i]? = some oi := by rfl) (hg : Region.wanted oi (yielded ops a.tmps) = true := by rfl) (hs : Region.noSelect ops = true := by kernel_rfl) (hf : Region.free md ops listed i = true := by kernel_rfl) (hr : (Region.ready md ops listed).contains i = true := by kernel_rfl) (hQ : ∀ c a w, Q (.panic c) (a.put oi.dst v) w → Q (.panic c) a w := by exact fun _ _ _ h => h) : wpAnyH P md ops Q S (fuel + 1) listed a w :=
  wpAnyH_take hi hs hf hr hQ (Or.inl ⟨hg, hy⟩) hS h
end Go.Proofs.YtmcgcbgblgmmkaaGreatDoor
