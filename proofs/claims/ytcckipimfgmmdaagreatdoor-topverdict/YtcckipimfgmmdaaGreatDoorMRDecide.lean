/-
  What rules say of a call, by the document.
-/
import Derived.Test.YtcckipimfgmmdaaGreatDoorMRCheck
import Derived.Test.YtcckipimfgmmdaaGreatDoorMDecide
import Derived.Test.YtcckipimfgmmdaaGreatDoorMCRef
namespace Go.Proofs.YtcckipimfgmmdaaGreatDoor.M
open Go.RowKit

/-- does a rule speak of a call, by numbers? -/
def namedN (z : Int) (l : List ByteArray) : Bool := l.any fun s => knB s && (nrI s == z)

theorem named_eq (z : Int) (l : List ByteArray) : (isNr z && namedB z l) = namedN z l := by
  unfold namedB namedN
  induction l with
  | nil => simp
  | cons x l ih =>
    rw [List.any_cons, List.any_cons, ← ih, ← spk]
    cases isNr z <;> simp

def meetN (d : Da) (x : Xl) : Bool := namedN d.n x.names && x.conds.all (hB d)

/-- the act of the first rule that does, by numbers. -/
def verdN (d : Da) (k a : Int) : List Xl → Int × Int
  | [] => (k, a)
  | x :: r => if meetN d x = true then (x.k, x.a) else verdN d k a r

theorem verd_eq (d : Da) (k a : Int) (l : List Xl) : verdP d k a l = verdN d k a l := by
  unfold verdP
  cases h : isNr d.n with
  | true =>
    rw [if_pos rfl]
    induction l with
    | nil => rfl
    | cons x l ih =>
      have : meetB d x = meetN d x := by
        unfold meetB meetN
        rw [← named_eq, h, Bool.true_and]
      unfold verdF verdN
      rw [this, ih]
  | false =>
    rw [if_neg (by decide)]
    induction l with
    | nil => rfl
    | cons x l ih =>
      have : meetN d x = false := by
        unfold meetN
        rw [← named_eq, h, Bool.false_and, Bool.false_and]
      unfold verdN
      rw [this, if_neg (by decide)]
      exact ih

theorem verdN_step {d : Da} {k a : Int} {l : List Xr} {i : Nat} (h : i < l.length) : verdN d k a ((l.drop i).map Xr.r) = if meetN d l[i].r = true then (l[i].r.k, l[i].r.a) else verdN d k a ((l.drop (i + 1)).map Xr.r) := by
  rw [List.drop_eq_getElem_cons h]
  rfl
theorem verdN_end {d : Da} {k a : Int} {l : List Xr} {i : Nat} (h : ¬ i < l.length) : verdN d k a ((l.drop i).map Xr.r) = (k, a) := by
  rw [List.drop_eq_nil_of_le (by omega)]
  rfl

theorem anyN_step {z : Int} {l : List ByteArray} {i : Nat} (h : i < l.length) : namedN z (l.take (i + 1)) = (namedN z (l.take i) || (knB l[i] && (nrI l[i] == z))) := by
  unfold namedN
  rw [List.take_succ_eq_append_getElem h, List.any_append]
  simp
theorem allH_step {d : Da} {l : List Xc} {i : Nat} (h : i < l.length) : (l.take (i + 1)).all (hB d) = ((l.take i).all (hB d) && hB d l[i]) := by
  rw [List.take_succ_eq_append_getElem h, List.all_append]
  simp

theorem nine_of (d : Da) (h : d.ok) : ∃ d1 d2 d3 d4 d5 d6 d7 d8, d.cells = [.int .u32 d.n, d1, d2, d3, d4, d5, d6, d7, d8] := by
  obtain ⟨n, a, p, g⟩ := d
  obtain ⟨_, _, _, h6, _⟩ := h
  match g, h6 with
  | [g0, g1, g2, g3, g4, g5], _ => exact ⟨_, _, _, _, _, _, _, _, rfl⟩

/-- a rule that is walked through, and a call, in blocks of their own. -/
theorem two_rd (w : World) (C : Array Value) (A : List Value) : Blk ((w.alloc (Obj.cells C 87)).alloc (Obj.cells A.toArray 27)) w.heap.size 87 C.toList ∧ Blk ((w.alloc (Obj.cells C 87)).alloc (Obj.cells A.toArray 27)) (w.heap.size + 1) 27 A ∧ Below w.heap.size w ((w.alloc (Obj.cells C 87)).alloc (Obj.cells A.toArray 27)) :=
  ⟨(blk_new w _ 87).alloc _, blk_new' w _ _ 27, room_below w _ _⟩

end Go.Proofs.YtcckipimfgmmdaaGreatDoor.M
