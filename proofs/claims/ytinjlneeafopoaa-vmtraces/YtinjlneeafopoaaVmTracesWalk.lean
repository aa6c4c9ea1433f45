/-
  The law VmTraces, walked: true for every program and call.
-/
import Derived.Test.YtinjlneeafopoaaSTrace
import Derived.Test.YtinjlneeafopoaaAwake
import Derived.Test.YtinjlneeafopoaaSameInts
namespace Go.Proofs.Ytinjlneeafopoaa
open Go.RowKit

theorem plV_len (l : List In) (d : Da) : (plV l d).length ≤ 4096 := by
  unfold plV
  by_cases h : errV l = 0
  · rw [if_pos h, List.length_map]
    have h1 := runV_len l d l.length 0 St.zero
    have h2 := (chk_ok l h).2.1
    unfold allV
    omega
  · rw [if_neg h]
    exact Nat.zero_le _

set_option maxHeartbeats 2000000 in
theorem vmTraces_walk (a : Option Addr) (len cap : Nat) (ins : List In) (d : Da) (w : World) (hlen : len ≤ maxLen) (h : Ins w a len ins) (hd : d.ok) :
    Calls Try.prog 4 #[.slice a len cap, d.val] w fun e w' => e = .returned (.bool true) ∧ Below w.heap.size w w' := by
  have HW : Hid (∀ W : World, Calls Try.prog 9 #[] W fun e w' => e = .returned (.bool true) ∧ Below W.heap.size W w') := awake_any
  have H1 : Hid (∀ X, Below w.heap.size w X → Calls Try.prog 12 #[.slice a len cap, .agg d.cells.toArray] X fun e w' => TraceTold X w' e ins d) := fun X hX => trace_any a len cap ins d X hlen (h.below hX) hd
  have H2 : Hid (∀ X, Below w.heap.size w X → Calls Try.prog 13 #[.slice a len cap, .agg d.cells.toArray] X fun e w' => TraceTold X w' e ins d) := fun X hX => refTrace_any a len cap ins d X hlen (h.below hX) hd
  have HSD : Hid ((Try.prog.info? 27).map (·.size) = some d.cells.toArray.size) := by unfold Hid; rw [Try.size27]; simp [d.cells_len hd]
  have HB : Hid (Blk (w.alloc (Obj.cells d.cells.toArray 27)) w.heap.size 27 d.cells) := blk_new w _ 27
  have HL : Hid ((plV ins d).length ≤ 4096) := plV_len ins d
  unfold TraceTold at H1 H2
  unfold Da.val
  clear h hd hlen
  generalize plV ins d = pl at *
  generalize errV ins = er at *
  go_enter Try.func4, Try.ntmps4
  go_wp2_with (first | (go_at_call 9; refine (HW.out _).mono ?_; rintro e w1 ⟨rfl, b1⟩; have B1 : Hid (Below w.heap.size w w1) := (below_new w _).trans (b1.mono (below_new w _).size); have D1 : Hid (Blk w1 w.heap.size 27 d.cells) := HB.out.over b1) | (refine at_op (.load 27 (.tmp 3)) rfl ?_; first | (refine wpList_load_row rfl 27 (.tmp 3) rfl w.heap.size rfl 27 d.cells.toArray (0, 0) _ D2.out Try.underlying27 rfl HSD.out ?_) | (refine wpList_load_row rfl 27 (.tmp 3) rfl w.heap.size rfl 27 d.cells.toArray (0, 0) _ D1.out Try.underlying27 rfl HSD.out ?_)) | (go_at_call 12; refine (H1.out _ B1.out).mono ?_; rintro e w2 ⟨b2, v2, rfl, o2⟩; obtain ⟨a2, c2, rfl, n2⟩ := owns_ns o2; have B2 : Hid (Below w.heap.size w w2) := B1.out.trans (b2.mono B1.out.size); have D2 : Hid (Blk w2 w.heap.size 27 d.cells) := D1.out.over b2; have N2 : Hid (Ns .i64 w2 a2 pl.length pl) := n2; clear n2 o2) | (go_at_call 13; refine (H2.out _ B2.out).mono ?_; rintro e w3 ⟨b3, v3, rfl, o3⟩; obtain ⟨a3, c3, rfl, n3⟩ := owns_ns o3; have B3 : Hid (Below w.heap.size w w3) := B2.out.trans (b3.mono B2.out.size); have N3 : Hid (Ns .i64 w3 a2 pl.length pl) := N2.out.below b3; have N4 : Hid (Ns .i64 w3 a3 pl.length pl) := n3; clear n3 o3) | (go_at_call 14; refine (same_any a2 a3 pl.length c2 c3 pl _ (by have := HL.out; omega) N3.out N4.out).mono ?_; rintro e w5 ⟨rfl, b5⟩))
  go_ret
  exact ⟨rfl, B3.out.trans (b5.mono B3.out.size)⟩

end Go.Proofs.Ytinjlneeafopoaa
