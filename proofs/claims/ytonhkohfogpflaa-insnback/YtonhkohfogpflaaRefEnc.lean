/-
  The document's own bytes of an instruction, proved of every instruction.
-/
import Derived.Test.YtonhkohfogpflaaLay
namespace Go.Proofs.Ytonhkohfogpflaa
open Go.RowKit

theorem owns_eight (w : World) (base : Nat) (hbase : base ≤ w.heap.size) (l : List Int) (hl : l.length = 8) (o : Obj) (ho : o = .cells (cellsB l).toArray 5) : (w.alloc o).ownsRow base 5 1 (.slice (some ⟨w.heap.size, 0, none⟩) 8 8) 8 (cellsB l) := by
  subst ho
  have hc : (cellsB l).length = 8 := by simp [cellsB, hl]
  refine ⟨by rw [hc], .inr ⟨w.heap.size, 8, (cellsB l).toArray, rfl, hbase, ?_, Nat.le_refl _, by decide, by simp [hc], ?_⟩⟩
  · show (w.heap.push _)[w.heap.size]? = _
    simp
  · show (cellsB l).take 8 = _
    rw [List.take_of_length_le (by omega)]

set_option maxHeartbeats 400000 in
theorem refEncode_any (x : In) (w : World) (hx : x.ok) :
    Calls Try.prog 19 #[x.val] w fun e w' => Below w.heap.size w w' ∧ ∃ v', e = .returned v' ∧ w'.ownsRow w.heap.size 5 1 v' 8 (cellsB x.enc) := by
  have HO : Hid (∀ o : Obj, ((w.alloc o).alloc (.cells (cellsB x.enc).toArray 5)).ownsRow w.heap.size 5 1 (.slice (some ⟨w.heap.size + 1, 0, none⟩) 8 8) 8 (cellsB x.enc)) := by
    intro o
    have := owns_eight (w.alloc o) w.heap.size (by rw [size_alloc']; omega) x.enc rfl _ rfl
    rw [size_alloc'] at this
    exact this
  have HB : Hid (∀ o o2 : Obj, Below w.heap.size w ((w.alloc o).alloc o2)) := fun o o2 => ((Below.refl _ _).alloc (Nat.le_refl _) _).alloc (by rw [size_alloc']; omega) _
  obtain ⟨c, t, f, k⟩ := x
  obtain ⟨⟨a1, a2⟩, ⟨b1, b2⟩, ⟨c1, c2⟩, ⟨d1, d2⟩⟩ := hx
  simp only at a1 a2 b1 b2 c1 c2 d1 d2
  have HE : Hid (IntKind.u16.wrap (c.tdiv 256) % 256 = c / 256) := by
    unfold Hid
    rw [Int.tdiv_eq_ediv_of_nonneg a1, IntKind.wrap_u16]
    omega
  clear b1 b2 c1 c2
  unfold In.val
  go_enter Try.func19, Try.ntmps19
  go_wp2
  go_ret
  rw [HE.out]
  exact ⟨HB.out _ _, _, rfl, HO.out _⟩

end Go.Proofs.Ytonhkohfogpflaa
