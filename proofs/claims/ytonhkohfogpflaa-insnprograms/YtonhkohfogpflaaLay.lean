/-
  What an instruction's bytes are when they are laid, proved of every instruction.
-/
import Derived.Test.YtonhkohfogpflaaMem
namespace Go.Proofs.Ytonhkohfogpflaa
open Go.RowKit

theorem size_alloc' (w : World) (o : Obj) : (w.alloc o).heap.size = w.heap.size + 1 := by
  show (w.heap.push o).size = _
  simp

theorem bs_four' (w : World) (o : Obj) (p q r s : Int) (h : Byt [p, q, r, s]) : Bs ((w.alloc o).alloc (.cells #[.int .u8 p, .int .u8 q, .int .u8 r, .int .u8 s] 5)) (some ⟨w.heap.size + 1, 0, none⟩) 4 [p, q, r, s] := by
  have := bs_four (w.alloc o) p q r s h
  rw [size_alloc'] at this
  exact this

theorem own_lt {w : World} {base sz : Nat} {t : TypeId} {v : Value} {n : Nat} {xs : List Value} (h : w.ownsRow base t sz v n xs) : ∀ k, v.ownBlock = some k → k < w.heap.size := by
  intro k hk
  rcases h.2 with ⟨rfl, rfl⟩ | ⟨g, cap, cur, rfl, hb, hh, _⟩
  · cases hk
  · cases hk; exact lt_of_block hh

/-- a cell of a block just made, behind an append to an elder row. -/
theorem boxed_cell {w w1 : World} {o o2 : Obj} {v : Value} {i : Nat} {u : Value} (hg : ((w.alloc o).alloc o2).grownBy w1 v.ownBlock) (hv : ∀ k, v.ownBlock = some k → k < w.heap.size) (hu : (w.alloc o).cell? ⟨w.heap.size, i, none⟩ = some u) : w1.cell? ⟨w.heap.size, i, none⟩ = some u := by
  rw [World.cell?_of_block (w := (w.alloc o).alloc o2) (hg.block w.heap.size (by rw [size_alloc', size_alloc']; omega) (fun e => by have := hv _ e.symm; omega))]
  have hb : Below (w.alloc o).heap.size (w.alloc o) ((w.alloc o).alloc o2) := (Below.refl _ _).alloc (Nat.le_refl _) _
  rw [hb.cell (p := ⟨w.heap.size, i, none⟩) (by rw [size_alloc']; exact Nat.lt_succ_self _)]
  exact hu

set_option maxHeartbeats 400000 in
theorem lay_any (base : Nat) (v : Value) (n : Nat) (l : List Int) (x : In) (w : World) (hx : x.ok) (ho : w.ownsRow base 5 1 v n (cellsB l)) (hn : n ≤ 900000000) (hbase : base ≤ w.heap.size) :
    Calls Try.prog 33 #[v, x.val] w fun e w' => Below base w w' ∧ ∃ v', e = .returned v' ∧ w'.ownsRow base 5 1 v' (n + 8) (cellsB (l ++ x.enc)) := by
  obtain ⟨c, t, f, k⟩ := x
  obtain ⟨⟨a1, a2⟩, ⟨b1, b2⟩, ⟨c1, c2⟩, ⟨d1, d2⟩⟩ := hx
  simp only at a1 a2 b1 b2 c1 c2 d1 d2
  have HB1 : Hid (Byt [c % 256, c / 256, t, f]) := by
    intro z hz
    simp only [List.mem_cons, List.not_mem_nil, or_false] at hz
    rcases hz with rfl | rfl | rfl | rfl <;> omega
  have HB2 : Hid (Byt [k % 256, k / 256 % 256, k / 65536 % 256, k / 16777216]) := by
    intro z hz
    simp only [List.mem_cons, List.not_mem_nil, or_false] at hz
    rcases hz with rfl | rfl | rfl | rfl <;> omega
  have HS : Hid (∀ o : Obj, (w.alloc o).heap.size = w.heap.size + 1) := fun o => size_alloc' w o
  unfold In.val
  clear b1 b2 c1 c2
  go_enter Try.func33, Try.ntmps33
  go_wp2_with (at_builtin; first | (refine append_bytes rfl (.tmp 5) (.tmp 17) rfl base _ n l rfl ((ho.alloc _).alloc _) (some ⟨w.heap.size + 1, 0, none⟩) 4 4 [c % 256, c / 256, t, f] rfl (by simp) (bs_four' w _ _ _ _ _ HB1.out) (by omega) (by rw [size_alloc', size_alloc']; omega) ?_; intro v1 w1 ho1 hg1; have hk : w1.cell? ⟨w.heap.size, 3, none⟩ = some (.int .u32 k) := boxed_cell hg1 (own_lt ho) (by simp)) | (refine append_bytes rfl (.tmp 19) (.tmp 35) rfl base _ (n + 4) _ rfl (ho1.alloc _) (some ⟨w1.heap.size, 0, none⟩) 4 4 [k % 256, k / 256 % 256, k / 65536 % 256, k / 16777216] rfl (by simp) (bs_four w1 _ _ _ _ HB2.out) (by omega) (by have := hg1.size; rw [size_alloc', size_alloc'] at this; rw [size_alloc']; omega) ?_; intro v2 w2 ho2 hg2))
  go_ret
  have e2 : Below base w ((w.alloc (Obj.cells #[.int .u16 c, .int .u8 t, .int .u8 f, .int .u32 k] 27)).alloc (Obj.cells #[.int .u8 (c % 256), .int .u8 (c / 256), .int .u8 t, .int .u8 f] 5)) := ((Below.refl _ _).alloc hbase _).alloc (by rw [size_alloc']; omega) _
  have e3 : Below base w w1 := e2.grown hg1 (by rw [size_alloc', size_alloc']; omega) (owns_block ho)
  have e4 := e3.alloc (Nat.le_trans hbase e3.size) (Obj.cells #[.int .u8 (k % 256), .int .u8 (k / 256 % 256), .int .u8 (k / 65536 % 256), .int .u8 (k / 16777216)] 5)
  have e5 := e4.grown hg2 (Nat.le_trans hbase e4.size) (owns_block ho1)
  refine ⟨e5, _, rfl, ?_⟩
  rw [List.append_assoc] at ho2
  exact ho2

theorem encode_any (x : In) (w : World) (hx : x.ok) :
    Calls Try.prog 18 #[x.val] w fun e w' => Below w.heap.size w w' ∧ ∃ v', e = .returned v' ∧ w'.ownsRow w.heap.size 5 1 v' 8 (cellsB x.enc) := by
  have e1 : ∀ o, Below w.heap.size w (w.alloc o) := fun o => (Below.refl _ _).alloc (Nat.le_refl _) _
  have HX : Hid x.ok := hx
  have HL : Hid (∀ (w1 : World), w.heap.size ≤ w1.heap.size → Calls Try.prog 33 #[.slice none 0 0, x.val] w1 fun e w' => Below w.heap.size w1 w' ∧ ∃ v', e = .returned v' ∧ w'.ownsRow w.heap.size 5 1 v' 8 (cellsB x.enc)) := by
    intro w1 h1
    refine (lay_any w.heap.size (.slice none 0 0) 0 [] x w1 hx (owns_nil _ _) (by decide) h1).mono ?_
    rintro e w2 ⟨hb, v, rfl, ho⟩
    exact ⟨hb, v, rfl, ho⟩
  clear hx HX
  obtain ⟨c, t, f, k⟩ := x
  unfold In.val at *
  go_enter Try.func18, Try.ntmps18
  go_wp2_with (go_at_call 33; refine (HL.out _ (e1 _).size).mono ?_; rintro e w2 ⟨hb2, v2, rfl, ho2⟩)
  go_ret
  exact ⟨(e1 _).trans hb2, _, rfl, ho2⟩

end Go.Proofs.Ytonhkohfogpflaa
