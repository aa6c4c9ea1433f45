/-
  The document's table, as it lies: a box of five cells, and a row of notifications.
-/
import Derived.Test.YtlckconhhhllkaaSrow
import Derived.Test.YtlckconhhhllkaaLate
import Derived.BigQuiet
namespace Go.Proofs.Ytlckconhhhllkaa
open Go.RowKit

theorem flat_set {α : Type} {f : α → List Value} {sz : Nat} (hf : ∀ x, (f x).length = sz) : ∀ (l : List α) (i : Nat) (hi : i < l.length) (j : Nat), j < sz → ∀ (u : Value) (y : α), f y = (f l[i]).set j u → (l.flatMap f).set (i * sz + j) u = (l.set i y).flatMap f := by
  intro l
  induction l with
  | nil => intro i hi; cases hi
  | cons x l ih =>
    intro i hi j hj u y hy
    cases i with
    | zero =>
      rw [Nat.zero_mul, Nat.zero_add, List.flatMap_cons, List.set_append_left _ _ (by rw [hf]; exact hj), List.set_cons_zero, List.flatMap_cons, hy]
      rfl
    | succ i =>
      have e : (i + 1) * sz + j = sz + (i * sz + j) := by rw [Nat.add_mul, Nat.one_mul]; omega
      rw [e, List.flatMap_cons, List.set_append_right _ _ (by rw [hf]; omega), hf, Nat.add_sub_cancel_left, List.set_cons_succ, List.flatMap_cons]
      rw [ih i (Nat.lt_of_succ_lt_succ hi) j hj u y hy]
theorem cellsE_set {L : List En} {i : Nat} (hi : i < L.length) {j : Nat} (hj : j < 6) {u : Value} {y : En} (hy : y.cells = (L[i]).cells.set j u) : (cellsE L).set (i * 6 + j) u = cellsE (L.set i y) := flat_set enC_len L i hi j hj u y hy

/-- a box of five cells, and a row. -/
structure RfC (w : World) (base b : Nat) (v : Value) (s : Nt) : Prop where
  bb : base ≤ b
  blk : Blk w b 41 [v, .int .i64 s.size, .int .i64 s.wait, .int .u64 s.next, .int .u64 s.ep]
  row : w.ownsRow base 44 6 v s.L.length (cellsE s.L)
def RfT (w : World) (base b : Nat) (s : Nt) : Prop := ∃ v, RfC w base b v s
section
variable {w w' : World} {base b : Nat} {v : Value} {s : Nt} {L : List Nat} {C : Nat}
theorem RfC.fc (h : RfC w base b v s) (hs : Fc L C w w') (h1 : 41 ∉ L) (h2 : 44 ∉ L) : RfC w' base b v s := ⟨h.bb, h.blk.fc hs h1, owns_fc h.row hs h2⟩
theorem RfC.over (h : RfC w base b v s) (hb : Below w.heap.size w w') : RfC w' base b v s := ⟨h.bb, h.blk.over hb, owns_below h.row hb (Nat.le_refl _)⟩
theorem RfT.over (h : RfT w base b s) (hb : Below w.heap.size w w') : RfT w' base b s := by obtain ⟨v, h⟩ := h; exact ⟨v, h.over hb⟩
theorem RfT.fc (h : RfT w base b s) (hs : Fc L C w w') (h1 : 41 ∉ L) (h2 : 44 ∉ L) : RfT w' base b s := by obtain ⟨v, h⟩ := h; exact ⟨v, h.fc hs h1 h2⟩
/-- a cell of the row, turned. -/
theorem fr_cell {g i : Nat} {u : Value} {cap n : Nat} {xs : List Value} (h : w.ownsRow base 44 6 (.slice (some ⟨g, 0, none⟩) n cap) n xs) : Fr [44] [] base w (w.setCell ⟨g, i, none⟩ u) := by
  rcases h.2 with ⟨e, _⟩ | ⟨g', cap', cur, e, hg, hh, _⟩
  · cases e
  · cases e
    refine ⟨⟨by simp [World.setCell], by simp [World.setCell], by simp [World.setCell], by simp, fun k hk => heap_setCell_other w ⟨g, i, none⟩ k u (fun e => by have : k = g := e; omega)⟩, fun k o hk hn _ => ?_⟩
    rw [heap_setCell_other w ⟨g, i, none⟩ k u]
    · exact hk
    · intro e
      have e2 : k = g := e
      subst e2
      rw [hh] at hk
      cases hk
      exact hn _ _ _ rfl (by simp)
theorem RfC.cell {g i j n cap : Nat} {u : Value} {x y : En} (h : RfC w base b (.slice (some ⟨g, 0, none⟩) n cap) s) (hn : s.L.length = n) (hx : s.L[i]? = some x) (hj : j < 6) (hy : y.cells = x.cells.set j u) :
    RfC (w.setCell ⟨g, i * 6 + j, none⟩ u) base b (.slice (some ⟨g, 0, none⟩) n cap) { s with L := s.L.set i y } ∧ Fr [44] [] base w (w.setCell ⟨g, i * 6 + j, none⟩ u) := by
  subst hn
  obtain ⟨hi, hxi⟩ := List.getElem?_eq_some_iff.1 hx
  have hf := fr_cell (i := i * 6 + j) (u := u) h.row
  refine ⟨⟨h.bb, h.blk.fr hf (by simp) (by simp), ?_⟩, hf⟩
  have h1 := (h.row.stored (i * 6 + j) u).1
  rw [cellsE_set hi hj (by rw [hxi]; exact hy)] at h1
  show World.ownsRow _ _ _ _ _ (s.L.set i y).length _
  rw [List.length_set]
  exact h1
theorem set_same {L : List En} {i : Nat} {x : En} (hx : L[i]? = some x) : L.set i x = L := by
  obtain ⟨hi, hxi⟩ := List.getElem?_eq_some_iff.1 hx
  rw [← hxi]
  exact List.set_getElem_self hi
/-- one cell more of the same one. -/
theorem RfC.more {g i j n cap : Nat} {u : Value} {x y : En} (h : RfC w base b (.slice (some ⟨g, 0, none⟩) n cap) { s with L := s.L.set i x }) (hn : s.L.length = n) (hi : i < s.L.length) (hj : j < 6) (hy : y.cells = x.cells.set j u) :
    RfC (w.setCell ⟨g, i * 6 + j, none⟩ u) base b (.slice (some ⟨g, 0, none⟩) n cap) { s with L := s.L.set i y } ∧ Fr [44] [] base w (w.setCell ⟨g, i * 6 + j, none⟩ u) := by
  have h1 := h.cell (i := i) (j := j) (u := u) (x := x) (y := y) (by show (s.L.set i x).length = n; rw [List.length_set]; exact hn) (by show (s.L.set i x)[i]? = some x; exact List.getElem?_set_self hi) hj hy
  have e : (s.L.set i x).set i y = s.L.set i y := List.set_set ..
  have h2 : RfC _ base b _ { s with L := (s.L.set i x).set i y } := h1.1
  rw [e] at h2
  exact ⟨h2, h1.2⟩
/-- one that has ended: its state and its two cells of Out. -/
theorem RfC.end3 {g i n cap : Nat} {st k v : Int} {x : En} (h : RfC w base b (.slice (some ⟨g, 0, none⟩) n cap) s) (hn : s.L.length = n) (hx : s.L[i]? = some x) :
    RfC (((w.setCell ⟨g, i * 6 + 2, none⟩ (.int .i64 st)).setCell ⟨g, i * 6 + 4, none⟩ (.int .i64 k)).setCell ⟨g, i * 6 + 5, none⟩ (.int .i64 v)) base b (.slice (some ⟨g, 0, none⟩) n cap) { s with L := s.L.set i { x with st := st, kd := k, vl := v } } ∧ Fr [44] [] base w (((w.setCell ⟨g, i * 6 + 2, none⟩ (.int .i64 st)).setCell ⟨g, i * 6 + 4, none⟩ (.int .i64 k)).setCell ⟨g, i * 6 + 5, none⟩ (.int .i64 v)) := by
  have hi : i < s.L.length := (List.getElem?_eq_some_iff.1 hx).1
  obtain ⟨h1, f1⟩ := h.cell (j := 2) (u := .int .i64 st) (y := { x with st := st }) hn hx (by decide) rfl
  obtain ⟨h2, f2⟩ := h1.more (j := 4) (u := .int .i64 k) (y := { x with st := st, kd := k }) hn hi (by decide) rfl
  obtain ⟨h3, f3⟩ := h2.more (j := 5) (u := .int .i64 v) (y := { x with st := st, kd := k, vl := v }) hn hi (by decide) rfl
  exact ⟨h3, f1.trans (f2.trans f3)⟩
theorem own_free {g cap n m : Nat} {e : TypeId} {sz : Nat} {xs : List Value} (h : w.ownsRow base e sz (.slice (some ⟨g, 0, none⟩) n cap) m xs) (i : Nat) : w.frozen? ⟨g, i, none⟩ = false := by
  rcases h.2 with ⟨e, _⟩ | ⟨g', cap', cur, e, _, hh, _⟩
  · cases e
  · cases e
    exact frozen_of_row w g i _ _ hh
end

theorem rwaits_any (x : En) (w : World) : Calls Try.prog 42 #[x.v] w fun e w' => e = .returned (.bool x.waits) ∧ Below w.heap.size w w' := by
  obtain ⟨a, b, c, d, k, v⟩ := x
  have HB : Hid (Below w.heap.size w (w.alloc (.cells #[.int .u64 a, .int .i64 b, .int .i64 c, .int .i64 d, .int .i64 k, .int .i64 v] 44))) := below_new w _
  unfold En.v En.waits
  dsimp only
  by_cases h1 : c = 1
  · have r1 : (c == 1) = true := by simp [h1]
    rw [r1]
    clear h1
    go_enter Try.func42, Try.ntmps42
    go_wp2_with fail
    go_ret
    exact ⟨rfl, HB.out⟩
  · have r1 : (c == 1) = false := by simp [h1]
    rw [r1]
    clear h1
    obtain ⟨q, hq⟩ : ∃ q, (c == 2) = q := ⟨_, rfl⟩
    rw [hq]
    go_enter Try.func42, Try.ntmps42
    go_wp2_with fail
    go_ret
    exact ⟨rfl, HB.out⟩

end Go.Proofs.Ytlckconhhhllkaa
