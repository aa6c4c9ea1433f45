/-
  All parts of a list, in order: the document's.
-/
import Derived.Test.YthgkpecmpfgnjaaLeaf
namespace Go.Proofs.Ythgkpecmpfgnjaa
open Go.RowKit

/-- parts as cells. -/
def cellsP (l : List (Nat × Nat)) : List Value := l.flatMap fun p => [Value.int .i64 (p.1 : Nat), .int .i64 (p.2 : Nat)]
theorem cellsP_app (l m : List (Nat × Nat)) : cellsP (l ++ m) = cellsP l ++ cellsP m := by simp [cellsP]
theorem cellsP_length (l : List (Nat × Nat)) : (cellsP l).length = l.length * 2 := by
  induction l with
  | nil => rfl
  | cons p l ih =>
    show ([Value.int .i64 (p.1 : Nat), .int .i64 (p.2 : Nat)] ++ cellsP l).length = _
    simp only [List.length_append, ih, List.length_cons, List.length_nil]
    omega
theorem cellsP_one (l : List (Nat × Nat)) : ∀ u ∈ cellsP l, u.oneCell' = true := by
  intro u hu
  simp only [cellsP, List.mem_flatMap] at hu
  obtain ⟨x, _, hu⟩ := hu
  simp at hu
  rcases hu with rfl | rfl <;> rfl
theorem cellsP_get (l : List (Nat × Nat)) : ∀ (i : Nat) (p : Nat × Nat), l[i]? = some p → (cellsP l)[i * 2]? = some (.int .i64 (p.1 : Nat)) ∧ (cellsP l)[i * 2 + 1]? = some (.int .i64 (p.2 : Nat)) := by
  induction l with
  | nil => intro i p h; simp at h
  | cons q l ih =>
    intro i p h
    show ([Value.int .i64 (q.1 : Nat), .int .i64 (q.2 : Nat)] ++ cellsP l)[i * 2]? = _ ∧ ([Value.int .i64 (q.1 : Nat), .int .i64 (q.2 : Nat)] ++ cellsP l)[i * 2 + 1]? = _
    cases i with
    | zero => simp at h; subst h; exact ⟨rfl, rfl⟩
    | succ i =>
      rw [List.getElem?_cons_succ] at h
      have := ih i p h
      rw [List.getElem?_append_right (by show 2 ≤ _; omega), List.getElem?_append_right (by show 2 ≤ _; omega)]
      rw [show (i + 1) * 2 - [Value.int .i64 (q.1 : Nat), .int .i64 (q.2 : Nat)].length = i * 2 from by show (i + 1) * 2 - 2 = _; omega, show (i + 1) * 2 + 1 - [Value.int .i64 (q.1 : Nat), .int .i64 (q.2 : Nat)].length = i * 2 + 1 from by show (i + 1) * 2 + 1 - 2 = _; omega]
      exact this

/-- the parts that a slice leads to. -/
def Ps (w : World) (a : Option Addr) (len : Nat) (l : List (Nat × Nat)) : Prop :=
  l.length = len ∧ (0 < len → ∃ b, a = some ⟨b, 0, none⟩ ∧ ∀ i p, l[i]? = some p → w.cell? ⟨b, i * 2, none⟩ = some (.int .i64 (p.1 : Nat)) ∧ w.cell? ⟨b, i * 2 + 1, none⟩ = some (.int .i64 (p.2 : Nat)))
theorem Ps.below {w w' : World} {a : Option Addr} {len : Nat} {l : List (Nat × Nat)} (h : Ps w a len l) (hb : Below w.heap.size w w') : Ps w' a len l := by
  refine ⟨h.1, fun h0 => ?_⟩
  obtain ⟨b, ha, hc⟩ := h.2 h0
  refine ⟨b, ha, fun i p hp => ?_⟩
  have := hc i p hp
  rw [hb.cell (p := ⟨b, i * 2, none⟩) (World.block_lt_of_cell? w _ this.1), hb.cell (p := ⟨b, i * 2 + 1, none⟩) (World.block_lt_of_cell? w _ this.2)]
  exact this
theorem add_lit' (g j : Nat) : (⟨g, 0, none⟩ : Addr).add j = ⟨g, j, none⟩ := by rw [Addr.add_lit, Nat.zero_add]
theorem owns_ps {w : World} {base : Nat} {v : Value} {n : Nat} {l : List (Nat × Nat)} (h : w.ownsRow base 39 2 v n (cellsP l)) : ∃ a cap, v = .slice a n cap ∧ Ps w a n l := by
  have hlen : l.length = n := by have := h.1; rw [cellsP_length] at this; omega
  rcases h.2 with ⟨rfl, rfl⟩ | ⟨g, cap, cur, rfl, hb, hg, hnc, hcm, hcs, htake⟩
  · exact ⟨none, 0, rfl, hlen, fun h => absurd h (by omega)⟩
  · refine ⟨_, cap, rfl, hlen, fun _ => ⟨g, rfl, fun i p hp => ?_⟩⟩
    have hc := cellsP_get l i p hp
    have h1 := h.cells (g := g) rfl (i * 2) _ hc.1
    have h2 := h.cells (g := g) rfl (i * 2 + 1) _ hc.2
    rw [add_lit'] at h1 h2
    exact ⟨h1, h2⟩

/-- parts that were told, as memory of the call's own. -/
def PTold (w w' : World) (e : Ending) (l : List (Nat × Nat)) : Prop := Below w.heap.size w w' ∧ ∃ v, e = .returned v ∧ w'.ownsRow w.heap.size 39 2 v l.length (cellsP l)

theorem append_prs {w : World} {ops : Array Oper} {rest : List Oper} {o : Oper} {a : Act} {Q : Exit → Act → World → Prop} (hgd : o.guard = none) (s x : Operand)
    (ho : o.op = .call { callee := .builtin .append, args := #[s, x], argTypes := #[34, 34] })
    (base : Nat) (v : Value) (n : Nat) (l : List (Nat × Nat)) (hs : a.eval s = v) (hown : w.ownsRow base 39 2 v n (cellsP l))
    (base' : Nat) (g m c : Nat) (k : List (Nat × Nat)) (hx : a.eval x = .slice (some ⟨g, 0, none⟩) m c) (hsrc : w.ownsRow base' 39 2 (.slice (some ⟨g, 0, none⟩) m c) m (cellsP k))
    (hn : n + m ≤ 10000000) (hbase : base ≤ w.heap.size)
    (h : ∀ v' w', w'.ownsRow base 39 2 v' (n + m) (cellsP (l ++ k)) → w.grownBy w' v.ownBlock → wpList Try.prog ops Q rest (a.put o.dst v') w') : wpList Try.prog ops Q (o :: rest) a w := by
  obtain ⟨i0, hi, hz0, hz1, hz2⟩ := info_parts Try.infoP
  refine wpList_append_own _ hgd s x 34 ho base 39 i0 _ 2 16 Try.underlying34 hi hz0 hz1 hz2 rfl (by decide) v n (cellsP l) hs hown ⟨g, 0, none⟩ m c (cellsP k) hx hsrc.1 (fun j u hu => hsrc.cells (g := g) rfl j u hu) (cellsP_one k) (by unfold maxLen; omega) (by omega) hbase ?_
  intro v' w' h1 h2 _
  exact h v' w' (by rw [cellsP_app]; exact h1) h2

theorem owns_one (w : World) (x y : Nat) : (w.alloc (.cells #[.int .i64 x, .int .i64 y] 39)).ownsRow w.heap.size 39 2 (.slice (some ⟨w.heap.size, 0, none⟩) 1 1) 1 (cellsP [(x, y)]) :=
  ⟨rfl, .inr ⟨w.heap.size, 1, _, rfl, Nat.le_refl _, heap_alloc_new w _, Nat.le_refl _, by unfold maxLen; omega, rfl, rfl⟩⟩
theorem owns_pos {w : World} {base sz : Nat} {t : TypeId} {v : Value} {n : Nat} {xs : List Value} (h : w.ownsRow base t sz v n xs) (hn : 0 < n) : ∃ g cap, v = .slice (some ⟨g, 0, none⟩) n cap := by
  rcases h.2 with ⟨rfl, h0⟩ | ⟨g, cap, cur, rfl, _⟩
  · omega
  · exact ⟨g, cap, rfl⟩

theorem parts_no (a b : Int) (w : World) (h : b ≤ a) :
    Calls Try.prog 17 #[.int .i64 a, .int .i64 b] w fun e w' => PTold w w' e [] := by
  go_enter Try.func17, Try.ntmps17
  go_wp2_with fail
  go_ret
  exact ⟨Below.refl _ _, _, rfl, owns_nil _ _ _ _⟩

set_option maxHeartbeats 2000000 in
theorem parts_any (k : Nat) : ∀ (a b : Nat) (w : World), b - a ≤ k → b ≤ 1000000 →
    Calls Try.prog 17 #[.int .i64 a, .int .i64 b] w fun e w' => PTold w w' e (parts a b) := by
  induction k with
  | zero =>
    intro a b w h1 h2
    rw [parts_none (by omega)]
    exact parts_no a b w (by omega)
  | succ k ih =>
    intro a b w h1 h2
    by_cases h0 : b ≤ a
    · rw [parts_none h0]
      exact parts_no a b w (by omega)
    have h0' : (a : Int) < (b : Int) := by omega
    by_cases h3 : b - a < 2
    · rw [parts_one (by omega) h3]
      have e1 : (((b : Int) - (a : Int)) == 1) = true := by simp; omega
      have hb1 : (b : Int) ≤ 1000000 := by omega
      clear h0 h3 h1 h2 ih
      go_enter Try.func17, Try.ntmps17
      go_wp2_with fail
      go_ret
      exact ⟨below_new _ _, _, rfl, owns_one w a b⟩
    · have hm := mid_lt (a := a) (b := b) (by omega)
      have hp := parts_two (a := a) (b := b) (by omega)
      have l1 := parts_le a (mid a b)
      have l2 := parts_le (mid a b) b
      have p1 : Hid (0 < (parts a (mid a b)).length) := by unfold Hid; rw [parts_len hm.1]; omega
      have p2 : Hid (0 < (parts (mid a b) b).length) := by unfold Hid; rw [parts_len hm.2]; omega
      have L1 : Hid ((parts a (mid a b)).length ≤ 2000000) := by unfold Hid; omega
      have L2 : Hid ((parts (mid a b) b).length ≤ 2000000) := by unfold Hid; omega
      have HA : Hid (∀ W : World, Calls Try.prog 17 #[.int .i64 a, .int .i64 (mid a b : Nat)] W fun e w' => PTold W w' e (parts a (mid a b))) := fun W => ih a (mid a b) W (by omega) (by omega)
      have HB : Hid (∀ W : World, Calls Try.prog 17 #[.int .i64 (mid a b : Nat), .int .i64 b] W fun e w' => PTold W w' e (parts (mid a b) b)) := fun W => ih (mid a b) b W (by omega) h2
      have e1 : (((b : Int) - (a : Int)) == 1) = false := by simp; omega
      have em : (a : Int) + ((b : Int) - (a : Int)) / 2 = ((mid a b : Nat) : Int) := by unfold mid; omega
      have hb1 : (b : Int) ≤ 1000000 := by omega
      rw [hp]
      clear hp hm l1 l2 h0 h3 h1 h2 ih
      generalize parts a (mid a b) = pa at *
      generalize parts (mid a b) b = pb at *
      generalize mid a b = m at *
      have ho1 := owns_one w a b
      have hb0 := below_new w (.cells #[.int .i64 (a : Int), .int .i64 (b : Int)] 39)
      go_enter Try.func17, Try.ntmps17
      go_wp2_with fail
      generalize w.alloc (.cells #[.int .i64 (a : Int), .int .i64 (b : Int)] 39) = w1 at *
      refine (HA.out _).mono ?_
      rintro e w2 ⟨hb2, v2, rfl, ho2⟩
      obtain ⟨g2, c2, rfl⟩ := owns_pos ho2 p1.out
      have ho1' := owns_below ho1 hb2 (Nat.le_refl _)
      have hB2 := hb0.trans (hb2.mono hb0.size)
      go_wp2_with (at_builtin; refine append_prs rfl (.tmp 25) (.tmp 28) rfl w.heap.size _ 1 [(a, b)] rfl ho1' _ g2 _ c2 pa rfl ho2 (by have := L1.out; omega) hB2.size ?_; intro v3 w3 ho3 hg3; have hB3 := hB2.grown hg3 hB2.size (owns_block ho1'))
      refine (HB.out _).mono ?_
      rintro e w4 ⟨hb4, v4, rfl, ho4⟩
      obtain ⟨g4, c4, rfl⟩ := owns_pos ho4 p2.out
      have ho3' := owns_below ho3 hb4 (Nat.le_refl _)
      have hB4 := hB3.trans (hb4.mono hB3.size)
      go_wp2_with (at_builtin; refine append_prs rfl (.tmp 30) (.tmp 33) rfl w.heap.size _ _ _ rfl ho3' _ g4 _ c4 pb rfl ho4 (by have := L1.out; have := L2.out; omega) hB4.size ?_; intro v5 w5 ho5 hg5; have hB5 := hB4.grown hg5 hB4.size (owns_block ho3'))
      go_ret
      refine ⟨hB5, _, rfl, ?_⟩
      rw [List.length_cons, List.length_append]
      rw [show 1 + pa.length + pb.length = pa.length + pb.length + 1 from by omega] at ho5
      simpa using ho5

end Go.Proofs.Ythgkpecmpfgnjaa
