/-
  Rows of numbers as they lie in memory; ones that a call makes and appends to; instructions appended to instructions, and stored.
-/
import Derived.Test.YtinjlneeafopoaaMem
import Derived.Laws.OwnMore
namespace Go.Proofs.Ytinjlneeafopoaa
open Go.RowKit

theorem Try.info3 : (Try.prog.info? 3).map (fun i => (i.zero, i.size, i.bytes)) = some (some (.int .i64 0), 1, 8) := by kernel_rfl

theorem size_alloc' (w : World) (o : Obj) : (w.alloc o).heap.size = w.heap.size + 1 := by simp

/-- the numbers that a slice leads to. -/
def Ns (k : IntKind) (w : World) (a : Option Addr) (len : Nat) (l : List Int) : Prop :=
  l.length = len ∧ (0 < len → ∃ b off, a = some ⟨b, off, none⟩ ∧ ∀ i, i < len → w.cell? ⟨b, off + i, none⟩ = some (.int k (l.getD i 0)))

theorem Ns.below {k : IntKind} {w w' : World} {a : Option Addr} {len : Nat} {l : List Int} (h : Ns k w a len l) (hb : Below w.heap.size w w') : Ns k w' a len l := by
  refine ⟨h.1, fun h0 => ?_⟩
  obtain ⟨b, off, ha, hc⟩ := h.2 h0
  refine ⟨b, off, ha, fun i hi => ?_⟩
  rw [hb.cell (p := ⟨b, off + i, none⟩) (World.block_lt_of_cell? w _ (hc i hi))]
  exact hc i hi

/-- numbers as cells. -/
def cellsN (l : List Int) : List Value := l.map (Value.int .i64)

theorem cellsN_app (l m : List Int) : cellsN (l ++ m) = cellsN l ++ cellsN m := by simp [cellsN]

theorem owns_ns {w : World} {base : Nat} {v : Value} {n : Nat} {l : List Int} (h : w.ownsRow base 3 1 v n (cellsN l)) : ∃ a cap, v = .slice a n cap ∧ Ns .i64 w a n l := by
  have hlen : l.length = n := by have := h.1; simpa [cellsN] using this
  rcases h.2 with ⟨rfl, rfl⟩ | ⟨g, cap, cur, rfl, hb, hg, hnc, hcm, hcs, htake⟩
  · exact ⟨none, 0, rfl, hlen, fun h => absurd h (by omega)⟩
  · refine ⟨_, cap, rfl, hlen, fun _ => ⟨g, 0, rfl, fun i hi => ?_⟩⟩
    have := h.cells (g := g) rfl i (.int .i64 (l.getD i 0)) (by simp [cellsN, List.getElem?_eq_getElem (show i < l.length from by omega)])
    rw [show (⟨g, 0 + i, none⟩ : Addr) = (⟨g, 0, none⟩ : Addr).add i from by unfold Addr.add; split <;> simp_all]
    exact this

theorem append_int {w : World} {ops : Array Oper} {rest : List Oper} {o : Oper} {a : Act} {Q : Exit → Act → World → Prop} (hgd : o.guard = none) (s x : Operand)
    (ho : o.op = .call { callee := .builtin .append, args := #[s, x], argTypes := #[33, 33] })
    (base : Nat) (v : Value) (n : Nat) (l : List Int) (hs : a.eval s = v) (hown : w.ownsRow base 3 1 v n (cellsN l))
    (z : Int) (ad : Addr) (hx : a.eval x = .slice (some ad) 1 1) (hnew : w.cell? ad = some (.int .i64 z))
    (hn : n ≤ 1000000) (hbase : base ≤ w.heap.size)
    (h : ∀ v' w', w'.ownsRow base 3 1 v' (n + 1) (cellsN (l ++ [z])) → w.grownBy w' v.ownBlock → wpList Try.prog ops Q rest (a.put o.dst v') w') : wpList Try.prog ops Q (o :: rest) a w := by
  obtain ⟨i0, hi, hz0, hz1, hz2⟩ := info_parts Try.info3
  refine wpList_append_own _ hgd s x 33 ho base 3 i0 _ 1 8 Try.underlying33 hi hz0 hz1 hz2 rfl (by decide) v n (cellsN l) hs hown ad 1 1 (cellsN [z]) hx rfl ?_ (by intro u hu; simp [cellsN] at hu; subst hu; rfl) (by unfold maxLen; omega) (by omega) hbase ?_
  · intro j u hu
    match j, hu with
    | 0, hu => cases hu; exact hnew
  · intro v' w' h1 h2 _
    exact h v' w' (by rw [cellsN_app]; exact h1) h2

theorem cellsI_app (l m : List In) : cellsI (l ++ m) = cellsI l ++ cellsI m := by simp [cellsI]

theorem cellsI_kind (l : List In) : ∀ u ∈ cellsI l, u.oneCell' = true := by
  intro u hu
  simp only [cellsI, List.mem_flatMap] at hu
  obtain ⟨x, _, hu⟩ := hu
  simp [In.cells] at hu
  rcases hu with rfl | rfl | rfl | rfl <;> rfl

theorem Ins.news {w : World} {x : Addr} {len : Nat} {l : List In} (h : Ins w (some x) len l) : ∀ j u, (cellsI l)[j]? = some u → w.cell? (x.add j) = some u := by
  intro j u hu
  have hj : j < l.length * 4 := by
    have := (List.getElem?_eq_some_iff.1 hu).1
    rw [cellsI_length] at this
    exact this
  obtain ⟨b, off, e, hc⟩ := h.2.2 (by have := h.1; omega)
  cases e
  have hd : j = j / 4 * 4 + j % 4 := by omega
  have hlt : j / 4 < l.length := by omega
  have hg := cellsI_get l (j / 4) l[j / 4] (j % 4) (List.getElem?_eq_getElem hlt) (by omega)
  rw [← hd, hu] at hg
  obtain ⟨c0, c1, c2, c3⟩ := hc (j / 4) l[j / 4] (List.getElem?_eq_getElem hlt)
  rw [Addr.add_lit]
  have hm : j % 4 < 4 := by omega
  rw [show off + j = off + j / 4 * 4 + j % 4 from by omega]
  generalize j % 4 = c at *
  match c, hm with
  | 0, _ => rw [Nat.add_zero, c0]; exact hg.symm
  | 1, _ => rw [c1]; exact hg.symm
  | 2, _ => rw [c2]; exact hg.symm
  | 3, _ => rw [c3]; exact hg.symm

theorem Ins.nil {w : World} {len : Nat} {l : List In} (h : Ins w none len l) : len = 0 ∧ l = [] := by
  have h0 : len = 0 := by
    rcases Nat.eq_zero_or_pos len with e | e
    · exact e
    · obtain ⟨_, _, e, _⟩ := h.2.2 e
      cases e
  exact ⟨h0, List.eq_nil_of_length_eq_zero (by rw [h.1, h0])⟩

theorem append_ins {w : World} {ops : Array Oper} {rest : List Oper} {o : Oper} {a : Act} {Q : Exit → Act → World → Prop} (hgd : o.guard = none) (s x : Operand)
    (ho : o.op = .call { callee := .builtin .append, args := #[s, x], argTypes := #[22, 22] })
    (base : Nat) (v : Value) (n : Nat) (l : List In) (hs : a.eval s = v) (hown : w.ownsRow base 42 4 v n (cellsI l))
    (ao : Option Addr) (m c : Nat) (k : List In) (hx : a.eval x = .slice ao m c) (hao : ao = none → c = 0) (hb : Ins w ao m k)
    (hn : n + m ≤ 100000) (hbase : base ≤ w.heap.size)
    (h : ∀ v' w', w'.ownsRow base 42 4 v' (n + m) (cellsI (l ++ k)) → w.grownBy w' v.ownBlock → wpList Try.prog ops Q rest (a.put o.dst v') w') : wpList Try.prog ops Q (o :: rest) a w := by
  obtain ⟨i0, hi, hz0, hz1, hz2⟩ := info_parts Try.info42
  cases ao with
  | none =>
    obtain ⟨rfl, rfl⟩ := hb.nil
    obtain rfl := hao rfl
    refine wpList_append_own_none hgd s x 22 ho base 42 i0 4 Try.underlying22 hi v n (cellsI l) hs hown hx ?_
    exact h v w (by simpa using hown) (grow_refl _ _)
  | some ad =>
    refine wpList_append_own _ hgd s x 22 ho base 42 i0 _ 4 8 Try.underlying22 hi hz0 hz1 hz2 rfl (by decide) v n (cellsI l) hs hown ad m c (cellsI k) hx (by rw [cellsI_length, hb.1]) hb.news (cellsI_kind k) (by unfold maxLen; omega) (by omega) hbase ?_
    intro v' w' h1 h2 _
    exact h v' w' (by rw [cellsI_app]; exact h1) h2

end Go.Proofs.Ytinjlneeafopoaa
