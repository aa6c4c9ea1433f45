/-
  Items appended to a slice of the call's own.
-/
import Derived.Test.YtbieemiogbkaiaaAwake
namespace Go.Proofs.Ytbieemiogbkaiaa
open Go.RowKit

theorem Try.info32 : (Try.prog.info? 32).map (fun i => (i.zero, i.size, i.bytes)) = some (some (.agg #[.int .u64 0, .int .i64 0, .bool false, .string ⟨#[]⟩]), 4, 40) := by kernel_rfl

/-- an item as cells. -/
def It.cells (x : It) : List Value := [.int .u64 x.n, .int .i64 x.size, .bool x.isText, .string x.text]

/-- items as cells. -/
def cellsI (l : List It) : List Value := l.flatMap It.cells

theorem cellsI_snoc (l : List It) (x : It) : cellsI (l ++ [x]) = cellsI l ++ x.cells := by simp [cellsI]

theorem cellsI_length (l : List It) : (cellsI l).length = l.length * 4 := by
  induction l with
  | nil => rfl
  | cons x l ih =>
    show (x.cells ++ cellsI l).length = _
    rw [List.length_append, ih, List.length_cons, Nat.add_mul]
    show 4 + _ = _
    omega

theorem cellsI_get (l : List It) : ∀ (i : Nat) (x : It) (c : Nat), l[i]? = some x → c < 4 → (cellsI l)[i * 4 + c]? = x.cells[c]? := by
  induction l with
  | nil => intro i x c h; simp at h
  | cons y l ih =>
    intro i x c h hc
    show (y.cells ++ cellsI l)[i * 4 + c]? = _
    cases i with
    | zero =>
      simp at h
      subst h
      rw [List.getElem?_append_left (by show _ < 4; omega)]
      congr 1
      omega
    | succ i =>
      rw [List.getElem?_append_right (by show 4 ≤ _; omega)]
      rw [List.getElem?_cons_succ] at h
      rw [← ih i x c h hc]
      congr 1
      show (i + 1) * 4 + c - 4 = _
      omega

theorem owns_items {w : World} {base : Nat} {v : Value} {n : Nat} {l : List It} (h : w.ownsRow base 32 4 v n (cellsI l)) (hl : ∀ x ∈ l, x.ok) : ∃ a cap, v = .slice a n cap ∧ Items w a n l := by
  have hlen : l.length = n := by have := h.1; rw [cellsI_length] at this; omega
  rcases h.2 with ⟨rfl, rfl⟩ | ⟨g, cap, cur, rfl, hb, hg, hnc, hcm, hcs, htake⟩
  · exact ⟨none, 0, rfl, hlen, hl, fun h => absurd h (by omega)⟩
  · refine ⟨_, cap, rfl, hlen, hl, fun _ => ⟨g, 0, rfl, fun i x hx => ?_⟩⟩
    have key : ∀ c u, c < 4 → x.cells[c]? = some u → w.cell? ⟨g, 0 + i * 4 + c, none⟩ = some u := by
      intro c u hc hu
      have := h.cells (g := g) rfl (i * 4 + c) u (by rw [cellsI_get l i x c hx hc]; exact hu)
      rw [show (⟨g, 0 + i * 4 + c, none⟩ : Addr) = (⟨g, 0, none⟩ : Addr).add (i * 4 + c) from by unfold Addr.add; split <;> simp_all]
      exact this
    exact ⟨key 0 _ (by decide) rfl, key 1 _ (by decide) rfl, key 2 _ (by decide) rfl, key 3 _ (by decide) rfl⟩

theorem new_cells (w : World) (x : It) (o : Obj) (ho : o = .cells #[.int .u64 x.n, .int .i64 x.size, .bool x.isText, .string x.text] 32) : ∀ j u, x.cells[j]? = some u → (w.alloc o).cell? ((⟨w.heap.size, 0, none⟩ : Addr).add j) = some u := by
  subst ho
  intro j u hu
  match j, hu with
  | 0, hu => cases hu; simp [Addr.add]
  | 1, hu => cases hu; simp [Addr.add]
  | 2, hu => cases hu; simp [Addr.add]
  | 3, hu => cases hu; simp [Addr.add]

theorem append_item {w : World} {ops : Array Oper} {rest : List Oper} {o : Oper} {a : Act} {Q : Exit → Act → World → Prop} (hgd : o.guard = none) (s x : Operand)
    (ho : o.op = .call { callee := .builtin .append, args := #[s, x], argTypes := #[22, 22] })
    (base : Nat) (v : Value) (n : Nat) (l : List It) (hs : a.eval s = v) (hown : w.ownsRow base 32 4 v n (cellsI l))
    (it : It) (ad : Addr) (hx : a.eval x = .slice (some ad) 1 1) (hnews : ∀ j u, it.cells[j]? = some u → w.cell? (ad.add j) = some u)
    (hn : n ≤ 1000000) (hbase : base ≤ w.heap.size)
    (h : ∀ v' w', w'.ownsRow base 32 4 v' (n + 1) (cellsI (l ++ [it])) → w.grownBy w' v.ownBlock → wpList Try.prog ops Q rest (a.put o.dst v') w') : wpList Try.prog ops Q (o :: rest) a w := by
  obtain ⟨i0, hi, hz0, hz1, hz2⟩ := info_parts Try.info32
  refine wpList_append_own _ hgd s x 22 ho base 32 i0 _ 4 40 Try.underlying22 hi hz0 hz1 hz2 rfl (by decide) v n (cellsI l) hs hown ad 1 1 it.cells hx rfl hnews (by intro u hu; simp [It.cells] at hu; rcases hu with rfl | rfl | rfl | rfl <;> rfl) (by unfold maxLen; omega) (by omega) hbase ?_
  intro v' w' h1 h2 _
  exact h v' w' (by rw [cellsI_snoc]; exact h1) h2

end Go.Proofs.Ytbieemiogbkaiaa
