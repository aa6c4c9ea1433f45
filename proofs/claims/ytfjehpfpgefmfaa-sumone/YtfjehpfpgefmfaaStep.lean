/-
  Bytes appended to a slice of the call's own where the order is left open: the same law, at a step of such a region.
-/
import Derived.Test.YtfjehpfpgefmfaaJoin
import Derived.Deep.AppendLies
namespace Go.Proofs.Ytfjehpfpgefmfaa
open Go.RowKit

theorem run_append_bytes (w : World) (ty : TypeId) (base : Nat) (v : Value) (n : Nat) (l : List Int) (hown : w.ownsRow base 5 1 v n (cellsB l))
    (ao : Option Addr) (m c : Nat) (k : List Int) (hao : ao = none → c = 0) (hb : Bs w ao m k) (hn : n + m ≤ 100000) (hbase : base ≤ w.heap.size) :
    ∃ v' w', (Builtin.append_ #[22, 22] ty #[v, .slice ao m c]).run Try.prog w = .ok v' w' ∧ w'.ownsRow base 5 1 v' (n + m) (cellsB (l ++ k)) ∧ w.grownBy w' v.ownBlock := by
  obtain ⟨i0, hi, hz0, hz1, hz2⟩ := info_parts Try.info5
  cases ao with
  | none =>
    obtain ⟨rfl, rfl⟩ := hb.nil
    obtain rfl := hao rfl
    exact ⟨v, w, run_append_owned_none (P := Try.prog) (w := w) base 22 ty 5 i0 1 Try.underlying22 hi v n (cellsB l) hown, by simpa using hown, grow_refl _ _⟩
  | some ad =>
    obtain ⟨v', w', h1, h2, h3, _⟩ := run_append_own (P := Try.prog) w base 22 ty 5 i0 (.int .u8 0) 1 1 Try.underlying22 hi hz0 hz1 hz2 rfl (by decide) v n (cellsB l) hown ad m c (cellsB k) (by simp [cellsB, hb.1]) hb.news (by intro u hu; simp [cellsB] at hu; obtain ⟨z, _, rfl⟩ := hu; rfl) (by unfold maxLen; omega) (by omega) hbase
    exact ⟨v', w', h1, by rw [cellsB_app]; exact h2, h3⟩

theorem step_append_bytes {w : World} {ops : Array Oper} {o : Oper} {a : Act} {K : Act → World → Prop} {Q : Exit → Act → World → Prop} {E : Prop} (hgd : o.guard = none) (s x : Operand)
    (ho : o.op = .call { callee := .builtin .append, args := #[s, x], argTypes := #[22, 22] })
    (base : Nat) (v : Value) (n : Nat) (l : List Int) (hs : a.eval s = v) (hown : w.ownsRow base 5 1 v n (cellsB l))
    (ao : Option Addr) (m c : Nat) (k : List Int) (hx : a.eval x = .slice ao m c) (hao : ao = none → c = 0) (hb : Bs w ao m k) (hn : n + m ≤ 100000) (hbase : base ≤ w.heap.size)
    (h : ∀ v' w', w'.ownsRow base 5 1 v' (n + m) (cellsB (l ++ k)) → w.grownBy w' v.ownBlock → K (a.put o.dst v') w') :
    if Region.wanted o (yielded ops a.tmps) = true then Oper.wp Try.prog o a w K Q else E := by
  have hw : Region.wanted o (yielded ops a.tmps) = true := by simp [Region.wanted, hgd]
  rw [if_pos hw]
  obtain ⟨v', w', hr, h2, h3⟩ := run_append_bytes w o.type base v n l hown ao m c k hao hb hn hbase
  unfold Oper.wp execOp
  simp only [ho, resolve, invoke, builtin, Sem.run_bind, Sem.run_pure, Result.andThen_ok, List.map_toArray, List.map_cons, List.map_nil, hs, hx, hr]
  exact h v' w' h2 h3

theorem owns_base {w : World} {b b' : Nat} {v : Value} {n : Nat} {xs : List Value} (h : w.ownsRow b 5 1 v n xs) (hb : b' ≤ b) : w.ownsRow b' 5 1 v n xs :=
  ⟨h.1, h.2.elim Or.inl (fun ⟨g, cap, cur, hv, hg, r⟩ => Or.inr ⟨g, cap, cur, hv, Nat.le_trans hb hg, r⟩)⟩

/-- the empty slice is laid first, or behind another block, or ahead of one. -/
theorem owns1 (X : World) : ((X.alloc (Obj.cells #[] 5)).drew).ownsRow X.heap.size 5 1 (.slice (some ⟨X.heap.size, 0, none⟩) 0 0) 0 (cellsB []) := (owns_empty X).drew
theorem owns2 (X : World) (o : Obj) : (((X.alloc o).alloc (Obj.cells #[] 5)).drew).ownsRow X.heap.size 5 1 (.slice (some ⟨X.heap.size + 1, 0, none⟩) 0 0) 0 (cellsB []) := by
  have := (owns_empty (X.alloc o)).drew
  rw [show (X.alloc o).heap.size = X.heap.size + 1 from by simp] at this
  exact owns_base this (by omega)
theorem owns3 (X : World) (o : Obj) : (((X.alloc (Obj.cells #[] 5)).alloc o).drew).ownsRow X.heap.size 5 1 (.slice (some ⟨X.heap.size, 0, none⟩) 0 0) 0 (cellsB []) := ((owns_empty X).alloc o).drew

theorem below1 (X : World) (o : Obj) : Below X.heap.size X (X.alloc o).drew := ((Below.refl _ _).alloc (Nat.le_refl _) _).drew
theorem below2 (X : World) (o o' : Obj) : Below X.heap.size X ((X.alloc o).alloc o').drew := (((Below.refl _ _).alloc (Nat.le_refl _) _).alloc (by simp) _).drew

theorem Bs.grown {w w' : World} {b off m : Nat} {l : List Int} {row : Option Nat} (h : Bs w (some ⟨b, off, none⟩) m l) (hg : w.grownBy w' row) (hne : some b ≠ row) : Bs w' (some ⟨b, off, none⟩) m l := by
  refine ⟨h.1, h.2.1, fun h0 => ?_⟩
  obtain ⟨_, _, e, hc⟩ := h.2.2 h0
  cases e
  exact ⟨b, off, rfl, fun i hi => hg.cell (hc i hi) hne⟩

theorem one2 (X : World) (c : Int) (c0 : 0 ≤ c) (c1 : c ≤ 255) (o : Obj) : Bs (((X.alloc (Obj.cells #[.int .u8 c] 5)).alloc o).drew) (some ⟨X.heap.size, 0, none⟩) 1 [c] :=
  (Bs.one X c c0 c1).below (((Below.refl _ _).alloc (Nat.le_refl _) _).drew)
theorem one3 (X : World) (c : Int) (c0 : 0 ≤ c) (c1 : c ≤ 255) (o : Obj) : Bs (((X.alloc o).alloc (Obj.cells #[.int .u8 c] 5)).drew) (some ⟨X.heap.size + 1, 0, none⟩) 1 [c] := by
  have := (Bs.one (X.alloc o) c c0 c1).below ((Below.refl _ _).drew)
  rw [show (X.alloc o).heap.size = X.heap.size + 1 from by simp] at this
  exact this
theorem size1 {X Y : World} {o : Obj} (h : X.heap.size ≤ Y.heap.size) : X.heap.size ≤ (Y.alloc o).heap.size := by simp; omega

end Go.Proofs.Ytfjehpfpgefmfaa
