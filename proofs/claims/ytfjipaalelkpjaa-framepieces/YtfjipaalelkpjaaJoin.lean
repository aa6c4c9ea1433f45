/-
  Bytes appended to a slice of the call's own, from whatever slice of bytes, nil or not: what the new slice leads to.
-/
import Derived.Test.YtfjipaalelkpjaaArgs
import Derived.Laws.AppendOwnNone
namespace Go.Proofs.Ytfjipaalelkpjaa
open Go.RowKit

theorem Try.info5 : (Try.prog.info? 5).map (fun i => (i.zero, i.size, i.bytes)) = some (some (.int .u8 0), 1, 1) := by kernel_rfl

/-- bytes as cells. -/
def cellsB (l : List Int) : List Value := l.map (Value.int .u8)

theorem cellsB_app (l m : List Int) : cellsB (l ++ m) = cellsB l ++ cellsB m := by simp [cellsB]

theorem owns_empty (w : World) : (w.alloc (Obj.cells #[] 5)).ownsRow w.heap.size 5 1 (.slice (some ⟨w.heap.size, 0, none⟩) 0 0) 0 (cellsB []) := by
  refine ⟨rfl, .inr ⟨w.heap.size, 0, #[], rfl, Nat.le_refl _, ?_, Nat.le_refl _, by decide, rfl, rfl⟩⟩
  show (w.heap.push _)[w.heap.size]? = _
  simp

theorem Bs.nil {w : World} {len : Nat} {l : List Int} (h : Bs w none len l) : len = 0 ∧ l = [] := by
  have h0 : len = 0 := by
    rcases Nat.eq_zero_or_pos len with e | e
    · exact e
    · obtain ⟨_, _, e, _⟩ := h.2.2 e
      cases e
  exact ⟨h0, List.eq_nil_of_length_eq_zero (by rw [h.1, h0])⟩

theorem Bs.news {w : World} {x : Addr} {len : Nat} {l : List Int} (h : Bs w (some x) len l) : ∀ j u, (cellsB l)[j]? = some u → w.cell? (x.add j) = some u := by
  intro j u hu
  have hj : j < l.length := by
    have := (List.getElem?_eq_some_iff.1 hu).1
    simpa [cellsB] using this
  obtain ⟨b, off, e, hc⟩ := h.2.2 (by have := h.1; omega)
  cases e
  have := hc j (by have := h.1; omega)
  rw [show (⟨b, off + j, none⟩ : Addr) = (⟨b, off, none⟩ : Addr).add j from by unfold Addr.add; split <;> simp_all] at this
  rw [this]
  simp [cellsB, List.getElem?_eq_getElem hj] at hu ⊢
  exact hu

theorem grow_refl (w : World) (r : Option Nat) : w.grownBy w r := ⟨rfl, rfl, rfl, Nat.le_refl _, fun _ _ _ => rfl⟩

theorem append_bytes {w : World} {ops : Array Oper} {rest : List Oper} {o : Oper} {a : Act} {Q : Exit → Act → World → Prop} (hgd : o.guard = none) (s x : Operand)
    (ho : o.op = .call { callee := .builtin .append, args := #[s, x], argTypes := #[22, 22] })
    (base : Nat) (v : Value) (n : Nat) (l : List Int) (hs : a.eval s = v) (hown : w.ownsRow base 5 1 v n (cellsB l))
    (ao : Option Addr) (m c : Nat) (k : List Int) (hx : a.eval x = .slice ao m c) (hao : ao = none → c = 0) (hb : Bs w ao m k)
    (hn : n + m ≤ 100000) (hbase : base ≤ w.heap.size)
    (h : ∀ v' w', w'.ownsRow base 5 1 v' (n + m) (cellsB (l ++ k)) → w.grownBy w' v.ownBlock → wpList Try.prog ops Q rest (a.put o.dst v') w') : wpList Try.prog ops Q (o :: rest) a w := by
  obtain ⟨i0, hi, hz0, hz1, hz2⟩ := info_parts Try.info5
  cases ao with
  | none =>
    obtain ⟨rfl, rfl⟩ := hb.nil
    obtain rfl := hao rfl
    refine wpList_append_own_none hgd s x 22 ho base 5 i0 1 Try.underlying22 hi v n (cellsB l) hs hown hx ?_
    exact h v w (by simpa using hown) (grow_refl _ _)
  | some ad =>
    refine wpList_append_own _ hgd s x 22 ho base 5 i0 (.int .u8 0) 1 1 Try.underlying22 hi hz0 hz1 hz2 rfl (by decide) v n (cellsB l) hs hown ad m c (cellsB k) hx (by simp [cellsB, hb.1]) hb.news (by intro u hu; simp [cellsB] at hu; obtain ⟨z, _, rfl⟩ := hu; rfl) (by unfold maxLen; omega) (by omega) hbase ?_
    intro v' w' h1 h2 _
    exact h v' w' (by rw [cellsB_app]; exact h1) h2

theorem owns_bs {w : World} {base : Nat} {v : Value} {n : Nat} {l : List Int} (h : w.ownsRow base 5 1 v n (cellsB l)) (hl : ∀ z ∈ l, 0 ≤ z ∧ z ≤ 255) : ∃ a cap, v = .slice a n cap ∧ Bs w a n l := by
  have hlen : l.length = n := by have := h.1; simpa [cellsB] using this
  rcases h.2 with ⟨rfl, rfl⟩ | ⟨g, cap, cur, rfl, hb, hg, hnc, hcm, hcs, htake⟩
  · exact ⟨none, 0, rfl, hlen, hl, fun h => absurd h (by omega)⟩
  · refine ⟨_, cap, rfl, hlen, hl, fun _ => ⟨g, 0, rfl, fun i hi => ?_⟩⟩
    have := h.cells (g := g) rfl i (.int .u8 (l.getD i 0)) (by simp [cellsB, List.getElem?_eq_getElem (show i < l.length from by omega)])
    rw [show (⟨g, 0 + i, none⟩ : Addr) = (⟨g, 0, none⟩ : Addr).add i from by unfold Addr.add; split <;> simp_all]
    exact this

theorem below_drewN (w : World) (n : Nat) : Below w.heap.size w (w.drewN n) := by
  exact ⟨rfl, rfl, rfl, Nat.le_refl _, fun _ _ => rfl⟩

theorem Bs.drewN {w : World} {a : Option Addr} {len : Nat} {l : List Int} (h : Bs w a len l) (n : Nat) : Bs (w.drewN n) a len l := h.below (below_drewN w n)

theorem Bs.tail {w : World} {b off m : Nat} {hd : Int} {tl : List Int} (h : Bs w (some ⟨b, off, none⟩) (m + 1) (hd :: tl)) : Bs w (some ⟨b, off + 1, none⟩) m tl := by
  have hl : tl.length = m := by have := h.1; simpa using this
  refine ⟨hl, fun z hz => h.2.1 z (List.mem_cons_of_mem _ hz), fun _ => ⟨b, off + 1, rfl, fun i hi => ?_⟩⟩
  obtain ⟨_, _, e, hc⟩ := h.2.2 (by omega)
  cases e
  have := hc (i + 1) (by omega)
  rw [show off + 1 + i = off + (i + 1) from by omega, this]
  simp

theorem Bs.head {w : World} {b off m : Nat} {hd : Int} {tl : List Int} (h : Bs w (some ⟨b, off, none⟩) (m + 1) (hd :: tl)) : w.cell? ⟨b, off, none⟩ = some (.int .u8 hd) := by
  obtain ⟨_, _, e, hc⟩ := h.2.2 (by omega)
  cases e
  exact hc 0 (by omega)

theorem Bs.one (w : World) (c : Int) (c0 : 0 ≤ c) (c1 : c ≤ 255) : Bs (w.alloc (Obj.cells #[.int .u8 c] 5)) (some ⟨w.heap.size, 0, none⟩) 1 [c] := by
  refine ⟨rfl, fun z hz => by simp at hz; subst hz; exact ⟨c0, c1⟩, fun _ => ⟨_, _, rfl, fun i hi => ?_⟩⟩
  obtain rfl : i = 0 := by omega
  simp

theorem owns_block {w : World} {base : Nat} {v : Value} {n : Nat} {xs : List Value} (h : w.ownsRow base 5 1 v n xs) : ∀ k, v.ownBlock = some k → base ≤ k := by
  intro k hk
  rcases h.2 with ⟨rfl, rfl⟩ | ⟨g, cap, cur, rfl, hb, _⟩
  · cases hk
  · cases hk; exact hb

theorem goS_bd (s : Int) (l : List Int) : 0 ≤ goS s l ∧ goS s l ≤ 4294967295 := by
  have := okS_run _ l (okS_start s)
  unfold okS at this
  unfold goS joinS
  omega

theorem goS_app (s : Int) (l m : List Int) : goS (goS s l) m = goS s (l ++ m) := by
  have h := okS_run _ l (okS_start s)
  show joinS (runS (lowOf (joinS (runS (lowOf s, highOf s) l)), highOf (joinS (runS (lowOf s, highOf s) l))) m) = joinS (runS (lowOf s, highOf s) (l ++ m))
  rw [lowOf_join _ h, highOf_join _ h, runS_app]

theorem IsRow.bare {k : IntKind} {w : World} {a : Option Addr} {len cap : Nat} {zs : List Int} (h : IsRow k w a len cap zs) : a = none → cap = 0 := by
  rcases h with ⟨_, _, h, _⟩ | ⟨x, rfl, _⟩
  · exact fun _ => h
  · intro h; cases h

end Go.Proofs.Ytfjipaalelkpjaa
