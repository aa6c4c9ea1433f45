/-
  A writer and a reader as they lie in memory: a block of two cells, the bytes behind the first.
-/
import Derived.Test.YtpdndcmaaghnjaaKDigits
import Derived.Test.YtpdndcmaaghnjaaKTake
import Derived.Laws.AppendOwnNone
import Derived.Deep.AppendSrc
namespace Go.Proofs.Ytpdndcmaaghnjaa.K
open Go.RowKit

/-- bytes as cells. -/
def cellsB (l : List Int) : List Value := l.map (Value.int .u8)

theorem cellsB_app (l m : List Int) : cellsB (l ++ m) = cellsB l ++ cellsB m := by simp [cellsB]

/-- a block of two cells. -/
def Two (w : World) (b : Nat) (t : TypeId) (u v : Value) : Prop := w.heap[b]? = some (.cells #[u, v] t (0, 0))

section
variable {w : World} {b : Nat} {t : TypeId} {u v x : Value}
theorem Two.c0 (h : Two w b t u v) : w.cell? ⟨b, 0, none⟩ = some u := by unfold Two at h; simp [World.cell?, h]
theorem Two.c1 (h : Two w b t u v) : w.cell? ⟨b, 1, none⟩ = some v := by unfold Two at h; simp [World.cell?, h]
theorem Two.f (h : Two w b t u v) (i : Nat) : w.frozen? ⟨b, i, none⟩ = false := by unfold Two at h; simp [World.frozen?, h]
theorem Two.lt (h : Two w b t u v) : b < w.heap.size := lt_of_block h
theorem Two.set0 (h : Two w b t u v) : Two (w.setCell ⟨b, 0, none⟩ x) b t x v := by unfold Two at *; simp [World.setCell, Array.getElem?_modify, h]
theorem Two.set1 (h : Two w b t u v) : Two (w.setCell ⟨b, 1, none⟩ x) b t u x := by unfold Two at *; simp [World.setCell, Array.getElem?_modify, h]
theorem Two.other {a : Addr} (h : Two w b t u v) (ha : b ≠ a.block) : Two (w.setCell a x) b t u v := by unfold Two at *; rw [Below.heap_setCell _ _ _ _ ha]; exact h
theorem Two.alloc (h : Two w b t u v) (o : Obj) : Two (w.alloc o) b t u v := by unfold Two; rw [Below.heap_alloc _ _ _ h.lt]; exact h
theorem Two.grown {w' : World} {row : Option Nat} (h : Two w b t u v) (hg : w.grownBy w' row) (hr : row ≠ some b) : Two w' b t u v := by unfold Two; rw [hg.block b h.lt (fun e => hr e.symm)]; exact h
theorem Two.below {w' : World} {B : Nat} (h : Two w b t u v) (hb : Below B w w') (hB : b < B) : Two w' b t u v := by unfold Two; rw [hb.block b hB]; exact h
end

/-- a row of bytes lies in no block of two cells of another type. -/
theorem own_apart {w : World} {base n : Nat} {s : Value} {xs : List Value} {b : Nat} {t : TypeId} {u v : Value} (ht : t ≠ 5) (h : w.ownsRow base 5 1 s n xs) (h2 : Two w b t u v) : s.ownBlock ≠ some b := by
  intro e
  rcases h.2 with ⟨rfl, rfl⟩ | ⟨g, cap, cur, rfl, hb, hg, _⟩
  · cases e
  · cases e
    unfold Two at h2
    rw [h2] at hg
    simp at hg
    exact ht hg.2

/-- a writer: what it laid, what was wrong. -/
structure Wr (base : Nat) (w : World) (b : Nat) (st : List Int × Int) : Prop where
  ex : ∃ s, Two w b 44 s (.int .i64 st.2) ∧ w.ownsRow base 5 1 s st.1.length (cellsB st.1)
  lo : base ≤ b
  bd : ∀ z ∈ st.1, 0 ≤ z ∧ z ≤ 255
  no : st.2 ≠ 0 → st.1 = []

theorem owns_block {w : World} {base : Nat} {v : Value} {n : Nat} {xs : List Value} (h : w.ownsRow base 5 1 v n xs) : ∀ k, v.ownBlock = some k → base ≤ k := by
  intro k hk
  rcases h.2 with ⟨rfl, rfl⟩ | ⟨g, cap, cur, rfl, hb, _⟩
  · cases hk
  · cases hk; exact hb

theorem owns_bs {w : World} {base : Nat} {v : Value} {n : Nat} {l : List Int} (h : w.ownsRow base 5 1 v n (cellsB l)) (hl : ∀ z ∈ l, 0 ≤ z ∧ z ≤ 255) : ∃ a cap, v = .slice a n cap ∧ Bs w a n l ∧ n ≤ cap ∧ (a = none → cap = 0) ∧ (∀ x, a = some x → base ≤ x.block) := by
  have hlen : l.length = n := by have := h.1; simpa [cellsB] using this
  rcases h.2 with ⟨rfl, rfl⟩ | ⟨g, cap, cur, rfl, hb, hg, hnc, hcm, hcs, htake⟩
  · exact ⟨none, 0, rfl, ⟨hlen, hl, fun h => absurd h (by omega)⟩, by omega, fun _ => rfl, by simp⟩
  · refine ⟨_, cap, rfl, ⟨hlen, hl, fun _ => ⟨g, 0, rfl, fun i hi => ?_⟩⟩, hnc, by simp, by intro x hx; cases hx; exact hb⟩
    have := h.cells (g := g) rfl i (.int .u8 (l.getD i 0)) (by simp [cellsB, List.getElem?_eq_getElem (show i < l.length from by omega)])
    rw [show (⟨g, 0 + i, none⟩ : Addr) = (⟨g, 0, none⟩ : Addr).add i from by unfold Addr.add; split <;> simp_all]
    exact this

theorem Bs.news {w : World} {x : Addr} {len : Nat} {l : List Int} (h : Bs w (some x) len l) : ∀ j u, (cellsB l)[j]? = some u → w.cell? (x.add j) = some u := by
  intro j u hu
  have hj : j < l.length := by
    have := (List.getElem?_eq_some_iff.1 hu).1
    simpa [cellsB] using this
  obtain ⟨b, off, e, hc⟩ := h.2.2 (by have := h.1; omega)
  cases e
  have := hc j (by have := h.1; omega)
  rw [show (⟨b, off + j, none⟩ : Addr) = (⟨b, off, none⟩ : Addr).add j from by unfold Addr.add; split <;> simp_all] at this
  rw [this]
  simp [cellsB, List.getElem?_eq_getElem hj] at hu ⊢
  exact hu

theorem Bs.nil {w : World} {len : Nat} {l : List Int} (h : Bs w none len l) : len = 0 ∧ l = [] := by
  have h0 : len = 0 := by
    rcases Nat.eq_zero_or_pos len with e | e
    · exact e
    · obtain ⟨_, _, e, _⟩ := h.2.2 e
      cases e
  exact ⟨h0, List.eq_nil_of_length_eq_zero (by rw [h.1, h0])⟩

theorem grow_refl (w : World) (r : Option Nat) : w.grownBy w r := ⟨rfl, rfl, rfl, Nat.le_refl _, fun _ _ _ => rfl⟩

theorem append_bytes {w : World} {ops : Array Oper} {rest : List Oper} {o : Oper} {a : Act} {Q : Exit → Act → World → Prop} (hgd : o.guard = none) (s x : Operand)
    (ho : o.op = .call { callee := .builtin .append, args := #[s, x], argTypes := #[30, 30] })
    (base : Nat) (v : Value) (n : Nat) (l : List Int) (hs : a.eval s = v) (hown : w.ownsRow base 5 1 v n (cellsB l))
    (ao : Option Addr) (m c : Nat) (k : List Int) (hx : a.eval x = .slice ao m c) (hao : ao = none → c = 0) (hb : Bs w ao m k)
    (hn : n + m ≤ 1000000000) (hbase : base ≤ w.heap.size)
    (h : ∀ v' w', w'.ownsRow base 5 1 v' (n + m) (cellsB (l ++ k)) → w.grownBy w' v.ownBlock → wpList Try.prog ops Q rest (a.put o.dst v') w') : wpList Try.prog ops Q (o :: rest) a w := by
  obtain ⟨i0, hi, hz0, hz1, hz2⟩ := info_parts Try.info5
  cases ao with
  | none =>
    obtain ⟨rfl, rfl⟩ := hb.nil
    obtain rfl := hao rfl
    refine wpList_append_own_none hgd s x 30 ho base 5 i0 1 Try.underlying30 hi v n (cellsB l) hs hown hx ?_
    exact h v w (by simpa using hown) (grow_refl _ _)
  | some ad =>
    refine wpList_append_own _ hgd s x 30 ho base 5 i0 (.int .u8 0) 1 1 Try.underlying30 hi hz0 hz1 hz2 rfl (by decide) v n (cellsB l) hs hown ad m c (cellsB k) hx (by simp [cellsB, hb.1]) hb.news (by intro u hu; simp [cellsB] at hu; obtain ⟨z, _, rfl⟩ := hu; rfl) (by unfold maxLen; omega) (by omega) hbase ?_
    intro v' w' h1 h2 _
    exact h v' w' (by rw [cellsB_app]; exact h1) h2

theorem owns_empty (w : World) : (w.alloc (Obj.cells #[] 5)).ownsRow w.heap.size 5 1 (.slice (some ⟨w.heap.size, 0, none⟩) 0 0) 0 (cellsB []) := by
  refine ⟨rfl, .inr ⟨w.heap.size, 0, #[], rfl, Nat.le_refl _, ?_, Nat.le_refl _, by decide, rfl, rfl⟩⟩
  show (w.heap.push _)[w.heap.size]? = _
  simp

theorem Bs.below {w w' : World} {a : Option Addr} {len : Nat} {l : List Int} (h : Bs w a len l) (hb : Below w.heap.size w w') : Bs w' a len l := by
  refine ⟨h.1, h.2.1, fun h0 => ?_⟩
  obtain ⟨b, off, ha, hc⟩ := h.2.2 h0
  refine ⟨b, off, ha, fun i hi => ?_⟩
  rw [hb.cell (p := ⟨b, off + i, none⟩) (World.block_lt_of_cell? w _ (hc i hi))]
  exact hc i hi

set_option maxHeartbeats 400000 in
/-- bytes, cloned. -/
theorem clone_any (a : Option Addr) (len cap : Nat) (l : List Int) (w : World) (hao : a = none → cap = 0) (hlen : len ≤ 900000000) (hb : Bs w a len l) :
    Calls Try.prog 31 #[.slice a len cap] w fun e w' => Below w.heap.size w w' ∧ ∃ v, e = .returned v ∧ w'.ownsRow w.heap.size 5 1 v len (cellsB l) := by
  cases a with
  | none =>
    obtain ⟨rfl, rfl⟩ := hb.nil
    obtain rfl := hao rfl
    have hnil := Lib.run_eql_slice_nil (P := Try.prog) w 30 5 none 0 0 0 0 Try.underlying30
    go_enter Try.func31, Try.ntmps31
    go_wp2
    go_ret
    exact ⟨Below.refl _ _, _, rfl, rfl, .inl ⟨rfl, rfl⟩⟩
  | some x =>
    have e1 : Below w.heap.size w (w.alloc (Obj.cells #[] 5)) := (Below.refl _ _).alloc (Nat.le_refl _) _
    have hb1 := hb.below e1
    have hnil := Lib.run_eql_slice_nil (P := Try.prog) w 30 5 (some x) len cap 0 0 Try.underlying30
    go_enter Try.func31, Try.ntmps31
    go_wp2_with (at_builtin; refine append_bytes rfl (.tmp 5) (.tmp 6) rfl w.heap.size _ 0 [] rfl (owns_empty w) (some x) len cap l rfl (by simp) hb1 (by omega) (by simp) ?_; intro v2 x2 ho2 hg2)
    go_ret
    have e2 := e1.grown hg2 (by simp) (by intro k hk; cases hk; exact Nat.le_refl _)
    rw [Nat.zero_add, List.nil_append] at ho2
    exact ⟨e2, _, rfl, ho2⟩

theorem Wr.lt {base : Nat} {w : World} {b : Nat} {st : List Int × Int} (h : Wr base w b st) : b < w.heap.size := by
  obtain ⟨s, h2, _⟩ := h.ex
  exact h2.lt

theorem owns_nil (w : World) (base : Nat) : w.ownsRow base 5 1 (.slice none 0 0) 0 (cellsB []) := ⟨rfl, .inl ⟨rfl, rfl⟩⟩

/-- a writer to which something wrong is told. -/
def failW (st : List Int × Int) (c : Int) : List Int × Int := if st.2 = 0 then ([], c) else st

/-- a writer to which bytes are told. -/
def layW (st : List Int × Int) (k : List Int) : List Int × Int := if st.2 = 0 then (st.1 ++ k, 0) else st

set_option maxHeartbeats 400000 in
theorem wfail_any (base : Nat) (w : World) (b : Nat) (st : List Int × Int) (c : Int) (h : Wr base w b st) :
    Calls Try.prog 43 #[.pointer (some ⟨b, 0, none⟩), .int .i64 c] w fun e w' => e = .returned (.tuple #[]) ∧ Wr base w' b (failW st c) ∧ Below base w w' := by
  have H := h
  obtain ⟨s, h2, ho⟩ := h.ex
  have hlo := h.lo
  have c0 := h2.c0
  have c1 := h2.c1
  have f0 := h2.f 0
  have f1 := h2.f 1
  obtain ⟨l, e⟩ := st
  simp only at c1
  by_cases he : e = 0
  · subst he
    clear h H ho
    go_enter Try.func43, Try.ntmps43
    go_wp2
    go_end0
    refine ⟨rfl, ⟨⟨_, (h2.set1 (x := .int .i64 c)).set0 (x := .slice none 0 0), owns_nil _ _⟩, hlo, by simp [failW], fun _ => rfl⟩, ((Below.refl _ _).setCell hlo _).setCell hlo _⟩
  · have hf : failW (l, e) c = (l, e) := by unfold failW; rw [if_neg he]
    rw [hf]
    clear h ho
    go_enter Try.func43, Try.ntmps43
    go_wp2
    go_end0
    exact ⟨rfl, H, Below.refl _ _⟩

set_option maxHeartbeats 400000 in
theorem wlay_any (base : Nat) (w : World) (b : Nat) (st : List Int × Int) (a : Option Addr) (m cap : Nat) (k : List Int) (h : Wr base w b st) (hao : a = none → cap = 0) (hk : Bs w a m k) (hn : st.1.length + m ≤ 1000000000) :
    Calls Try.prog 45 #[.pointer (some ⟨b, 0, none⟩), .slice a m cap] w fun e w' => e = .returned (.tuple #[]) ∧ Wr base w' b (layW st k) ∧ Below base w w' := by
  have H := h
  obtain ⟨s, h2, ho⟩ := h.ex
  have hap := own_apart (by decide) ho h2
  have hlo := h.lo
  have hlt := h2.lt
  have hbd := h.bd
  have c0 := h2.c0
  have c1 := h2.c1
  obtain ⟨l, e⟩ := st
  simp only at c1 hn ho hbd
  by_cases he : e = 0
  · subst he
    have AO : Hid (a = none → cap = 0) := hao
    have AP : Hid (s.ownBlock ≠ some b) := hap
    have BD : Hid (∀ z ∈ l ++ k, 0 ≤ z ∧ z ≤ 255) := by
      intro z hz
      rcases List.mem_append.1 hz with hz | hz
      · exact hbd z hz
      · exact hk.2.1 z hz
    clear h H hao hap hbd
    go_enter Try.func45, Try.ntmps45
    go_wp2_with (at_builtin; refine append_bytes rfl (.tmp 13) (.tmp 14) rfl base _ l.length l rfl ho a m cap k rfl AO.out hk hn (by omega) ?_; intro v1 x1 ho1 hg1; have h3 := h2.grown hg1 AP.out; have f0 := h3.f 0; have d0 := h3.c0; obtain ⟨a1, k1, rfl, _⟩ := owns_bs ho1 BD.out)
    go_end0
    have e1 : Below base w x1 := (Below.refl _ _).grown hg1 (by omega) (owns_block ho)
    refine ⟨rfl, ⟨⟨_, h3.set0, ?_⟩, hlo, BD.out, fun h => absurd rfl h⟩, e1.setCell hlo _⟩
    have := ownsRow_setCell_other ho1 (a := ⟨b, 0, none⟩) (own_apart (by decide) ho1 h3) (.slice a1 (l.length + m) k1)
    show World.ownsRow _ base 5 1 (.slice a1 (l.length + m) k1) (l ++ k).length (cellsB (l ++ k))
    rw [List.length_append, hk.1]
    exact this
  · have hf : layW (l, e) k = (l, e) := by unfold layW; rw [if_neg he]
    rw [hf]
    clear h ho
    go_enter Try.func45, Try.ntmps45
    go_wp2
    go_end0
    exact ⟨rfl, H, Below.refl _ _⟩

end Go.Proofs.Ytpdndcmaaghnjaa.K
