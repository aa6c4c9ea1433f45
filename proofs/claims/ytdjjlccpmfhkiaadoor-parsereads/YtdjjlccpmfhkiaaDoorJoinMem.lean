/-
  The law ParseJoins, walked: true for all texts.
-/
import Derived.Test.YtdjjlccpmfhkiaaDoorAwake
import Derived.Laws.AppendOwnNone
import Derived.Laws.Concat
namespace Go.Proofs.YtdjjlccpmfhkiaaDoor
open Go.RowKit

theorem bar_app (l m : List UInt8) : bar l ++ bar m = bar (l ++ m) := ByteArray.mk_append_mk l m
theorem grow_refl (w : World) (r : Option Nat) : w.grownBy w r := ⟨rfl, rfl, rfl, Nat.le_refl _, fun _ _ _ => rfl⟩

theorem sm_of {l : List UInt8} {d : Ac} {rs : List Rl} (h : prs l = .ok (d, rs)) : Sm rs := by
  obtain ⟨_, h1, h2⟩ := prs_bound h
  dsimp only at h1 h2
  refine ⟨by omega, fun r hr => ?_⟩
  have h3 := (h2 r hr).n16
  have h4 := (h2 r hr).c8
  omega

/-- rules as a source that is appended. -/
structure Rsrc (w : World) (ao : Option Addr) (m c : Nat) (rv : List Rv) : Prop where
  len : rv.length = m
  nil : ao = none → c = 0 ∧ rv = []
  at' : ∀ ad, ao = some ad → ad.block < w.heap.size ∧ ∀ j u, (cellsR rv)[j]? = some u → w.cell? (ad.add j) = some u
  one : ∀ u ∈ cellsR rv, u.oneCell' = true
  row : ∀ x ∈ rv, Strs w x.vn x.r.names ∧ Cds w x.vc x.r.conds

theorem add_block (a : Addr) (j : Nat) : (a.add j).block = a.block := by
  unfold Addr.add
  split <;> rfl

theorem Rsrc.below {w w' : World} {ao : Option Addr} {m c : Nat} {rv : List Rv} (h : Rsrc w ao m c rv) (hb : Below w.heap.size w w') : Rsrc w' ao m c rv := by
  refine ⟨h.len, h.nil, fun ad had => ?_, h.one, fun x hx => ⟨(h.row x hx).1.below hb, (h.row x hx).2.below hb⟩⟩
  obtain ⟨h1, h2⟩ := h.at' ad had
  refine ⟨Nat.lt_of_lt_of_le h1 hb.size, fun j u hu => ?_⟩
  exact cell_same (h2 j u hu) (hb.block _ (by rw [add_block]; exact h1))

theorem rsrc_of {w : World} {base : Nat} {v : Value} {rv : List Rv} (h : w.ownsRow base 43 4 v rv.length (cellsR rv)) (hr : ∀ x ∈ rv, Rows2 w base x) : ∃ ao c, v = .slice ao rv.length c ∧ Rsrc w ao rv.length c rv := by
  have hone : ∀ u ∈ cellsR rv, u.oneCell' = true := by
    intro u hu
    obtain ⟨x, hx, hu⟩ := List.mem_flatMap.1 hu
    simp [Rv.cells, ruleL] at hu
    rcases hu with rfl | rfl | rfl | rfl
    · rfl
    · rfl
    · exact owns_cell (hr x hx).1
    · exact owns_cell (hr x hx).2
  have hs : ∀ x ∈ rv, Strs w x.vn x.r.names ∧ Cds w x.vc x.r.conds := fun x hx => ⟨(owns_strs (hr x hx).1).2, (owns_cds (hr x hx).2).2⟩
  rcases h.2 with ⟨rfl, h0⟩ | ⟨g, cap, cur, rfl, hb, hg, hnc, hcm, hcs, htake⟩
  · exact ⟨none, 0, by rw [h0], rfl, fun _ => ⟨rfl, List.eq_nil_of_length_eq_zero h0⟩, fun ad had => (by cases had), hone, hs⟩
  · refine ⟨_, cap, rfl, rfl, fun e => (by cases e), fun ad had => ?_, hone, hs⟩
    cases had
    exact ⟨lt_of_block hg, fun j u hu => h.cells (g := g) rfl j u hu⟩

theorem cellsR_app (l k : List Rv) : cellsR (l ++ k) = cellsR l ++ cellsR k := by simp [cellsR]

theorem run_append_rules (w : World) (ty : TypeId) (base : Nat) (v : Value) (n : Nat) (l : List Rv) (hown : w.ownsRow base 43 4 v n (cellsR l))
    (ao : Option Addr) (m c : Nat) (k : List Rv) (hb : Rsrc w ao m c k) (hn : n + m ≤ 1000000) (hbase : base ≤ w.heap.size) :
    ∃ v' w', (Builtin.append_ #[25, 25] ty #[v, .slice ao m c]).run Tryd.prog w = .ok v' w' ∧ w'.ownsRow base 43 4 v' (n + m) (cellsR (l ++ k)) ∧ w.grownBy w' v.ownBlock := by
  obtain ⟨i0, hi, hz0, hz1, hz2⟩ := info_parts Tryd.info43
  cases ao with
  | none =>
    obtain ⟨rfl, rfl⟩ := hb.nil rfl
    obtain rfl := hb.len
    exact ⟨v, w, run_append_owned_none (P := Tryd.prog) (w := w) base 25 ty 43 i0 4 Tryd.underlying25 hi v n (cellsR l) hown, by simpa using hown, grow_refl _ _⟩
  | some ad =>
    obtain ⟨v', w', h1, h2, h3, _⟩ := run_append_own (P := Tryd.prog) w base 25 ty 43 i0 (.agg #[.int .i64 0, .int .i64 0, .slice none 0 0, .slice none 0 0]) 4 64 Tryd.underlying25 hi hz0 hz1 hz2 rfl (by decide) v n (cellsR l) hown ad m c (cellsR k) (by rw [cellsR_length, hb.len]) (hb.at' ad rfl).2 hb.one (by unfold maxLen; omega) (by omega) hbase
    exact ⟨v', w', h1, by rw [cellsR_app]; exact h2, h3⟩

set_option maxRecDepth 8000 in
theorem step_append_rules {w : World} {ops : Array Oper} {o : Oper} {a : Act} {K : Act → World → Prop} {Q : Exit → Act → World → Prop} {E : Prop} (hgd : o.guard = none) (s x : Operand)
    (ho : o.op = .call { callee := .builtin .append, args := #[s, x], argTypes := #[25, 25] })
    (base : Nat) (v : Value) (n : Nat) (l : List Rv) (hs : a.eval s = v) (hown : w.ownsRow base 43 4 v n (cellsR l))
    (ao : Option Addr) (m c : Nat) (k : List Rv) (hx : a.eval x = .slice ao m c) (hb : Rsrc w ao m c k) (hn : n + m ≤ 1000000) (hbase : base ≤ w.heap.size)
    (h : ∀ v' w', w'.ownsRow base 43 4 v' (n + m) (cellsR (l ++ k)) → w.grownBy w' v.ownBlock → K (a.put o.dst v') w') :
    if Region.wanted o (yielded ops a.tmps) = true then Oper.wp Tryd.prog o a w K Q else E := by
  have hw : Region.wanted o (yielded ops a.tmps) = true := by simp [Region.wanted, hgd]
  rw [if_pos hw]
  obtain ⟨v', w', hr, h2, h3⟩ := run_append_rules w o.type base v n l hown ao m c k hb hn hbase
  unfold Oper.wp execOp
  simp only [ho, resolve, invoke, builtin, Sem.run_bind, Sem.run_pure, Result.andThen_ok, List.map_toArray, List.map_cons, List.map_nil, hs, hx, hr]
  exact h v' w' h2 h3

theorem owns_empty (W : World) (B : Nat) (hB : B ≤ W.heap.size) : (W.alloc (Obj.cells #[] 43)).ownsRow B 43 4 (.slice (some ⟨W.heap.size, 0, none⟩) 0 0) 0 (cellsR []) :=
  ⟨rfl, .inr ⟨W.heap.size, 0, #[], rfl, hB, heap_alloc_new W _, Nat.le_refl _, by unfold maxLen; omega, rfl, rfl⟩⟩

theorem owns_blk {X : World} {B T n g : Nat} {v : Value} {sz : Nat} {xs l : List Value} {S : TypeId} (h1 : X.ownsRow B T sz v n xs) (h2 : Blk X g S l) (hT : T ≠ S) : ∀ j, v.ownBlock = some j → j ≠ g := by
  intro j e1 e2
  subst e2
  rcases h1.2 with ⟨rfl, _⟩ | ⟨g', cap, cur, rfl, _, hh, _⟩
  · cases e1
  · cases e1
    unfold Blk at h2
    rw [hh] at h2
    injection h2 with h2
    injection h2 with _ ht _
    exact hT ht

theorem below_grown {B : Nat} {a X Y : World} {row : Option Nat} (h : Below B a X) (hB : B ≤ X.heap.size) (hg : X.grownBy Y row) (hr : ∀ k, row = some k → B ≤ k) : Below B a Y :=
  ⟨hg.os.trans h.os, hg.tape.trans h.tape, hg.output.trans h.output, Nat.le_trans h.size hg.size, fun k hk => (hg.block k (by omega) (fun e => by have := hr k e.symm; omega)).trans (h.block k hk)⟩

/-- the joined rules, made: the row, the variable's cells, and what was there. -/
structure Jn (B : Nat) (a X : World) (v : Value) (l : List Rv) : Prop where
  own : X.ownsRow B 43 4 v l.length (cellsR l)
  be : Below B a X
  lB : B ≤ X.heap.size
structure Ja (B : Nat) (a X : World) (NA : Nat) (q : List Value) : Prop where
  blk : Blk X NA 27 q
  ge : B ≤ NA

section
variable {B NA : Nat} {a X Y : World} {v v' : Value} {l l' : List Rv} {q : List Value}
theorem Jn.over (h : Jn B a X v l) (hb : Below X.heap.size X Y) : Jn B a Y v l := ⟨owns_below h.own hb (Nat.le_refl _), h.be.trans (hb.mono h.lB), Nat.le_trans h.lB hb.size⟩
theorem Jn.app (h : Jn B a X v l) (ho : Y.ownsRow B 43 4 v' l'.length (cellsR l')) (hg : X.grownBy Y v.ownBlock) : Jn B a Y v' l' := ⟨ho, below_grown h.be h.lB hg (owns_block h.own), Nat.le_trans h.lB hg.size⟩
theorem Ja.over (h : Ja B a X NA q) (hb : Below X.heap.size X Y) : Ja B a Y NA q := ⟨h.blk.over hb, h.ge⟩
theorem Ja.app (h : Ja B a X NA q) (hj : Jn B a X v l) (hg : X.grownBy Y v.ownBlock) : Ja B a Y NA q := by
  refine ⟨?_, h.ge⟩
  unfold Blk
  rw [hg.block NA h.blk.lt (fun e => owns_blk hj.own h.blk (by decide) NA e.symm rfl)]
  exact h.blk
theorem Jn.set (h : Jn B a X v l) (hj : Ja B a X NA q) (i : Nat) (u : Value) : Jn B a (X.setCell ⟨NA, i, none⟩ u) v l := by
  refine ⟨owns_same h.own fun j hj' => heap_setCell_other X ⟨NA, i, none⟩ j u (owns_blk h.own hj.blk (by decide) j hj'), ?_, by have := h.lB; simpa using this⟩
  exact below_setCell' h.be hj.ge u
theorem Ja.set (h : Ja B a X NA q) (i : Nat) (u : Value) : Ja B a (X.setCell ⟨NA, i, none⟩ u) NA (q.set i u) := ⟨h.blk.set i u, h.ge⟩
/-- the row, for a reader. -/
theorem Jn.rls (h : Jn B a X v l) (hs : ∀ x ∈ l, Strs X x.vn x.r.names ∧ Cds X x.vc x.r.conds) : RlsV X v l := by
  rcases h.own.2 with ⟨rfl, h0⟩ | ⟨g, cap, cur, rfl, hb, hg, hnc, hcm, hcs, htake⟩
  · exact ⟨none, 0, by rw [h0], fun h => absurd h (by omega), hs⟩
  · refine ⟨_, cap, rfl, fun _ => ⟨g, rfl, fun i x hx => ?_⟩, hs⟩
    have key : ∀ c u, c < 4 → x.cells[c]? = some u → X.cell? ⟨g, i * 4 + c, none⟩ = some u := by
      intro c u hc hu
      have := h.own.cells (g := g) rfl (i * 4 + c) u (by rw [cellsR_get l i x c hx hc]; exact hu)
      rw [show (⟨g, i * 4 + c, none⟩ : Addr) = (⟨g, 0, none⟩ : Addr).add (i * 4 + c) from by unfold Addr.add; split <;> simp_all]
      exact this
    exact ⟨key 0 _ (by decide) rfl, key 1 _ (by decide) rfl, key 2 _ (by decide) rfl, key 3 _ (by decide) rfl⟩
theorem Jn.slice (h : Jn B a X v l) : ∃ p c, v = .slice p l.length c := by
  rcases h.own.2 with ⟨rfl, h0⟩ | ⟨g', c, cur, rfl, _⟩
  · exact ⟨none, 0, by rw [h0]⟩
  · exact ⟨_, c, rfl⟩
end

end Go.Proofs.YtdjjlccpmfhkiaaDoor
