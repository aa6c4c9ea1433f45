/-
  Nodes in a row: as they came in, and of a call's own.
-/
import Derived.Test.YtilemgpopjlchaaDoorPIfc
import Derived.Maps.AppendAt
import Derived.Deep.MidRow
import Derived.OpenShut
import Derived.ProofKit
import Derived.Deep.Slices
import Derived.Deep.Fields
namespace Go.Proofs.YtilemgpopjlchaaDoor
open Go.ChangeShapes Go.WideShapes Go.ChangeAt Go.RowKit Go.Deep

/-- a node's cells. -/
def Nd.vals (x : Nd) : List Value := [.string (bar x.p), .int .i64 x.k, .string (bar x.t)]
def Nd.v (x : Nd) : Value := .agg #[.string (bar x.p), .int .i64 x.k, .string (bar x.t)]
/-- the three cells at a place. -/
def Tri (w : World) (b i : Nat) (x : Nd) : Prop := w.cell? ⟨b, i, none⟩ = some (.string (bar x.p)) ∧ w.cell? ⟨b, i + 1, none⟩ = some (.int .i64 x.k) ∧ w.cell? ⟨b, i + 2, none⟩ = some (.string (bar x.t))
theorem Tri.over {w w' : World} {b i : Nat} {x : Nd} (h : Tri w b i x) (hb : Below w.heap.size w w') : Tri w' b i x := by
  obtain ⟨c0, c1, c2⟩ := h
  refine ⟨?_, ?_, ?_⟩
  · rw [hb.cell (p := ⟨b, i, none⟩) (World.block_lt_of_cell? w _ c0)]; exact c0
  · rw [hb.cell (p := ⟨b, i + 1, none⟩) (World.block_lt_of_cell? w _ c1)]; exact c1
  · rw [hb.cell (p := ⟨b, i + 2, none⟩) (World.block_lt_of_cell? w _ c2)]; exact c2
/-- nodes that a slice leads to. -/
def NdR (w : World) (v : Value) (L : List Nd) : Prop :=
  ∃ p c, v = .slice p L.length c ∧ (p = none → c = 0) ∧ L.length ≤ c ∧ L.length ≤ maxLen ∧ (0 < L.length → ∃ b o, p = some ⟨b, o, none⟩ ∧ ∀ (i : Nat) (x : Nd), L[i]? = some x → Tri w b (o + i * 3) x)
theorem NdR.over {w w' : World} {v : Value} {L : List Nd} (h : NdR w v L) (hb : Below w.heap.size w w') : NdR w' v L := by
  obtain ⟨p, c, e, hz, hq, h1, h2⟩ := h
  refine ⟨p, c, e, hz, hq, h1, fun h0 => ?_⟩
  obtain ⟨b, o, e2, hr⟩ := h2 h0
  exact ⟨b, o, e2, fun i x hi => (hr i x hi).over hb⟩
theorem NdR.form {w : World} {v : Value} {L : List Nd} (h : NdR w v L) : ∃ p c, v = .slice p L.length c := by
  obtain ⟨p, c, e, _⟩ := h
  exact ⟨p, c, e⟩
theorem NdR.at {w : World} {p : Option Addr} {n c i : Nat} {L : List Nd} (h : NdR w (.slice p n c) L) (hi : i < L.length) : ∃ b o, p = some ⟨b, o, none⟩ ∧ Tri w b (o + i * 3) L[i] := by
  obtain ⟨p', c', e, hz, hq, h1, h2⟩ := h
  cases e
  obtain ⟨b, o, e2, hr⟩ := h2 (by omega)
  exact ⟨b, o, e2, hr i _ (List.getElem?_eq_getElem hi)⟩
theorem NdR.take {w : World} {p : Option Addr} {n c k : Nat} {L : List Nd} (h : NdR w (.slice p n c) L) (hk : k ≤ n) : NdR w (.slice p k c) (L.take k) := by
  obtain ⟨p', c', e, hz, hq, h1, h2⟩ := h
  cases e
  have hl : (L.take k).length = k := by rw [List.length_take]; omega
  refine ⟨p, c, by rw [hl], hz, by omega, by omega, fun h0 => ?_⟩
  obtain ⟨b, o, e2, hr⟩ := h2 (by omega)
  refine ⟨b, o, e2, fun i x hi => hr i x ?_⟩
  rw [List.getElem?_take] at hi
  split at hi
  · exact hi
  · cases hi

/-- cut from above. -/
theorem NdR.cut {W : World} {p : Option Addr} {n c : Nat} {L : List Nd} (h : NdR W (.slice p n c) L) (i : Nat) (hi : i ≤ n) :
    ∀ w, (Instr.sliceAt 22 (.slice p n c) none (some (.int .i64 i)) none).run Tryd.prog w = .ok (.slice p i c) w := by
  have he : Tryd.prog.elem 22 = 29 := by kernel_rfl
  have hu : Tryd.prog.underlying 22 = some (.slice (Tryd.prog.elem 22)) := by rw [he]; exact Tryd.underlying22
  obtain ⟨p', c', e, hz, hq, _, h2⟩ := h
  injection e with e1 e2 e3
  subst e1 e2 e3
  intro w
  rw [run_sliceAt_slice w 22 _ _ _ _ hu, run_slice_h w 22 _ _ _ hu .i64 i (by omega) (by omega), he, Tryd.sizeOf29]
  simp only [Result.andThen_ok, sliced, Int.toNat_natCast, Nat.sub_zero, Nat.zero_mul]
  cases p with
  | none =>
    have := hz rfl
    subst this
    rw [if_pos rfl]
  | some a =>
    by_cases h0 : c = 0
    · rw [if_pos h0]
    · rw [if_neg h0, Option.map_some]
      by_cases hl : 0 < L.length
      · obtain ⟨b, o, e2, _⟩ := h2 hl
        cases e2
        rw [Addr.add_lit, Nat.add_zero]
      · obtain ⟨b, o, sp⟩ := a
        cases sp <;> simp [Addr.add]

theorem cellsNd : Tryd.prog.cellsOf 29 = 3 := by kernel_rfl
theorem cellsS9 : Tryd.prog.cellsOf 9 = 1 := by kernel_rfl
theorem cellsI3 : Tryd.prog.cellsOf 3 = 1 := by kernel_rfl
theorem open_nd {H : Type} {enc : TypeId × Value → H} {w : World} {base : Nat} {spare : Nat → Bool} {held : Bool} {n : Nat} {cs : List Value} {x : DataW H × List MemPlace} (hl : cs.length = 3) (h : DataW.trod enc Tryd.prog w base spare held n 29 cs = some x) :
    ∃ y : Nd, cs = y.vals := by
  obtain ⟨xs, k, _, _, _, hxl, hf⟩ := DataW.trod_struct Tryd.underlying29 h
  match xs, hxl, cs, hl with
  | [y0, y1, y2], _, [v0, v1, v2], _ =>
    have g0 := hf 0 _ rfl
    have g1 := hf 1 _ rfl
    have g2 := hf 2 _ rfl
    simp [cellsS9, cellsI3] at g0 g1 g2
    obtain ⟨a, ha, _, _⟩ := DataW.trod_string Tryd.underlying9 g0
    obtain ⟨b, hb, _, _⟩ := DataW.trod_int Tryd.underlying3 g1
    obtain ⟨c, hc, _, _⟩ := DataW.trod_string Tryd.underlying9 g2
    simp at ha hb hc
    subst ha hb hc
    refine ⟨⟨lst a, b, lst c⟩, ?_⟩
    unfold Nd.vals
    rw [bar_lst, bar_lst]
theorem open_nds {H : Type} {enc : TypeId × Value → H} {w : World} {base : Nat} {spare : Nat → Bool} {held : Bool} {fuel : Nat} {x : DataW H × List MemPlace} {a : Option Addr} {len cap : Nat} (h : DataW.trod enc Tryd.prog w base spare held fuel 22 [.slice a len cap] = some x) :
    ∃ l, NdR w (.slice a len cap) l := by
  rcases open_slice Tryd.underlying22 h with ⟨h0, _⟩ | ⟨a', len', cap', m, n, D, Pl, hcs, hb, hl, hm, hmm, _, hx⟩
  · simp at h0
    obtain ⟨rfl, rfl, rfl⟩ := h0
    exact ⟨[], none, 0, rfl, fun _ => rfl, Nat.zero_le _, Nat.zero_le _, fun h => absurd h (by simp)⟩
  · simp at hcs
    obtain ⟨rfl, rfl, rfl⟩ := hcs
    have hlm : len ≤ m := by rw [hmm]; split <;> omega
    haveI : Inhabited Nd := ⟨⟨[], 0, []⟩⟩
    obtain ⟨f, hf⟩ := choose_lt (α := Nd) (n := len) (p := fun i y => w.cells? base (a'.add (i * 3)) 3 = some y.vals) (fun i hi => by
      obtain ⟨cs', h1, h2⟩ := hx i (by omega)
      rw [cellsNd] at h1
      obtain ⟨_, hlen, _⟩ := World.cells?_some h1
      obtain ⟨y, rfl⟩ := open_nd hlen h2
      exact ⟨y, h1⟩)
    have hfl : ((List.range len).map f).length = len := by simp
    refine ⟨(List.range len).map f, some a', cap, by rw [hfl], (fun e => by cases e), by rw [hfl]; exact hl, by rw [hfl]; omega, fun h0 => ?_⟩
    rw [hfl] at h0
    obtain ⟨b, off, spot⟩ := a'
    have c0 := (World.cells?_some (hf 0 h0)).2.2 0 (by omega)
    have hspot : spot = none := by
      have e : (({ block := b, off := off, spot := spot } : Addr).add (0 * 3)).add 0 = ⟨b, off, spot⟩ := by cases spot <;> simp [Addr.add]
      rw [e] at c0
      exact World.cell?_spot c0
    subst hspot
    refine ⟨b, off, rfl, fun i y hi => ?_⟩
    have hil : i < len := by
      have := (List.getElem?_eq_some_iff.1 hi).1
      simpa using this
    simp [hil] at hi
    subst hi
    obtain ⟨_, _, hc⟩ := World.cells?_some (hf i hil)
    have key : ∀ c, (({ block := b, off := off, spot := none } : Addr).add (i * 3)).add c = ⟨b, off + i * 3 + c, none⟩ := by intro c; rw [Addr.add_lit, Addr.add_lit]
    have k0 := hc 0 (by decide)
    have k1 := hc 1 (by decide)
    have k2 := hc 2 (by decide)
    rw [key] at k0 k1 k2
    exact ⟨k0, k1, k2⟩
/-- nodes in a slice, as an argument. -/
theorem open_nodes {H : Type} {enc : TypeId × Value → H} {w : World} {base b0 : Nat} {spare : Nat → Bool} {held : Bool} {r : Reach} {v : Value} {d : DataW H} {p : List MemPlace}
    (hv : Value.okWide Tryd.prog w r b0 22 v) (h : DataW.Trod enc Tryd.prog w base spare held 22 v d p) : ∃ y : Value × List Nd, v = y.1 ∧ NdR w y.1 y.2 := by
  obtain ⟨a, n, c, rfl⟩ := okWide_slice Tryd.underlying22 hv
  obtain ⟨fuel, hf⟩ := h
  obtain ⟨l, hl⟩ := open_nds hf
  exact ⟨(_, l), rfl, hl⟩

/-! rows of a call's own -/
def cellsN (L : List Nd) : List Value := L.flatMap Nd.vals
theorem cellsN_app (L M : List Nd) : cellsN (L ++ M) = cellsN L ++ cellsN M := by simp [cellsN]
theorem cellsN_len (L : List Nd) : (cellsN L).length = L.length * 3 := by
  induction L with
  | nil => rfl
  | cons x L ih =>
    show (x.vals ++ cellsN L).length = _
    rw [List.length_append, ih, List.length_cons]
    show 3 + _ = _
    omega
theorem cellsN_get {L : List Nd} : ∀ {i : Nat} {x : Nd} {j : Nat} {v : Value}, L[i]? = some x → x.vals[j]? = some v → (cellsN L)[i * 3 + j]? = some v := by
  induction L with
  | nil => intro i x j v hi; cases hi
  | cons y L ih =>
    intro i x j v hi hj
    show (y.vals ++ cellsN L)[i * 3 + j]? = _
    cases i with
    | zero =>
      cases hi
      have : j < y.vals.length := (List.getElem?_eq_some_iff.1 hj).1
      rw [Nat.zero_mul, Nat.zero_add, List.getElem?_append_left this]
      exact hj
    | succ i =>
      have hy : y.vals.length = 3 := rfl
      rw [List.getElem?_append_right (by omega), hy, show (i + 1) * 3 + j - 3 = i * 3 + j by omega]
      exact ih hi hj
theorem cellsN_one (L : List Nd) : ∀ u ∈ cellsN L, u.oneCell' = true := by
  intro u hu
  obtain ⟨x, _, hx⟩ := List.mem_flatMap.1 hu
  simp [Nd.vals] at hx
  rcases hx with rfl | rfl | rfl <;> rfl
theorem ndR_own {w : World} {B n : Nat} {v : Value} {L : List Nd} (h : w.ownsRow B 29 3 v n (cellsN L)) (hl : L.length ≤ 100000) : NdR w v L := by
  have hn : L.length = n := by have := h.1; rw [cellsN_len] at this; omega
  subst hn
  rcases h.2 with ⟨rfl, h0⟩ | ⟨g, cap, cur, rfl, _, _, h3, _⟩
  · exact ⟨none, 0, by rw [h0], fun _ => rfl, by omega, by unfold maxLen; omega, fun h => by omega⟩
  · refine ⟨_, cap, rfl, (fun e => by cases e), h3, by unfold maxLen; omega, fun _ => ⟨g, 0, rfl, fun i x hi => ?_⟩⟩
    have key : ∀ (j : Nat) (u : Value), x.vals[j]? = some u → w.cell? ⟨g, 0 + i * 3 + j, none⟩ = some u := fun j u hu => by
      have := h.cells (g := g) rfl (i * 3 + j) u (cellsN_get hi hu)
      rw [Addr.add_lit, ← Nat.add_assoc] at this
      exact this
    exact ⟨key 0 _ rfl, key 1 _ rfl, key 2 _ rfl⟩
/-- what an append of nodes tells. -/
structure ApN (B : Nat) (w w' : World) (v v' : Value) (L : List Nd) : Prop where
  own : w'.ownsRow B 29 3 v' L.length (cellsN L)
  grow : w.grownBy w' v.ownBlock
  at' : v'.ownBlock = v.ownBlock ∨ v'.ownBlock = some w.heap.size
theorem infoNd : (Tryd.prog.info? 29).map (fun i => (i.zero, i.size, i.bytes)) = some (some (.agg #[.string ⟨#[]⟩, .int .i64 0, .string ⟨#[]⟩]), 3, 40) := by kernel_rfl
theorem run_appN {B : Nat} {w : World} {v x : Value} {n : Nat} {L M : List Nd} (h : w.ownsRow B 29 3 v n (cellsN L)) (hln : L.length = n) (hx : NdR w x M) (hn : n + M.length ≤ 1000) (hB : B ≤ w.heap.size) (ty : TypeId) :
    ∃ v' w', (Builtin.append_ #[22, 22] ty #[v, x]).run Tryd.prog w = .ok v' w' ∧ ApN B w w' v v' (L ++ M) := by
  obtain ⟨i0, hi0, hz0, hz1, hz2⟩ := info_parts infoNd
  obtain ⟨p, c, rfl, hz, hq, h1, h2⟩ := hx
  by_cases h0 : M = []
  · subst h0
    cases p with
    | none =>
      obtain rfl := hz rfl
      refine ⟨v, w, run_append_owned_none (P := Tryd.prog) w B 22 ty 29 i0 3 Tryd.underlying22 hi0 v n (cellsN L) h, ?_⟩
      rw [List.append_nil]
      exact ⟨by rw [hln]; exact h, ⟨rfl, rfl, rfl, Nat.le_refl _, fun _ _ _ => rfl⟩, .inl rfl⟩
    | some a =>
      obtain ⟨v', w', q0, q1, q2, _, q4⟩ := run_append_own_at (P := Tryd.prog) w B 22 ty 29 i0 _ 3 40 Tryd.underlying22 hi0 hz0 hz1 hz2 (by rfl) (by decide) v n (cellsN L) h a 0 c [] rfl (fun j u hu => by cases hu) (fun u hu => by cases hu) (by unfold maxLen; omega) (by omega) hB
      refine ⟨v', w', q0, ?_⟩
      rw [List.append_nil]
      rw [List.append_nil] at q1
      exact ⟨by rw [hln]; exact q1, q2, q4⟩
  · obtain ⟨b, o, rfl, hc⟩ := h2 (List.length_pos_iff.2 h0)
    obtain ⟨v', w', q0, q1, q2, _, q4⟩ := run_append_own_at (P := Tryd.prog) w B 22 ty 29 i0 _ 3 40 Tryd.underlying22 hi0 hz0 hz1 hz2 (by rfl) (by decide) v n (cellsN L) h ⟨b, o, none⟩ M.length c (cellsN M) (cellsN_len M) (fun j u hu => by
      have hj := (List.getElem?_eq_some_iff.1 hu).1
      rw [cellsN_len] at hj
      have hi : j / 3 < M.length := by omega
      obtain ⟨c0, c1, c2⟩ := hc (j / 3) _ (List.getElem?_eq_getElem hi)
      have hm : j % 3 = 0 ∨ j % 3 = 1 ∨ j % 3 = 2 := by omega
      have key : ∀ (r : Nat) (u' : Value), j % 3 = r → M[j / 3].vals[r]? = some u' → u = u' := fun r u' hr hv => by
        have := cellsN_get (List.getElem?_eq_getElem hi) hv
        rw [show j / 3 * 3 + r = j by omega, hu] at this
        exact Option.some.inj this
      rw [Addr.add_lit]
      rcases hm with hm | hm | hm
      · rw [key 0 _ hm rfl, show o + j = o + j / 3 * 3 by omega]; exact c0
      · rw [key 1 _ hm rfl, show o + j = o + j / 3 * 3 + 1 by omega]; exact c1
      · rw [key 2 _ hm rfl, show o + j = o + j / 3 * 3 + 2 by omega]; exact c2) (cellsN_one M) (by unfold maxLen; omega) (by omega) hB
    rw [← cellsN_app] at q1
    exact ⟨v', w', q0, by rw [List.length_append, hln]; exact q1, q2, q4⟩
theorem list_appN {B : Nat} {w : World} {ops : Array Oper} {rest : List Oper} {o : Oper} {a : Act} {Q : Exit → Act → World → Prop} (hgd : o.guard = none) (s x : Operand)
    (ho : o.op = .call { callee := .builtin .append, args := #[s, x], argTypes := #[22, 22] }) {v xv : Value} {n : Nat} {L M : List Nd} (hv : a.eval s = v) (hx : a.eval x = xv)
    (h : w.ownsRow B 29 3 v n (cellsN L)) (hln : L.length = n) (hs : NdR w xv M) (hn : n + M.length ≤ 1000) (hB : B ≤ w.heap.size)
    (hk : ∀ v' w', ApN B w w' v v' (L ++ M) → wpList Tryd.prog ops Q rest (a.put o.dst v') w') : wpList Tryd.prog ops Q (o :: rest) a w := by
  refine wpList_plain hgd fun _ hK => ?_
  obtain ⟨v', w', hr, h2⟩ := run_appN h hln hs hn hB o.type
  unfold Oper.wp execOp
  simp only [ho, resolve, invoke, builtin, Sem.run_bind, Sem.run_pure, Result.andThen_ok, List.map_toArray, List.map_cons, List.map_nil, hv, hx, hr]
  exact hK _ _ (hk v' w' h2)
theorem ApN.below {B : Nat} {w0 w w' : World} {v v' : Value} {L M : List Nd} {n : Nat} (h : ApN B w w' v v' L) (hv : w.ownsRow w0.heap.size 29 3 v n (cellsN M)) (hb : Below w0.heap.size w0 w) : Below w0.heap.size w0 w' :=
  hb.grown h.grow hb.size fun j hj => owns_block hv j hj
theorem nd_one (W : World) (x : Nd) : NdR (W.alloc (.cells #[.string (bar x.p), .int .i64 x.k, .string (bar x.t)] 29)) (.slice (some ⟨W.heap.size, 0, none⟩) 1 1) [x] :=
  ⟨_, 1, rfl, (fun e => by cases e), Nat.le_refl _, (by show 1 ≤ _; unfold maxLen; decide), fun _ => ⟨W.heap.size, 0, rfl, fun i y hi => by
    cases i with
    | zero =>
      cases hi
      have hb := heap_alloc_new W (.cells #[.string (bar x.p), .int .i64 x.k, .string (bar x.t)] 29)
      refine ⟨?_, ?_, ?_⟩ <;> (rw [cell_of_row _ _ _ _ _ _ hb]; rfl)
    | succ i => simp at hi⟩⟩

/-- not too great a tree. -/
structure Lt (L : List Nd) : Prop where
  n : L.length ≤ 70
  p : ∀ x ∈ L, x.p.length ≤ 400
  t : ∀ x ∈ L, x.t.length ≤ 400

end Go.Proofs.YtilemgpopjlchaaDoor
