/-
  Nodes in a map by their paths, and what the program does with it, at the operation.
-/
import Derived.Test.YtilemgpopjlchaaDoorVIfc
import Derived.Maps.RangeWalk
import Derived.Maps.OwnSet
namespace Go.Proofs.YtilemgpopjlchaaDoor
open Go.RowKit Go.Maps

def litS (p : Nm) : Lit := .string p
theorem litS_inj {x y : Nm} (h : litS x = litS y) : x = y := by
  unfold litS at h
  injection h
theorem litS_ne {x y : Nm} (h : x ≠ y) : litS x ≠ litS y := fun e => h (litS_inj e)
theorem lawS : Keyed Tryd.prog 9 := string_keyed Tryd.underlying9
theorem key_s (s : ByteArray) (hs : s.size ≤ 100000) : keyOf Tryd.prog 9 (.string s) = some (litS (lst s)) := by
  simp [keyOf, Tryd.underlying9, mapKey, litS, lst]
  unfold maxLen
  omega
theorem isKeyS (p : Nm) : WideAt.IsKeyLit (litS p) := trivial

abbrev Dn := DataW Nd
/-- a node's value, read. -/
def readN (v : Value) : Option (Dn × List MemPlace) :=
  match v with
  | .agg xs =>
    match xs.toList with
    | [.string a, .int .i64 b, .string c] => some (.held ⟨lst a, b, lst c⟩, [])
    | _ => none
  | _ => none
theorem readN_v (x : Nd) : readN x.v = some (.held x, []) := by
  show some (DataW.held (⟨lst (bar x.p), x.k, lst (bar x.t)⟩ : Nd), ([] : List MemPlace)) = _
  rw [lst_bar, lst_bar]
theorem readN_inv {v : Value} {d : Dn} {ps : List MemPlace} (h : readN v = some (d, ps)) : ∃ x : Nd, v = x.v ∧ d = .held x ∧ ps = [] := by
  unfold readN at h
  split at h
  · rename_i xs
    split at h
    · rename_i a b c hx
      cases h
      refine ⟨⟨lst a, b, lst c⟩, ?_, rfl, rfl⟩
      unfold Nd.v
      rw [← Array.toArray_toList (xs := xs), hx, bar_lst, bar_lst]
    · cases h
  · cases h

theorem findL_none {L : List Nd} {p : Nm} : findL L p = none ↔ ∀ x ∈ L, x.p ≠ p := by
  unfold findL
  rw [List.find?_eq_none]
  exact ⟨fun h x hx => by simpa using h x hx, fun h x hx => by simpa using h x hx⟩
/-- a datum that says of each path what stands there. -/
structure VwN (D : Dn) (L : List Nd) : Prop where
  tidy : Tidy D
  size : Maps.size D = L.length
  has : ∀ z, Maps.has D (litS z) = true ↔ ∃ x ∈ L, x.p = z
  val : ∀ x ∈ L, ∀ zd, D.atKey (litS x.p) zd = .held x
theorem VwN.nil : VwN (.map []) [] := ⟨tidy_empty, rfl, fun z => ⟨(fun h => by cases h), (fun ⟨_, h, _⟩ => by cases h)⟩, fun p hp => by cases hp⟩
theorem VwN.hasB {D : Dn} {L : List Nd} (h : VwN D L) (z : Nm) : Maps.has D (litS z) = (findL L z).isSome := by
  rw [Bool.eq_iff_iff, h.has]
  cases hf : findL L z with
  | none => exact ⟨fun ⟨x, hx, e⟩ => absurd e (findL_none.1 hf x hx), fun h => by cases h⟩
  | some y => exact ⟨fun _ => rfl, fun _ => ⟨y, (findL_some hf).1, (findL_some hf).2⟩⟩
theorem VwN.find {D : Dn} {L : List Nd} (h : VwN D L) {z : Nm} {x : Nd} (hf : findL L z = some x) (zd : Dn) : D.atKey (litS z) zd = .held x := by
  obtain ⟨h1, rfl⟩ := findL_some hf
  exact h.val x h1 zd
theorem VwN.add {D : Dn} {L : List Nd} (h : VwN D L) {x : Nd} (hx : ∀ y ∈ L, y.p ≠ x.p) : VwN (D.put (litS x.p) (.held x)) (L ++ [x]) := by
  have hn : Maps.has D (litS x.p) = false := by
    rw [h.hasB, findL_none.2 hx]
    rfl
  refine ⟨h.tidy.put (isKeyS _) _, ?_, fun z => ?_, fun p hp zd => ?_⟩
  · rw [size_put h.tidy, hn, if_neg (by decide), h.size, List.length_append]
    rfl
  · by_cases e : z = x.p
    · subst e
      rw [has_put_same h.tidy.isMap (isKeyS _)]
      exact ⟨fun _ => ⟨x, by simp, rfl⟩, fun _ => rfl⟩
    · rw [has_put_other (litS_ne e), h.has]
      constructor
      · rintro ⟨y, hy, rfl⟩
        exact ⟨y, List.mem_append_left _ hy, rfl⟩
      · rintro ⟨y, hy, rfl⟩
        rcases List.mem_append.1 hy with hy | hy
        · exact ⟨y, hy, rfl⟩
        · rw [List.mem_singleton] at hy
          subst hy
          exact absurd rfl e
  · rcases List.mem_append.1 hp with hp | hp
    · rw [atKey_put_other (litS_ne (hx p hp))]
      exact h.val p hp zd
    · rw [List.mem_singleton] at hp
      subst hp
      exact atKey_put_same h.tidy.isMap (isKeyS _) _ _

/-- a map that holds nodes. -/
def MpN (w : World) (B : Nat) (L : List Nd) : Prop := ∃ D : Dn, w.ownsMap Tryd.prog 9 readN B L.length D ∧ VwN D L
theorem own_tightN {w : World} {B n : Nat} {k : TypeId} {D : Dn} (h : w.ownsMap Tryd.prog k readN B n D) : w.ownsMap Tryd.prog k readN B (Maps.size D) D := by
  obtain ⟨es, c, h1, h2, h3, rfl⟩ := h
  exact ⟨es, c, h1, h2, by simp [Maps.size, length_sorted], rfl⟩
theorem MpN.lt {w : World} {B : Nat} {L : List Nd} (h : MpN w B L) : B < w.heap.size := by obtain ⟨D, h1, _⟩ := h; exact h1.lt
theorem MpN.made (w : World) : MpN (w.alloc (.map #[] 0)) w.heap.size [] := ⟨_, World.ownsMap_made _ _ _ _, VwN.nil⟩
theorem MpN.same {w w' : World} {B : Nat} {L : List Nd} (h : MpN w B L) (hb : w'.heap[B]? = w.heap[B]?) : MpN w' B L := by
  obtain ⟨D, ⟨es, c, h1, h2⟩, hv⟩ := h
  exact ⟨D, ⟨es, c, by rw [hb]; exact h1, h2⟩, hv⟩
theorem MpN.over {w w' : World} {B : Nat} {L : List Nd} (h : MpN w B L) (hb : Below w.heap.size w w') : MpN w' B L := h.same (hb.block B h.lt)
theorem mpN_of {w : World} {B n : Nat} {D : Dn} {L : List Nd} (h : w.ownsMap Tryd.prog 9 readN B n D) (hv : VwN D L) : MpN w B L := ⟨D, hv.size ▸ own_tightN h, hv⟩

def zeroN : Nd := ⟨[], 0, []⟩
theorem zero_nd (w : World) : (zeroValue 29).run Tryd.prog w = .ok zeroN.v w := by
  have := Tryd.zeroValue29 w
  exact this
theorem VwN.look {L : List Nd} {D : Dn} (hv : VwN D L) {v : Value} {ps : List MemPlace} {z : Nm} (hr : readN v = some (D.atKey (litS z) (.held zeroN), ps)) : v = (fndN (findL L z)).v := by
  obtain ⟨x, rfl, h2, _⟩ := readN_inv hr
  cases hf : findL L z with
  | some y =>
    rw [hv.find hf] at h2
    injection h2 with h2
    rw [h2]
    rfl
  | none =>
    have hn : Maps.has D (litS z) = false := by rw [hv.hasB, hf]; rfl
    rw [atKey_of_not_has hn] at h2
    injection h2 with h2
    rw [← h2]
    rfl

section
variable {w : World} {ops : Array Oper} {rest : List Oper} {o : Oper} {a : Act} {Q : Exit → Act → World → Prop} {B : Nat} {L : List Nd} {s : ByteArray}
/-- 'x, is := m[k]'. -/
theorem list_getN (hg : o.guard = none) (m x : Operand) (hop : o.op = Op.lookup 42 m x true) (hm : a.eval m = .map (some B)) (hx : a.eval x = .string s) (hs : s.size ≤ 100000) (h : MpN w B L)
    (hK : wpList Tryd.prog ops Q rest (a.put o.dst (tellF (findL L (lst s)))) w) : wpList Tryd.prog ops Q (o :: rest) a w := by
  obtain ⟨D, ho, hv⟩ := id h
  refine wpList_lookup_own_ok w hg m x 42 hop 9 29 lawS Tryd.underlying42 readN (zero_nd w) (.held zeroN) [] (readN_v _) B _ D hm ho _ (litS (lst s)) hx (key_s s hs) fun v ps hr => ?_
  rw [hv.look hr, hv.hasB]
  exact hK
/-- 'm[k]'. -/
theorem run_atN (hs : s.size ≤ 100000) (h : MpN w B L) : (Instr.lookup 42 (.map (some B)) (.string s) false).run Tryd.prog w = .ok (fndN (findL L (lst s))).v w := by
  obtain ⟨D, ho, hv⟩ := id h
  obtain ⟨v, ps, hrun, hr⟩ := ho.lookup lawS Tryd.underlying42 (zero_nd w) (readN_v _) (key_s s hs)
  have e := hv.look hr
  subst e
  exact hrun
theorem list_atN (hg : o.guard = none) (m x : Operand) (hop : o.op = Op.lookup 42 m x false) (hm : a.eval m = .map (some B)) (hx : a.eval x = .string s) (hs : s.size ≤ 100000) (h : MpN w B L)
    (hK : wpList Tryd.prog ops Q rest (a.put o.dst (fndN (findL L (lst s))).v) w) : wpList Tryd.prog ops Q (o :: rest) a w := by
  refine wpList_plain hg fun K' hK' => ?_
  have hrun := run_atN hs h
  unfold Oper.wp
  simp [execOp, hop, hm, hx, hrun, Result.andThen]
  exact hK' _ _ hK
/-- 'm[k] = x', of a new one. -/
theorem run_putN {x : Nd} (h : MpN w B L) (hn : L.length ≤ 100000) (hx : ∀ y ∈ L, y.p ≠ x.p) (hp : x.p.length ≤ 100000) : ∃ w', (Instr.mapUpdate 42 (.map (some B)) (.string (bar x.p)) x.v).run Tryd.prog w = .ok () w' ∧ MpN w' B (L ++ [x]) ∧ w.mapTurned w' B := by
  obtain ⟨D, ho, hv⟩ := id h
  have hk := key_s (bar x.p) (by rw [bar_size]; exact hp)
  rw [lst_bar] at hk
  obtain ⟨w', h1, h2, h3⟩ := ho.store lawS Tryd.underlying42 (by unfold maxLen; omega) hk (readN_v x)
  exact ⟨w', h1, mpN_of h2 (hv.add hx), h3⟩
theorem list_putN {x : Nd} (hg : o.guard = none) (m k v : Operand) (hop : o.op = Op.mapUpdate 42 m k v ∨ o.op = Op.insert 42 m k v) (hm : a.eval m = .map (some B)) (hk : a.eval k = .string (bar x.p)) (hv : a.eval v = x.v) (h : MpN w B L) (hn : L.length ≤ 100000) (hx : ∀ y ∈ L, y.p ≠ x.p) (hp : x.p.length ≤ 100000)
    (hK : ∀ w', MpN w' B (L ++ [x]) → w.mapTurned w' B → wpList Tryd.prog ops Q rest (a.put o.dst undef) w') : wpList Tryd.prog ops Q (o :: rest) a w := by
  refine wpList_plain hg fun K' hK' => ?_
  obtain ⟨w', hrun, h1, h3⟩ := run_putN h hn hx hp
  unfold Oper.wp
  rcases hop with hop | hop
  · simp [execOp, hop, hm, hk, hv, hrun, Result.andThen]
    exact hK' _ _ (hK w' h1 h3)
  · simp [execOp, hop, hm, hk, hv, hrun, Result.andThen]
    exact hK' _ _ (hK w' h1 h3)
end

end Go.Proofs.YtilemgpopjlchaaDoor
