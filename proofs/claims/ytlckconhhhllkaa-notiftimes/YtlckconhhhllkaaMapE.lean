/-
  Notifications in a map by their IDs, read as they are.
-/
import Derived.Test.YtlckconhhhllkaaMapR
import Derived.Test.YtlckconhhhllkaaBase
namespace Go.Proofs.Ytlckconhhhllkaa
open Go.RowKit Go.Maps

def litU (z : Int) : Lit := .int .u64 z
theorem litU_wf {z : Int} (h : U64 z) : (litU z).wf = true := by
  obtain ⟨h1, h2⟩ := h
  simp [litU, Lit.wf, IntKind.min, IntKind.max, IntKind.signed, IntKind.bits]
  omega
theorem litU_inj {x y : Int} (h : litU x = litU y) : x = y := by
  unfold litU at h
  injection h
theorem litU_ne {x y : Int} (h : x ≠ y) : litU x ≠ litU y := fun e => h (litU_inj e)
theorem lawU : Keyed Try.prog 23 := int_keyed Try.underlying23
theorem key_u {z : Int} (h : U64 z) : keyOf Try.prog 23 (.int .u64 z) = some (litU z) := keyOf_int_mk Try.underlying23 (litU_wf h)
theorem isKey (z : Int) : WideAt.IsKeyLit (litU z) := trivial

abbrev De := DataW En
/-- a notification's value, read. -/
def readE (v : Value) : Option (De × List MemPlace) :=
  match v with
  | .agg xs =>
    match xs.toList with
    | [.int .u64 a, .int .i64 b, .int .i64 c, .int .i64 d, .int .i64 e, .int .i64 f] => some (.held ⟨a, b, c, d, e, f⟩, [])
    | _ => none
  | _ => none
theorem En.v_inj {x y : En} (h : x.v = y.v) : x = y := by
  obtain ⟨a, b, c, d, e, f⟩ := x
  obtain ⟨a', b', c', d', e', f'⟩ := y
  unfold En.v at h
  simp at h
  obtain ⟨rfl, rfl, rfl, rfl, rfl, rfl⟩ := h
  rfl
theorem readE_v (x : En) : readE x.v = some (.held x, []) := rfl
theorem readE_inv {v : Value} {d : De} {ps : List MemPlace} (h : readE v = some (d, ps)) : ∃ x : En, v = x.v ∧ d = .held x ∧ ps = [] := by
  unfold readE at h
  split at h
  · rename_i xs
    split at h
    · rename_i a b c d2 e f hx
      cases h
      refine ⟨⟨a, b, c, d2, e, f⟩, ?_, rfl, rfl⟩
      unfold En.v
      rw [← Array.toArray_toList (xs := xs), hx]
    · cases h
  · cases h

/-- a datum that says of each ID what stands there. -/
structure VwE (D : De) (L : List En) : Prop where
  tidy : Tidy D
  size : Maps.size D = L.length
  has : ∀ z, Maps.has D (litU z) = true ↔ ∃ x ∈ L, x.id = z
  val : ∀ x ∈ L, ∀ zd, D.atKey (litU x.id) zd = .held x
theorem VwE.nil : VwE (.map []) [] := ⟨tidy_empty, rfl, fun z => ⟨(fun h => by cases h), (fun ⟨_, h, _⟩ => by cases h)⟩, fun p hp => by cases hp⟩
theorem VwE.hasB {D : De} {L : List En} (h : VwE D L) (z : Int) : Maps.has D (litU z) = (findI L z).isSome := by
  rw [Bool.eq_iff_iff, h.has]
  cases hf : findI L z with
  | none => exact ⟨fun ⟨x, hx, e⟩ => absurd e (findI_none.1 hf x hx), fun h => by cases h⟩
  | some y => exact ⟨fun _ => rfl, fun _ => ⟨y, (findI_some hf).1, (findI_some hf).2⟩⟩
theorem VwE.find {D : De} {L : List En} (h : VwE D L) {z : Int} {x : En} (hf : findI L z = some x) (zd : De) : D.atKey (litU z) zd = .held x := by
  obtain ⟨h1, rfl⟩ := findI_some hf
  exact h.val x h1 zd
/-- one that stands, turned. -/
def putL (L : List En) (x : En) : List En := L.map fun y => if y.id = x.id then x else y
theorem VwE.put {D : De} {L : List En} (h : VwE D L) {x : En} (hx : ∃ y ∈ L, y.id = x.id) : VwE (D.put (litU x.id) (.held x)) (putL L x) := by
  refine ⟨h.tidy.put (isKey _) _, ?_, fun z => ?_, fun p hp zd => ?_⟩
  · rw [size_put h.tidy, (h.has x.id).2 hx, if_pos rfl, h.size]
    unfold putL
    rw [List.length_map]
  · by_cases e : z = x.id
    · subst e
      rw [has_put_same h.tidy.isMap (isKey _)]
      obtain ⟨y, hy, hyi⟩ := hx
      exact ⟨fun _ => ⟨x, List.mem_map.2 ⟨y, hy, if_pos hyi⟩, rfl⟩, fun _ => rfl⟩
    · rw [has_put_other (litU_ne e), h.has]
      unfold putL
      constructor
      · rintro ⟨y, hy, rfl⟩
        exact ⟨y, List.mem_map.2 ⟨y, hy, if_neg e⟩, rfl⟩
      · rintro ⟨y, hy, rfl⟩
        obtain ⟨q, hq, rfl⟩ := List.mem_map.1 hy
        by_cases e2 : q.id = x.id
        · rw [if_pos e2] at e
          exact absurd rfl e
        · exact ⟨q, hq, by rw [if_neg e2]⟩
  · obtain ⟨q, hq, rfl⟩ := List.mem_map.1 hp
    by_cases e2 : q.id = x.id
    · rw [if_pos e2]
      exact atKey_put_same h.tidy.isMap (isKey _) _ _
    · rw [if_neg e2, atKey_put_other (litU_ne e2)]
      exact h.val q hq zd
theorem VwE.add {D : De} {L : List En} (h : VwE D L) {x : En} (hx : ∀ y ∈ L, y.id ≠ x.id) : VwE (D.put (litU x.id) (.held x)) (L ++ [x]) := by
  have hn : Maps.has D (litU x.id) = false := by
    rw [h.hasB, findI_none.2 hx]
    rfl
  refine ⟨h.tidy.put (isKey _) _, ?_, fun z => ?_, fun p hp zd => ?_⟩
  · rw [size_put h.tidy, hn, if_neg (by decide), h.size, List.length_append]
    rfl
  · by_cases e : z = x.id
    · subst e
      rw [has_put_same h.tidy.isMap (isKey _)]
      exact ⟨fun _ => ⟨x, by simp, rfl⟩, fun _ => rfl⟩
    · rw [has_put_other (litU_ne e), h.has]
      constructor
      · rintro ⟨y, hy, rfl⟩
        exact ⟨y, List.mem_append_left _ hy, rfl⟩
      · rintro ⟨y, hy, rfl⟩
        rcases List.mem_append.1 hy with hy | hy
        · exact ⟨y, hy, rfl⟩
        · rw [List.mem_singleton] at hy
          subst hy
          exact absurd rfl e
  · rcases List.mem_append.1 hp with hp | hp
    · rw [atKey_put_other (litU_ne (hx p hp))]
      exact h.val p hp zd
    · rw [List.mem_singleton] at hp
      subst hp
      exact atKey_put_same h.tidy.isMap (isKey _) _ _
/-- one taken out. -/
def delL (L : List En) (z : Int) : List En := L.filter fun y => y.id != z
theorem delL_not {L : List En} {z : Int} (h : ∀ y ∈ L, y.id ≠ z) : delL L z = L := List.filter_eq_self.2 fun y hy => by simp [h y hy]
theorem delL_len {L : List En} (hp : L.Pairwise fun x y => x.id < y.id) {x : En} (hx : x ∈ L) : (delL L x.id).length + 1 = L.length := by
  induction L with
  | nil => cases hx
  | cons y L ih =>
    have h2 := List.pairwise_cons.1 hp
    rcases List.mem_cons.1 hx with rfl | hx
    · have h3 : delL (x :: L) x.id = delL L x.id := List.filter_cons_of_neg (by simp)
      rw [h3, delL_not fun y hy => by have := h2.1 y hy; omega]
      rfl
    · have h3 : delL (y :: L) x.id = y :: delL L x.id := List.filter_cons_of_pos (by have := h2.1 x hx; simp; omega)
      rw [h3, List.length_cons, ih h2.2 hx, List.length_cons]
theorem VwE.del {D : De} {L : List En} (h : VwE D L) (hp : L.Pairwise fun x y => x.id < y.id) (z : Int) : VwE (D.del (litU z)) (delL L z) := by
  refine ⟨h.tidy.del _, ?_, fun y => ?_, fun p hp2 zd => ?_⟩
  · have h1 := size_del (k := litU z) h.tidy
    rw [h.size] at h1
    by_cases hz : ∃ x ∈ L, x.id = z
    · rw [(h.has z).2 hz, if_pos rfl] at h1
      obtain ⟨x, hx, rfl⟩ := hz
      have := delL_len hp hx
      omega
    · have hz2 : Maps.has D (litU z) = false := by
        rw [Bool.eq_false_iff]
        exact fun e => hz ((h.has z).1 e)
      rw [hz2, if_neg (by decide)] at h1
      rw [delL_not fun y hy e => hz ⟨y, hy, e⟩]
      omega
  · by_cases e : y = z
    · subst e
      rw [has_del_same]
      exact ⟨fun h => by simp at h, fun ⟨x, hx, e⟩ => by
        have := (List.mem_filter.1 hx).2
        simp [e] at this⟩
    · rw [has_del_other (litU_ne e), h.has]
      constructor
      · rintro ⟨x, hx, rfl⟩
        exact ⟨x, List.mem_filter.2 ⟨hx, by simp [e]⟩, rfl⟩
      · rintro ⟨x, hx, rfl⟩
        exact ⟨x, (List.mem_filter.1 hx).1, rfl⟩
  · have h2 := List.mem_filter.1 hp2
    have h3 : p.id ≠ z := by simpa using h2.2
    rw [atKey_del_other (litU_ne h3)]
    exact h.val p h2.1 zd

/-- a map that holds notifications. -/
def MpE (w : World) (B : Nat) (L : List En) : Prop := ∃ D : De, w.ownsMap Try.prog 23 readE B L.length D ∧ VwE D L
theorem own_tightE {w : World} {B n : Nat} {k : TypeId} {D : De} (h : w.ownsMap Try.prog k readE B n D) : w.ownsMap Try.prog k readE B (Maps.size D) D := by
  obtain ⟨es, c, h1, h2, h3, rfl⟩ := h
  exact ⟨es, c, h1, h2, by simp [Maps.size, length_sorted], rfl⟩
theorem MpE.lt {w : World} {B : Nat} {L : List En} (h : MpE w B L) : B < w.heap.size := by obtain ⟨D, h1, _⟩ := h; exact h1.lt
theorem MpE.made (w : World) : MpE (w.alloc (.map #[] 0)) w.heap.size [] := ⟨_, World.ownsMap_made _ _ _ _, VwE.nil⟩
theorem MpE.same {w w' : World} {B : Nat} {L : List En} (h : MpE w B L) (hb : w'.heap[B]? = w.heap[B]?) : MpE w' B L := by
  obtain ⟨D, ⟨es, c, h1, h2⟩, hv⟩ := h
  exact ⟨D, ⟨es, c, by rw [hb]; exact h1, h2⟩, hv⟩
theorem MpE.over {w w' : World} {B : Nat} {L : List En} (h : MpE w B L) (hb : Below w.heap.size w w') : MpE w' B L := h.same (hb.block B h.lt)
theorem MpE.fr {K X : List Nat} {C : Nat} {w w' : World} {B : Nat} {L : List En} (h : MpE w B L) (hs : Fr K X C w w') (hx : B ∉ X) : MpE w' B L := by
  obtain ⟨D, ⟨es, c, h1, h2⟩, hv⟩ := h
  exact ⟨D, ⟨es, c, hs.blk B _ h1 (fun _ _ _ e => by cases e) hx, h2⟩, hv⟩
theorem mpE_of {w : World} {B n : Nat} {D : De} {L : List En} (h : w.ownsMap Try.prog 23 readE B n D) (hv : VwE D L) : MpE w B L := ⟨D, hv.size ▸ own_tightE h, hv⟩

end Go.Proofs.Ytlckconhhhllkaa
