/-
  Timers in a map; what has come in a map.
-/
import Derived.Test.YtifddbfcongepaaMapR
import Derived.Test.YtifddbfcongepaaMath
namespace Go.Proofs.Ytifddbfcongepaa
open Go.RowKit Go.Maps

def litU (z : Int) : Lit := .int .u64 z
theorem litU_wf {z : Int} (h : U64 z) : (litU z).wf = true := by
  obtain ⟨h1, h2⟩ := h
  simp [litU, Lit.wf, IntKind.min, IntKind.max, IntKind.signed, IntKind.bits]
  omega
theorem u64_wf {z : Int} (h : (litU z).wf = true) : U64 z := by
  simp [litU, Lit.wf, IntKind.min, IntKind.max, IntKind.signed, IntKind.bits] at h
  unfold U64
  omega
theorem litI_wf {z : Int} (h : -1000000 ≤ z) (h2 : z ≤ 1000000) : (Lit.int .i64 z).wf = true := by
  simp [Lit.wf, IntKind.min, IntKind.max, IntKind.signed, IntKind.bits]
  omega
theorem litU_inj {x y : Int} (h : litU x = litU y) : x = y := by
  unfold litU at h
  injection h
theorem litU_ne {x y : Int} (h : x ≠ y) : litU x ≠ litU y := fun e => h (litU_inj e)
theorem lawU : Keyed Try.prog 31 := int_keyed Try.underlying31
theorem key_u {z : Int} (h : U64 z) : keyOf Try.prog 31 (.int .u64 z) = some (litU z) := keyOf_int_mk Try.underlying31 (litU_wf h)
theorem isKey (z : Int) : WideAt.IsKeyLit (litU z) := trivial

abbrev Dm := DataW Unit
def lv (x : Int) : Dm := .lit (.int .i64 x)

/-- a datum that says of each timer how many ticks it has left. -/
structure Vw (D : Dm) (T : Tm) : Prop where
  tidy : Tidy D
  size : Maps.size D = T.length
  has : ∀ z, Maps.has D (litU z) = true ↔ z ∈ keys T
  val : ∀ p ∈ T, ∀ zd, D.atKey (litU p.1) zd = lv p.2

theorem Vw.nil : Vw (.map []) [] := ⟨tidy_empty, rfl, fun z => ⟨(fun h => by cases h), (fun h => by cases h)⟩, fun p hp => by cases hp⟩
theorem Vw.hasB {D : Dm} {T : Tm} (h : Vw D T) (z : Int) : Maps.has D (litU z) = decide (z ∈ keys T) := by
  rw [Bool.eq_iff_iff, h.has, decide_eq_true_iff]
theorem has_put (D : Dm) (hD : IsMap D) (z y x : Int) : Maps.has (D.put (litU z) (lv x)) (litU y) = true ↔ Maps.has D (litU y) = true ∨ y = z := by
  by_cases e : y = z
  · subst e
    rw [has_put_same hD (isKey y)]
    simp
  · rw [has_put_other (litU_ne e)]
    simp [e]
theorem Vw.set {D : Dm} {T : Tm} (h : Vw D T) (hn : (keys T).Nodup) (z x : Int) : Vw (D.put (litU z) (lv x)) (setT T z x) := by
  refine ⟨h.tidy.put (isKey z) _, ?_, fun y => ?_, fun p hp zd => ?_⟩
  · rw [size_put h.tidy, h.hasB]
    by_cases hz : z ∈ keys T
    · rw [len_setT_in hn hz, decide_eq_true hz, if_pos rfl, h.size]
    · rw [len_setT_new hz, decide_eq_false hz, if_neg (by decide), h.size]
  · rw [has_put D h.tidy.isMap, mem_keys_setT, h.has]
  · rcases mem_setT.1 hp with ⟨h1, h2⟩ | rfl
    · rw [atKey_put_other (litU_ne h2)]
      exact h.val p h1 zd
    · exact atKey_put_same h.tidy.isMap (isKey z) _ _
theorem Vw.stop {D : Dm} {T : Tm} (h : Vw D T) (hn : (keys T).Nodup) (z : Int) : Vw (D.del (litU z)) (stopT T z) := by
  refine ⟨h.tidy.del _, ?_, fun y => ?_, fun p hp zd => ?_⟩
  · have h1 := size_del (k := litU z) h.tidy
    rw [h.hasB, h.size] at h1
    by_cases hz : z ∈ keys T
    · rw [decide_eq_true hz, if_pos rfl] at h1
      have := len_stopT_in hn hz
      omega
    · rw [decide_eq_false hz, if_neg (by decide)] at h1
      rw [stopT_not hz]
      omega
  · rw [mem_keys_stopT]
    by_cases e : y = z
    · subst e
      rw [has_del_same]
      simp
    · rw [has_del_other (litU_ne e), h.has]
      simp [e]
  · obtain ⟨h1, h2⟩ := mem_stopT.1 hp
    rw [atKey_del_other (litU_ne h2)]
    exact h.val p h1 zd
theorem Vw.congr {D : Dm} {T T' : Tm} (h : Vw D T) (hl : T'.length = T.length) (hm : ∀ p, p ∈ T' ↔ p ∈ T) : Vw D T' := by
  refine ⟨h.tidy, h.size.trans hl.symm, fun z => ?_, fun p hp => h.val p ((hm p).1 hp)⟩
  rw [h.has, mem_keys, mem_keys]
  exact ⟨fun ⟨x, hx⟩ => ⟨x, (hm _).2 hx⟩, fun ⟨x, hx⟩ => ⟨x, (hm _).1 hx⟩⟩

/-- a map as tight as can be. -/
theorem own_tight {w : World} {B n : Nat} {k e : TypeId} {D : Dm} (h : w.ownsMap Try.prog k (plainElem Try.prog e) B n D) : w.ownsMap Try.prog k (plainElem Try.prog e) B (Maps.size D) D := by
  obtain ⟨es, c, h1, h2, h3, rfl⟩ := h
  exact ⟨es, c, h1, h2, by simp [Maps.size, length_sorted], rfl⟩
theorem own_tightU {w : World} {B n : Nat} {k : TypeId} {D : Dm} (h : w.ownsMap Try.prog k unitElem B n D) : w.ownsMap Try.prog k unitElem B (Maps.size D) D := by
  obtain ⟨es, c, h1, h2, h3, rfl⟩ := h
  exact ⟨es, c, h1, h2, by simp [Maps.size, length_sorted], rfl⟩

/-- a map that holds timers. -/
def MpT (w : World) (B : Nat) (T : Tm) : Prop := ∃ D : Dm, w.ownsMap Try.prog 31 (plainElem Try.prog 3) B T.length D ∧ Vw D T
theorem MpT.lt {w : World} {B : Nat} {T : Tm} (h : MpT w B T) : B < w.heap.size := by obtain ⟨D, h1, _⟩ := h; exact h1.lt
theorem MpT.made (w : World) : MpT (w.alloc (.map #[] 0)) w.heap.size [] := ⟨_, World.ownsMap_made _ _ _ _, Vw.nil⟩
theorem MpT.same {w w' : World} {B : Nat} {T : Tm} (h : MpT w B T) (hb : w'.heap[B]? = w.heap[B]?) : MpT w' B T := by
  obtain ⟨D, ⟨es, c, h1, h2⟩, hv⟩ := h
  exact ⟨D, ⟨es, c, by rw [hb]; exact h1, h2⟩, hv⟩
theorem MpT.over {w w' : World} {B : Nat} {T : Tm} (h : MpT w B T) (hb : Below w.heap.size w w') : MpT w' B T := h.same (hb.block B h.lt)
theorem MpT.fr {L X : List Nat} {C : Nat} {w w' : World} {B : Nat} {T : Tm} (h : MpT w B T) (hs : Fr L X C w w') (hx : B ∉ X) : MpT w' B T := by
  obtain ⟨D, ⟨es, c, h1, h2⟩, hv⟩ := h
  exact ⟨D, ⟨es, c, hs.blk B _ h1 (fun _ _ _ e => by cases e) hx, h2⟩, hv⟩
theorem MpT.congr {w : World} {B : Nat} {T T' : Tm} (h : MpT w B T) (hl : T'.length = T.length) (hm : ∀ p, p ∈ T' ↔ p ∈ T) : MpT w B T' := by
  obtain ⟨D, h1, h2⟩ := h
  exact ⟨D, hl ▸ h1, h2.congr hl hm⟩
theorem mpT_of {w : World} {B n : Nat} {D : Dm} {T : Tm} (h : w.ownsMap Try.prog 31 (plainElem Try.prog 3) B n D) (hv : Vw D T) : MpT w B T := ⟨D, hv.size ▸ own_tight h, hv⟩

/-- timers as they lie: a box of two cells, and a map. -/
def TmV (w : World) (b B : Nat) (v : Int) (T : Tm) : Prop := Blk w b 54 [.int .i64 v, .map (some B)] ∧ MpT w B T ∧ b ≠ B
theorem TmV.fr {L X : List Nat} {C : Nat} {w w' : World} {b B : Nat} {v : Int} {T : Tm} (h : TmV w b B v T) (hs : Fr L X C w w') (ht : 54 ∉ L) (hb : b ∉ X) (hx : B ∉ X) : TmV w' b B v T := ⟨h.1.fr hs ht hb, h.2.1.fr hs hx, h.2.2⟩
theorem TmV.over {w w' : World} {b B : Nat} {v : Int} {T : Tm} (h : TmV w b B v T) (hb : Below w.heap.size w w') : TmV w' b B v T := ⟨h.1.over hb, h.2.1.over hb, h.2.2⟩
theorem blk_grown {w w' : World} {b B : Nat} {t : TypeId} {l : List Value} (h : Blk w b t l) (hg : w.grownBy w' (some B)) (hne : b ≠ B) : Blk w' b t l := by
  unfold Blk
  rw [hg.block b h.lt fun e => by cases e; exact hne rfl]
  exact h

/-- a datum that says what has come. -/
structure Vs (D : Dm) (S : List Int) : Prop where
  tidy : Tidy D
  size : Maps.size D = S.length
  has : ∀ z, Maps.has D (litU z) = true ↔ z ∈ S
theorem Vs.nil : Vs (.map []) [] := ⟨tidy_empty, rfl, fun z => ⟨(fun h => by cases h), (fun h => by cases h)⟩⟩
theorem Vs.put {D : Dm} {S : List Int} (h : Vs D S) (z : Int) : Vs (D.put (litU z) (.agg [])) (takeS S z) := by
  have hh : Maps.has D (litU z) = decide (z ∈ S) := by rw [Bool.eq_iff_iff, h.has, decide_eq_true_iff]
  refine ⟨h.tidy.put (isKey z) _, ?_, fun y => ?_⟩
  · rw [size_put h.tidy, hh]
    unfold takeS
    by_cases hz : z ∈ S
    · rw [decide_eq_true hz, if_pos rfl, if_pos hz, h.size]
    · rw [decide_eq_false hz, if_neg (by decide), if_neg hz, List.length_append, h.size]
      rfl
  · rw [mem_takeS]
    by_cases e : y = z
    · subst e
      rw [has_put_same h.tidy.isMap (isKey y)]
      simp
    · rw [has_put_other (litU_ne e), h.has]
      simp [e]
def MpS (w : World) (B : Nat) (S : List Int) : Prop := ∃ D : Dm, w.ownsMap Try.prog 31 unitElem B S.length D ∧ Vs D S
theorem MpS.lt {w : World} {B : Nat} {S : List Int} (h : MpS w B S) : B < w.heap.size := by obtain ⟨D, h1, _⟩ := h; exact h1.lt
theorem MpS.made (w : World) : MpS (w.alloc (.map #[] 0)) w.heap.size [] := ⟨_, World.ownsMap_made _ _ _ _, Vs.nil⟩
theorem MpS.fr {L X : List Nat} {C : Nat} {w w' : World} {B : Nat} {S : List Int} (h : MpS w B S) (hs : Fr L X C w w') (hx : B ∉ X) : MpS w' B S := by
  obtain ⟨D, ⟨es, c, h1, h2⟩, hv⟩ := h
  exact ⟨D, ⟨es, c, hs.blk B _ h1 (fun _ _ _ e => by cases e) hx, h2⟩, hv⟩
theorem mpS_of {w : World} {B n : Nat} {D : Dm} {S : List Int} (h : w.ownsMap Try.prog 31 unitElem B n D) (hv : Vs D S) : MpS w B S := ⟨D, hv.size ▸ own_tightU h, hv⟩
/-- what has come, as it lies: a box of one cell, and a map if there is one. -/
def SnV (w : World) (b : Nat) (m : Option Nat) (S : List Int) : Prop :=
  Blk w b 46 [.map m] ∧ m ≠ some b ∧ (m = none → S = []) ∧ ∀ B, m = some B → MpS w B S
theorem SnV.fr {L X : List Nat} {C : Nat} {w w' : World} {b : Nat} {m : Option Nat} {S : List Int} (h : SnV w b m S) (hs : Fr L X C w w') (ht : 46 ∉ L) (hb : b ∉ X) (hx : ∀ B, m = some B → B ∉ X) : SnV w' b m S :=
  ⟨h.1.fr hs ht hb, h.2.1, h.2.2.1, fun B e => (h.2.2.2 B e).fr hs (hx B e)⟩
theorem SnV.over {w w' : World} {b : Nat} {m : Option Nat} {S : List Int} (h : SnV w b m S) (hb : Below w.heap.size w w') : SnV w' b m S := h.fr (L := []) (X := []) (C := 0) (fr_below hb (Nat.zero_le _)) (by simp) (by simp) (fun _ _ => by simp)

end Go.Proofs.Ytifddbfcongepaa
