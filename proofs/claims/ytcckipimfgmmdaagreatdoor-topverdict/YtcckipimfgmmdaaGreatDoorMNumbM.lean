/-
  What was collected from a map's keys, and sorted: in plain words.
-/
import Derived.Test.YtcckipimfgmmdaaGreatDoorMGath
import Derived.Test.YtcckipimfgmmdaaGreatDoorMSrt9
import Derived.Maps.RangeWalk
namespace Go.Proofs.YtcckipimfgmmdaaGreatDoor.M
open Go.RowKit Go.Maps
open Go.Sort (PermIn SortedIn)

/-- what a map holds that was told by what was stored into it. -/
abbrev setN (acc : List Int) : DataW Unit := setOf (.agg []) (acc.map litN)
theorem key_litN (acc : List Int) : ∀ x ∈ acc.map litN, WideAt.IsKeyLit x := by
  intro x hx
  obtain ⟨z, _, rfl⟩ := List.mem_map.1 hx
  exact trivial
theorem same_litN (x y : Int) : (litN x).sameKey (litN y) = decide (x = y) := by
  simp [litN, Lit.sameKey]
theorem has_setN (acc : List Int) (z : Int) : has (setN acc) (litN z) = true ↔ z ∈ acc := by
  rw [has_setOf _ _ _ (key_litN acc), List.any_map, List.any_eq_true]
  constructor
  · rintro ⟨x, hx, h⟩
    have h2 : (litN x).sameKey (litN z) = true := h
    rw [same_litN] at h2
    exact of_decide_eq_true h2 ▸ hx
  · intro h
    exact ⟨z, h, by show (litN z).sameKey (litN z) = true; rw [same_litN]; simp⟩

/-- the keys met so far. -/
def ColN (acc : List Int) (left : Lit → Bool) (ss : List Int) : Prop := ss.Nodup ∧ ∀ x, x ∈ ss ↔ (x ∈ acc ∧ left (litN x) = false)
theorem ColN.start (acc : List Int) : ColN acc (has (setN acc)) [] := ⟨List.nodup_nil, fun x => by
  constructor
  · intro h; cases h
  · rintro ⟨h1, h2⟩
    rw [(has_setN acc x).2 h1] at h2
    cases h2⟩
theorem ColN.step {acc ss : List Int} {left : Lit → Bool} {x : Int} (h : ColN acc left ss) (hl : left (litN x) = true) (hx : x ∈ acc) : ColN acc (fun z => left z && !z.sameKey (litN x)) (ss ++ [x]) := by
  have hn : x ∉ ss := fun hm => by have := ((h.2 x).1 hm).2; rw [hl] at this; cases this
  refine ⟨List.nodup_append.2 ⟨h.1, by simp, fun a ha b hb => by rw [List.mem_singleton] at hb; subst hb; intro e; subst e; exact hn ha⟩, fun z => ?_⟩
  rw [List.mem_append, List.mem_singleton, h.2 z]
  show _ ↔ z ∈ acc ∧ (left (litN z) && !(litN z).sameKey (litN x)) = false
  rw [same_litN]
  by_cases e : z = x
  · subst e
    simp [hx]
  · simp [e]
theorem ColN.done {acc ss : List Int} {left : Lit → Bool} (h : ColN acc left ss) (hl : ∀ k, left k = false) (x : Int) : x ∈ ss ↔ x ∈ acc := by
  rw [h.2 x]
  exact ⟨fun h => h.1, fun h => ⟨h, hl _⟩⟩

/-- no more than the table has. -/
theorem nodup_le : ∀ (l m : List Int), l.Nodup → (∀ x ∈ l, x ∈ m) → l.length ≤ m.length
  | [], _, _, _ => Nat.zero_le _
  | x :: l, m, hn, hs => by
    have hx : x ∈ m := hs x (List.mem_cons_self ..)
    have h1 := nodup_le l (m.erase x) (List.nodup_cons.1 hn).2 fun y hy => by
      have hne : y ≠ x := fun e => (List.nodup_cons.1 hn).1 (e ▸ hy)
      exact (List.mem_erase_of_ne hne).2 (hs y (List.mem_cons_of_mem _ hy))
    rw [List.length_erase_of_mem hx] at h1
    have h2 := List.length_pos_of_mem hx
    rw [List.length_cons]
    omega
def tabI : List Int := tab.map fun p => ((p.2 : Nat) : Int)
theorem nums_tab {ns : List ByteArray} {z : Int} (h : z ∈ nums ns) : z ∈ tabI := by
  unfold nums at h
  obtain ⟨s, hs, rfl⟩ := List.mem_map.1 h
  have hk := (List.mem_filter.1 hs).2
  unfold knB nrOf at hk
  unfold nrI nrOf
  cases hq : tab.find? fun p => eqS p.1 s with
  | none => rw [hq] at hk; cases hk
  | some p => exact List.mem_map.2 ⟨p, List.mem_of_find?_eq_some hq, rfl⟩
theorem numsR_tab {l : List Xr} {z : Int} (h : z ∈ numsR l) : z ∈ tabI := by
  obtain ⟨x, _, hx⟩ := List.mem_flatMap.1 h
  exact nums_tab hx
theorem tabI_len : tabI.length = 30 := rfl
theorem col_len {l : List Xr} {left : Lit → Bool} {ss : List Int} (h : ColN (numsR l) left ss) : ss.length ≤ 30 :=
  tabI_len ▸ nodup_le ss tabI h.1 fun x hx => numsR_tab ((h.2 x).1 hx).1

/-- rising. -/
def Rise (ts : List Int) : Prop := ts.Pairwise (· < ·)
theorem dst_of_nodup {ss : List Int} (h : ss.Nodup) : Dst 0 ss.length ss.toArray := by
  intro i j _ hij hj
  have h1 := List.pairwise_iff_getElem.1 h i j (by omega) hj hij
  rw [getElem!_pos ss.toArray i (by simpa using Nat.lt_trans hij hj), getElem!_pos ss.toArray j (by simpa using hj)]
  simpa using h1
theorem rise_of {ss : List Int} {d' : Array Int} (hn : ss.Nodup) (hp : PermIn 0 ss.length ss.toArray d') (hs : SortedIn ltZ 0 ss.length d') : Rise d'.toList ∧ d'.toList.Perm ss ∧ d'.size = ss.length := by
  have hsz : d'.size = ss.length := by have := hp.1; simpa using this
  have hD : Dst 0 ss.length d' := (dst_of_nodup hn).perm hp (by simp)
  refine ⟨List.pairwise_iff_getElem.2 fun i j hi hj hij => ?_, ?_, hsz⟩
  · have hi' : i < d'.size := by simpa using hi
    have hj' : j < d'.size := by simpa using hj
    have h1 := hs i j (Nat.zero_le _) hij (by omega)
    have h2 := hD i j (Nat.zero_le _) hij (by omega)
    rw [getElem!_pos d' i hi', getElem!_pos d' j hj'] at h1 h2
    have h3 := ltZ_false.1 h1
    simp only [Array.getElem_toList]
    omega
  · have h1 := hp.2.2
    rw [show d'.extract 0 ss.length = d' from by rw [← hsz]; simp, show ss.toArray.extract 0 ss.length = ss.toArray from by simp] at h1
    exact h1

/-- numbers that a slice leads to. -/
def NzR (w : World) (v : Value) (l : List Int) : Prop :=
  ∃ a cap, v = .slice a l.length cap ∧ l.length ≤ cap ∧ cap ≤ 9223372036854775807 ∧ (0 < l.length → ∃ b o, a = some ⟨b, o, none⟩ ∧ ∀ (i : Nat) (x : Int), l[i]? = some x → w.cell? ⟨b, o + i, none⟩ = some (.int .u32 x))
theorem NzR.below {w w' : World} {v : Value} {l : List Int} (h : NzR w v l) (hb : Below w.heap.size w w') : NzR w' v l := by
  obtain ⟨a, cap, rfl, h1, h2, hc⟩ := h
  refine ⟨a, cap, rfl, h1, h2, fun h0 => ?_⟩
  obtain ⟨b, o, e, hx⟩ := hc h0
  refine ⟨b, o, e, fun i x hi => ?_⟩
  have h3 := hx i x hi
  exact cellS h3 (hb.block b (World.block_lt_of_cell? w _ h3))

end Go.Proofs.YtcckipimfgmmdaaGreatDoor.M
