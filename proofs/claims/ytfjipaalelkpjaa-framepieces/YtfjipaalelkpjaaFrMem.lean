/-
  Bytes that wait: a slice somewhere in a row of the reader's own, resliced and appended to; a reader as it lies, and what may have turned behind its calls.
-/
import Derived.Test.YtfjipaalelkpjaaJoin
import Derived.Test.YtfjipaalelkpjaaDMem
import Derived.Test.YtfjipaalelkpjaaFrMath
import Derived.Deep.AppendSrc
import Derived.Deep.Upon
import Derived.Deep.MidRow
namespace Go.Proofs.Ytfjipaalelkpjaa
open Go.RowKit D

/-- the bytes that wait. -/
def Wt (w : World) (v : Value) (l : List Int) : Prop :=
  (∀ n ∈ l, 0 ≤ n ∧ n ≤ 255) ∧ ((v = .slice none 0 0 ∧ l = []) ∨
   ∃ g off cap, v = .slice (some ⟨g, off, none⟩) l.length cap ∧ l.length ≤ cap ∧ cap ≤ maxLen ∧ g < w.heap.size ∧ (∀ i, i < cap → (w.cell? ⟨g, off + i, none⟩).isSome = true) ∧ (∀ i, w.frozen? ⟨g, i, none⟩ = false) ∧
    (∀ i, i < l.length → w.cell? ⟨g, off + i, none⟩ = some (.int .u8 (l.getD i 0))))
theorem wt_nil (w : World) : Wt w (.slice none 0 0) [] := ⟨(fun _ h => by cases h), .inl ⟨rfl, rfl⟩⟩
theorem Wt.slice {w : World} {v : Value} {l : List Int} (h : Wt w v l) : ∃ a cap, v = .slice a l.length cap ∧ Bs w a l.length l ∧ l.length ≤ cap ∧ cap ≤ maxLen ∧ (a = none → cap = 0) := by
  obtain ⟨hl, ⟨rfl, rfl⟩ | ⟨g, off, cap, rfl, h1, h2, h3, h4, h5, h6⟩⟩ := h
  · exact ⟨none, 0, rfl, ⟨rfl, (fun _ h => by cases h), fun h => absurd h (by decide)⟩, Nat.le_refl _, by decide, fun _ => rfl⟩
  · exact ⟨_, cap, rfl, ⟨rfl, hl, fun _ => ⟨g, off, rfl, h6⟩⟩, h1, h2, fun e => by cases e⟩
/-- the row's block has not turned. -/
theorem Wt.kept {w w' : World} {v : Value} {l : List Int} (h : Wt w v l) (hs : w.heap.size ≤ w'.heap.size) (hk : ∀ k, v.ownBlock = some k → w'.heap[k]? = w.heap[k]?) : Wt w' v l := by
  obtain ⟨hl, ⟨rfl, rfl⟩ | ⟨g, off, cap, rfl, h1, h2, h3, h4, h5, h6⟩⟩ := h
  · exact wt_nil _
  · have e := hk g rfl
    have ec : ∀ i, w'.cell? ⟨g, i, none⟩ = w.cell? ⟨g, i, none⟩ := fun i => World.cell?_of_block e
    have ef : ∀ i, w'.frozen? ⟨g, i, none⟩ = w.frozen? ⟨g, i, none⟩ := fun i => by simp only [World.frozen?, e]
    exact ⟨hl, .inr ⟨g, off, cap, rfl, h1, h2, Nat.lt_of_lt_of_le h3 hs, fun i hi => by rw [ec]; exact h4 i hi, fun i => by rw [ef]; exact h5 i, fun i hi => by rw [ec]; exact h6 i hi⟩⟩
theorem Wt.lt {w : World} {v : Value} {l : List Int} (h : Wt w v l) : ∀ k, v.ownBlock = some k → k < w.heap.size := by
  obtain ⟨hl, ⟨rfl, rfl⟩ | ⟨g, off, cap, rfl, h1, h2, h3, h4, h5, h6⟩⟩ := h
  · intro k hk; cases hk
  · intro k hk; cases hk; exact h3

/-- its last part. -/
theorem Wt.drop {w : World} {g off cap : Nat} {l : List Int} (h : Wt w (.slice (some ⟨g, off, none⟩) l.length cap) l) (n : Nat) (hn : n ≤ l.length) : Wt w (.slice (some ⟨g, off + n, none⟩) (l.length - n) (cap - n)) (l.drop n) := by
  obtain ⟨hl, ⟨h, rfl⟩ | ⟨g, off, cap, h, h1, h2, h3, h4, h5, h6⟩⟩ := h
  · cases h
  · cases h
    refine ⟨fun z hz => hl z (List.mem_of_mem_drop hz), .inr ⟨g, off + n, cap - n, by rw [List.length_drop], by rw [List.length_drop]; omega, by omega, h3, fun i hi => by rw [Nat.add_assoc]; exact h4 _ (by omega), h5, fun i hi => ?_⟩⟩
    rw [List.length_drop] at hi
    rw [Nat.add_assoc, h6 _ (by omega), List.getD_eq_getElem?_getD, List.getD_eq_getElem?_getD, List.getElem?_drop]
/-- nothing is left of it: its address stays. -/
theorem Wt.done {w : World} {g off cap : Nat} {l : List Int} (h : Wt w (.slice (some ⟨g, off, none⟩) l.length cap) l) : Wt w (.slice (some ⟨g, off, none⟩) 0 0) [] := by
  obtain ⟨hl, ⟨h, rfl⟩ | ⟨g, off, cap, h, h1, h2, h3, h4, h5, h6⟩⟩ := h
  · cases h
  · cases h
    exact ⟨(fun _ h => by cases h), .inr ⟨g, off, 0, rfl, Nat.le_refl _, by decide, h3, fun i hi => absurd hi (Nat.not_lt_zero _), h5, fun i hi => absurd hi (Nat.not_lt_zero _)⟩⟩

theorem setCells_size (b : Nat) : ∀ (vs : List Value) (o : Nat) (w : World), (w.setCells b o vs).heap.size = w.heap.size
  | [], _, _ => rfl
  | _ :: r, o, w => by rw [World.setCells, setCells_size b r]; simp
theorem setCells_tape (b : Nat) : ∀ (vs : List Value) (o : Nat) (w : World), (w.setCells b o vs).tape = w.tape
  | [], _, _ => rfl
  | _ :: r, o, w => by rw [World.setCells, setCells_tape b r]; simp

theorem getD_left {l k : List Int} {i : Nat} (h : i < l.length) : (l ++ k).getD i 0 = l.getD i 0 := getD_app h
theorem getD_right {l k : List Int} {i : Nat} : (l ++ k).getD (l.length + i) 0 = k.getD i 0 := by
  rw [List.getD_eq_getElem?_getD, List.getElem?_append_right (by omega), ← List.getD_eq_getElem?_getD]
  congr 1
  omega
theorem src_of {w : World} {ao : Option Addr} {m c : Nat} {k : List Int} (hb : Bs w ao m k) (hao : ao = none → c = 0) : Src Try.prog 1 22 (.slice ao m c) m (cellsB k) w := by
  cases ao with
  | none =>
    obtain ⟨rfl, rfl⟩ := hb.nil
    exact Src.ofNil w Try.underlying22 c
  | some ad => exact Src.ofSlice w Try.underlying22 ad m c (cellsB k) (by simp [cellsB, hb.1]) hb.news (by intro u hu; simp [cellsB] at hu; obtain ⟨z, _, rfl⟩ := hu; rfl)
theorem wt_new (w : World) (l : List Int) (hl : ∀ n ∈ l, 0 ≤ n ∧ n ≤ 255) (cap : Nat) (zs : Array Value) (h1 : l.length ≤ cap) (h2 : cap ≤ maxLen) (hz : zs.size = cap - l.length) : Wt (w.alloc (.cells ((cellsB l).toArray ++ zs) 5)) (.slice (some ⟨w.heap.size, 0, none⟩) l.length cap) l := by
  have hcl : (cellsB l).length = l.length := by simp [cellsB]
  refine ⟨hl, .inr ⟨_, 0, cap, rfl, h1, h2, by rw [size_alloc']; omega, fun i hi => ?_, fun i => ?_, fun i hi => ?_⟩⟩
  · rw [Nat.zero_add, World.cell?_alloc_mark, Array.getElem?_eq_getElem (by simp [hcl]; omega)]
    rfl
  · simp
  · rw [Nat.zero_add, World.cell?_alloc_mark, Array.getElem?_append_left (by simpa [cellsB] using hi), List.getElem?_toArray]
    unfold cellsB
    rw [List.getElem?_map, List.getElem?_eq_getElem hi, List.getD_eq_getElem?_getD, List.getElem?_eq_getElem hi]
    rfl
theorem grown_alloc (w : World) (o : Obj) (r : Option Nat) : w.grownBy (w.drew.alloc o) r := ⟨rfl, rfl, rfl, by simp, fun k hk _ => heap_alloc_old w.drew o hk⟩

/-- bytes appended to those that wait. -/
theorem run_append_wt (w : World) (ty : TypeId) (v : Value) (l : List Int) (h : Wt w v l) (ao : Option Addr) (m c : Nat) (k : List Int) (hb : Bs w ao m k) (hao : ao = none → c = 0) (hn : l.length + m ≤ 100000) :
    ∃ v' w', (Builtin.append_ #[22, 22] ty #[v, .slice ao m c]).run Try.prog w = .ok v' w' ∧ Wt w' v' (l ++ k) ∧ w.grownBy w' v.ownBlock ∧ (v'.ownBlock = v.ownBlock ∨ v'.ownBlock = some w.heap.size) := by
  obtain ⟨i0, hi, hz0, hz1, hz2⟩ := info_parts Try.info5
  have hsrc : Src Try.prog i0.size 22 (.slice ao m c) m (cellsB k) w := by rw [hz1]; exact src_of hb hao
  have hk : k.length = m := hb.1
  have hlk : ∀ n ∈ l ++ k, 0 ≤ n ∧ n ≤ 255 := fun n hn => by
    rcases List.mem_append.1 hn with h' | h'
    · exact h.1 n h'
    · exact hb.2.1 n h'
  have grow : ∀ (base : Option Addr) (cap : Nat), v = .slice base l.length cap → (Builtin.firstCells i0.size l.length (.slice base l.length cap)).run Try.prog w.drew = .ok (cellsB l).toArray w.drew → cap < l.length + m →
      ∃ v' w', (Builtin.append_ #[22, 22] ty #[v, .slice ao m c]).run Try.prog w = .ok v' w' ∧ Wt w' v' (l ++ k) ∧ w.grownBy w' v.ownBlock ∧ (v'.ownBlock = v.ownBlock ∨ v'.ownBlock = some w.heap.size) := by
    intro base cap hv hold hlt
    subst hv
    have hr := run_append_grow_src (P := Try.prog) w 22 22 ty 5 i0 (.int .u8 0) Try.underlying22 hi hz0 base l.length cap (cellsB l) hold (.slice ao m c) m (cellsB k) hsrc hlt (by omega) (growslice_fits (by omega) (by rw [hz2]; omega))
    refine ⟨_, _, hr, ?_, grown_alloc w _ _, .inr rfl⟩
    have := wt_new w.drew (l ++ k) hlk (grownCap w (l.length + m) cap 5) (Builtin.zeroCells (Value.int .u8 0).cells (grownCap w (l.length + m) cap 5 - (l.length + m))) (by rw [List.length_append, hk]; exact grownCap_ge _ _ _ _) (grownCap_le_maxLen _ _ _ _ (by unfold maxLen; omega)) (by rw [size_zeroCells, List.length_append, hk]; simp [Value.cells])
    rw [cellsB_app, List.length_append, hk] at this
    exact this
  obtain ⟨hl, ⟨rfl, rfl⟩ | ⟨g, off, cap, rfl, h1, h2, h3, h4, h5, h6⟩⟩ := h
  · rcases Nat.eq_zero_or_pos m with hm | hm
    · subst hm
      obtain rfl : k = [] := List.eq_nil_of_length_eq_zero hk
      refine ⟨.slice none 0 0, w, ?_, wt_nil _, grow_refl _ _, .inl rfl⟩
      have hc0 := hsrc.cells
      simp [Builtin.append_, run_underlying Try.underlying22, sizeOf, typeInfo, hi, hsrc.len, hc0, cellsB]
    · exact grow none 0 rfl (run_firstCells_none w.drew i0.size 0 0 0) (by simpa using hm)
  · rcases Nat.lt_or_ge cap (l.length + m) with hlt | hge
    · refine grow _ cap rfl ?_ hlt
      rw [hz1]
      refine run_firstCells_some w.drew 1 l.length ⟨g, off, none⟩ l.length cap (cellsB l) (by simp [cellsB]) ?_
      intro j u hu
      have hj : j < l.length := by have := (List.getElem?_eq_some_iff.1 hu).1; simpa [cellsB] using this
      have := h6 j hj
      rw [Addr.add_lit]
      show w.cell? _ = _
      rw [this]
      simp [cellsB, List.getElem?_eq_getElem hj] at hu ⊢
      exact hu
    · have hcl : (cellsB k).length = m := by simp [cellsB, hk]
      have hr := run_append_room_src (P := Try.prog) w 22 22 ty 5 i0 Try.underlying22 hi g off l.length cap (.slice ao m c) m (cellsB k) hsrc hge
        (fun j hj => by rw [hz1, Nat.mul_one, Nat.add_assoc]; exact h4 _ (by omega)) (fun j hj => h5 _)
      rw [hz1, Nat.mul_one] at hr
      refine ⟨_, _, hr, ⟨hlk, .inr ⟨g, off, cap, by rw [List.length_append, hk], by rw [List.length_append, hk]; exact hge, h2, ?_, fun i hi => ?_, fun i => ?_, fun i hi => ?_⟩⟩, ?_, .inl rfl⟩
      · rw [setCells_size]; exact h3
      · exact World.isSome_setCells _ _ _ _ _ (h4 i hi)
      · rw [World.frozen?_setCells]; exact h5 i
      · rw [List.length_append] at hi
        rcases Nat.lt_or_ge i l.length with h' | h'
        · rw [World.cell?_setCells_out _ _ _ _ _ (fun _ _ => .inl (by show off + i < off + l.length; omega)), getD_left h']
          exact h6 i h'
        · obtain ⟨j, rfl⟩ : ∃ j, i = l.length + j := ⟨i - l.length, by omega⟩
          rw [getD_right, ← Nat.add_assoc, World.cell?_setCells_in _ _ _ _ (fun j hj => by rw [Nat.add_assoc]; exact h4 _ (by omega)) j (by omega)]
          have hj : j < k.length := by omega
          simp [cellsB, List.getElem?_eq_getElem hj]
      · exact ⟨World.os_setCells .., setCells_tape .., World.output_setCells .., by rw [setCells_size]; exact Nat.le_refl _, fun j hj hne => World.heap_setCells_other w g _ _ hj (fun e => hne (by rw [e]; rfl))⟩

end Go.Proofs.Ytfjipaalelkpjaa
