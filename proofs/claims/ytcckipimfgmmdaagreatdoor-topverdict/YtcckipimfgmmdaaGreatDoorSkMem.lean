/-
  Filters in a slice, as arguments.
-/
import Derived.Test.YtcckipimfgmmdaaGreatDoorVOpen
import Derived.Deep.Slices
import Derived.Deep.Fields
namespace Go.Proofs.YtcckipimfgmmdaaGreatDoor.S
open Go.ChangeShapes Go.WideShapes Go.ChangeAt Go.RowKit Go.Deep

/-- a filter's slice. -/
def FlV (w : World) (v : Value) (l : List V.In) : Prop := ∃ a cap, v = .slice a l.length cap ∧ V.Ins w a l.length l ∧ l.length ≤ maxLen ∧ l.length ≤ cap ∧ (a = none → cap = 0)
/-- filters that a slice leads to. -/
def FlR (w : World) (v : Value) (ls : List (List V.In)) : Prop :=
  ∃ a cap, v = .slice a ls.length cap ∧ ls.length ≤ cap ∧ cap ≤ 9223372036854775807 ∧ (0 < ls.length → ∃ b o, a = some ⟨b, o, none⟩ ∧ ∀ (i : Nat) (l : List V.In), ls[i]? = some l → ∃ u, w.cell? ⟨b, o + i, none⟩ = some u ∧ FlV w u l)
theorem FlV.below {w w' : World} {v : Value} {l : List V.In} (h : FlV w v l) (hb : Below w.heap.size w w') : FlV w' v l := by
  obtain ⟨a, cap, rfl, h1, h2, h3, h4⟩ := h
  exact ⟨a, cap, rfl, h1.below hb, h2, h3, h4⟩
theorem cellK {w w' : World} {a : Addr} {v : Value} (h : w.cell? a = some v) (hb : Below w.heap.size w w') : w'.cell? a = some v := by
  rw [World.cell?_of_block (hb.block a.block (World.block_lt_of_cell? w _ h))]
  exact h
theorem FlR.below {w w' : World} {v : Value} {ls : List (List V.In)} (h : FlR w v ls) (hb : Below w.heap.size w w') : FlR w' v ls := by
  obtain ⟨a, cap, rfl, h1, h2, hc⟩ := h
  refine ⟨a, cap, rfl, h1, h2, fun h0 => ?_⟩
  obtain ⟨b, o, rfl, hx⟩ := hc h0
  refine ⟨b, o, rfl, fun i l hi => ?_⟩
  obtain ⟨u, h3, h4⟩ := hx i l hi
  exact ⟨u, cellK h3 hb, h4.below hb⟩
theorem flR_at {w : World} {p : Option Addr} {n c i : Nat} {ls : List (List V.In)} (h : FlR w (.slice p n c) ls) (hi : i < ls.length) : ∃ b o a' c', p = some ⟨b, o, none⟩ ∧ w.cell? ⟨b, o + i, none⟩ = some (.slice a' ls[i].length c') ∧ FlV w (.slice a' ls[i].length c') ls[i] := by
  obtain ⟨a, cap, e, _, _, hc⟩ := h
  cases e
  obtain ⟨b, o, hb, hx⟩ := hc (by omega)
  obtain ⟨u, h3, a', c', rfl, h4⟩ := hx i _ (List.getElem?_eq_getElem hi)
  exact ⟨b, o, a', c', hb, h3, a', c', rfl, h4⟩

theorem cellsOfIS : Tryz.prog.cellsOf 30 = 1 := by kernel_rfl
section
variable {H : Type} {enc : TypeId × Value → H} {w : World} {base : Nat} {spare : Nat → Bool} {held : Bool} {n : Nat} {x : DataW H × List MemPlace}
theorem open_filter {v : Value} (h : DataW.trod enc Tryz.prog w base spare held n 30 [v] = some x) : ∃ l, FlV w v l := by
  have h' := h
  rcases open_slice Tryz.underlying30 h with ⟨h0, _⟩ | ⟨a', len', cap', m, n, D, Pl, hcs, _⟩
  · simp at h0
    subst h0
    obtain ⟨its, q1, q2, q3, q4⟩ := V.open_ins h'
    have : its.length = 0 := q1.1
    exact ⟨its, none, 0, by rw [this], by rw [this]; exact q1, by rw [this]; exact q2, by rw [this]; exact q3, q4⟩
  · simp at hcs
    subst hcs
    obtain ⟨its, q1, q2, q3, q4⟩ := V.open_ins h'
    have : its.length = len' := q1.1
    exact ⟨its, some a', cap', by rw [this], by rw [this]; exact q1, by rw [this]; exact q2, by rw [this]; exact q3, q4⟩
end

/-- what 'few' tells. -/
def FewR (w : World) (ls : List (List V.In)) (e : Ending) (w' : World) : Prop := ∃ bb : Bool, e = .returned (.bool bb) ∧ Below w.heap.size w w' ∧ (bb = true → ls.length ≤ 40)

end Go.Proofs.YtcckipimfgmmdaaGreatDoor.S
