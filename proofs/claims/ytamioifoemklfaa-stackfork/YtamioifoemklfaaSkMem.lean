/-
  Filters in a slice, as arguments.
-/
import Derived.Test.YtamioifoemklfaaVOpen
import Derived.Deep.Slices
import Derived.Deep.Fields
namespace Go.Proofs.Ytamioifoemklfaa
open Go.ChangeShapes Go.WideShapes Go.ChangeAt Go.RowKit Go.Deep

/-- a filter's slice. -/
def FlV (w : World) (v : Value) (l : List V.In) : Prop := ∃ a cap, v = .slice a l.length cap ∧ V.Ins w a l.length l ∧ l.length ≤ maxLen ∧ l.length ≤ cap ∧ (a = none → cap = 0)
/-- filters that a slice leads to. -/
def FlR (w : World) (v : Value) (ls : List (List V.In)) : Prop :=
  ∃ a cap, v = .slice a ls.length cap ∧ ls.length ≤ cap ∧ cap ≤ 9223372036854775807 ∧ (0 < ls.length → ∃ b o, a = some ⟨b, o, none⟩ ∧ ∀ (i : Nat) (l : List V.In), ls[i]? = some l → ∃ u, w.cell? ⟨b, o + i, none⟩ = some u ∧ FlV w u l)
theorem FlV.below {w w' : World} {v : Value} {l : List V.In} (h : FlV w v l) (hb : Below w.heap.size w w') : FlV w' v l := by
  obtain ⟨a, cap, rfl, h1, h2, h3, h4⟩ := h
  exact ⟨a, cap, rfl, h1.below hb, h2, h3, h4⟩
theorem cellK {w w' : World} {a : Addr} {v : Value} (h : w.cell? a = some v) (hb : Below w.heap.size w w') : w'.cell? a = some v := by
  rw [World.cell?_of_block (hb.block a.block (World.block_lt_of_cell? w _ h))]
  exact h
theorem FlR.below {w w' : World} {v : Value} {ls : List (List V.In)} (h : FlR w v ls) (hb : Below w.heap.size w w') : FlR w' v ls := by
  obtain ⟨a, cap, rfl, h1, h2, hc⟩ := h
  refine ⟨a, cap, rfl, h1, h2, fun h0 => ?_⟩
  obtain ⟨b, o, rfl, hx⟩ := hc h0
  refine ⟨b, o, rfl, fun i l hi => ?_⟩
  obtain ⟨u, h3, h4⟩ := hx i l hi
  exact ⟨u, cellK h3 hb, h4.below hb⟩
theorem flR_at {w : World} {p : Option Addr} {n c i : Nat} {ls : List (List V.In)} (h : FlR w (.slice p n c) ls) (hi : i < ls.length) : ∃ b o a' c', p = some ⟨b, o, none⟩ ∧ w.cell? ⟨b, o + i, none⟩ = some (.slice a' ls[i].length c') ∧ FlV w (.slice a' ls[i].length c') ls[i] := by
  obtain ⟨a, cap, e, _, _, hc⟩ := h
  cases e
  obtain ⟨b, o, hb, hx⟩ := hc (by omega)
  obtain ⟨u, h3, a', c', rfl, h4⟩ := hx i _ (List.getElem?_eq_getElem hi)
  exact ⟨b, o, a', c', hb, h3, a', c', rfl, h4⟩

theorem cellsOfIS : Try.prog.cellsOf 31 = 1 := by kernel_rfl
section
variable {H : Type} {enc : TypeId × Value → H} {w : World} {base : Nat} {spare : Nat → Bool} {held : Bool} {n : Nat} {x : DataW H × List MemPlace}
theorem open_filter {v : Value} (h : DataW.trod enc Try.prog w base spare held n 31 [v] = some x) : ∃ l, FlV w v l := by
  have h' := h
  rcases open_slice Try.underlying31 h with ⟨h0, _⟩ | ⟨a', len', cap', m, n, D, Pl, hcs, _⟩
  · simp at h0
    subst h0
    obtain ⟨its, q1, q2, q3, q4⟩ := V.open_ins h'
    have : its.length = 0 := q1.1
    exact ⟨its, none, 0, by rw [this], by rw [this]; exact q1, by rw [this]; exact q2, by rw [this]; exact q3, q4⟩
  · simp at hcs
    subst hcs
    obtain ⟨its, q1, q2, q3, q4⟩ := V.open_ins h'
    have : its.length = len' := q1.1
    exact ⟨its, some a', cap', by rw [this], by rw [this]; exact q1, by rw [this]; exact q2, by rw [this]; exact q3, q4⟩
theorem open_filters {v : Value} (h : DataW.trod enc Try.prog w base spare held n 22 [v] = some x) : ∃ ls, FlR w v ls := by
  rcases open_slice Try.underlying22 h with ⟨h0, _⟩ | ⟨a', len', cap', m, n, D, Pl, hcs, hb, hl, hm, hmm, _, hx⟩
  · simp at h0
    subst h0
    exact ⟨[], ⟨none, 0, rfl, Nat.le_refl _, by decide, fun h => absurd h (by decide)⟩⟩
  · simp at hcs
    subst hcs
    have hlm : len' ≤ m := by rw [hmm]; split <;> omega
    obtain ⟨f, hf⟩ := choose_lt (α := List V.In) (n := len') (p := fun i y => ∃ u, w.cells? base (a'.add (i * 1)) 1 = some [u] ∧ FlV w u y) (fun i hi => by
      obtain ⟨cs', h1, h2⟩ := hx i (by omega)
      rw [cellsOfIS] at h1
      obtain ⟨_, hlen, _⟩ := World.cells?_some h1
      match cs', hlen with
      | [u], _ =>
        obtain ⟨l, hl⟩ := open_filter h2
        exact ⟨l, u, h1, hl⟩)
    refine ⟨(List.range len').map f, a', cap', by simp, by simpa using hl, by unfold maxLen at hm; omega, fun h0 => ?_⟩
    have h0' : 0 < len' := by simpa using h0
    obtain ⟨b, off, spot⟩ := a'
    have hspot : spot = none := by
      obtain ⟨u, h1, _⟩ := hf 0 h0'
      have c0 := (World.cells?_some h1).2.2 0 (by decide)
      have : (({ block := b, off := off, spot := spot } : Addr).add (0 * 1)).add 0 = ⟨b, off, spot⟩ := by cases spot <;> simp [Addr.add]
      rw [this] at c0
      simpa using World.cell?_spot c0
    subst hspot
    refine ⟨b, off, rfl, fun i y hi => ?_⟩
    have hil : i < len' := by
      have := (List.getElem?_eq_some_iff.1 hi).1
      simpa using this
    simp [hil] at hi
    subst hi
    obtain ⟨u, h1, h2⟩ := hf i hil
    have c0 := (World.cells?_some h1).2.2 0 (by decide)
    rw [Addr.add_lit, Addr.add_lit, Nat.mul_one, Nat.add_zero] at c0
    exact ⟨u, c0, h2⟩
end

/-- what 'few' tells. -/
def FewR (w : World) (ls : List (List V.In)) (e : Ending) (w' : World) : Prop := ∃ bb : Bool, e = .returned (.bool bb) ∧ Below w.heap.size w w' ∧ (bb = true → ls.length ≤ 40)

set_option maxRecDepth 8000 in
set_option maxHeartbeats 1000000 in
theorem few_any (w : World) (v : Value) (ls : List (List V.In)) (h : FlR w v ls) :
    Calls Try.prog 9 #[v] w fun e w' => FewR w ls e w' := by
  obtain ⟨p1, c1, rfl, hk1, hk2⟩ : ∃ p c, v = .slice p ls.length c ∧ ls.length ≤ c ∧ c ≤ 9223372036854775807 := by obtain ⟨p, c, e, h1, h2, _⟩ := h; exact ⟨p, c, e, h1, h2⟩
  have HF : Hid (∀ W, Below w.heap.size w W → FlR W (.slice p1 ls.length c1) ls) := fun W hW => h.below hW
  clear h
  go_enter Try.func9, Try.ntmps9
  go_wp2_with fail
  go_loopw [3, 4] (fun v3 vi wr => ∃ (i m : Nat), vi = .int .i64 i ∧ v3 = .int .i64 m ∧ i ≤ ls.length ∧ i ≤ 40 ∧ m ≤ i * 10000 ∧ Below w.heap.size w wr) (fun _ vi _ => ls.length - (intOf vi).toNat)
  case atStart => exact ⟨0, 0, rfl, rfl, Nat.zero_le _, by decide, by decide, Below.refl _ _⟩
  case round =>
    obtain ⟨i, m, rfl, rfl, hi, hi40, hm, hb⟩ := hrel
    by_cases hlt : i < ls.length
    · have hi1 : (i : Int) < (ls.length : Int) := by omega
      by_cases h40 : i < 40
      · have h401 : (i : Int) < 40 := by omega
        obtain ⟨b, o, a', c', rfl, e1, e2⟩ := flR_at (HF.out wr hb) hlt
        generalize ls[i].length = n at *
        clear e2
        by_cases hn : n < 10000
        · have hn1 : (n : Int) < 10000 := by omega
          have hn2 : ¬ (10000 : Int) < (n : Int) := by omega
          go_wp2_with fail
          all_goals first
            | omega
            | (go_roundw
               case rel => exact ⟨i + 1, m + n, by go_num, by go_num, hlt, h40, by omega, hb⟩
               case measure => simp [intOf]; omega)
        · have hn1 : ¬ (n : Int) < 10000 := by omega
          go_wp2_with fail
          all_goals first
            | omega
            | (go_roundw
               case rel => exact ⟨i + 1, m + 10000, by go_num, by go_num, hlt, h40, by omega, hb⟩
               case measure => simp [intOf]; omega)
      · have h401 : ¬ (i : Int) < 40 := by omega
        by_cases h4 : ls.length ≤ 40
        · omega
        · have h41 : ¬ (ls.length : Int) ≤ 40 := by omega
          go_wp2_with fail
          go_ret
          exact ⟨_, rfl, hb, fun e => by cases e⟩
    · have hi1 : ¬ (i : Int) < (ls.length : Int) := by omega
      have h41 : (ls.length : Int) ≤ 40 := by omega
      have h40 : ls.length ≤ 40 := by omega
      go_wp2_with fail
      go_ret
      exact ⟨_, rfl, hb, fun _ => h40⟩

end Go.Proofs.Ytamioifoemklfaa
