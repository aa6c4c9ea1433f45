/-
  What the document's own answer tells of any name and number.
-/
import Derived.Test.YtimclfdecdappaaNrs
namespace Go.Proofs.Ytimclfdecdappaa
open Go.RowKit

/-- the numbers that a slice leads to. -/
def NumR (w : World) (v : Value) (l : List Nat) : Prop :=
  ∃ a cap, v = .slice a l.length cap ∧ l.length ≤ cap ∧ cap ≤ 9223372036854775807 ∧ (0 < l.length → ∃ b o, a = some ⟨b, o, none⟩ ∧ ∀ (i : Nat) (x : Nat), l[i]? = some x → w.cell? ⟨b, o + i, none⟩ = some (.int .u32 x))
theorem NumR.below {w w' : World} {v : Value} {l : List Nat} (h : NumR w v l) (hb : Below w.heap.size w w') : NumR w' v l := by
  obtain ⟨a, cap, rfl, h1, h2, hc⟩ := h
  refine ⟨a, cap, rfl, h1, h2, fun h0 => ?_⟩
  obtain ⟨b, o, rfl, hx⟩ := hc h0
  exact ⟨b, o, rfl, fun i x hi => cellS (hx i x hi) (hb.block b (World.block_lt_of_cell? w _ (hx i x hi)))⟩
theorem numR_at {w : World} {p : Option Addr} {n c i : Nat} {l : List Nat} (h : NumR w (.slice p n c) l) (hi : i < l.length) : ∃ b o, p = some ⟨b, o, none⟩ ∧ w.cell? ⟨b, o + i, none⟩ = some (.int .u32 (l[i] : Nat)) := by
  obtain ⟨a, cap, e, _, _, hc⟩ := h
  cases e
  obtain ⟨b, o, hb, hx⟩ := hc (by omega)
  exact ⟨b, o, hb, hx i _ (List.getElem?_eq_getElem hi)⟩

def tabN : List ByteArray := tab.map (·.1)
def tabZ : List Nat := tab.map (·.2)
theorem tabN_len : tabN.length = 30 := rfl
theorem tabZ_len : tabZ.length = 30 := rfl

/-- what Names tells, and nrs. -/
def NamesR (w : World) (e : Ending) (w' : World) : Prop := ∃ g, e = .returned (.slice (some ⟨g, 0, none⟩) 30 30) ∧ StrR w' (.slice (some ⟨g, 0, none⟩) 30 30) tabN ∧ Below w.heap.size w w'
def NrsR (w : World) (e : Ending) (w' : World) : Prop := ∃ g, e = .returned (.slice (some ⟨g, 0, none⟩) 30 30) ∧ NumR w' (.slice (some ⟨g, 0, none⟩) 30 30) tabZ ∧ Below w.heap.size w w'

set_option maxRecDepth 8000 in
set_option maxHeartbeats 1000000 in
theorem names_any (w : World) : Calls Try.prog 27 #[] w fun e w' => NamesR w e w' := by
  go_enter Try.func27, Try.ntmps27
  go_wp2
  go_ret
  have k : Blk (w.alloc (Obj.cells (tabN.map Value.string).toArray 9)) w.heap.size 9 (tabN.map Value.string) := blk_new w _ _
  refine ⟨w.heap.size, rfl, ⟨_, 30, rfl, Nat.le_refl _, by decide, fun _ => ⟨_, 0, rfl, fun i x hi => ?_⟩⟩, below_new w _⟩
  have h1 := k.cell i
  rw [List.getElem?_map, hi] at h1
  rw [Nat.zero_add]
  exact h1

set_option maxRecDepth 8000 in
set_option maxHeartbeats 1000000 in
theorem nrs_any (w : World) : Calls Try.prog 28 #[] w fun e w' => NrsR w e w' := by
  go_enter Try.func28, Try.ntmps28
  go_wp2
  go_ret
  have k : Blk (w.alloc (Obj.cells (tabZ.map fun n => Value.int .u32 (n : Nat)).toArray 22)) w.heap.size 22 (tabZ.map fun n => Value.int .u32 (n : Nat)) := blk_new w _ _
  refine ⟨w.heap.size, rfl, ⟨_, 30, rfl, Nat.le_refl _, by decide, fun _ => ⟨_, 0, rfl, fun i x hi => ?_⟩⟩, below_new w _⟩
  have h1 := k.cell i
  rw [List.getElem?_map, hi] at h1
  rw [Nat.zero_add]
  exact h1

theorem tabN_at {j : Nat} (_h : j < tab.length) (h' : j < tabN.length) : tabN[j] = tab[j].1 := List.getElem_map _
theorem tabZ_at {j : Nat} (_h : j < tab.length) (h' : j < tabZ.length) : tabZ[j] = tab[j].2 := List.getElem_map _

set_option maxHeartbeats 1000000 in
theorem refNr_any (s : ByteArray) (w : World) : Calls Try.prog 11 #[.string s] w fun e w' => e = .returned (.tuple #[.int .u32 (nrI s), .bool (knB s)]) ∧ Below w.heap.size w w' := by
  have HN : Hid (∀ W, Calls Try.prog 27 #[] W fun e w' => NamesR W e w') := names_any
  have HZ : Hid (∀ W, Calls Try.prog 28 #[] W fun e w' => NrsR W e w') := nrs_any
  have HL : Hid (tab.length = 30) := tab_len
  go_enter Try.func11, Try.ntmps11
  go_wp2_with (go_at_call 27; refine (HN.out _).mono ?_; rintro e w1 ⟨g, rfl, hS, b1⟩)
  have HS1 : Hid (StrR w1 (.slice (some ⟨g, 0, none⟩) 30 30) tabN) := hS
  have HB1 : Hid (Below w.heap.size w w1) := b1
  clear hS b1 HN
  go_loop [5] (fun vi => ∃ i : Nat, vi = .int .i64 i ∧ i ≤ 30 ∧ (∀ j (hj : j < i) (hj2 : j < tab.length), eqS (tab[j]'hj2).1 s = false)) (fun vi => 30 - (intOf vi).toNat)
  case atStart => exact ⟨0, rfl, Nat.zero_le _, fun j hj => absurd hj (Nat.not_lt_zero _)⟩
  case round =>
    obtain ⟨i, rfl, hi, ha⟩ := hrel
    have HA : Hid (∀ j (hj : j < i) (hj2 : j < tab.length), eqS (tab[j]'hj2).1 s = false) := ha
    clear ha
    by_cases hlt : i < 30
    · have hi1 : (i : Int) < 30 := by omega
      have hil : i < tab.length := by rw [HL.out]; exact hlt
      have hiN : i < tabN.length := by rw [tabN_len]; exact hlt
      have hiZ : i < tabZ.length := by rw [tabZ_len]; exact hlt
      obtain ⟨b1, o1, e0, e1⟩ := strR_at HS1.out hiN
      cases e0
      rw [Nat.zero_add, tabN_at hil] at e1
      have HZ2 : Hid (∀ W g, NumR W (.slice (some ⟨g, 0, none⟩) 30 30) tabZ → W.cell? ⟨g, i, none⟩ = some (.int .u32 tab[i].2)) := fun W g h => by
        obtain ⟨b2, o2, e0, e2⟩ := numR_at h hiZ
        cases e0
        rw [Nat.zero_add, tabZ_at hil] at e2
        exact e2
      have HS : Hid (eqS tab[i].1 s = false → ∀ j (hj : j < i + 1) (hj2 : j < tab.length), eqS (tab[j]'hj2).1 s = false) := fun hq j hj hj2 => by
        rcases Nat.lt_or_ge j i with h | h
        · exact HA.out j h hj2
        · obtain rfl : j = i := by omega
          exact hq
      have HF : Hid (eqS tab[i].1 s = true → nrI s = tab[i].2 ∧ knB s = true) := fun hq => nr_hit hil hq fun j hj => HA.out j hj _
      generalize tab[i] = p at *
      obtain ⟨nm, nr⟩ := p
      dsimp only at e1 HS HF HZ2
      clear HA HS1 hil hiN hiZ
      rcases Bool.eq_false_or_eq_true (eqS nm s) with hq | hq
      · have hq' : (nm.toList == s.toList) = true := (eqS_to _ _).trans hq
        go_wp2_with (go_at_call 28; refine (HZ.out _).mono ?_; rintro e w2 ⟨g2, rfl, hS2, b2⟩; have e2 := HZ2.out _ _ hS2; have B2 : Hid (Below w1.heap.size w1 w2) := b2; clear b2 hS2)
        go_ret2
        exact ⟨ret_two (HF.out hq).1.symm (HF.out hq).2.symm, HB1.out.trans (B2.out.mono HB1.out.size)⟩
      · have hq' : (nm.toList == s.toList) = false := (eqS_to _ _).trans hq
        go_wp2
        go_round
        case rel => exact ⟨i + 1, by go_num, hlt, HS.out hq⟩
        case measure => simp [intOf]; omega
    · have hge : ¬ (i : Int) < 30 := by omega
      have hF := nr_none (s := s) fun j hj => HA.out j (by have := HL.out; omega) hj
      have HF : Hid (nrI s = 0 ∧ knB s = false) := hF
      clear hF HA
      go_wp2
      go_ret2
      exact ⟨ret_two HF.out.1.symm HF.out.2.symm, HB1.out⟩

set_option maxHeartbeats 1000000 in
theorem refName_any (z : Int) (w : World) : Calls Try.prog 13 #[.int .u32 z] w fun e w' => e = .returned (.tuple #[.string (nmS z), .bool (isNr z)]) ∧ Below w.heap.size w w' := by
  have HN : Hid (∀ W, Calls Try.prog 27 #[] W fun e w' => NamesR W e w') := names_any
  have HZ : Hid (∀ W, Calls Try.prog 28 #[] W fun e w' => NrsR W e w') := nrs_any
  have HL : Hid (tab.length = 30) := tab_len
  go_enter Try.func13, Try.ntmps13
  go_wp2_with (go_at_call 28; refine (HZ.out _).mono ?_; rintro e w1 ⟨g, rfl, hS, b1⟩)
  have HS1 : Hid (NumR w1 (.slice (some ⟨g, 0, none⟩) 30 30) tabZ) := hS
  have HB1 : Hid (Below w.heap.size w w1) := b1
  clear hS b1 HZ
  go_loop [5] (fun vi => ∃ i : Nat, vi = .int .i64 i ∧ i ≤ 30 ∧ (∀ j (hj : j < i) (hj2 : j < tab.length), (((tab[j]'hj2).2 : Int) == z) = false)) (fun vi => 30 - (intOf vi).toNat)
  case atStart => exact ⟨0, rfl, Nat.zero_le _, fun j hj => absurd hj (Nat.not_lt_zero _)⟩
  case round =>
    obtain ⟨i, rfl, hi, ha⟩ := hrel
    have HA : Hid (∀ j (hj : j < i) (hj2 : j < tab.length), (((tab[j]'hj2).2 : Int) == z) = false) := ha
    clear ha
    by_cases hlt : i < 30
    · have hi1 : (i : Int) < 30 := by omega
      have hil : i < tab.length := by rw [HL.out]; exact hlt
      have hiN : i < tabN.length := by rw [tabN_len]; exact hlt
      have hiZ : i < tabZ.length := by rw [tabZ_len]; exact hlt
      obtain ⟨b1, o1, e0, e1⟩ := numR_at HS1.out hiZ
      cases e0
      rw [Nat.zero_add, tabZ_at hil] at e1
      have HZ2 : Hid (∀ W g, StrR W (.slice (some ⟨g, 0, none⟩) 30 30) tabN → W.cell? ⟨g, i, none⟩ = some (.string tab[i].1)) := fun W g h => by
        obtain ⟨b2, o2, e0, e2⟩ := strR_at h hiN
        cases e0
        rw [Nat.zero_add, tabN_at hil] at e2
        exact e2
      have HS : Hid (((tab[i].2 : Int) == z) = false → ∀ j (hj : j < i + 1) (hj2 : j < tab.length), (((tab[j]'hj2).2 : Int) == z) = false) := fun hq j hj hj2 => by
        rcases Nat.lt_or_ge j i with h | h
        · exact HA.out j h hj2
        · obtain rfl : j = i := by omega
          exact hq
      have HF : Hid (((tab[i].2 : Int) == z) = true → nmS z = tab[i].1 ∧ isNr z = true) := fun hq => nm_hit hil hq fun j hj => HA.out j hj _
      generalize tab[i] = p at *
      obtain ⟨nm, nr⟩ := p
      dsimp only at e1 HS HF HZ2
      clear HA HS1 hil hiN hiZ
      generalize (nr : Int) = nz at *
      rcases Bool.eq_false_or_eq_true (nz == z) with hq | hq
      · go_wp2_with (go_at_call 27; refine (HN.out _).mono ?_; rintro e w2 ⟨g2, rfl, hS2, b2⟩; have e2 := HZ2.out _ _ hS2; have B2 : Hid (Below w1.heap.size w1 w2) := b2; clear b2 hS2)
        go_ret2
        exact ⟨ret_twoS (HF.out hq).1.symm (HF.out hq).2.symm, HB1.out.trans (B2.out.mono HB1.out.size)⟩
      · go_wp2
        go_round
        case rel => exact ⟨i + 1, by go_num, hlt, HS.out hq⟩
        case measure => simp [intOf]; omega
    · have hge : ¬ (i : Int) < 30 := by omega
      have hF := nm_none (z := z) fun j hj => HA.out j (by have := HL.out; omega) hj
      have HF : Hid (nmS z = ⟨#[]⟩ ∧ isNr z = false) := hF
      clear hF HA
      go_wp2
      go_ret2
      exact ⟨ret_twoS HF.out.1.symm HF.out.2.symm, HB1.out⟩

end Go.Proofs.Ytimclfdecdappaa
