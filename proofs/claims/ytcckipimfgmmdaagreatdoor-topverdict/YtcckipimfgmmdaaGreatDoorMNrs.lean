/-
  What Nr and Name tell of any name and number.
-/
import Derived.Test.YtcckipimfgmmdaaGreatDoorMTbl
namespace Go.Proofs.YtcckipimfgmmdaaGreatDoor.M
open Go.RowKit

theorem nr_hit {s : ByteArray} {i : Nat} (hi : i < tab.length) (h : eqS tab[i].1 s = true) (ha : ∀ j (hj : j < i), eqS (tab[j]'(by omega)).1 s = false) : nrI s = tab[i].2 ∧ knB s = true := by
  unfold nrI knB nrOf
  rw [find_at (p := fun p => eqS p.1 s) hi h ha]
  exact ⟨rfl, rfl⟩
theorem nr_none {s : ByteArray} (ha : ∀ j (hj : j < tab.length), eqS (tab[j]'hj).1 s = false) : nrI s = 0 ∧ knB s = false := by
  unfold nrI knB nrOf
  rw [find_none (l := tab) (p := fun p => eqS p.1 s) ha]
  exact ⟨rfl, rfl⟩
theorem nm_hit {z : Int} {i : Nat} (hi : i < tab.length) (h : ((tab[i].2 : Int) == z) = true) (ha : ∀ j (hj : j < i), (((tab[j]'(by omega)).2 : Int) == z) = false) : nmS z = tab[i].1 ∧ isNr z = true := by
  unfold nmS isNr nameOf
  rw [find_at (p := fun p => ((p.2 : Int) == z)) hi h ha]
  exact ⟨rfl, rfl⟩
theorem nm_none {z : Int} (ha : ∀ j (hj : j < tab.length), (((tab[j]'hj).2 : Int) == z) = false) : nmS z = ⟨#[]⟩ ∧ isNr z = false := by
  unfold nmS isNr nameOf
  rw [find_none (l := tab) (p := fun p => ((p.2 : Int) == z)) ha]
  exact ⟨rfl, rfl⟩

theorem ret_two {k : IntKind} {a b : Int} {c d : Bool} (h : a = b) (h' : c = d) : Ending.returned (.tuple #[.int k a, .bool c]) = .returned (.tuple #[.int k b, .bool d]) := by rw [h, h']
theorem ret_twoS {a b : ByteArray} {c d : Bool} (h : a = b) (h' : c = d) : Ending.returned (.tuple #[.string a, .bool c]) = .returned (.tuple #[.string b, .bool d]) := by rw [h, h']

set_option maxHeartbeats 1000000 in
theorem nr_any (s : ByteArray) (w : World) : Calls Tryz.prog 122 #[.string s] w fun e w' => e = .returned (.tuple #[.int .u32 (nrI s), .bool (knB s)]) ∧ Below w.heap.size w w' := by
  have HC : Hid (∀ W, Calls Tryz.prog 95 #[] W fun e w' => e = .returned (.agg tabC.toArray) ∧ Below W.heap.size W w') := calls_any
  have HL : Hid (tab.length = 30) := tab_len
  generalize hT : tabC.toArray = TC at *
  go_enter Tryz.func122, Tryz.ntmps122
  go_wp2_with (go_at_call 95; refine (HC.out _).mono ?_; rintro e w1 ⟨rfl, b1⟩)
  go_loopw [7] (fun vi wr => ∃ i : Nat, vi = .int .i64 i ∧ i ≤ 30 ∧ (∀ j (hj : j < i) (hj2 : j < tab.length), eqS (tab[j]'hj2).1 s = false) ∧ Below w.heap.size w wr) (fun vi _ => 30 - (intOf vi).toNat)
  case atStart => exact ⟨0, rfl, Nat.zero_le _, fun j hj => absurd hj (Nat.not_lt_zero _), b1⟩
  case round =>
    obtain ⟨i, rfl, hi, ha, hb⟩ := hrel
    have HA : Hid (∀ j (hj : j < i) (hj2 : j < tab.length), eqS (tab[j]'hj2).1 s = false) := ha
    have HB : Hid (Below w.heap.size w wr) := hb
    clear ha hb
    by_cases hlt : i < 30
    · have hi1 : (i : Int) < 30 := by omega
      have hil : i < tab.length := by rw [HL.out]; exact hlt
      have hix : ∀ W : World, (Instr.index 172 (.agg TC) (.int .i64 i)).run Tryz.prog W = .ok (.agg #[.string tab[i].1, .int .u32 tab[i].2]) W := fun W => by rw [← hT]; exact index_tab i hil W
      have HS : Hid (eqS tab[i].1 s = false → ∀ j (hj : j < i + 1) (hj2 : j < tab.length), eqS (tab[j]'hj2).1 s = false) := fun hq j hj hj2 => by
        rcases Nat.lt_or_ge j i with h | h
        · exact HA.out j h hj2
        · obtain rfl : j = i := by omega
          exact hq
      have HF : Hid (eqS tab[i].1 s = true → nrI s = tab[i].2 ∧ knB s = true) := fun hq => nr_hit hil hq fun j hj => HA.out j hj _
      generalize tab[i] = p at *
      obtain ⟨nm, nr⟩ := p
      dsimp only at hix HS HF
      have BE : Hid (Below w.heap.size w (wr.alloc (Obj.cells #[.string nm, .int .u32 nr] 171))) := HB.out.alloc HB.out.size _
      clear HA hT HC
      rcases Bool.eq_false_or_eq_true (eqS nm s) with hq | hq
      · have hq' : (nm.toList == s.toList) = true := (eqS_to _ _).trans hq
        go_wp2
        go_ret2
        exact ⟨ret_two (HF.out hq).1.symm (HF.out hq).2.symm, BE.out⟩
      · have hq' : (nm.toList == s.toList) = false := (eqS_to _ _).trans hq
        go_wp2
        go_roundw
        case rel => exact ⟨i + 1, by go_num, hlt, HS.out hq, BE.out⟩
        case measure => simp [intOf]; omega
    · have hge : ¬ (i : Int) < 30 := by omega
      have hF := nr_none (s := s) fun j hj => HA.out j (by have := HL.out; omega) hj
      have HF : Hid (nrI s = 0 ∧ knB s = false) := hF
      clear hF HA
      go_wp2
      go_ret2
      exact ⟨ret_two HF.out.1.symm HF.out.2.symm, HB.out⟩

set_option maxHeartbeats 1000000 in
theorem name_any (z : Int) (w : World) : Calls Tryz.prog 53 #[.int .u32 z] w fun e w' => e = .returned (.tuple #[.string (nmS z), .bool (isNr z)]) ∧ Below w.heap.size w w' := by
  have HC : Hid (∀ W, Calls Tryz.prog 95 #[] W fun e w' => e = .returned (.agg tabC.toArray) ∧ Below W.heap.size W w') := calls_any
  have HL : Hid (tab.length = 30) := tab_len
  generalize hT : tabC.toArray = TC at *
  go_enter Tryz.func53, Tryz.ntmps53
  go_wp2_with (go_at_call 95; refine (HC.out _).mono ?_; rintro e w1 ⟨rfl, b1⟩)
  go_loopw [7] (fun vi wr => ∃ i : Nat, vi = .int .i64 i ∧ i ≤ 30 ∧ (∀ j (hj : j < i) (hj2 : j < tab.length), (((tab[j]'hj2).2 : Int) == z) = false) ∧ Below w.heap.size w wr) (fun vi _ => 30 - (intOf vi).toNat)
  case atStart => exact ⟨0, rfl, Nat.zero_le _, fun j hj => absurd hj (Nat.not_lt_zero _), b1⟩
  case round =>
    obtain ⟨i, rfl, hi, ha, hb⟩ := hrel
    have HA : Hid (∀ j (hj : j < i) (hj2 : j < tab.length), (((tab[j]'hj2).2 : Int) == z) = false) := ha
    have HB : Hid (Below w.heap.size w wr) := hb
    clear ha hb
    by_cases hlt : i < 30
    · have hi1 : (i : Int) < 30 := by omega
      have hil : i < tab.length := by rw [HL.out]; exact hlt
      have hix : ∀ W : World, (Instr.index 172 (.agg TC) (.int .i64 i)).run Tryz.prog W = .ok (.agg #[.string tab[i].1, .int .u32 tab[i].2]) W := fun W => by rw [← hT]; exact index_tab i hil W
      have HS : Hid (((tab[i].2 : Int) == z) = false → ∀ j (hj : j < i + 1) (hj2 : j < tab.length), (((tab[j]'hj2).2 : Int) == z) = false) := fun hq j hj hj2 => by
        rcases Nat.lt_or_ge j i with h | h
        · exact HA.out j h hj2
        · obtain rfl : j = i := by omega
          exact hq
      have HF : Hid (((tab[i].2 : Int) == z) = true → nmS z = tab[i].1 ∧ isNr z = true) := fun hq => nm_hit hil hq fun j hj => HA.out j hj _
      generalize tab[i] = p at *
      obtain ⟨nm, nr⟩ := p
      dsimp only at hix HS HF
      have BE : Hid (Below w.heap.size w (wr.alloc (Obj.cells #[.string nm, .int .u32 nr] 171))) := HB.out.alloc HB.out.size _
      clear HA hT HC
      generalize (nr : Int) = nz at *
      rcases Bool.eq_false_or_eq_true (nz == z) with hq | hq
      · go_wp2
        go_ret2
        exact ⟨ret_twoS (HF.out hq).1.symm (HF.out hq).2.symm, BE.out⟩
      · go_wp2
        go_roundw
        case rel => exact ⟨i + 1, by go_num, hlt, HS.out hq, BE.out⟩
        case measure => simp [intOf]; omega
    · have hge : ¬ (i : Int) < 30 := by omega
      have hF := nm_none (z := z) fun j hj => HA.out j (by have := HL.out; omega) hj
      have HF : Hid (nmS z = ⟨#[]⟩ ∧ isNr z = false) := hF
      clear hF HA
      go_wp2
      go_ret2
      exact ⟨ret_twoS HF.out.1.symm HF.out.2.symm, HB.out⟩

end Go.Proofs.YtcckipimfgmmdaaGreatDoor.M
