/-
  The answers of the document on rules.
-/
import Derived.Test.YtpojlfenmanehaaGreatGM3
import Derived.Test.YtpojlfenmanehaaGreatGM2
import Derived.BigQuiet
import Derived.Test.YtpojlfenmanehaaGreatGM4
namespace Go.Proofs.YtpojlfenmanehaaGreat.M
open Go.RowKit

/-- the numbers that a slice leads to. -/
def NumR (w : World) (v : Value) (l : List Nat) : Prop :=
  ∃ a cap, v = .slice a l.length cap ∧ l.length ≤ cap ∧ cap ≤ 9223372036854775807 ∧ (0 < l.length → ∃ b o, a = some ⟨b, o, none⟩ ∧ ∀ (i : Nat) (x : Nat), l[i]? = some x → w.cell? ⟨b, o + i, none⟩ = some (.int .u32 x))
theorem NumR.below {w w' : World} {v : Value} {l : List Nat} (h : NumR w v l) (hb : Below w.heap.size w w') : NumR w' v l := by
  obtain ⟨a, cap, rfl, h1, h2, hc⟩ := h
  refine ⟨a, cap, rfl, h1, h2, fun h0 => ?_⟩
  obtain ⟨b, o, rfl, hx⟩ := hc h0
  exact ⟨b, o, rfl, fun i x hi => cellS (hx i x hi) (hb.block b (World.block_lt_of_cell? w _ (hx i x hi)))⟩
theorem numR_at {w : World} {p : Option Addr} {n c i : Nat} {l : List Nat} (h : NumR w (.slice p n c) l) (hi : i < l.length) : ∃ b o, p = some ⟨b, o, none⟩ ∧ w.cell? ⟨b, o + i, none⟩ = some (.int .u32 (l[i] : Nat)) := by
  obtain ⟨a, cap, e, _, _, hc⟩ := h
  cases e
  obtain ⟨b, o, hb, hx⟩ := hc (by omega)
  exact ⟨b, o, hb, hx i _ (List.getElem?_eq_getElem hi)⟩

def tabN : List ByteArray := tab.map (·.1)
def tabZ : List Nat := tab.map (·.2)
theorem tabN_len : tabN.length = 30 := rfl
theorem tabZ_len : tabZ.length = 30 := rfl

/-- what Names tells, and nrs. -/
def NamesR (w : World) (e : Ending) (w' : World) : Prop := ∃ g, e = .returned (.slice (some ⟨g, 0, none⟩) 30 30) ∧ StrR w' (.slice (some ⟨g, 0, none⟩) 30 30) tabN ∧ Below w.heap.size w w'
def NrsR (w : World) (e : Ending) (w' : World) : Prop := ∃ g, e = .returned (.slice (some ⟨g, 0, none⟩) 30 30) ∧ NumR w' (.slice (some ⟨g, 0, none⟩) 30 30) tabZ ∧ Below w.heap.size w w'

set_option maxRecDepth 8000 in
set_option maxHeartbeats 1000000 in
theorem names_any (w : World) : Calls Tryz.prog 42 #[] w fun e w' => NamesR w e w' := by
  go_enter Tryz.func42, Tryz.ntmps42
  go_wp2
  go_ret
  have k : Blk (w.alloc (Obj.cells (tabN.map Value.string).toArray 9)) w.heap.size 9 (tabN.map Value.string) := blk_new w _ _
  refine ⟨w.heap.size, rfl, ⟨_, 30, rfl, Nat.le_refl _, by decide, fun _ => ⟨_, 0, rfl, fun i x hi => ?_⟩⟩, below_new w _⟩
  have h1 := k.cell i
  rw [List.getElem?_map, hi] at h1
  rw [Nat.zero_add]
  exact h1

set_option maxRecDepth 8000 in
set_option maxHeartbeats 1000000 in
theorem nrs_any (w : World) : Calls Tryz.prog 43 #[] w fun e w' => NrsR w e w' := by
  go_enter Tryz.func43, Tryz.ntmps43
  go_wp2
  go_ret
  have k : Blk (w.alloc (Obj.cells (tabZ.map fun n => Value.int .u32 (n : Nat)).toArray 37)) w.heap.size 37 (tabZ.map fun n => Value.int .u32 (n : Nat)) := blk_new w _ _
  refine ⟨w.heap.size, rfl, ⟨_, 30, rfl, Nat.le_refl _, by decide, fun _ => ⟨_, 0, rfl, fun i x hi => ?_⟩⟩, below_new w _⟩
  have h1 := k.cell i
  rw [List.getElem?_map, hi] at h1
  rw [Nat.zero_add]
  exact h1

theorem tabN_at {j : Nat} (_h : j < tab.length) (h' : j < tabN.length) : tabN[j] = tab[j].1 := List.getElem_map _
theorem tabZ_at {j : Nat} (_h : j < tab.length) (h' : j < tabZ.length) : tabZ[j] = tab[j].2 := List.getElem_map _

set_option maxHeartbeats 1000000 in
theorem refNr_any (s : ByteArray) (w : World) : Calls Tryz.prog 25 #[.string s] w fun e w' => e = .returned (.tuple #[.int .u32 (nrI s), .bool (knB s)]) ∧ Below w.heap.size w w' := by
  have HN : Hid (∀ W, Calls Tryz.prog 42 #[] W fun e w' => NamesR W e w') := names_any
  have HZ : Hid (∀ W, Calls Tryz.prog 43 #[] W fun e w' => NrsR W e w') := nrs_any
  have HL : Hid (tab.length = 30) := tab_len
  go_enter Tryz.func25, Tryz.ntmps25
  go_wp2_with (go_at_call 42; refine (HN.out _).mono ?_; rintro e w1 ⟨g, rfl, hS, b1⟩)
  have HS1 : Hid (StrR w1 (.slice (some ⟨g, 0, none⟩) 30 30) tabN) := hS
  have HB1 : Hid (Below w.heap.size w w1) := b1
  clear hS b1 HN
  go_loop [5] (fun vi => ∃ i : Nat, vi = .int .i64 i ∧ i ≤ 30 ∧ (∀ j (hj : j < i) (hj2 : j < tab.length), eqS (tab[j]'hj2).1 s = false)) (fun vi => 30 - (intOf vi).toNat)
  case atStart => exact ⟨0, rfl, Nat.zero_le _, fun j hj => absurd hj (Nat.not_lt_zero _)⟩
  case round =>
    obtain ⟨i, rfl, hi, ha⟩ := hrel
    have HA : Hid (∀ j (hj : j < i) (hj2 : j < tab.length), eqS (tab[j]'hj2).1 s = false) := ha
    clear ha
    by_cases hlt : i < 30
    · have hi1 : (i : Int) < 30 := by omega
      have hil : i < tab.length := by rw [HL.out]; exact hlt
      have hiN : i < tabN.length := by rw [tabN_len]; exact hlt
      have hiZ : i < tabZ.length := by rw [tabZ_len]; exact hlt
      obtain ⟨b1, o1, e0, e1⟩ := strR_at HS1.out hiN
      cases e0
      rw [Nat.zero_add, tabN_at hil] at e1
      have HZ2 : Hid (∀ W g, NumR W (.slice (some ⟨g, 0, none⟩) 30 30) tabZ → W.cell? ⟨g, i, none⟩ = some (.int .u32 tab[i].2)) := fun W g h => by
        obtain ⟨b2, o2, e0, e2⟩ := numR_at h hiZ
        cases e0
        rw [Nat.zero_add, tabZ_at hil] at e2
        exact e2
      have HS : Hid (eqS tab[i].1 s = false → ∀ j (hj : j < i + 1) (hj2 : j < tab.length), eqS (tab[j]'hj2).1 s = false) := fun hq j hj hj2 => by
        rcases Nat.lt_or_ge j i with h | h
        · exact HA.out j h hj2
        · obtain rfl : j = i := by omega
          exact hq
      have HF : Hid (eqS tab[i].1 s = true → nrI s = tab[i].2 ∧ knB s = true) := fun hq => nr_hit hil hq fun j hj => HA.out j hj _
      generalize tab[i] = p at *
      obtain ⟨nm, nr⟩ := p
      dsimp only at e1 HS HF HZ2
      clear HA HS1 hil hiN hiZ
      rcases Bool.eq_false_or_eq_true (eqS nm s) with hq | hq
      · have hq' : (nm.toList == s.toList) = true := (eqS_to _ _).trans hq
        go_wp2_with (go_at_call 43; refine (HZ.out _).mono ?_; rintro e w2 ⟨g2, rfl, hS2, b2⟩; have e2 := HZ2.out _ _ hS2; have B2 : Hid (Below w1.heap.size w1 w2) := b2; clear b2 hS2)
        go_ret2
        exact ⟨ret_two (HF.out hq).1.symm (HF.out hq).2.symm, HB1.out.trans (B2.out.mono HB1.out.size)⟩
      · have hq' : (nm.toList == s.toList) = false := (eqS_to _ _).trans hq
        go_wp2
        go_round
        case rel => exact ⟨i + 1, by go_num, hlt, HS.out hq⟩
        case measure => simp [intOf]; omega
    · have hge : ¬ (i : Int) < 30 := by omega
      have hF := nr_none (s := s) fun j hj => HA.out j (by have := HL.out; omega) hj
      have HF : Hid (nrI s = 0 ∧ knB s = false) := hF
      clear hF HA
      go_wp2
      go_ret2
      exact ⟨ret_two HF.out.1.symm HF.out.2.symm, HB1.out⟩

end Go.Proofs.YtpojlfenmanehaaGreat.M

namespace Go.Proofs.YtpojlfenmanehaaGreat.M
open Go.RowKit

theorem rhas_any (k : Int) (w : World) : Calls Tryz.prog 74 #[.int .i64 k] w fun e w' => e = .returned (.bool (hasN k)) ∧ w' = w := by
  unfold hasN
  rcases Bool.eq_false_or_eq_true (k == 3) with h1 | h1
  · go_enter Tryz.func74, Tryz.ntmps74
    go_wp2
    go_ret
    exact ⟨ret_bool (by rw [h1]; rfl), rfl⟩
  · rcases Bool.eq_false_or_eq_true (k == 4) with h2 | h2
    · go_enter Tryz.func74, Tryz.ntmps74
      go_wp2
      go_ret
      exact ⟨ret_bool (by rw [h1, h2]; rfl), rfl⟩
    · go_enter Tryz.func74, Tryz.ntmps74
      go_wp2
      go_ret
      exact ⟨ret_bool (by rw [h1, h2]; rfl), rfl⟩

theorem actB_zero {k : Int} (h1 : ¬ k < 1) (h2 : ¬ 8 < k) : actB k 0 = true := by
  rw [actB_mk (by omega) (by omega)]
  split <;> decide
theorem actB_has {k a : Int} (h1 : ¬ k < 1) (h2 : ¬ 8 < k) (h3 : hasN k = true) : actB k a = (decide (0 ≤ a) && decide (a ≤ 65535)) := by
  rw [actB_mk (by omega) (by omega), if_pos h3]
theorem actB_hasnt {k a : Int} (h1 : ¬ k < 1) (h2 : ¬ 8 < k) (h3 : hasN k = false) (h4 : ¬ a = 0) : actB k a = false := by
  rw [actB_mk (by omega) (by omega), if_neg (by rw [h3]; decide)]
  simpa using h4

theorem ractR_any (k a : Int) (w : World) : Calls Tryz.prog 39 #[.agg #[.int .i64 k, .int .i64 a]] w fun e w' => e = .returned (.bool (actB k a)) ∧ Below w.heap.size w w' := by
  have be : Below w.heap.size w (w.alloc (Obj.cells #[.int .i64 k, .int .i64 a] 23)) := (Below.refl _ _).alloc (Nat.le_refl _) _
  by_cases h1 : k < 1
  · have HE : Hid (actB k a = false) := actB_no (.inl h1)
    have hd : decide (k < 1) = true := decide_eq_true h1
    go_enter Tryz.func39, Tryz.ntmps39
    go_wp2
    go_ret
    exact ⟨ret_bool HE.out.symm, be⟩
  · have hd : decide (k < 1) = false := decide_eq_false h1
    by_cases h2 : 8 < k
    · have HE : Hid (actB k a = false) := actB_no (.inr h2)
      have hd2 : decide (8 < k) = true := decide_eq_true h2
      go_enter Tryz.func39, Tryz.ntmps39
      go_wp2
      go_ret
      exact ⟨ret_bool HE.out.symm, be⟩
    · have hd2 : decide (8 < k) = false := decide_eq_false h2
      rcases Bool.eq_false_or_eq_true (a == 0) with h0 | h0
      · have ha : a = 0 := by simpa using h0
        have HE : Hid (actB k a = true) := by subst ha; exact actB_zero h1 h2
        clear ha
        go_enter Tryz.func39, Tryz.ntmps39
        go_wp2_with (go_at_call 74; refine (rhas_any _ _).mono ?_; rintro e w1 ⟨rfl, rfl⟩)
        go_ret
        exact ⟨ret_bool HE.out.symm, be⟩
      · have ha : ¬ a = 0 := by simpa using h0
        rcases Bool.eq_false_or_eq_true (hasN k) with h3 | h3
        · have HE : Hid (actB k a = (decide (0 ≤ a) && decide (a ≤ 65535))) := actB_has h1 h2 h3
          by_cases h4 : 0 < a
          · have h5 : decide (0 < a) = true := decide_eq_true h4
            go_enter Tryz.func39, Tryz.ntmps39
            go_wp2_with (go_at_call 74; refine (rhas_any _ _).mono ?_; rintro e w1 ⟨rfl, rfl⟩; rw [h3])
            go_ret
            refine ⟨ret_bool ?_, be⟩
            rw [HE.out, Bool.eq_iff_iff]
            simp
            omega
          · have h5 : decide (0 < a) = false := decide_eq_false h4
            go_enter Tryz.func39, Tryz.ntmps39
            go_wp2_with (go_at_call 74; refine (rhas_any _ _).mono ?_; rintro e w1 ⟨rfl, rfl⟩; rw [h3])
            go_ret
            refine ⟨ret_bool ?_, be⟩
            rw [HE.out, Bool.eq_iff_iff]
            simp
            omega
        · have HE : Hid (actB k a = false) := actB_hasnt h1 h2 h3 ha
          go_enter Tryz.func39, Tryz.ntmps39
          go_wp2_with (go_at_call 74; refine (rhas_any _ _).mono ?_; rintro e w1 ⟨rfl, rfl⟩; rw [h3])
          go_ret
          exact ⟨ret_bool HE.out.symm, be⟩

theorem rsm_any (n : Nat) (w : World) : Calls Tryz.prog 75 #[.int .u8 n] w fun e w' => e = .returned (.bool (loN n)) ∧ w' = w := by
  rcases Bool.eq_false_or_eq_true (decide (97 ≤ (n : Int))) with h1 | h1
  · go_enter Tryz.func75, Tryz.ntmps75
    go_wp2
    go_ret
    exact ⟨ret_bool (by unfold loN; rw [show decide (97 ≤ n) = true from by simp at h1 ⊢; omega]; simp; omega), rfl⟩
  · go_enter Tryz.func75, Tryz.ntmps75
    go_wp2
    go_ret
    exact ⟨ret_bool (by unfold loN; rw [show decide (97 ≤ n) = false from by simp at h1 ⊢; omega]; rfl), rfl⟩
theorem rdg_any (n : Nat) (w : World) : Calls Tryz.prog 142 #[.int .u8 n] w fun e w' => e = .returned (.bool (dgN n)) ∧ w' = w := by
  rcases Bool.eq_false_or_eq_true (decide (48 ≤ (n : Int))) with h1 | h1
  · go_enter Tryz.func142, Tryz.ntmps142
    go_wp2
    go_ret
    exact ⟨ret_bool (by unfold dgN; rw [show decide (48 ≤ n) = true from by simp at h1 ⊢; omega]; simp; omega), rfl⟩
  · go_enter Tryz.func142, Tryz.ntmps142
    go_wp2
    go_ret
    exact ⟨ret_bool (by unfold dgN; rw [show decide (48 ≤ n) = false from by simp at h1 ⊢; omega]; rfl), rfl⟩
theorem rgo_any (n : Nat) (w : World) : Calls Tryz.prog 113 #[.int .u8 n] w fun e w' => e = .returned (.bool (wN n)) ∧ w' = w := by
  rcases Bool.eq_false_or_eq_true (loN n) with h1 | h1
  · go_enter Tryz.func113, Tryz.ntmps113
    go_wp2_with (first | (go_at_call 75; refine (rsm_any n _).mono ?_; rintro e w' ⟨rfl, rfl⟩; rw [h1]) | (go_at_call 142; refine (rdg_any n _).mono ?_; rintro e w' ⟨rfl, rfl⟩))
    go_ret
    exact ⟨ret_bool (by unfold wN; rw [h1]; rfl), rfl⟩
  · rcases Bool.eq_false_or_eq_true (dgN n) with h2 | h2
    · go_enter Tryz.func113, Tryz.ntmps113
      go_wp2_with (first | (go_at_call 75; refine (rsm_any n _).mono ?_; rintro e w' ⟨rfl, rfl⟩; rw [h1]) | (go_at_call 142; refine (rdg_any n _).mono ?_; rintro e w' ⟨rfl, rfl⟩; rw [h2]))
      go_ret
      exact ⟨ret_bool (by unfold wN; rw [h1, h2]; rfl), rfl⟩
    · go_enter Tryz.func113, Tryz.ntmps113
      go_wp2_with (first | (go_at_call 75; refine (rsm_any n _).mono ?_; rintro e w' ⟨rfl, rfl⟩; rw [h1]) | (go_at_call 142; refine (rdg_any n _).mono ?_; rintro e w' ⟨rfl, rfl⟩; rw [h2]))
      go_ret
      refine ⟨ret_bool ?_, rfl⟩
      unfold wN
      rw [h1, h2]
      rcases Bool.eq_false_or_eq_true (n == 95) with h3 | h3 <;> rw [h3] <;> simp at h3 ⊢ <;> omega

set_option maxHeartbeats 1000000 in
theorem rrun_any (s : ByteArray) (w : World) (hs : s.size ≤ 1000000) :
    Calls Tryz.prog 76 #[.string s, .int .i64 0] w fun e w' => e = .returned (.int .i64 ((lst s).takeWhile ofW).length) ∧ w' = w := by
  go_enter Tryz.func76, Tryz.ntmps76
  go_wp2
  go_loop [5] (fun vi => ∃ i : Nat, vi = .int .i64 i ∧ Run ofW (lst s) i) (fun vi => s.size - (intOf vi).toNat)
  case atStart => exact ⟨0, rfl, Nat.zero_le _, fun i c h => by omega⟩
  case round =>
    obtain ⟨i, rfl, hr⟩ := hrel
    have hri : i ≤ s.size := by have := hr.1; rw [lst_length] at this; exact this
    have HR : Hid (Run ofW (lst s) i) := hr
    clear hr
    by_cases hlt : i < s.size
    · have hi1 : decide ((i : Int) < (s.size : Int)) = true := decide_eq_true (by omega)
      have hi2 : (i : Int) < (s.size : Int) := by omega
      have hG : Hid (∀ W, Calls Tryz.prog 113 #[.int .u8 (s[i]'hlt).toNat] W fun e w' => e = .returned (.bool (wN (s[i]'hlt).toNat)) ∧ w' = W) := rgo_any _
      have hix : ∀ W : World, (Instr.index 9 (.string s) (.int .i64 i)).run Tryz.prog W = .ok (.int .u8 (s[i]'hlt).toNat) W := fun W => by
        have hc : (0 : Int) ≤ (i : Int) ∧ (i : Int) < (s.size : Int) := by omega
        simp [Instr.index, asIntOf, hlt, run_underlying Tryz.underlying9]
      have HS : Hid (wN (s[i]'hlt).toNat = true → Run ofW (lst s) (i + 1)) := fun hq => by
        refine ⟨by rw [lst_length]; omega, fun j c hj hc => ?_⟩
        rcases Nat.lt_or_ge j i with h | h
        · exact HR.out.2 j c h hc
        · obtain rfl : j = i := by omega
          rw [lst_at s j hlt] at hc
          cases hc
          exact hq
      have HF : Hid (wN (s[i]'hlt).toNat = false → ((lst s).takeWhile ofW).length = i) := fun hq => HR.out.stop hlt hq
      generalize (s[i]'hlt).toNat = c at *
      generalize wN c = q at *
      cases q with
      | true =>
        go_wp2_with (go_at_call 113; refine (hG.out _).mono ?_; rintro e w' ⟨rfl, rfl⟩)
        go_round
        case rel => exact ⟨i + 1, by go_num, HS.out trivial⟩
        case measure => simp [intOf]; omega
      | false =>
        go_wp2_with (go_at_call 113; refine (hG.out _).mono ?_; rintro e w' ⟨rfl, rfl⟩)
        go_ret
        exact ⟨ret_int (by rw [HF.out trivial]), rfl⟩
    · have hge : decide ((i : Int) < (s.size : Int)) = false := decide_eq_false (by omega)
      have hge2 : ¬ (i : Int) < (s.size : Int) := by omega
      have HF : Hid (((lst s).takeWhile ofW).length = s.size) := HR.out.last hlt
      obtain rfl : i = s.size := by omega
      go_wp2
      go_ret
      exact ⟨ret_int (by rw [HF.out]), rfl⟩

set_option maxHeartbeats 800000 in
theorem ris_any (s : ByteArray) (w : World) (hs : s.size ≤ 1000000) :
    Calls Tryz.prog 40 #[.string s] w fun e w' => e = .returned (.bool (isWd (lst s))) ∧ w' = w := by
  by_cases h0 : 0 < s.size
  · have hd : decide (0 < (s.size : Int)) = true := decide_eq_true (by omega)
    have HI : Hid (isWd (lst s) = (loN (s[0]'h0).toNat && decide (((lst s).takeWhile ofW).length = s.size))) := isWd_at s h0
    have HQ : Hid (∀ W, Calls Tryz.prog 76 #[.string s, .int .i64 0] W fun e w' => e = .returned (.int .i64 ((lst s).takeWhile ofW).length) ∧ w' = W) := fun W => rrun_any s W hs
    have hix : ∀ W : World, (Instr.index 9 (.string s) (.int .i64 0)).run Tryz.prog W = .ok (.int .u8 (s[0]'h0).toNat) W := fun W => by
      simp [Instr.index, asIntOf, h0, run_underlying Tryz.underlying9]
    have HG : Hid (∀ W, Calls Tryz.prog 75 #[.int .u8 (s[0]'h0).toNat] W fun e w' => e = .returned (.bool (loN (s[0]'h0).toNat)) ∧ w' = W) := rsm_any _
    generalize ((lst s).takeWhile ofW).length = L at *
    generalize (s[0]'h0).toNat = c at *
    generalize loN c = q at *
    cases q with
    | true =>
      go_enter Tryz.func40, Tryz.ntmps40
      go_wp2_with (first | (go_at_call 75; refine (HG.out _).mono ?_; rintro e w1 ⟨rfl, rfl⟩) | (go_at_call 76; refine (HQ.out _).mono ?_; rintro e w1 ⟨rfl, rfl⟩))
      go_ret
      refine ⟨ret_bool ?_, rfl⟩
      rw [HI.out]
      exact ibd' L s.size
    | false =>
      go_enter Tryz.func40, Tryz.ntmps40
      go_wp2_with (first | (go_at_call 75; refine (HG.out _).mono ?_; rintro e w1 ⟨rfl, rfl⟩) | (go_at_call 76; refine (HQ.out _).mono ?_; rintro e w1 ⟨rfl, rfl⟩))
      go_ret
      exact ⟨ret_bool HI.out.symm, rfl⟩
  · have e : s = ⟨#[]⟩ := ByteArray.ext (Array.eq_empty_of_size_eq_zero (by show s.data.size = 0; have : s.size = s.data.size := rfl; omega))
    subst e
    go_enter Tryz.func40, Tryz.ntmps40
    go_wp2
    go_ret
    exact ⟨rfl, rfl⟩

end Go.Proofs.YtpojlfenmanehaaGreat.M

namespace Go.Proofs.YtpojlfenmanehaaGreat.M
open Go.RowKit

/-- rules that are small enough to be walked through. -/
def Sml (l : List Xr) : Prop := l.length ≤ 1000 ∧ ∀ x ∈ l, x.r.names.length ≤ 9000000 ∧ x.r.conds.length ≤ 9000000 ∧ ∀ s ∈ x.r.names, s.size ≤ 1000000

theorem rcondX (x : Xc) (w : World) : Calls Tryz.prog 41 #[.agg #[.int .i64 x.arg, .int .i64 x.op, .int .u64 x.mask, .int .u64 x.val]] w fun e w' => e = .returned (.bool (condB x)) ∧ Below w.heap.size w w' := refCondR_any x.arg x.op x.mask x.val w

theorem ruleB_parts {x : Xl} (h1 : ¬ x.names.length < 1) (h2 : ¬ 16 < x.names.length) (h3 : ¬ 8 < x.conds.length) (h4 : actB x.k x.a = true) : ruleB x = (x.names.all (fun s => isWd (lst s)) && x.conds.all condB) := by
  rw [ruleB_mk (by omega) (by omega) (by omega), h4, Bool.true_and]
theorem ruleB_act {x : Xl} (h4 : actB x.k x.a = false) : ruleB x = false := by
  unfold ruleB
  rw [h4]
  simp

set_option maxRecDepth 8000 in
set_option maxHeartbeats 4000000 in
theorem rright_any (w : World) (k a : Int) (v : Value) (l : List Xr) (h : RlR w v l) (hs : Sml l) :
    Calls Tryz.prog 24 #[.agg #[.int .i64 k, .int .i64 a, v]] w fun e w' => e = .returned (.bool (rulesB k a (l.map Xr.r))) ∧ Below w.heap.size w w' := by
  obtain ⟨p1, c1, rfl⟩ : ∃ p c, v = .slice p l.length c := by obtain ⟨p, c, e, _⟩ := h; exact ⟨p, c, e⟩
  have hl : l.length ≤ 1000 := hs.1
  have be : Below w.heap.size w (w.alloc (Obj.cells #[.int .i64 k, .int .i64 a, .slice p1 l.length c1] 26)) := (Below.refl _ _).alloc (Nat.le_refl _) _
  have BE : Hid (Below w.heap.size w (w.alloc (Obj.cells #[.int .i64 k, .int .i64 a, .slice p1 l.length c1] 26))) := be
  have HK : Hid (Blk (w.alloc (Obj.cells #[.int .i64 k, .int .i64 a, .slice p1 l.length c1] 26)) w.heap.size 26 [.int .i64 k, .int .i64 a, .slice p1 l.length c1]) := blk_new w _ _
  have SN : Hid (RlR (w.alloc (Obj.cells #[.int .i64 k, .int .i64 a, .slice p1 l.length c1] 26)) (.slice p1 l.length c1) l) := h.below be
  have HA : Hid (∀ W, Calls Tryz.prog 39 #[.agg #[.int .i64 k, .int .i64 a]] W fun e w' => e = .returned (.bool (actB k a)) ∧ Below W.heap.size W w') := ractR_any k a
  have HE : Hid (rulesB k a (l.map Xr.r) = (actB k a && decide (l.length ≤ 64) && l.all fun x => ruleB x.r)) := by
    show rulesB k a (l.map Xr.r) = _
    unfold rulesB
    rw [List.length_map, List.all_map]
    rfl
  have HM : Hid (Sml l) := hs
  clear h be hs
  generalize rulesB k a (l.map Xr.r) = R at *
  generalize actB k a = RA at *
  cases RA with
  | false =>
    go_enter Tryz.func24, Tryz.ntmps24
    go_wp2_with fail
    generalize (w.alloc (Obj.cells #[.int .i64 k, .int .i64 a, .slice p1 l.length c1] 26)) = X at *
    refine (HA.out _).mono ?_
    rintro e w1 ⟨rfl, b1⟩
    go_wp2_with fail
    go_ret
    exact ⟨ret_bool (by rw [HE.out]; rfl), BE.out.trans (b1.mono BE.out.size)⟩
  | true =>
    by_cases g64 : 64 < l.length
    · have hd : decide (64 < (l.length : Int)) = true := decide_eq_true (by omega)
      have HR : Hid (R = false) := by show R = false; rw [HE.out, decide_eq_false (by omega)]; rfl
      clear HE
      go_enter Tryz.func24, Tryz.ntmps24
      go_wp2_with fail
      generalize (w.alloc (Obj.cells #[.int .i64 k, .int .i64 a, .slice p1 l.length c1] 26)) = X at *
      refine (HA.out _).mono ?_
      rintro e w1 ⟨rfl, b1⟩
      have t2 : w1.cell? ⟨w.heap.size, 2, none⟩ = some (.slice p1 l.length c1) := (HK.out.over b1).cell 2
      go_wp2_with fail
      go_ret
      exact ⟨ret_bool HR.out.symm, BE.out.trans (b1.mono BE.out.size)⟩
    · have hd : decide (64 < (l.length : Int)) = false := decide_eq_false (by omega)
      have HR : Hid (R = l.all fun x => ruleB x.r) := by show R = _; rw [HE.out, decide_eq_true (by omega)]; rfl
      clear HE
      go_enter Tryz.func24, Tryz.ntmps24
      go_wp2_with fail
      generalize (w.alloc (Obj.cells #[.int .i64 k, .int .i64 a, .slice p1 l.length c1] 26)) = X at *
      refine (HA.out _).mono ?_
      rintro e w1 ⟨rfl, b1⟩
      have t2 : w1.cell? ⟨w.heap.size, 2, none⟩ = some (.slice p1 l.length c1) := (HK.out.over b1).cell 2
      have K1 : Hid (Blk w1 w.heap.size 26 [.int .i64 k, .int .i64 a, .slice p1 l.length c1]) := HK.out.over b1
      have S1 : Hid (RlR w1 (.slice p1 l.length c1) l) := SN.out.below b1
      have B1 : Hid (Below w.heap.size w w1) := BE.out.trans (b1.mono BE.out.size)
      clear b1 BE SN HK HA
      go_wp2_with fail
      clear t2
      go_loopw [3] (fun vi wr => ∃ i : Nat, vi = .int .i64 i ∧ i ≤ l.length ∧ ((l.take i).all fun x => ruleB x.r) = true ∧ Below w1.heap.size w1 wr) (fun vi _ => l.length - (intOf vi).toNat)
      case atStart => exact ⟨0, rfl, Nat.zero_le _, rfl, Below.refl _ _⟩
      case round =>
        obtain ⟨i, rfl, hi, ht, hb⟩ := hrel
        have HT : Hid (((l.take i).all fun x => ruleB x.r) = true) := ht
        have HB : Hid (Below w1.heap.size w1 wr) := hb
        have t2 : wr.cell? ⟨w.heap.size, 2, none⟩ = some (.slice p1 l.length c1) := (K1.out.over hb).cell 2
        clear ht
        by_cases hlt : i < l.length
        · have hi1 : (i : Int) < (l.length : Int) := by omega
          obtain ⟨b1, o1, rfl, e1⟩ := rlR_at (S1.out.below hb) hlt
          have hmem : l[i] ∈ l := List.getElem_mem hlt
          have HSm : Hid (l[i].r.names.length ≤ 9000000 ∧ l[i].r.conds.length ≤ 9000000 ∧ ∀ s ∈ l[i].r.names, s.size ≤ 1000000) := HM.out.2 _ hmem
          have HSR : Hid (∀ W, Below w1.heap.size w1 W → StrR W l[i].vn l[i].r.names ∧ CdR W l[i].vc l[i].r.conds) := fun W hW => by
            obtain ⟨_, _, _, _, _, _, hr⟩ := S1.out.below hW
            exact hr _ hmem
          have HS : Hid (ruleB l[i].r = true → ((l.take (i + 1)).all fun x => ruleB x.r) = true) := fun hq => all_step (p := fun x => ruleB x.r) hlt hq HT.out
          have HF : Hid (ruleB l[i].r = false → R = false) := fun hq => HR.out.trans (all_stop (p := fun x => ruleB x.r) hlt hq)
          clear hmem HT S1
          generalize l[i] = x at *
          obtain ⟨⟨xk, xa, ns, cs⟩, vn, vc⟩ := x
          obtain ⟨q0, q1, q2, q3⟩ := e1
          dsimp only at q0 q1 q2 q3 HSm HSR
          obtain ⟨p3, c3, rfl⟩ : ∃ p c, vn = .slice p ns.length c := by obtain ⟨p, c, e, _⟩ := (HSR.out _ HB.out).1; exact ⟨p, c, e⟩
          obtain ⟨p4, c4, rfl⟩ : ∃ p c, vc = .slice p cs.length c := by obtain ⟨p, c, e, _⟩ := (HSR.out _ HB.out).2; exact ⟨p, c, e⟩
          have HX : Hid (∀ W, Calls Tryz.prog 39 #[.agg #[.int .i64 xk, .int .i64 xa]] W fun e w' => e = .returned (.bool (actB xk xa)) ∧ Below W.heap.size W w') := ractR_any xk xa
          have hn1 : ns.length ≤ 9000000 := HSm.out.1
          have hn2 : cs.length ≤ 9000000 := HSm.out.2.1
          have BX : Hid (Below w1.heap.size w1 (wr.alloc (Obj.cells #[.int .i64 xk, .int .i64 xa, .slice p3 ns.length c3, .slice p4 cs.length c4] 58))) := HB.out.alloc HB.out.size _
          have KX : Hid (Blk (wr.alloc (Obj.cells #[.int .i64 xk, .int .i64 xa, .slice p3 ns.length c3, .slice p4 cs.length c4] 58)) wr.heap.size 58 [.int .i64 xk, .int .i64 xa, .slice p3 ns.length c3, .slice p4 cs.length c4]) := blk_new wr _ _
          clear hb
          rcases Bool.eq_false_or_eq_true (actB xk xa) with hact | hact
          · rw [hact] at HX
            by_cases g1 : ns.length < 1
            · have HQ : Hid (ruleB ⟨xk, xa, ns, cs⟩ = false) := ruleB_no (.inl g1)
              have d1 : decide ((ns.length : Int) < 1) = true := decide_eq_true (by omega)
              go_wp2_with (go_at_call 39; refine (HX.out _).mono ?_; rintro e w2 ⟨rfl, b2⟩; have rr2 : w2.cell? ⟨wr.heap.size, 2, none⟩ = some (.slice p3 ns.length c3) := (KX.out.over b2).cell 2; have rr3 : w2.cell? ⟨wr.heap.size, 3, none⟩ = some (.slice p4 cs.length c4) := (KX.out.over b2).cell 3)
              go_ret
              exact ⟨ret_bool (HF.out HQ.out).symm, B1.out.trans ((BX.out.trans (b2.mono BX.out.size)).mono B1.out.size)⟩
            · have d1 : decide ((ns.length : Int) < 1) = false := decide_eq_false (by omega)
              by_cases g2 : 16 < ns.length
              · have HQ : Hid (ruleB ⟨xk, xa, ns, cs⟩ = false) := ruleB_no (.inr (.inl g2))
                have d2 : decide (16 < (ns.length : Int)) = true := decide_eq_true (by omega)
                go_wp2_with (go_at_call 39; refine (HX.out _).mono ?_; rintro e w2 ⟨rfl, b2⟩; have rr2 : w2.cell? ⟨wr.heap.size, 2, none⟩ = some (.slice p3 ns.length c3) := (KX.out.over b2).cell 2; have rr3 : w2.cell? ⟨wr.heap.size, 3, none⟩ = some (.slice p4 cs.length c4) := (KX.out.over b2).cell 3)
                go_ret
                exact ⟨ret_bool (HF.out HQ.out).symm, B1.out.trans ((BX.out.trans (b2.mono BX.out.size)).mono B1.out.size)⟩
              · have d2 : decide (16 < (ns.length : Int)) = false := decide_eq_false (by omega)
                by_cases g3 : 8 < cs.length
                · have HQ : Hid (ruleB ⟨xk, xa, ns, cs⟩ = false) := ruleB_no (.inr (.inr g3))
                  have d3 : decide (8 < (cs.length : Int)) = true := decide_eq_true (by omega)
                  go_wp2_with (go_at_call 39; refine (HX.out _).mono ?_; rintro e w2 ⟨rfl, b2⟩; have rr2 : w2.cell? ⟨wr.heap.size, 2, none⟩ = some (.slice p3 ns.length c3) := (KX.out.over b2).cell 2; have rr3 : w2.cell? ⟨wr.heap.size, 3, none⟩ = some (.slice p4 cs.length c4) := (KX.out.over b2).cell 3)
                  go_ret
                  exact ⟨ret_bool (HF.out HQ.out).symm, B1.out.trans ((BX.out.trans (b2.mono BX.out.size)).mono B1.out.size)⟩
                · have d3 : decide (8 < (cs.length : Int)) = false := decide_eq_false (by omega)
                  have HQ : Hid (ruleB ⟨xk, xa, ns, cs⟩ = (ns.all (fun s => isWd (lst s)) && cs.all condB)) := ruleB_parts (x := ⟨xk, xa, ns, cs⟩) g1 g2 g3 hact
                  go_wp2_with (go_at_call 39; refine (HX.out _).mono ?_; rintro e w2 ⟨rfl, b2⟩; have rr2 : w2.cell? ⟨wr.heap.size, 2, none⟩ = some (.slice p3 ns.length c3) := (KX.out.over b2).cell 2; have rr3 : w2.cell? ⟨wr.heap.size, 3, none⟩ = some (.slice p4 cs.length c4) := (KX.out.over b2).cell 3)
                  have BY : Hid (Below w1.heap.size w1 w2) := BX.out.trans (b2.mono BX.out.size)
                  have KY : Hid (Blk w2 wr.heap.size 58 [.int .i64 xk, .int .i64 xa, .slice p3 ns.length c3, .slice p4 cs.length c4]) := KX.out.over b2
                  clear b2 BX KX t2 q0 q1 q2 q3 rr3
                  go_loop [5] (fun vj => ∃ j : Nat, vj = .int .i64 j ∧ j ≤ ns.length ∧ ((ns.take j).all fun s => isWd (lst s)) = true) (fun vj => ns.length - (intOf vj).toNat)
                  case atStart => exact ⟨0, rfl, Nat.zero_le _, rfl⟩
                  case round =>
                    obtain ⟨j, rfl, hj, hall⟩ := hrel
                    have HT2 : Hid (((ns.take j).all fun s => isWd (lst s)) = true) := hall
                    clear hall
                    by_cases hlt2 : j < ns.length
                    · have hj1 : (j : Int) < (ns.length : Int) := by omega
                      obtain ⟨b3, o3, rfl, e3⟩ := strR_at (HSR.out _ BY.out).1 hlt2
                      have HI : Hid (∀ W, Calls Tryz.prog 40 #[.string ns[j]] W fun e w' => e = .returned (.bool (isWd (lst ns[j]))) ∧ w' = W) := fun W => ris_any _ W (HSm.out.2.2 _ (List.getElem_mem hlt2))
                      have HS2 : Hid (isWd (lst ns[j]) = true → ((ns.take (j + 1)).all fun s => isWd (lst s)) = true) := fun hq => all_step (p := fun s => isWd (lst s)) hlt2 hq HT2.out
                      have HF2 : Hid (isWd (lst ns[j]) = false → R = false) := fun hq => HF.out (by rw [HQ.out, all_stop (p := fun s => isWd (lst s)) hlt2 hq]; rfl)
                      clear HT2
                      generalize isWd (lst ns[j]) = q at *
                      generalize ns[j] = s at *
                      cases q with
                      | true =>
                        go_wp2_with (go_at_call 40; refine (HI.out _).mono ?_; rintro e w3 ⟨rfl, rfl⟩)
                        go_round
                        case rel => exact ⟨j + 1, by go_num, hlt2, HS2.out trivial⟩
                        case measure => simp [intOf]; omega
                      | false =>
                        go_wp2_with (go_at_call 40; refine (HI.out _).mono ?_; rintro e w3 ⟨rfl, rfl⟩)
                        go_ret
                        exact ⟨ret_bool (HF2.out trivial).symm, B1.out.trans (BY.out.mono B1.out.size)⟩
                    · have hge2 : ¬ (j : Int) < (ns.length : Int) := by omega
                      have HQ2 : Hid (ruleB ⟨xk, xa, ns, cs⟩ = cs.all condB) := by
                        show ruleB ⟨xk, xa, ns, cs⟩ = _
                        rw [HQ.out, all_end hlt2 HT2.out, Bool.true_and]
                      clear HT2 HQ
                      go_wp2
                      clear rr2
                      generalize wr.heap.size = NB at *
                      go_loopw [6] (fun vj wz => ∃ m : Nat, vj = .int .i64 m ∧ m ≤ cs.length ∧ (cs.take m).all condB = true ∧ Below w2.heap.size w2 wz) (fun vj _ => cs.length - (intOf vj).toNat)
                      case atStart => exact ⟨0, rfl, Nat.zero_le _, rfl, Below.refl _ _⟩
                      case round =>
                        obtain ⟨m, rfl, hm, hall, hbz⟩ := hrel
                        have HT3 : Hid ((cs.take m).all condB = true) := hall
                        have HBZ : Hid (Below w2.heap.size w2 wr) := hbz
                        have BZ : Hid (Below w1.heap.size w1 wr) := BY.out.trans (hbz.mono BY.out.size)
                        have rr3 : wr.cell? ⟨NB, 3, none⟩ = some (.slice p4 cs.length c4) := (KY.out.over hbz).cell 3
                        clear hall hbz
                        by_cases hlt3 : m < cs.length
                        · have hm1 : (m : Int) < (cs.length : Int) := by omega
                          obtain ⟨b4, o4, rfl, e4⟩ := cdR_at (HSR.out _ BZ.out).2 hlt3
                          have HC : Hid (∀ W, Calls Tryz.prog 41 #[.agg #[.int .i64 cs[m].arg, .int .i64 cs[m].op, .int .u64 cs[m].mask, .int .u64 cs[m].val]] W fun e w' => e = .returned (.bool (condB cs[m])) ∧ Below W.heap.size W w') := rcondX _
                          have HS3 : Hid (condB cs[m] = true → (cs.take (m + 1)).all condB = true) := fun hq => all_step (p := condB) hlt3 hq HT3.out
                          have HF3 : Hid (condB cs[m] = false → R = false) := fun hq => HF.out (by rw [HQ2.out, all_stop (p := condB) hlt3 hq])
                          clear HT3
                          generalize condB cs[m] = q at *
                          generalize cs[m] = y at *
                          obtain ⟨ya, yo, ym, yv⟩ := y
                          obtain ⟨z0, z1, z2, z3⟩ := e4
                          dsimp only at z0 z1 z2 z3 HC
                          cases q with
                          | true =>
                            go_wp2_with (go_at_call 41; refine (HC.out _).mono ?_; rintro e w3 ⟨rfl, b3⟩)
                            go_roundw
                            case rel => exact ⟨m + 1, by go_num, hlt3, HS3.out trivial, HBZ.out.trans (b3.mono HBZ.out.size)⟩
                            case measure => simp [intOf]; omega
                          | false =>
                            go_wp2_with (go_at_call 41; refine (HC.out _).mono ?_; rintro e w3 ⟨rfl, b3⟩)
                            go_ret
                            exact ⟨ret_bool (HF3.out trivial).symm, B1.out.trans ((BZ.out.trans (b3.mono BZ.out.size)).mono B1.out.size)⟩
                        · have hge3 : ¬ (m : Int) < (cs.length : Int) := by omega
                          have HS4 : Hid (((l.take (i + 1)).all fun x => ruleB x.r) = true) := HS.out (by rw [HQ2.out]; exact all_end hlt3 HT3.out)
                          clear HT3
                          go_wp2
                          go_roundw
                          case rel => exact ⟨i + 1, by go_num, hlt, HS4.out, BZ.out⟩
                          case measure => simp [intOf]; omega
          · rw [hact] at HX
            have HQ : Hid (ruleB ⟨xk, xa, ns, cs⟩ = false) := ruleB_act hact
            go_wp2_with (go_at_call 39; refine (HX.out _).mono ?_; rintro e w2 ⟨rfl, b2⟩)
            go_ret
            exact ⟨ret_bool (HF.out HQ.out).symm, B1.out.trans ((BX.out.trans (b2.mono BX.out.size)).mono B1.out.size)⟩
        · have hge : ¬ (i : Int) < (l.length : Int) := by omega
          clear hb
          go_wp2
          go_ret
          exact ⟨ret_bool (by rw [HR.out]; exact (all_end hlt HT.out).symm), B1.out.trans (HB.out.mono B1.out.size)⟩

end Go.Proofs.YtpojlfenmanehaaGreat.M

namespace Go.Proofs.YtpojlfenmanehaaGreat.M
open Go.RowKit

theorem wrongN_unk {l : List ByteArray} {i : Nat} (h : i < l.length) (hk : knB l[i] = false) : wrongN l = 8 := by
  unfold wrongN
  rw [if_pos]
  rw [List.any_eq_true]
  exact ⟨l[i], List.getElem_mem h, by rw [hk]; rfl⟩
theorem wrongN_twice {l : List ByteArray} {i : Nat} (hu : (l.any fun s => !knB s) = false) (h : i < l.length) (ht : twAt l i = true) : wrongN l = 9 := by
  unfold wrongN
  rw [hu, if_neg (by decide), if_pos (twB_hit h ht)]
theorem wrongN_ok {l : List ByteArray} (hu : (l.any fun s => !knB s) = false) (h : ∀ i, i < l.length → twAt l i = false) : wrongN l = 0 := by
  unfold wrongN
  rw [hu, if_neg (by decide), twB_none h, if_neg (by decide)]

set_option maxRecDepth 8000 in
set_option maxHeartbeats 4000000 in
theorem rcheck_any (w : World) (k a : Int) (v : Value) (l : List Xr) (h : RlR w v l) (hs : Sml l) :
    Calls Tryz.prog 12 #[.agg #[.int .i64 k, .int .i64 a, v]] w fun e w' => e = .returned (.tuple #[.int .i64 (checkP k a (l.map Xr.r)).1, .int .i64 (checkP k a (l.map Xr.r)).2]) ∧ Below w.heap.size w w' := by
  obtain ⟨p1, c1, rfl⟩ : ∃ p c, v = .slice p l.length c := by obtain ⟨p, c, e, _⟩ := h; exact ⟨p, c, e⟩
  have hl : l.length ≤ 1000 := hs.1
  have be : Below w.heap.size w (w.alloc (Obj.cells #[.int .i64 k, .int .i64 a, .slice p1 l.length c1] 26)) := (Below.refl _ _).alloc (Nat.le_refl _) _
  have BE : Hid (Below w.heap.size w (w.alloc (Obj.cells #[.int .i64 k, .int .i64 a, .slice p1 l.length c1] 26))) := be
  have HK : Hid (Blk (w.alloc (Obj.cells #[.int .i64 k, .int .i64 a, .slice p1 l.length c1] 26)) w.heap.size 26 [.int .i64 k, .int .i64 a, .slice p1 l.length c1]) := blk_new w _ _
  have SN : Hid (RlR (w.alloc (Obj.cells #[.int .i64 k, .int .i64 a, .slice p1 l.length c1] 26)) (.slice p1 l.length c1) l) := h.below be
  have HA : Hid (∀ W, RlR W (.slice p1 l.length c1) l → Calls Tryz.prog 24 #[.agg #[.int .i64 k, .int .i64 a, .slice p1 l.length c1]] W fun e w' => e = .returned (.bool (rulesB k a (l.map Xr.r))) ∧ Below W.heap.size W w') := fun W h => rright_any W k a _ l h hs
  have HE : Hid (checkP k a (l.map Xr.r) = if rulesB k a (l.map Xr.r) = true then wrongFrom 0 ((l.drop 0).map Xr.r) else (1, -1)) := rfl
  have HM : Hid (Sml l) := hs
  clear h be hs
  generalize checkP k a (l.map Xr.r) = R at *
  generalize rulesB k a (l.map Xr.r) = RB at *
  cases RB with
  | false =>
    go_enter Tryz.func12, Tryz.ntmps12
    go_wp2_with fail
    generalize (w.alloc (Obj.cells #[.int .i64 k, .int .i64 a, .slice p1 l.length c1] 26)) = X at *
    refine (HA.out _ SN.out).mono ?_
    rintro e w1 ⟨rfl, b1⟩
    go_wp2_with fail
    go_ret2
    exact ⟨ret_ints (by rw [HE.out]; rfl) (by rw [HE.out]; rfl), BE.out.trans (b1.mono BE.out.size)⟩
  | true =>
    go_enter Tryz.func12, Tryz.ntmps12
    go_wp2_with fail
    generalize (w.alloc (Obj.cells #[.int .i64 k, .int .i64 a, .slice p1 l.length c1] 26)) = X at *
    refine (HA.out _ SN.out).mono ?_
    rintro e w1 ⟨rfl, b1⟩
    have K1 : Hid (Blk w1 w.heap.size 26 [.int .i64 k, .int .i64 a, .slice p1 l.length c1]) := HK.out.over b1
    have S1 : Hid (RlR w1 (.slice p1 l.length c1) l) := SN.out.below b1
    have B1 : Hid (Below w.heap.size w w1) := BE.out.trans (b1.mono BE.out.size)
    have HE2 : Hid (R = wrongFrom 0 ((l.drop 0).map Xr.r)) := HE.out.trans (if_pos trivial)
    clear b1 BE HE SN HA HK
    go_wp2_with fail
    go_loopw [4] (fun vi wr => ∃ i : Nat, vi = .int .i64 i ∧ i ≤ l.length ∧ R = wrongFrom i ((l.drop i).map Xr.r) ∧ Below w1.heap.size w1 wr) (fun vi _ => l.length - (intOf vi).toNat)
    case atStart => exact ⟨0, rfl, Nat.zero_le _, HE2.out, Below.refl _ _⟩
    case round =>
      obtain ⟨i, rfl, hi, ht, hb⟩ := hrel
      have HT : Hid (R = wrongFrom i ((l.drop i).map Xr.r)) := ht
      have HB : Hid (Below w1.heap.size w1 wr) := hb
      have t2 : wr.cell? ⟨w.heap.size, 2, none⟩ = some (.slice p1 l.length c1) := (K1.out.over hb).cell 2
      clear ht
      by_cases hlt : i < l.length
      · have hi1 : (i : Int) < (l.length : Int) := by omega
        obtain ⟨b1, o1, rfl, e1⟩ := rlR_at (S1.out.below hb) hlt
        have hmem : l[i] ∈ l := List.getElem_mem hlt
        have HSm : Hid (l[i].r.names.length ≤ 9000000) := (HM.out.2 _ hmem).1
        have HSR : Hid (∀ W, Below w1.heap.size w1 W → StrR W l[i].vn l[i].r.names) := fun W hW => by
          obtain ⟨_, _, _, _, _, _, hr⟩ := S1.out.below hW
          exact (hr _ hmem).1
        have HS : Hid (R = if wrongN l[i].r.names = 0 then wrongFrom (i + 1) ((l.drop (i + 1)).map Xr.r) else (wrongN l[i].r.names, (i : Int))) := HT.out.trans (wrongFrom_step hlt)
        clear hmem HT S1 HM
        generalize l[i] = x at *
        obtain ⟨⟨xk, xa, ns, cs⟩, vn, vc⟩ := x
        obtain ⟨q0, q1, q2, q3⟩ := e1
        dsimp only at q0 q1 q2 q3 HSm HSR HS
        obtain ⟨p3, c3, rfl⟩ : ∃ p c, vn = .slice p ns.length c := by obtain ⟨p, c, e, _⟩ := (HSR.out _ HB.out); exact ⟨p, c, e⟩
        have hn1 : ns.length ≤ 9000000 := HSm.out
        have HU8 : Hid (∀ j (hj : j < ns.length), knB ns[j] = false → R = (8, (i : Int))) := fun j hj hq => by rw [HS.out, wrongN_unk hj hq]; rfl
        have HT9 : Hid (∀ j, (ns.any fun s => !knB s) = false → j < ns.length → twAt ns j = true → R = (9, (i : Int))) := fun j hu hj hq => by rw [HS.out, wrongN_twice hu hj hq]; rfl
        have HOK : Hid ((ns.any fun s => !knB s) = false → (∀ j, j < ns.length → twAt ns j = false) → R = wrongFrom (i + 1) ((l.drop (i + 1)).map Xr.r)) := fun hu hj => by rw [HS.out, wrongN_ok hu hj]; rfl
        clear hb HS HSm
        go_wp2_with fail
        clear t2 q0 q1 q2 q3
        have HBa : Hid (Below w1.heap.size w1 wr) := HB.out
        clear HB
        go_loopw [6] (fun vj wz => ∃ j : Nat, vj = .int .i64 j ∧ j ≤ ns.length ∧ ((ns.take j).any fun s => !knB s) = false ∧ Below w1.heap.size w1 wz) (fun vj _ => ns.length - (intOf vj).toNat)
        case atStart => exact ⟨0, rfl, Nat.zero_le _, rfl, HBa.out⟩
        case round =>
          obtain ⟨j, rfl, hj, hall, hbz⟩ := hrel
          have HT2 : Hid (((ns.take j).any fun s => !knB s) = false) := hall
          have HBZ : Hid (Below w1.heap.size w1 wr) := hbz
          clear hall
          by_cases hlt2 : j < ns.length
          · have hj1 : (j : Int) < (ns.length : Int) := by omega
            obtain ⟨b3, o3, rfl, e3⟩ := strR_at (HSR.out _ hbz) hlt2
            have HI : Hid (∀ W, Calls Tryz.prog 25 #[.string ns[j]] W fun e w' => e = .returned (.tuple #[.int .u32 (nrI ns[j]), .bool (knB ns[j])]) ∧ Below W.heap.size W w') := refNr_any _
            have HS2 : Hid (knB ns[j] = true → ((ns.take (j + 1)).any fun s => !knB s) = false) := fun hq => any_step (p := fun s => !knB s) hlt2 (by rw [hq]; rfl) HT2.out
            have HF2 : Hid (knB ns[j] = false → R = (8, (i : Int))) := HU8.out j hlt2
            clear HT2 hbz HU8
            generalize knB ns[j] = q at *
            generalize nrI ns[j] = z at *
            generalize ns[j] = s at *
            cases q with
            | true =>
              go_wp2_with (go_at_call 25; refine (HI.out _).mono ?_; rintro e w3 ⟨rfl, b3⟩)
              go_roundw
              case rel => exact ⟨j + 1, by go_num, hlt2, HS2.out trivial, HBZ.out.trans (b3.mono HBZ.out.size)⟩
              case measure => simp [intOf]; omega
            | false =>
              have HF3 : Hid (R = (8, (i : Int))) := HF2.out rfl
              go_wp2_with (go_at_call 25; refine (HI.out _).mono ?_; rintro e w3 ⟨rfl, b3⟩)
              go_ret2
              exact ⟨ret_ints (by rw [HF3.out]) (by rw [HF3.out]), B1.out.trans ((HBZ.out.trans (b3.mono HBZ.out.size)).mono B1.out.size)⟩
          · have hge2 : ¬ (j : Int) < (ns.length : Int) := by omega
            have HU : Hid ((ns.any fun s => !knB s) = false) := any_end hlt2 HT2.out
            clear HT2 hbz HU8
            go_wp2_with fail
            have HBb : Hid (Below w1.heap.size w1 wr) := HBZ.out
            clear HBZ
            go_loopw [9] (fun vj wz => ∃ m : Nat, vj = .int .i64 m ∧ m ≤ ns.length ∧ (∀ t, t < m → twAt ns t = false) ∧ Below w1.heap.size w1 wz) (fun vj _ => ns.length - (intOf vj).toNat)
            case atStart => exact ⟨0, rfl, Nat.zero_le _, fun t ht => absurd ht (Nat.not_lt_zero _), HBb.out⟩
            case round =>
              obtain ⟨m, rfl, hm, hall, hbz⟩ := hrel
              have HT3 : Hid (∀ t, t < m → twAt ns t = false) := hall
              have HBZ : Hid (Below w1.heap.size w1 wr) := hbz
              clear hall hbz
              by_cases hlt3 : m < ns.length
              · have hm1 : (m : Int) < (ns.length : Int) := by omega
                have HS3 : Hid (twAt ns m = false → ∀ t, t < m + 1 → twAt ns t = false) := fun hq t ht => by
                  rcases Nat.lt_or_ge t m with h | h
                  · exact HT3.out t h
                  · obtain rfl : t = m := by omega
                    exact hq
                have HF3 : Hid (twAt ns m = true → R = (9, (i : Int))) := HT9.out m HU.out hlt3
                have HTW : Hid (twAt ns m = (ns.take m).any fun s => eqS ns[m] s) := twAt_eq hlt3
                clear HT3
                go_wp2_with fail
                have HBc : Hid (Below w1.heap.size w1 wr) := HBZ.out
                clear HBZ
                go_loopw [10] (fun vj wz => ∃ t : Nat, vj = .int .i64 t ∧ t ≤ m ∧ ((ns.take t).any fun s => eqS ns[m] s) = false ∧ Below w1.heap.size w1 wz) (fun vj _ => m - (intOf vj).toNat)
                case atStart => exact ⟨0, rfl, Nat.zero_le _, rfl, HBc.out⟩
                case round =>
                  obtain ⟨t, rfl, htm, hall, hbz⟩ := hrel
                  have HT4 : Hid (((ns.take t).any fun s => eqS ns[m] s) = false) := hall
                  have HBZ : Hid (Below w1.heap.size w1 wr) := hbz
                  clear hall
                  by_cases hlt4 : t < m
                  · have ht1 : (t : Int) < (m : Int) := by omega
                    have htn : t < ns.length := by omega
                    have ht2 : (t : Int) < (ns.length : Int) := by omega
                    obtain ⟨b3, o3, e0, e3⟩ := strR_at (HSR.out _ hbz) hlt3
                    subst e0
                    obtain ⟨b4, o4, e0, e4⟩ := strR_at (HSR.out _ hbz) htn
                    cases e0
                    have HS4 : Hid (eqS ns[m] ns[t] = false → ((ns.take (t + 1)).any fun s => eqS ns[m] s) = false) := fun hq => any_step (p := fun s => eqS ns[m] s) htn hq HT4.out
                    have HF4 : Hid (eqS ns[m] ns[t] = true → R = (9, (i : Int))) := fun hq => HF3.out (by
                      rw [HTW.out, List.any_eq_true]
                      exact ⟨ns[t], by rw [List.mem_take_iff_getElem]; exact ⟨t, by omega, rfl⟩, hq⟩)
                    have HBd : Hid (∀ n, Below w1.heap.size w1 (wr.drewN n)) := fun n => hbz.trans ((below_drewN wr n).mono hbz.size)
                    clear hbz HT4 HTW HF3 HS3
                    generalize hsm : ns[m] = s1 at *
                    generalize hst : ns[t] = s2 at *
                    clear hsm hst
                    rcases Bool.eq_false_or_eq_true (eqS s1 s2) with hq | hq
                    · have hq' : (s1.toList == s2.toList) = true := (eqS_to _ _).trans hq
                      have HF5 : Hid (R = (9, (i : Int))) := HF4.out hq
                      go_wp2_with fail
                      go_quiet (fail)
                      go_wp2_with fail
                      go_ret2
                      exact ⟨ret_ints (by rw [HF5.out]) (by rw [HF5.out]), B1.out.trans ((HBd.out _).mono B1.out.size)⟩
                    · have hq' : (s1.toList == s2.toList) = false := (eqS_to _ _).trans hq
                      go_wp2_with fail
                      go_quiet (fail)
                      go_wp2_with fail
                      go_roundw
                      case rel => exact ⟨t + 1, by go_num, hlt4, HS4.out hq, HBd.out _⟩
                      case measure => simp [intOf]; omega
                  · have hge4 : ¬ (t : Int) < (m : Int) := by omega
                    have HS5 : Hid (∀ t, t < m + 1 → twAt ns t = false) := HS3.out (by rw [HTW.out]; obtain rfl : t = m := (by omega); exact HT4.out)
                    clear hbz
                    go_wp2_with fail
                    go_roundw
                    case rel => exact ⟨m + 1, by go_num, hlt3, HS5.out, HBZ.out⟩
                    case measure => simp [intOf]; omega
              · have hge3 : ¬ (m : Int) < (ns.length : Int) := by omega
                have HO : Hid (R = wrongFrom (i + 1) ((l.drop (i + 1)).map Xr.r)) := HOK.out HU.out fun t ht => HT3.out t (by omega)
                go_wp2_with fail
                go_roundw
                case rel => exact ⟨i + 1, by go_num, hlt, HO.out, HBZ.out⟩
                case measure => simp [intOf]; omega
      · have hge : ¬ (i : Int) < (l.length : Int) := by omega
        have HS2 : Hid (R = (0, -1)) := HT.out.trans (wrongFrom_end hlt)
        clear hb
        go_wp2
        go_ret2
        exact ⟨ret_ints (by rw [HS2.out]) (by rw [HS2.out]), B1.out.trans (HB.out.mono B1.out.size)⟩

end Go.Proofs.YtpojlfenmanehaaGreat.M

namespace Go.Proofs.YtpojlfenmanehaaGreat.M
open Go.RowKit

/-- does a rule speak of a call, by numbers? -/
def namedN (z : Int) (l : List ByteArray) : Bool := l.any fun s => knB s && (nrI s == z)

theorem named_eq (z : Int) (l : List ByteArray) : (isNr z && namedB z l) = namedN z l := by
  unfold namedB namedN
  induction l with
  | nil => simp
  | cons x l ih =>
    rw [List.any_cons, List.any_cons, ← ih, ← spk]
    cases isNr z <;> simp

def meetN (d : Da) (x : Xl) : Bool := namedN d.n x.names && x.conds.all (hB d)

/-- the act of the first rule that does, by numbers. -/
def verdN (d : Da) (k a : Int) : List Xl → Int × Int
  | [] => (k, a)
  | x :: r => if meetN d x = true then (x.k, x.a) else verdN d k a r

theorem verd_eq (d : Da) (k a : Int) (l : List Xl) : verdP d k a l = verdN d k a l := by
  unfold verdP
  cases h : isNr d.n with
  | true =>
    rw [if_pos rfl]
    induction l with
    | nil => rfl
    | cons x l ih =>
      have : meetB d x = meetN d x := by
        unfold meetB meetN
        rw [← named_eq, h, Bool.true_and]
      unfold verdF verdN
      rw [this, ih]
  | false =>
    rw [if_neg (by decide)]
    induction l with
    | nil => rfl
    | cons x l ih =>
      have : meetN d x = false := by
        unfold meetN
        rw [← named_eq, h, Bool.false_and, Bool.false_and]
      unfold verdN
      rw [this, if_neg (by decide)]
      exact ih

theorem verdN_step {d : Da} {k a : Int} {l : List Xr} {i : Nat} (h : i < l.length) : verdN d k a ((l.drop i).map Xr.r) = if meetN d l[i].r = true then (l[i].r.k, l[i].r.a) else verdN d k a ((l.drop (i + 1)).map Xr.r) := by
  rw [List.drop_eq_getElem_cons h]
  rfl
theorem verdN_end {d : Da} {k a : Int} {l : List Xr} {i : Nat} (h : ¬ i < l.length) : verdN d k a ((l.drop i).map Xr.r) = (k, a) := by
  rw [List.drop_eq_nil_of_le (by omega)]
  rfl

theorem rholdsX (x : Xc) (d : Da) (w : World) (hd : d.ok) : Calls Tryz.prog 90 #[.agg #[.int .i64 x.arg, .int .i64 x.op, .int .u64 x.mask, .int .u64 x.val], .agg d.cells.toArray] w fun e w' => e = .returned (.bool (hB d x)) ∧ Below w.heap.size w w' :=
  refHolds_any x.arg x.op x.mask x.val d w hd

theorem anyN_step {z : Int} {l : List ByteArray} {i : Nat} (h : i < l.length) : namedN z (l.take (i + 1)) = (namedN z (l.take i) || (knB l[i] && (nrI l[i] == z))) := by
  unfold namedN
  rw [List.take_succ_eq_append_getElem h, List.any_append]
  simp
theorem allH_step {d : Da} {l : List Xc} {i : Nat} (h : i < l.length) : (l.take (i + 1)).all (hB d) = ((l.take i).all (hB d) && hB d l[i]) := by
  rw [List.take_succ_eq_append_getElem h, List.all_append]
  simp

theorem nine_of (d : Da) (h : d.ok) : ∃ d1 d2 d3 d4 d5 d6 d7 d8, d.cells = [.int .u32 d.n, d1, d2, d3, d4, d5, d6, d7, d8] := by
  obtain ⟨n, a, p, g⟩ := d
  obtain ⟨_, _, _, h6, _⟩ := h
  match g, h6 with
  | [g0, g1, g2, g3, g4, g5], _ => exact ⟨_, _, _, _, _, _, _, _, rfl⟩

/-- a rule that is walked through, and a call, in blocks of their own. -/
theorem two_rd (w : World) (C : Array Value) (A : List Value) : Blk ((w.alloc (Obj.cells C 58)).alloc (Obj.cells A.toArray 41)) w.heap.size 58 C.toList ∧ Blk ((w.alloc (Obj.cells C 58)).alloc (Obj.cells A.toArray 41)) (w.heap.size + 1) 41 A ∧ Below w.heap.size w ((w.alloc (Obj.cells C 58)).alloc (Obj.cells A.toArray 41)) :=
  ⟨(blk_new w _ 58).alloc _, blk_new' w _ _ 41, room_below w _ _⟩

set_option maxRecDepth 8000 in
set_option maxHeartbeats 4000000 in
set_option linter.unusedSimpArgs false in
theorem rmeets_any (w : World) (x : Xr) (d : Da) (hn : StrR w x.vn x.r.names) (hc : CdR w x.vc x.r.conds) (h1 : x.r.names.length ≤ 9000000) (h2 : x.r.conds.length ≤ 9000000) (hd : d.ok) :
    Calls Tryz.prog 53 #[.agg #[.int .i64 x.r.k, .int .i64 x.r.a, x.vn, x.vc], .agg d.cells.toArray] w fun e w' => e = .returned (.bool (meetN d x.r)) ∧ Below w.heap.size w w' := by
  obtain ⟨⟨k, a, ns, cs⟩, vn, vc⟩ := x
  dsimp only at hn hc h1 h2 ⊢
  obtain ⟨p1, c1, rfl⟩ : ∃ p c, vn = .slice p ns.length c := by obtain ⟨p, c, e, _⟩ := hn; exact ⟨p, c, e⟩
  obtain ⟨p2, c2, rfl⟩ : ∃ p c, vc = .slice p cs.length c := by obtain ⟨p, c, e, _⟩ := hc; exact ⟨p, c, e⟩
  have hsz : (Tryz.prog.info? 41).map (·.size) = some d.cells.toArray.size := d.size hd
  have HH : Hid (∀ (x : Xc) W, Calls Tryz.prog 90 #[.agg #[.int .i64 x.arg, .int .i64 x.op, .int .u64 x.mask, .int .u64 x.val], .agg d.cells.toArray] W fun e w' => e = .returned (.bool (hB d x)) ∧ Below W.heap.size W w') := fun x W => rholdsX x d W hd
  have HE : Hid (meetN d ⟨k, a, ns, cs⟩ = (namedN d.n ns && cs.all (hB d))) := rfl
  have h3 := two_rd w #[.int .i64 k, .int .i64 a, .slice p1 ns.length c1, .slice p2 cs.length c2] d.cells
  obtain ⟨d1v, d2v, d3v, d4v, d5v, d6v, d7v, d8v, hAA⟩ := nine_of d hd
  rw [hAA] at hsz HH h3 ⊢
  generalize hd0 : Value.int .u32 d.n = d0v at *
  have HD0 : Hid (Value.int .u32 d.n = d0v) := hd0
  clear hd0 hAA
  have BE : Hid (Below w.heap.size w ((w.alloc (Obj.cells #[.int .i64 k, .int .i64 a, .slice p1 ns.length c1, .slice p2 cs.length c2] 58)).alloc (Obj.cells #[d0v, d1v, d2v, d3v, d4v, d5v, d6v, d7v, d8v] 41))) := h3.2.2
  have KD : Hid (Blk ((w.alloc (Obj.cells #[.int .i64 k, .int .i64 a, .slice p1 ns.length c1, .slice p2 cs.length c2] 58)).alloc (Obj.cells #[d0v, d1v, d2v, d3v, d4v, d5v, d6v, d7v, d8v] 41)) (w.heap.size + 1) 41 [d0v, d1v, d2v, d3v, d4v, d5v, d6v, d7v, d8v]) := h3.2.1
  have KR : Hid (Blk ((w.alloc (Obj.cells #[.int .i64 k, .int .i64 a, .slice p1 ns.length c1, .slice p2 cs.length c2] 58)).alloc (Obj.cells #[d0v, d1v, d2v, d3v, d4v, d5v, d6v, d7v, d8v] 41)) w.heap.size 58 [.int .i64 k, .int .i64 a, .slice p1 ns.length c1, .slice p2 cs.length c2]) := h3.1
  have SN : Hid (StrR ((w.alloc (Obj.cells #[.int .i64 k, .int .i64 a, .slice p1 ns.length c1, .slice p2 cs.length c2] 58)).alloc (Obj.cells #[d0v, d1v, d2v, d3v, d4v, d5v, d6v, d7v, d8v] 41)) (.slice p1 ns.length c1) ns) := hn.below h3.2.2
  have SC : Hid (CdR ((w.alloc (Obj.cells #[.int .i64 k, .int .i64 a, .slice p1 ns.length c1, .slice p2 cs.length c2] 58)).alloc (Obj.cells #[d0v, d1v, d2v, d3v, d4v, d5v, d6v, d7v, d8v] 41)) (.slice p2 cs.length c2) cs) := hc.below h3.2.2
  clear hn hc hd h3
  generalize meetN d ⟨k, a, ns, cs⟩ = R at *
  go_enter Tryz.func53, Tryz.ntmps53
  go_wp2_with fail
  generalize ((w.alloc (Obj.cells #[.int .i64 k, .int .i64 a, .slice p1 ns.length c1, .slice p2 cs.length c2] 58)).alloc (Obj.cells #[d0v, d1v, d2v, d3v, d4v, d5v, d6v, d7v, d8v] 41)) = X at *
  go_loopw [5, 6] (fun vb vi wr => ∃ i : Nat, vi = .int .i64 i ∧ i ≤ ns.length ∧ vb = .bool (namedN d.n (ns.take i)) ∧ Below X.heap.size X wr) (fun _ vi _ => ns.length - (intOf vi).toNat)
  case atStart => exact ⟨0, rfl, Nat.zero_le _, rfl, Below.refl _ _⟩
  case round =>
    obtain ⟨i, rfl, hi, rfl, hb⟩ := hrel
    have HB : Hid (Below X.heap.size X wr) := hb
    have t2 : wr.cell? ⟨w.heap.size, 2, none⟩ = some (.slice p1 ns.length c1) := (KR.out.over hb).cell 2
    by_cases hlt : i < ns.length
    · have hi1 : (i : Int) < (ns.length : Int) := by omega
      obtain ⟨b1, o1, rfl, e1⟩ := strR_at (SN.out.below hb) hlt
      have HI : Hid (∀ W, Calls Tryz.prog 25 #[.string ns[i]] W fun e w' => e = .returned (.tuple #[.int .u32 (nrI ns[i]), .bool (knB ns[i])]) ∧ Below W.heap.size W w') := refNr_any _
      have HS : Hid (namedN d.n (ns.take (i + 1)) = (namedN d.n (ns.take i) || (knB ns[i] && (nrI ns[i] == d.n)))) := anyN_step hlt
      clear hb
      generalize namedN d.n (ns.take i) = q0 at *
      generalize knB ns[i] = q at *
      generalize nrI ns[i] = z at *
      generalize ns[i] = s at *
      generalize d.n = dn at *
      cases q with
      | false =>
        have HS2 : Hid (q0 = namedN dn (ns.take (i + 1))) := by show _ = _; rw [HS.out]; simp
        go_wp2_with (go_at_call 25; refine (HI.out _).mono ?_; rintro e w1 ⟨rfl, b1⟩)
        go_roundw
        case rel => exact ⟨i + 1, by go_num, hlt, by rw [HS2.out], HB.out.trans (b1.mono HB.out.size)⟩
        case measure => simp [intOf]; omega
      | true =>
        rcases Bool.eq_false_or_eq_true (z == dn) with hz | hz
        · have HS2 : Hid (namedN dn (ns.take (i + 1)) = true) := by show _ = _; rw [HS.out, hz]; simp
          go_wp2_with (go_at_call 25; refine (HI.out _).mono ?_; rintro e w1 ⟨rfl, b1⟩; have t3 : w1.cell? ⟨w.heap.size + 1, 0, none⟩ = some (.int .u32 dn) := ((KD.out.over (HB.out.trans (b1.mono HB.out.size))).cell 0).trans (by rw [← HD0.out]; rfl))
          go_roundw
          case rel => exact ⟨i + 1, by go_num, hlt, by rw [HS2.out], HB.out.trans (b1.mono HB.out.size)⟩
          case measure => simp [intOf]; omega
        · have HS2 : Hid (q0 = namedN dn (ns.take (i + 1))) := by show _ = _; rw [HS.out, hz]; simp
          go_wp2_with (go_at_call 25; refine (HI.out _).mono ?_; rintro e w1 ⟨rfl, b1⟩; have t3 : w1.cell? ⟨w.heap.size + 1, 0, none⟩ = some (.int .u32 dn) := ((KD.out.over (HB.out.trans (b1.mono HB.out.size))).cell 0).trans (by rw [← HD0.out]; rfl))
          go_roundw
          case rel => exact ⟨i + 1, by go_num, hlt, by rw [HS2.out], HB.out.trans (b1.mono HB.out.size)⟩
          case measure => simp [intOf]; omega
    · have hge : ¬ (i : Int) < (ns.length : Int) := by omega
      have HN : Hid (namedN d.n (ns.take i) = namedN d.n ns) := by show _ = _; rw [List.take_of_length_le (by omega)]
      rw [HN.out]
      have HE3 : Hid (∀ b, b = namedN d.n ns → b = (namedN d.n ns && (cs.take 0).all (hB d))) := fun b h => by rw [h]; simp
      clear hb HN
      generalize hq0 : namedN d.n ns = q0 at *
      clear hq0
      go_wp2_with fail
      clear t2
      have HBa : Hid (Below X.heap.size X wr) := HB.out
      clear HB
      go_loopw [5, 9] (fun vb vj wz => ∃ j : Nat, vj = .int .i64 j ∧ j ≤ cs.length ∧ vb = .bool (q0 && (cs.take j).all (hB d)) ∧ Below X.heap.size X wz) (fun _ vj _ => cs.length - (intOf vj).toNat)
      case atStart => exact ⟨0, rfl, Nat.zero_le _, by simp, HBa.out⟩
      case round =>
        obtain ⟨j, rfl, hj, rfl, hb⟩ := hrel
        have HB : Hid (Below X.heap.size X wr) := hb
        have t2 : wr.cell? ⟨w.heap.size, 3, none⟩ = some (.slice p2 cs.length c2) := (KR.out.over hb).cell 3
        by_cases hlt2 : j < cs.length
        · have hj1 : (j : Int) < (cs.length : Int) := by omega
          obtain ⟨b3, o3, rfl, e3⟩ := cdR_at (SC.out.below hb) hlt2
          have HX : Hid (∀ W, Calls Tryz.prog 90 #[.agg #[.int .i64 cs[j].arg, .int .i64 cs[j].op, .int .u64 cs[j].mask, .int .u64 cs[j].val], .agg #[d0v, d1v, d2v, d3v, d4v, d5v, d6v, d7v, d8v]] W fun e w' => e = .returned (.bool (hB d cs[j])) ∧ Below W.heap.size W w') := HH.out cs[j]
          have HS : Hid ((q0 && (cs.take (j + 1)).all (hB d)) = ((q0 && (cs.take j).all (hB d)) && hB d cs[j])) := by show _ = _; rw [allH_step hlt2, Bool.and_assoc]
          have HCX : Hid (∀ W, Below X.heap.size X W → cs[j].at W b3 (o3 + j * 4)) := fun W hW => by
            obtain ⟨b5, o5, e5, e6⟩ := cdR_at (SC.out.below hW) hlt2
            cases e5
            exact e6
          clear hb HH e3
          generalize hg0 : (q0 && (cs.take j).all (hB d)) = g0 at *
          generalize hB d cs[j] = q at *
          generalize cs[j] = y at *
          obtain ⟨ya, yo, ym, yv⟩ := y
          have HCX : Hid (∀ W, Below X.heap.size X W → W.cell? ⟨b3, o3 + j * 4, none⟩ = some (.int .i64 ya) ∧ W.cell? ⟨b3, o3 + j * 4 + 1, none⟩ = some (.int .i64 yo) ∧ W.cell? ⟨b3, o3 + j * 4 + 2, none⟩ = some (.int .u64 ym) ∧ W.cell? ⟨b3, o3 + j * 4 + 3, none⟩ = some (.int .u64 yv)) := HCX.out
          dsimp only at HX
          go_wp2_with fail
          have HRX : Hid (∀ W, Below X.heap.size X W → W.cell? ⟨w.heap.size, 3, none⟩ = some (.slice (some ⟨b3, o3, none⟩) cs.length c2)) := fun W h => (KR.out.over h).cell 3
          have HDX : Hid (∀ W, Below X.heap.size X W → W.cell? ⟨w.heap.size + 1, 0, none⟩ = some d0v ∧ W.cell? ⟨w.heap.size + 1, 1, none⟩ = some d1v ∧ W.cell? ⟨w.heap.size + 1, 2, none⟩ = some d2v ∧ W.cell? ⟨w.heap.size + 1, 3, none⟩ = some d3v ∧ W.cell? ⟨w.heap.size + 1, 4, none⟩ = some d4v ∧ W.cell? ⟨w.heap.size + 1, 5, none⟩ = some d5v ∧ W.cell? ⟨w.heap.size + 1, 6, none⟩ = some d6v ∧ W.cell? ⟨w.heap.size + 1, 7, none⟩ = some d7v ∧ W.cell? ⟨w.heap.size + 1, 8, none⟩ = some d8v) := fun W h => ⟨(KD.out.over h).cell 0, (KD.out.over h).cell 1, (KD.out.over h).cell 2, (KD.out.over h).cell 3, (KD.out.over h).cell 4, (KD.out.over h).cell 5, (KD.out.over h).cell 6, (KD.out.over h).cell 7, (KD.out.over h).cell 8⟩
          clear t2
          refine wp_region_held_drew (S := (fun W => Below X.heap.size X W)) (by kernel_rfl) (HB.out.drew) (fun hHeld => ?_)
          simp only [List.size_toArray, List.length_cons, List.length_nil, Nat.reduceAdd]
          refine wpAnyH_take (i := 0) (v := ?_) rfl (by kernel_rfl) (by kernel_rfl) (by kernel_rfl) (fun _ _ _ h => h) (Or.inl ⟨by rfl, ?_⟩) hHeld ?_
          rotate_left
          · (intro w hSw; (try dsimp only at hSw); go_simp; try with_reducible rfl)
          try simp only [Act.put, List.setIfInBounds_toArray, List.set_cons_zero, List.set_cons_succ, List.getElem_toArray, List.getElem_cons_zero, List.getElem_cons_succ]
          refine wpAnyH_take (i := 1) (v := ?_) rfl (by kernel_rfl) (by kernel_rfl) (by kernel_rfl) (fun _ _ _ h => h) (Or.inl ⟨by rfl, ?_⟩) hHeld ?_
          rotate_left
          · (intro w hSw; (try dsimp only at hSw); have s0 := HRX.out _ hSw; go_simp; try with_reducible rfl)
          try simp only [Act.put, List.setIfInBounds_toArray, List.set_cons_zero, List.set_cons_succ, List.getElem_toArray, List.getElem_cons_zero, List.getElem_cons_succ]
          refine wpAnyH_take (i := 2) (v := ?_) rfl (by kernel_rfl) (by kernel_rfl) (by kernel_rfl) (fun _ _ _ h => h) (Or.inl ⟨by rfl, ?_⟩) hHeld ?_
          rotate_left
          · (intro w hSw; (try dsimp only at hSw); go_simp; try with_reducible rfl)
          try simp only [Act.put, List.setIfInBounds_toArray, List.set_cons_zero, List.set_cons_succ, List.getElem_toArray, List.getElem_cons_zero, List.getElem_cons_succ]
          refine wpAnyH_take (i := 3) (v := ?_) rfl (by kernel_rfl) (by kernel_rfl) (by kernel_rfl) (fun _ _ _ h => h) (Or.inl ⟨by rfl, ?_⟩) hHeld ?_
          rotate_left
          · (intro w hSw; (try dsimp only at hSw); go_simp; try with_reducible rfl)
          try simp only [Act.put, List.setIfInBounds_toArray, List.set_cons_zero, List.set_cons_succ, List.getElem_toArray, List.getElem_cons_zero, List.getElem_cons_succ]
          refine wpAnyH_take (i := 4) (v := ?_) rfl (by kernel_rfl) (by kernel_rfl) (by kernel_rfl) (fun _ _ _ h => h) (Or.inl ⟨by rfl, ?_⟩) hHeld ?_
          rotate_left
          · (intro w hSw; (try dsimp only at hSw); obtain ⟨s0, s1, s2, s3⟩ := (HCX.out _ hSw); go_simp; try with_reducible rfl)
          try simp only [Act.put, List.setIfInBounds_toArray, List.set_cons_zero, List.set_cons_succ, List.getElem_toArray, List.getElem_cons_zero, List.getElem_cons_succ]
          refine wpAnyH_take (i := 5) (v := ?_) rfl (by kernel_rfl) (by kernel_rfl) (by kernel_rfl) (fun _ _ _ h => h) (Or.inl ⟨by rfl, ?_⟩) hHeld ?_
          rotate_left
          · (intro w hSw; (try dsimp only at hSw); obtain ⟨s0, s1, s2, s3, s4, s5, s6, s7, s8⟩ := HDX.out _ hSw; go_simp; try with_reducible rfl)
          try simp only [Act.put, List.setIfInBounds_toArray, List.set_cons_zero, List.set_cons_succ, List.getElem_toArray, List.getElem_cons_zero, List.getElem_cons_succ]
          refine wpAnyH_ready (rs := [6]) (by kernel_rfl) (by simp) ?_
          refine AllReadyH.cons rfl (fun K hK => ?_) AllReadyH.nil
          go_simp
          refine (HX.out _).mono ?_
          rintro e w5 ⟨rfl, b5⟩
          go_wp2_with fail
          refine hK.out _ _ (hHeld.trans (b5.mono hHeld.size)) (fun hHeld => ?_)
          clear hK K
          try simp only [Act.put, List.setIfInBounds_toArray, List.set_cons_zero, List.set_cons_succ, List.getElem_toArray, List.getElem_cons_zero, List.getElem_cons_succ]
          refine wpAnyH_take (i := 7) (v := ?_) rfl (by kernel_rfl) (by kernel_rfl) (by kernel_rfl) (fun _ _ _ h => h) (Or.inl ⟨by rfl, ?_⟩) hHeld ?_
          rotate_left
          · (intro w hSw; (try dsimp only at hSw); go_simp; try with_reducible rfl)
          try simp only [Act.put, List.setIfInBounds_toArray, List.set_cons_zero, List.set_cons_succ, List.getElem_toArray, List.getElem_cons_zero, List.getElem_cons_succ]
          refine wpAnyH_done (by kernel_rfl) ?_ _
          cases q with
          | true =>
            have HS2 : Hid (g0 = (q0 && (cs.take (j + 1)).all (hB d))) := by show _ = _; rw [HS.out]; simp
            go_wp2_with fail
            go_roundw
            case rel => exact ⟨j + 1, by go_num, hlt2, by rw [HS2.out], hHeld⟩
            case measure => simp [intOf]; omega
          | false =>
            have HS2 : Hid ((q0 && (cs.take (j + 1)).all (hB d)) = false) := by show _ = _; rw [HS.out]; simp
            go_wp2_with fail
            go_roundw
            case rel => exact ⟨j + 1, by go_num, hlt2, by rw [HS2.out], hHeld⟩
            case measure => simp [intOf]; omega
        · have hge2 : ¬ (j : Int) < (cs.length : Int) := by omega
          have HR : Hid ((q0 && (cs.take j).all (hB d)) = R) := by show _ = _; rw [HE.out, List.take_of_length_le (by omega)]
          clear hb
          generalize (q0 && (cs.take j).all (hB d)) = g0 at *
          go_wp2_with fail
          go_ret
          exact ⟨ret_bool HR.out, BE.out.trans (HB.out.mono BE.out.size)⟩

end Go.Proofs.YtpojlfenmanehaaGreat.M

