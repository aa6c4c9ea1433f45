/-
  The number of an act, by the document.
-/
import Derived.Test.YtpojlfenmanehaaGreatGA
import Derived.Deep.RegionHeld3
namespace Go.Proofs.YtpojlfenmanehaaGreat.A
open Go.RowKit

set_option maxHeartbeats 400000 in
theorem refRight_any (k a : Int) (w : World) :
    Calls Tryz.prog 39 #[.agg #[.int .i64 k, .int .i64 a]] w fun e w' => e = .returned (.bool (rightB k a)) ∧ Below w.heap.size w w' := by
  have e1 : ∀ o, Below w.heap.size w (w.alloc o) := fun o => (Below.refl _ _).alloc (Nat.le_refl _) _
  have HH : Hid (∀ W : World, Calls Tryz.prog 74 #[.int .i64 k] W fun e w' => e = .returned (.bool (hasB k)) ∧ w' = W) := fun W => refHas_any k W
  by_cases h1 : k < 1
  · have er : rightB k a = false := by
      unfold rightB
      have : decide (1 ≤ k) = false := by simp; omega
      rw [this]
      rfl
    rw [er]
    clear HH er
    go_enter Tryz.func39, Tryz.ntmps39
    go_wp2
    go_ret
    exact ⟨rfl, e1 _⟩
  · by_cases h8 : 8 < k
    · have er : rightB k a = false := by
        unfold rightB
        have : decide (k ≤ 8) = false := by simp; omega
        rw [this]
        simp
      rw [er]
      clear HH er
      go_enter Tryz.func39, Tryz.ntmps39
      go_wp2
      go_ret
      exact ⟨rfl, e1 _⟩
    · have er : Hid (rightB k a = (a == 0 || hasB k && decide (0 ≤ a) && decide (a ≤ 65535))) := by
        unfold Hid rightB
        have d1 : decide (1 ≤ k) = true := by simp; omega
        have d2 : decide (k ≤ 8) = true := by simp; omega
        rw [d1, d2]
        rfl
      rw [er.out]
      clear er
      by_cases h0 : a = 0
      · subst h0
        clear HH
        go_enter Tryz.func39, Tryz.ntmps39
        go_wp2
        go_ret
        exact ⟨rfl, e1 _⟩
      · have hz : (a == 0) = false := by rw [beq_eq_false_iff_ne]; exact h0
        rw [hz, Bool.false_or]
        have hg : hasB k = true ∨ hasB k = false := by cases hasB k <;> simp
        rcases hg with hg | hg
        · rw [hg] at HH ⊢
          clear hg
          go_enter Tryz.func39, Tryz.ntmps39
          go_wp2_with (go_at_call 74; refine (HH.out _).mono ?_; rintro e w2 ⟨rfl, rfl⟩)
          all_goals (go_ret; exact ⟨ret_bool (by rw [Bool.eq_iff_iff]; simp <;> omega), e1 _⟩)
        · rw [hg] at HH ⊢
          clear hg
          rw [Bool.false_and, Bool.false_and]
          go_enter Tryz.func39, Tryz.ntmps39
          go_wp2_with (go_at_call 74; refine (HH.out _).mono ?_; rintro e w2 ⟨rfl, rfl⟩)
          all_goals (go_ret; exact ⟨ret_bool (by simp), e1 _⟩)

end Go.Proofs.YtpojlfenmanehaaGreat.A

namespace Go.Proofs.YtpojlfenmanehaaGreat.A
open Go.RowKit

theorem refValue_wrong (k a : Int) (w : World) (h : rightB k a = false) :
    Calls Tryz.prog 30 #[.agg #[.int .i64 k, .int .i64 a]] w fun e w' => e = .returned (.tuple #[.int .u32 0, .int .i64 1]) ∧ Below w.heap.size w w' := by
  have HR : Hid (∀ W : World, Calls Tryz.prog 39 #[.agg #[.int .i64 k, .int .i64 a]] W fun e w' => e = .returned (.bool false) ∧ Below W.heap.size W w') := fun W => h ▸ refRight_any k a W
  have HB : Hid (∀ o, Below w.heap.size w (w.alloc o)) := fun o => (Below.refl _ _).alloc (Nat.le_refl _) _
  clear h
  go_enter Tryz.func30, Tryz.ntmps30
  go_wp2_with (go_at_call 39; refine (HR.out _).mono ?_; rintro e w2 ⟨rfl, b2⟩)
  go_ret2
  exact ⟨rfl, (HB.out _).trans (b2.mono (HB.out _).size)⟩

set_option maxHeartbeats 1600000 in
theorem refValue_right (k a : Int) (w : World) (h : rightB k a = true) :
    Calls Tryz.prog 30 #[.agg #[.int .i64 k, .int .i64 a]] w fun e w' => e = .returned (.tuple #[.int .u32 (numK k + a), .int .i64 0]) ∧ Below w.heap.size w w' := by
  have HR : Hid (∀ W : World, Calls Tryz.prog 39 #[.agg #[.int .i64 k, .int .i64 a]] W fun e w' => e = .returned (.bool true) ∧ Below W.heap.size W w') := fun W => h ▸ refRight_any k a W
  have HB : Hid (∀ o, Below w.heap.size w (w.alloc o)) := fun o => (Below.refl _ _).alloc (Nat.le_refl _) _
  have HN : Hid (∀ W : World, Calls Tryz.prog 54 #[] W fun e w' => e = .returned (.slice (some ⟨W.heap.size, 0, none⟩) 8 8) ∧ Ns .u32 w' (some ⟨W.heap.size, 0, none⟩) 8 refL ∧ Below W.heap.size W w') := refNumbers_any
  obtain ⟨h1, h8, a0, a1, -⟩ := right_bd h
  obtain ⟨n0, n1, -, -⟩ := numK_top h1 h8
  have hw : IntKind.u32.wrap a = a := by rw [IntKind.wrap_u32]; omega
  have hs : IntKind.u32.wrap (numK k + a) = numK k + a := by rw [IntKind.wrap_u32]; omega
  obtain ⟨m, rfl⟩ : ∃ m : Nat, k = ((m + 1 : Nat) : Int) := ⟨(k - 1).toNat, by omega⟩
  have hm : m < 8 := by omega
  have HX : Hid (refL.getD m 0 = numK ((m + 1 : Nat) : Int)) := by
    unfold Hid numK
    rw [Int.toNat_natCast]
    exact refL_at m hm
  have hk1 : IntKind.i64.wrap (((m + 1 : Nat) : Int) - 1) = (m : Int) := by rw [IntKind.wrap_i64]; omega
  generalize numK ((m + 1 : Nat) : Int) = z at *
  have HK : Hid (Blk (w.alloc (Obj.cells #[.int .i64 ((m + 1 : Nat) : Int), .int .i64 a] 23)) w.heap.size 23 [.int .i64 ((m + 1 : Nat) : Int), .int .i64 a]) := blk_new w _ 23
  clear h h1 h8 n0 n1
  generalize hkk : ((m + 1 : Nat) : Int) = k at *
  clear hkk
  go_enter Tryz.func30, Tryz.ntmps30
  go_wp2_with (go_at_call 39; refine (HR.out _).mono ?_; rintro e w2 ⟨rfl, b2⟩)
  have B2 : Hid (Below w.heap.size w w2) := (HB.out _).trans (b2.mono (HB.out _).size)
  have D2 : Hid (Blk w2 w.heap.size 23 [.int .i64 k, .int .i64 a]) := HK.out.over b2
  have c0 : w2.cell? ⟨w.heap.size, 0, none⟩ = some (.int .i64 k) := D2.out.cell 0
  have c1 : w2.cell? ⟨w.heap.size, 1, none⟩ = some (.int .i64 a) := D2.out.cell 1
  have hm1 : (0 : Int) ≤ (m : Int) := by omega
  have hm2 : (m : Int) < 8 := by omega
  have HQ : Hid (Calls Tryz.prog 54 #[] w2.drew fun e w' => e = .returned (.slice (some ⟨w2.heap.size, 0, none⟩) 8 8) ∧ ((fun X => X.cell? ⟨w.heap.size, 0, none⟩ = some (.int .i64 k) ∧ X.cell? ⟨w.heap.size, 1, none⟩ = some (.int .i64 a)) w' ∧ w'.cell? ⟨w2.heap.size, m, none⟩ = some (.int .u32 z) ∧ Hid (Below w.heap.size w w'))) := by
    refine (HN.out w2.drew).mono ?_
    rintro e w' ⟨rfl, hn, hb⟩
    have D3 : Blk w' w.heap.size 23 [.int .i64 k, .int .i64 a] := D2.out.drew.over hb
    obtain ⟨b, off, e, hc⟩ := hn.2 (by decide)
    cases e
    have hcm := hc m hm
    rw [HX.out, Nat.zero_add] at hcm
    exact ⟨rfl, ⟨D3.cell 0, D3.cell 1⟩, hcm, B2.out.drew.trans (hb.mono B2.out.size)⟩
  clear b2
  go_region_with (go_at_call 54; refine (HQ.out).mono ?_; rintro e w5 ⟨rfl, ⟨p0, p1⟩, C5, G5⟩)
  all_goals
    go_wp2
    go_ret2
    exact ⟨rfl, G5.out⟩

theorem refValue_any (k a : Int) (w : World) :
    Calls Tryz.prog 30 #[.agg #[.int .i64 k, .int .i64 a]] w fun e w' => e = .returned (.tuple #[.int .u32 (valZ k a), .int .i64 (errZ k a)]) ∧ Below w.heap.size w w' := by
  unfold valZ errZ
  by_cases h : rightB k a = true
  · rw [if_pos h, if_pos h]
    exact refValue_right k a w h
  · rw [if_neg h, if_neg h]
    exact refValue_wrong k a w (by simpa using h)

end Go.Proofs.YtpojlfenmanehaaGreat.A

