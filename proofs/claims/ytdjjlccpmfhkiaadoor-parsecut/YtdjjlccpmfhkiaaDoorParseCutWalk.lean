/-
  The law ParseCut, walked: true for every text.
-/
import Derived.Test.YtdjjlccpmfhkiaaDoorAwake
namespace Go.Proofs.YtdjjlccpmfhkiaaDoor
open Go.RowKit

theorem prs_lex {l : List UInt8} {c p : Nat} (h : all l = .error (c, p)) : prs l = .error (c, p) := by
  unfold prs
  rw [h]

set_option maxRecDepth 8000 in
set_option maxHeartbeats 4000000 in
theorem parseCut_walk (s : ByteArray) (w : World) (hv : Vars w) :
    Calls Tryd.prog 5 #[.string s] w fun e w' => e = .returned (.bool true) ∧ Below w.heap.size w w' := by
  have HV : Hid (Vars w) := hv
  have HW : Hid (∀ W, Vars W → Calls Tryd.prog 9 #[] W fun e w' => e = .returned (.bool true) ∧ Below W.heap.size W w') := awake_any
  clear hv
  by_cases hlong : 8192 < s.size
  · have h1 : decide ((8192 : Int) < s.size) = true := by simp; omega
    go_enter Tryd.func5, Tryd.ntmps5
    go_wp2_with (go_at_call 9; refine (HW.out _ HV.out).mono ?_; rintro e w1 ⟨rfl, b1⟩)
    go_ret
    exact ⟨rfl, b1⟩
  · have h1 : decide ((8192 : Int) < s.size) = false := by simp; omega
    have HP : Hid (∀ W, Vars W → Calls Tryd.prog 10 #[.string s] W fun e w' => Below W.heap.size W w' ∧ Par2 (prs (lst s)) e w') := fun W h => parse2 s W h
    have HA : Hid (∀ W, Vars W → Calls Tryd.prog 13 #[.string s] W fun e w' => Below W.heap.size W w' ∧ Told W.heap.size (all (lst s)) e w') := fun W h => all_any s W h
    have hll : (lst s).length ≤ 8192 := by rw [lst_length]; omega
    rcases hA : all (lst s) with ⟨c, p⟩ | ts
    · have hP := prs_lex hA
      have hc0 := (all_code hA).1
      rw [hP] at HP
      rw [hA] at HA
      have hc : ((c : Int) == 0) = false := by rw [beq_eq_false_iff_ne]; omega
      have hcn : ((c : Int) != 0) = true := by rw [bne, hc]; rfl
      clear hA hP hlong hll hc0
      go_enter Tryd.func5, Tryd.ntmps5
      go_wp2_with (first | (go_at_call 9; refine (HW.out _ HV.out).mono ?_; rintro e w1 ⟨rfl, b1⟩; have V1 : Hid (Vars w1) := HV.out.below b1) | (go_at_call 10; refine (HP.out _ V1.out).mono ?_; rintro e w2 ⟨b2, rfl⟩; have V2 : Hid (Vars (w2.alloc (Obj.cells #[.int .i64 0, .int .i64 0, .slice none 0 0] 27))) := (V1.out.below b2).below ((Below.refl _ _).alloc (Nat.le_refl _) _)) | (go_at_call 13; refine (HA.out _ V2.out).mono ?_; rintro e w3 ⟨b3, rfl⟩))
      go_ret
      exact ⟨rfl, ((b1.trans (b2.mono b1.size)).alloc (Nat.le_trans b1.size b2.size) _).trans (b3.mono (by rw [size_alloc']; have := b1.size; have := b2.size; omega))⟩
    · rw [hA] at HA
      rcases hP : prs (lst s) with ⟨c, p⟩ | ⟨d, rs⟩
      · have hcc := (prs_place hP hll).1
        rw [hP] at HP
        have hc : ((c : Int) == 0) = false := by rw [beq_eq_false_iff_ne]; omega
        have hcn : ((c : Int) != 0) = true := by rw [bne, hc]; rfl
        clear hA hP hlong hll hcc
        go_enter Tryd.func5, Tryd.ntmps5
        go_wp2_with (first | (go_at_call 9; refine (HW.out _ HV.out).mono ?_; rintro e w1 ⟨rfl, b1⟩; have V1 : Hid (Vars w1) := HV.out.below b1) | (go_at_call 10; refine (HP.out _ V1.out).mono ?_; rintro e w2 ⟨b2, rfl⟩; have V2 : Hid (Vars (w2.alloc (Obj.cells #[.int .i64 0, .int .i64 0, .slice none 0 0] 27))) := (V1.out.below b2).below ((Below.refl _ _).alloc (Nat.le_refl _) _)) | (go_at_call 13; refine (HA.out _ V2.out).mono ?_; rintro e w3 ⟨b3, v, rfl, ho⟩))
        go_ret
        exact ⟨rfl, ((b1.trans (b2.mono b1.size)).alloc (Nat.le_trans b1.size b2.size) _).trans (b3.mono (by rw [size_alloc']; have := b1.size; have := b2.size; omega))⟩
      · obtain ⟨A, x, e', hA2, hxt, hxa, hcut⟩ := prs_cut hP
        rw [hP] at HP
        rw [hA] at hA2
        cases hA2
        have HC : Hid (∀ W, Vars W → Calls Tryd.prog 10 #[.string (s.extract 0 x.at')] W fun e w' => Below W.heap.size W w' ∧ e = .returned (.tuple #[.agg #[.int .i64 0, .int .i64 0, .slice none 0 0], .int .i64 7, .int .i64 x.at'])) := by
          intro W hW
          have := parse2 (s.extract 0 x.at') W hW
          rw [show lst (s.extract 0 x.at') = (lst s).take x.at' by rw [lst_extract]; simp, hcut] at this
          exact this
        have hxs : (x.at' : Int) ≤ s.size := by rw [lst_length] at hxa; omega
        have htx : ((bar x.t).toList == [59]) = true := txt_is x.t _ hxt
        have hlen : (A ++ [x, e']).length = A.length + 2 := by simp
        have HG : Hid ((A ++ [x, e'])[A.length]? = some x) := by
          show _ = _
          simp
        have hAl : (A.length : Int) ≤ 8193 := by have := all_len hA; simp at this; omega
        have hw64 : wrap64 (A.length : Int) = (A.length : Int) := by unfold wrap64; omega
        have hib : (A.length : Int) < (A.length : Int) + 2 := by omega
        clear hA hP hlong hcut hxa hxt
        go_enter Tryd.func5, Tryd.ntmps5
        go_wp2_with fail
        refine (HW.out _ HV.out).mono ?_
        rintro e w1 ⟨rfl, b1⟩
        have V1 : Hid (Vars w1) := HV.out.below b1
        go_wp2_with fail
        refine (HP.out _ V1.out).mono ?_
        rintro e w2 ⟨b2, v2, rv2, hrv, rfl, hR2⟩
        obtain ⟨a2, c2, rfl⟩ : ∃ a c, v2 = .slice a rv2.length c := by obtain ⟨a, c, e, _⟩ := hR2; exact ⟨a, c, e⟩
        have V2 : Hid (Vars (w2.alloc (Obj.cells #[.int .i64 d.k, .int .i64 d.a, .slice a2 rv2.length c2] 27))) := (V1.out.below b2).below ((Below.refl _ _).alloc (Nat.le_refl _) _)
        have B2 : Hid (Below w.heap.size w (w2.alloc (Obj.cells #[.int .i64 d.k, .int .i64 d.a, .slice a2 rv2.length c2] 27))) := (b1.trans (b2.mono b1.size)).alloc (Nat.le_trans b1.size b2.size) _
        go_wp2_with fail
        generalize w2.alloc (Obj.cells #[.int .i64 d.k, .int .i64 d.a, .slice a2 rv2.length c2] 27) = X2 at *
        refine (HA.out _ V2.out).mono ?_
        rintro e w3 ⟨b3, v, rfl, ho⟩
        obtain ⟨a, ca, rfl, hT⟩ := owns_toks ho
        rw [hlen] at hT ⊢
        obtain ⟨g, rfl, hc⟩ := hT.2 (by omega)
        obtain ⟨q0, q1, q2, q3⟩ := hc A.length x HG.out
        have V3 : Hid (Vars w3) := V2.out.below b3
        have B3 : Hid (Below w.heap.size w w3) := B2.out.trans (b3.mono B2.out.size)
        clear ho hT hc b1 b2 b3 hlen hR2
        go_wp2_with fail
        refine (HC.out _ V3.out).mono ?_
        rintro e w4 ⟨b4, rfl⟩
        have B4 : Hid (Below w.heap.size w (w4.alloc (Obj.cells #[.int .i64 0, .int .i64 0, .slice none 0 0] 27))) := (B3.out.trans (b4.mono B3.out.size)).alloc (Nat.le_trans B3.out.size b4.size) _
        have r1 : (w4.alloc (Obj.cells #[.int .i64 0, .int .i64 0, .slice none 0 0] 27)).cell? ⟨g, A.length * 4 + 1, none⟩ = some (.int .i64 x.at') := cell_same q1 (by
          have hl : g < w3.heap.size := World.block_lt_of_cell? w3 _ q1
          rw [((Below.refl _ w4).alloc (Nat.le_refl _) _).block g (by have := b4.size; omega), b4.block g hl])
        clear q0 q1 q2 q3 b4
        go_wp2_with fail
        go_ret
        exact ⟨rfl, B4.out⟩

end Go.Proofs.YtdjjlccpmfhkiaaDoor
