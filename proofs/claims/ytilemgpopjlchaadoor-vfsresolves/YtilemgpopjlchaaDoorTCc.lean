/-
  The library's Grow and Concat of texts, as the program calls them.
-/
import Derived.Test.YtilemgpopjlchaaDoorDPt
import Derived.Test.YtilemgpopjlchaaDoorDMem
import Derived.Lib.AppendZeros
namespace Go.Proofs.YtilemgpopjlchaaDoor
open Go.RowKit Go.Shelf

theorem own_empty (w : World) : w.ownsRow w.heap.size 9 1 (.slice none 0 0) 0 (cellsT []) := ⟨rfl, .inl ⟨rfl, rfl⟩⟩
set_option maxHeartbeats 4000000 in
/-- room for so many, in a row of a call's own. -/
theorem tgrow_any (n : Nat) (w : World) (hn : n ≤ 20000) : Calls Tryd.prog 59 #[.slice none 0 0, .int .i64 n] w fun e w' => ∃ v, e = .returned v ∧ w'.ownsRow w.heap.size 9 1 v 0 (cellsT []) ∧ Below w.heap.size w w' := by
  by_cases h0 : n = 0
  · subst h0
    have HO : Hid (w.ownsRow w.heap.size 9 1 (.slice none 0 0) 0 (cellsT [])) := own_empty w
    go_enter Tryd.func59, Tryd.ntmps59
    go_wp2
    go_ret
    exact ⟨_, rfl, HO.out, Below.refl _ _⟩
  · obtain ⟨i0, hi, hz0, hz1, hz2⟩ := info_parts ety_s.info
    have hcap0 := grownCap_ge w n 0 9
    have hcap1 := grownCap_le_maxLen w n 0 9 (by unfold maxLen; omega)
    have hrun : ∀ ty, (Builtin.append_ #[52, 3] ty #[.slice none 0 0, .int .i64 n]).run Tryd.prog w = .ok (.slice (some ⟨w.heap.size, 0, none⟩) n (grownCap w n 0 9)) (w.drew.alloc (.cells (Builtin.zeroCells #[.string ⟨#[]⟩] n ++ Builtin.zeroCells #[.string ⟨#[]⟩] (grownCap w n 0 9 - n)) 9)) := fun ty =>
      Lib.run_append_nil_zeros (P := Tryd.prog) w 52 3 ty 9 i0 (.string ⟨#[]⟩) .i64 .i64 ety_s.ht Tryd.underlying3 hi hz0 n (by omega) (by rw [hz1]; omega) (by omega) (by rw [hz2]; omega)
    have HRUN : Hid ((∀ ty, (Builtin.append_ #[52, 3] ty #[.slice none 0 0, .int .i64 n]).run Tryd.prog w = .ok (.slice (some ⟨w.heap.size, 0, none⟩) n (grownCap w n 0 9)) (w.drew.alloc (.cells (Builtin.zeroCells #[.string ⟨#[]⟩] n ++ Builtin.zeroCells #[.string ⟨#[]⟩] (grownCap w n 0 9 - n)) 9))) ∧ n ≤ grownCap w n 0 9 ∧ grownCap w n 0 9 ≤ maxLen) := ⟨hrun, hcap0, hcap1⟩
    clear hrun
    obtain ⟨cp, hcp⟩ : ∃ cp, grownCap w n 0 9 = cp := ⟨_, rfl⟩
    rw [hcp] at HRUN hcap0 hcap1
    clear hcp
    have HO : Hid ((w.drew.alloc (.cells (Builtin.zeroCells #[.string ⟨#[]⟩] n ++ Builtin.zeroCells #[.string ⟨#[]⟩] (cp - n)) 9)).ownsRow w.heap.size 9 1 (.slice (some ⟨w.heap.size, 0, none⟩) 0 cp) 0 (cellsT []) ∧ Below w.heap.size w (w.drew.alloc (.cells (Builtin.zeroCells #[.string ⟨#[]⟩] n ++ Builtin.zeroCells #[.string ⟨#[]⟩] (cp - n)) 9))) := by
      have hd := (Below.refl w.heap.size w).drew
      refine ⟨⟨rfl, .inr ⟨w.heap.size, cp, _, rfl, Nat.le_refl _, heap_alloc_new w.drew _, Nat.zero_le _, hcap1, ?_, rfl⟩⟩, hd.trans ((below_new w.drew _).mono (Nat.le_refl _))⟩
      rw [Array.size_append, size_zeroCells, size_zeroCells]
      show n * 1 + (cp - n) * 1 = cp * 1
      omega
    generalize (w.drew.alloc (.cells (Builtin.zeroCells #[.string ⟨#[]⟩] n ++ Builtin.zeroCells #[.string ⟨#[]⟩] (cp - n)) 9)) = w1 at *
    have g1 : (0 : Int) < (n : Int) := by omega
    have g1' : decide ((0 : Int) < (n : Int)) = true := decide_eq_true g1
    have g2 : ¬ (n : Int) < 0 := by omega
    have g3 : IntKind.i64.wrap (n : Int) = (n : Int) := by rw [IntKind.wrap_i64]; omega
    have hcut : ∀ W, (Instr.sliceAt 52 (.slice (some ⟨w.heap.size, 0, none⟩) n cp) none (some (.int .i64 0)) none).run Tryd.prog W = .ok (.slice (some ⟨w.heap.size, 0, none⟩) 0 cp) W := by
      have hu : Tryd.prog.underlying 52 = some (.slice (Tryd.prog.elem 52)) := by rw [ety_s.el]; exact ety_s.ht
      intro W
      have key : (Instr.sliceAt 52 (.slice (some ⟨w.heap.size, 0, none⟩) n cp) none (some (.int .i64 ((0 : Nat) : Int))) none).run Tryd.prog W = .ok (.slice (some ⟨w.heap.size, 0, none⟩) 0 cp) W := by
        rw [run_sliceAt_slice W 52 _ _ _ _ hu, run_slice_h W 52 _ _ _ hu .i64 ((0 : Nat) : Int) (by omega) (by omega), ety_s.el, ety_s.sz]
        simp only [Result.andThen_ok, sliced, Int.toNat_natCast, Nat.sub_zero, Nat.zero_mul]
        rw [if_neg (by omega), Option.map_some, Addr.add_lit, Nat.add_zero]
      exact key
    clear hi hz0 hz1 hz2 hcap0 hcap1 h0
    go_enter Tryd.func59, Tryd.ntmps59
    go_wp2_with (first
      | (at_builtin; refine Lib.wpList_append_run _ rfl _ _ 52 3 rfl _ _ rfl rfl _ _ (HRUN.out.1 _) ?_)
      | fail)
    go_ret
    exact ⟨_, rfl, HO.out.1, HO.out.2⟩

set_option maxHeartbeats 16000000 in
/-- two rows, one behind the other. -/
theorem tconcat_any (b : Nat) (v0 v1 : Value) (A C : List Nm) (w : World) (h0 : w.cell? ⟨b, 0, none⟩ = some v0) (h1 : w.cell? ⟨b, 1, none⟩ = some v1) (hA : TxN w v0 A) (hC : TxN w v1 C) (hla : A.length ≤ 5000) (hlc : C.length ≤ 5000) :
    Calls Tryd.prog 45 #[.slice (some ⟨b, 0, none⟩) 2 2] w fun e w' => ∃ v, e = .returned v ∧ TxN w' v (A ++ C) ∧ Below w.heap.size w w' := by
  obtain ⟨p0, c0, rfl⟩ := hA.form
  obtain ⟨p1, c1, rfl⟩ := hC.form
  have HX : Hid (TxN w (.slice p0 A.length c0) A ∧ TxN w (.slice p1 C.length c1) C ∧ A.length ≤ 5000 ∧ C.length ≤ 5000) := ⟨hA, hC, hla, hlc⟩
  have HCL : Hid (∀ W, Below w.heap.size w W → W.cell? ⟨b, 0, none⟩ = some (.slice p0 A.length c0) ∧ W.cell? ⟨b, 1, none⟩ = some (.slice p1 C.length c1)) := fun W hb => ⟨by rw [hb.cell (p := ⟨b, 0, none⟩) (World.block_lt_of_cell? w _ h0)]; exact h0, by rw [hb.cell (p := ⟨b, 1, none⟩) (World.block_lt_of_cell? w _ h1)]; exact h1⟩
  obtain ⟨m, hm⟩ : ∃ m, A.length = m := ⟨_, rfl⟩
  obtain ⟨k, hk⟩ : ∃ k, C.length = k := ⟨_, rfl⟩
  have HMK : Hid (A.length = m ∧ C.length = k) := ⟨hm, hk⟩
  rw [hm] at HX HCL h0 hla
  rw [hk] at HX HCL h1 hlc
  have w1 : IntKind.i64.wrap (m : Int) = (m : Int) := by rw [IntKind.wrap_i64]; omega
  have w2 : IntKind.i64.wrap ((m : Int) + (k : Int)) = (m : Int) + (k : Int) := by rw [IntKind.wrap_i64]; omega
  have n1 : ¬ (m : Int) < 0 := by omega
  have n2 : ¬ (m : Int) + (k : Int) < 0 := by omega
  clear hA hC hm hk
  go_enter Tryd.func45, Tryd.ntmps45
  go_wp2
  go_loopw [3, 5, 11] (fun v3 _ v11 wr => ((v11 = .int .i64 0 ∧ v3 = .int .i64 0) ∨ (v11 = .int .i64 1 ∧ v3 = .int .i64 m) ∨ (v11 = .int .i64 2 ∧ v3 = .int .i64 ((m : Int) + (k : Int)))) ∧ wr = w) (fun _ _ v11 _ => 2 - (intOf v11).toNat)
  case atStart => exact ⟨.inl ⟨rfl, rfl⟩, rfl⟩
  case round =>
    obtain ⟨hc, hw⟩ := hrel
    have hw2 : w = _ := hw.symm
    subst hw2
    clear hw
    rcases hc with ⟨rfl, rfl⟩ | ⟨rfl, rfl⟩ | ⟨rfl, rfl⟩
    · go_wp2
      go_roundw
      case rel => exact ⟨.inr (.inl ⟨rfl, rfl⟩), by trivial⟩
      case measure => simp [intOf]
    · go_wp2
      go_roundw
      case rel => exact ⟨.inr (.inr ⟨rfl, rfl⟩), by trivial⟩
      case measure => simp [intOf]
    · have HG : Hid (Calls Tryd.prog 59 #[.slice none 0 0, .int .i64 ((m : Int) + (k : Int))] w fun e w' => ∃ v, e = .returned v ∧ w'.ownsRow w.heap.size 9 1 v 0 (cellsT []) ∧ Below w.heap.size w w') := by
        have := tgrow_any (m + k) w (by omega)
        rw [show (((m + k : Nat) : Int)) = (m : Int) + (k : Int) by omega] at this
        exact this
      go_wp2_with fail
      refine HG.out.mono ?_
      rintro e w3 ⟨v, rfl, hown, hb3⟩
      have H3 : Hid (w3.ownsRow w.heap.size 9 1 v 0 (cellsT []) ∧ Below w.heap.size w w3) := ⟨hown, hb3⟩
      clear hown hb3 h0 h1
      go_wp2_with fail
      go_loopw [6, 8, 27] (fun v6 _ v27 X => ((v27 = .int .i64 0 ∧ X.ownsRow w.heap.size 9 1 v6 0 (cellsT [])) ∨ (v27 = .int .i64 1 ∧ X.ownsRow w.heap.size 9 1 v6 A.length (cellsT A)) ∨ (v27 = .int .i64 2 ∧ X.ownsRow w.heap.size 9 1 v6 (A ++ C).length (cellsT (A ++ C)))) ∧ Below w.heap.size w X) (fun _ _ v27 _ => 2 - (intOf v27).toNat)
      case atStart => exact ⟨.inl ⟨rfl, H3.out.1⟩, H3.out.2⟩
      case round =>
        obtain ⟨hc, hbw⟩ := hrel
        obtain ⟨h0, h1⟩ := HCL.out _ hbw
        rcases hc with ⟨rfl, hown⟩ | ⟨rfl, hown⟩ | ⟨rfl, hown⟩
        · have HO : Hid (wr.ownsRow w.heap.size 9 1 _ (0) (cellsT []) ∧ Below w.heap.size w wr ∧ Sc wr (.slice p0 m c0) (cellsT A)) := ⟨hown, hbw, (HX.out.1.over hbw).txR⟩
          clear hown hbw
          go_wp2_with (first
            | (at_builtin; refine list_app (base := w.heap.size) (xs := cellsT []) (ys := cellsT A) ety_s rfl _ _ rfl rfl rfl HO.out.1 HO.out.2.2 (one_t A) (by rw [cellsT_len]; have := HX.out.2.2; have := HMK.out; omega) HO.out.2.1.size ?_; intro v7 w7 ha7; have HA7 : Hid (App 9 w.heap.size wr w7 _ v7 (cellsT [] ++ cellsT A)) := ha7; clear ha7)
            | fail)
          go_roundw
          case rel => exact ⟨.inr (.inl ⟨rfl, by have h1 := HA7.out.own; rw [show cellsT [] ++ cellsT A = cellsT A from rfl, cellsT_len] at h1; exact h1⟩), HA7.out.below HO.out.1 HO.out.2.1⟩
          case measure => simp [intOf]
        · have HO : Hid (wr.ownsRow w.heap.size 9 1 _ (A.length) (cellsT A) ∧ Below w.heap.size w wr ∧ Sc wr (.slice p1 k c1) (cellsT C)) := ⟨hown, hbw, (HX.out.2.1.over hbw).txR⟩
          clear hown hbw
          go_wp2_with (first
            | (at_builtin; refine list_app (base := w.heap.size) (xs := cellsT A) (ys := cellsT C) ety_s rfl _ _ rfl rfl rfl HO.out.1 HO.out.2.2 (one_t C) (by rw [cellsT_len]; have := HX.out.2.2; have := HMK.out; omega) HO.out.2.1.size ?_; intro v7 w7 ha7; have HA7 : Hid (App 9 w.heap.size wr w7 _ v7 (cellsT A ++ cellsT C)) := ha7; clear ha7)
            | fail)
          go_roundw
          case rel => exact ⟨.inr (.inr ⟨rfl, by have h1 := HA7.out.own; rw [← cellsT_app, cellsT_len] at h1; exact h1⟩), HA7.out.below HO.out.1 HO.out.2.1⟩
          case measure => simp [intOf]
        · have HO : Hid (wr.ownsRow w.heap.size 9 1 _ (A ++ C).length (cellsT (A ++ C)) ∧ Below w.heap.size w wr) := ⟨hown, hbw⟩
          clear hown hbw
          go_wp2_with fail
          go_ret
          exact ⟨_, rfl, tx_own HO.out.1, HO.out.2⟩

end Go.Proofs.YtilemgpopjlchaaDoor
