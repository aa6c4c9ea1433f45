/-
  The act of what a filter answered, by the document: proved of every number.
-/
import Derived.Test.YtamioifoemklfaaASmall
namespace Go.Proofs.Ytamioifoemklfaa.A
open Go.RowKit

set_option maxHeartbeats 1600000 in
theorem refOf_any (v : Int) (w : World) (hv : U32 v) :
    Calls Try.prog 20 #[.int .u32 v] w fun e w' => e = .returned (.agg #[.int .i64 (ki v), .int .i64 (ar v)]) ∧ Below w.heap.size w w' := by
  have HN : Hid (∀ W : World, Calls Try.prog 31 #[] W fun e w' => e = .returned (.slice (some ⟨W.heap.size, 0, none⟩) 8 8) ∧ Ns .u32 w' (some ⟨W.heap.size, 0, none⟩) 8 refL ∧ Below W.heap.size W w') := refNumbers_any
  have HH : Hid (∀ (k : Int) (W : World), Calls Try.prog 32 #[.int .i64 k] W fun e w' => e = .returned (.bool (hasB k)) ∧ w' = W) := fun k W => refHas_any k W
  have HB : Hid (∀ o, Below w.heap.size w (w.alloc o)) := fun o => (Below.refl _ _).alloc (Nat.le_refl _) _
  have HZ : Hid (Blk (w.alloc (Obj.cells #[.int .i64 0, .int .i64 0] 47)) w.heap.size 47 [.int .i64 0, .int .i64 0]) := blk_new w _ 47
  obtain ⟨v0, v1⟩ := hv
  have HT : Hid (top v = v / 65536 * 65536) := rfl
  have HA : Hid (ar v = if hasB (ki v) = true then v % 65536 else 0) := rfl
  go_enter Try.func20, Try.ntmps20
  go_wp2_with (go_at_call 31; refine (HN.out _).mono ?_; rintro e w1 ⟨rfl, hn, b1⟩; have d1 : Hid (Blk w1 w.heap.size 47 [.int .i64 0, .int .i64 0]) := HZ.out.over b1; have B1 : Hid (Below w.heap.size w w1) := (HB.out _).trans (b1.mono (HB.out _).size); clear b1)
  rw [size_alloc'] at hn
  obtain ⟨b, off, e, hc⟩ := hn.2 (by decide)
  cases e
  have s0 : w1.cell? ⟨w.heap.size, 0, none⟩ = some (.int .i64 0) := d1.out.cell 0
  have s1 : w1.cell? ⟨w.heap.size, 1, none⟩ = some (.int .i64 0) := d1.out.cell 1
  have f0 := d1.out.f 0
  have f1 := d1.out.f 1
  have HC : Hid (∀ i, i < 8 → w1.cell? ⟨w.heap.size + 1, 0 + i, none⟩ = some (.int .u32 (refL.getD i 0))) := hc
  clear hc hn
  go_loop [4] (fun i => ∃ k : Nat, k ≤ 8 ∧ i = .int .i64 k ∧ (∀ j, 1 ≤ j → j < k + 1 → tblL.getD j 0 ≠ top v)) (fun i => 8 - (intOf i).toNat)
  case atStart => exact ⟨0, by omega, rfl, fun j h1 h2 => absurd h2 (by omega)⟩
  case round =>
    obtain ⟨k, hk, rfl, hno⟩ := hrel
    have HNo : Hid (∀ j, 1 ≤ j → j < k + 1 → tblL.getD j 0 ≠ top v) := hno
    clear hno
    by_cases hlt : k < 8
    · have q := HC.out k hlt
      rw [Nat.zero_add, refL_at k hlt] at q
      have HF : Hid (tblL.getD (k + 1) 0 = top v → ki v = ((k + 1 : Nat) : Int)) := fun h => kiH_found (top v) (k + 1) (by omega) (by omega) HNo.out h
      have HX : Hid (∀ z, tblL.getD (k + 1) 0 = z → z ≠ top v → ∀ j, 1 ≤ j → j < k + 1 + 1 → tblL.getD j 0 ≠ top v) := by
        intro z hz hzn j h1 hj
        by_cases e : j = k + 1
        · subst e; rw [hz]; exact hzn
        · exact HNo.out j h1 (by omega)
      clear HNo
      generalize tblL.getD (k + 1) 0 = z at *
      have h8 : (k : Int) < 8 := by omega
      by_cases hz : z = top v
      · have HE : Hid (ki v = ((k + 1 : Nat) : Int)) := HF.out hz
        clear HF HX
        rw [HT.out] at hz
        subst hz
        have HH2 : Hid (∀ W : World, Calls Try.prog 32 #[.int .i64 ((k : Int) + 1)] W fun e w' => e = .returned (.bool (hasB (ki v))) ∧ w' = W) := by
          intro W
          have := HH.out ((k : Int) + 1) W
          rw [HE.out]
          exact this
        clear HH HN
        generalize hasB (ki v) = p at *
        cases p with
        | true =>
          have HA2 : Hid (ar v = v % 65536) := HA.out
          clear HA
          go_wp2_with (go_at_call 32; refine (HH2.out _).mono ?_; rintro e w2 ⟨rfl, rfl⟩)
          refine bodyPost_ret (v := .agg #[.int .i64 ((k : Int) + 1), .int .i64 (v % 65536)]) (by simp [results, Try.results20, go_sem, s0, s1]) rfl ⟨?_, ?_⟩
          · rw [HA2.out, HE.out]; rfl
          · exact (B1.out.setCell (p := ⟨w.heap.size, 0, none⟩) (Nat.le_refl _) _).setCell (p := ⟨w.heap.size, 1, none⟩) (Nat.le_refl _) _
        | false =>
          have HA2 : Hid (ar v = 0) := HA.out
          clear HA
          go_wp2_with (go_at_call 32; refine (HH2.out _).mono ?_; rintro e w2 ⟨rfl, rfl⟩)
          refine bodyPost_ret (v := .agg #[.int .i64 ((k : Int) + 1), .int .i64 0]) (by simp [results, Try.results20, go_sem, s0, s1]) rfl ⟨?_, ?_⟩
          · rw [HA2.out, HE.out]; rfl
          · exact (B1.out.setCell (p := ⟨w.heap.size, 0, none⟩) (Nat.le_refl _) _).setCell (p := ⟨w.heap.size, 1, none⟩) (Nat.le_refl _) _
      · have hzb : (z == v / 65536 * 65536) = false := by rw [← HT.out]; exact beq_eq_false_iff_ne.2 hz
        go_wp2_with fail
        go_round
        case rel => exact ⟨k + 1, by omega, by go_num, HX.out z rfl hz⟩
        case measure => simp [intOf]; omega
    · have h9 : ¬ (k : Int) < 8 := by omega
      have ek : ki v = 1 := kiH_none (top v) (fun j h1 h2 => HNo.out j h1 (by omega))
      have HE : Hid (ki v = 1) := ek
      have HA2 : Hid (ar v = 0) := by
        unfold Hid
        rw [HA.out, ek]
        rfl
      clear ek HNo HA HH
      go_wp2
      refine bodyPost_ret (v := .agg #[.int .i64 1, .int .i64 0]) (by simp [results, Try.results20, go_sem, s0, s1]) rfl ⟨?_, ?_⟩
      · rw [HA2.out, HE.out]
      · exact (B1.out.setCell (p := ⟨w.heap.size, 0, none⟩) (Nat.le_refl _) _).setCell (p := ⟨w.heap.size, 1, none⟩) (Nat.le_refl _) _

end Go.Proofs.Ytamioifoemklfaa.A
