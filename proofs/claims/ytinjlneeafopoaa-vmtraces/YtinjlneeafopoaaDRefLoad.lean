/-
  The document's own word of a call at a place, proved of every call and place.
-/
import Derived.Test.YtinjlneeafopoaaDRefBytes
import Derived.Test.YtinjlneeafopoaaDLoad
namespace Go.Proofs.Ytinjlneeafopoaa
open Go.RowKit

set_option maxHeartbeats 400000 in
theorem refLoad_any (d : Da) (m : Int) (w : World) (hd : d.ok) (hm : U32 m) :
    Calls Try.prog 25 #[d.val, .int .u32 m] w fun e w' => e = .returned (.tuple #[.int .u32 (ldv d m), .int .i64 (lde m)]) ∧ Below w.heap.size w w' := by
  have hk2 : Hid (Below w.heap.size w (w.alloc (Obj.cells d.cells.toArray 27))) := (Below.refl _ _).alloc (Nat.le_refl _) _
  by_cases hc : m % 4 = 0 ∧ m < 64
  · have HC : Hid ((Try.prog.info? 27).map (·.size) = some d.cells.toArray.size) := by unfold Hid; rw [Try.size27]; simp [d.cells_len hd]
    have HS : Hid (∀ W : World, Calls Try.prog 43 #[.agg d.cells.toArray] W fun e w' => Below W.heap.size W w' ∧ ∃ v, e = .returned v ∧ w'.ownsRow W.heap.size 5 1 v 64 (cellsB d.enc)) := fun W => refBytes_any d W hd
    have HB : Hid (Byt d.enc) := enc_byt d hd
    have HN : Hid (∀ (b off cap : Nat) (l : List Int) (W : World), Bs W (some ⟨b, off, none⟩) 4 l → Calls Try.prog 42 #[.slice (some ⟨b, off, none⟩) 4 cap] W fun e w' => e = .returned (.int .u64 (num l)) ∧ w' = W) := fun b off cap l W h => number_any _ 4 cap l W h (by decide)
    obtain ⟨h0, h1⟩ := hm
    obtain ⟨j, hj, rfl⟩ : ∃ j : Nat, j < 16 ∧ m = ((4 * j : Nat) : Int) := ⟨(m / 4).toNat, by omega, by omega⟩
    obtain ⟨e1, e2⟩ := ld_in d j hj
    rw [e1, e2]
    have HW : Hid (num ((d.enc.drop (4 * j)).take 4) = d.words.getD j 0) := by
      unfold Hid
      rw [num_four _ (by rw [List.length_drop, enc_len d hd]; omega), Nat.mul_comm]
      exact word_at d hd j hj
    have HV : Hid (d.words.getD j 0 % 4294967296 = d.words.getD j 0) := by
      have := getD_u (words_u d hd) j
      unfold U32 at this
      unfold Hid
      omega
    have hr : Int.tmod ((4 * j : Nat) : Int) 4 = 0 := by rw [Int.tmod_eq_emod_of_nonneg (by omega)]; omega
    have hlt : ¬ (64 : Int) ≤ ((4 * j : Nat) : Int) := by omega
    have hB : Hid (Blk (w.alloc (Obj.cells d.cells.toArray 27)) w.heap.size 27 d.cells.toArray.toList) := blk_new w _ 27
    have hw4 : IntKind.u32.wrap (((4 * j : Nat) : Int) + 4) = ((4 * j + 4 : Nat) : Int) := by rw [IntKind.wrap_u32]; omega
    have hj4 : 4 * j + 4 ≤ 64 := by omega
    clear e1 e2 hc h0 h1 hd hj
    unfold Da.val
    generalize d.words.getD j 0 = x at *
    generalize d.cells.toArray = A at *
    generalize d.enc = en at *
    generalize 4 * j = M at *
    go_enter Try.func25, Try.ntmps25
    go_wp2_with (first | (refine wpList_load_row rfl 27 (.tmp 2) rfl w.heap.size rfl 27 A (0, 0) _ hB.out Try.underlying27 rfl HC.out ?_) | (go_at_call 43; refine (HS.out _).mono ?_; rintro e w2 ⟨hb2, v2, rfl, ho2⟩; obtain ⟨a2, cap2, rfl, bs2, hcap, -⟩ := owns_bs ho2 HB.out; obtain ⟨b, off, rfl, -⟩ := bs2.2.2 (by decide); have hcm : M + 4 ≤ cap2 := by omega) | (go_at_call 42; refine (HN.out _ _ _ _ _ (bs2.sub M 4 (by omega))).mono ?_; rintro e w3 ⟨rfl, rfl⟩))
    go_ret2
    rw [HW.out, HV.out]
    exact ⟨rfl, hk2.out.trans (hb2.mono hk2.out.size)⟩
  · obtain ⟨e1, e2⟩ := ld_out d m hc
    rw [e1, e2]
    obtain ⟨h0, h1⟩ := hm
    clear e1 e2 hd
    unfold Da.val
    generalize d.cells.toArray = A at *
    by_cases h4 : m % 4 = 0
    · have hr : Int.tmod m 4 = 0 := by rw [Int.tmod_eq_emod_of_nonneg (by omega)]; omega
      have hlt : (64 : Int) ≤ m := by omega
      clear hc h4 h0 h1
      go_enter Try.func25, Try.ntmps25
      go_wp2
      go_ret2
      exact ⟨rfl, hk2.out⟩
    · have hr : ¬ Int.tmod m 4 = 0 := by rw [Int.tmod_eq_emod_of_nonneg (by omega)]; omega
      clear hc h4 h0 h1
      go_enter Try.func25, Try.ntmps25
      go_wp2
      go_ret2
      exact ⟨rfl, hk2.out⟩

end Go.Proofs.Ytinjlneeafopoaa
