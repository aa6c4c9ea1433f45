/-
  The word of a call at a place, by package data, proved of every call and place.
-/
import Derived.Test.YtinjlneeafopoaaDBytes
namespace Go.Proofs.Ytinjlneeafopoaa
open Go.RowKit

/-- the word of a call at a place, and what is wrong with the place. -/
def ldv (d : Da) (m : Int) : Int := if m % 4 = 0 ∧ m < 64 then d.words.getD (m / 4).toNat 0 else 0
def lde (m : Int) : Int := if m % 4 = 0 ∧ m < 64 then 0 else 12

theorem ld_in (d : Da) (j : Nat) (hj : j < 16) : ldv d ((4 * j : Nat) : Int) = d.words.getD j 0 ∧ lde ((4 * j : Nat) : Int) = 0 := by
  have h : ((4 * j : Nat) : Int) % 4 = 0 ∧ ((4 * j : Nat) : Int) < 64 := by omega
  unfold ldv lde
  rw [if_pos h, if_pos h, show (((4 * j : Nat) : Int) / 4).toNat = j by omega]
  exact ⟨rfl, rfl⟩
theorem ld_out (d : Da) (m : Int) (h : ¬ (m % 4 = 0 ∧ m < 64)) : ldv d m = 0 ∧ lde m = 12 := by
  unfold ldv lde
  rw [if_neg h, if_neg h]
  exact ⟨rfl, rfl⟩

set_option maxHeartbeats 400000 in
theorem load_any (d : Da) (m : Int) (w : World) (hd : d.ok) (hm : U32 m) :
    Calls Try.prog 49 #[d.val, .int .u32 m] w fun e w' => e = .returned (.tuple #[.int .u32 (ldv d m), .int .i64 (lde m)]) ∧ Below w.heap.size w w' := by
  have hk2 : Hid (Below w.heap.size w (w.alloc (Obj.cells d.cells.toArray 27))) := (Below.refl _ _).alloc (Nat.le_refl _) _
  by_cases hc : m % 4 = 0 ∧ m < 64
  · have HL : Hid (d.words.length = 16) := words_len d hd
    have HC : Hid ((Try.prog.info? 27).map (·.size) = some d.cells.toArray.size) := by unfold Hid; rw [Try.size27]; simp [d.cells_len hd]
    have HG : Hid (∀ k, k < 16 → (cellsW d.words).toArray[k]? = some (.int .u32 (d.words.getD k 0))) := fun k hk => valW_get _ k (by rw [HL.out]; exact hk)
    have HS : Hid (∀ W : World, Calls Try.prog 59 #[.agg d.cells.toArray] W fun e w' => e = .returned (.agg (cellsW d.words).toArray) ∧ Below W.heap.size W w') := fun W => split_any d W hd
    obtain ⟨h0, h1⟩ := hm
    obtain ⟨j, hj, rfl⟩ : ∃ j : Nat, j < 16 ∧ m = ((4 * j : Nat) : Int) := ⟨(m / 4).toNat, by omega, by omega⟩
    obtain ⟨e1, e2⟩ := ld_in d j hj
    rw [e1, e2]
    have hix : ∀ W : World, (Instr.index 84 (.agg (cellsW d.words).toArray) (.int .u32 j)).run Try.prog W = .ok (.int .u32 (d.words.getD j 0)) W := fun W => index_row 84 23 16 .u32 .u32 Try.underlying84 Try.underlying23 Try.sizeOf23 _ j _ hj (HG.out j hj) W
    have hr : Int.tmod ((4 * j : Nat) : Int) 4 = 0 := by rw [Int.tmod_eq_emod_of_nonneg (by omega)]; omega
    have hq : Int.tdiv ((4 * j : Nat) : Int) 4 = (j : Int) := by rw [Int.tdiv_eq_ediv_of_nonneg (by omega)]; omega
    have hlt : ¬ (64 : Int) ≤ ((4 * j : Nat) : Int) := by omega
    have hB : Hid (Blk (w.alloc (Obj.cells d.cells.toArray 27)) w.heap.size 27 d.cells.toArray.toList) := blk_new w _ 27
    clear e1 e2 hc h0 h1 hd HL HG
    unfold Da.val
    generalize d.words.getD j 0 = x at *
    generalize d.cells.toArray = A at *
    generalize (cellsW d.words).toArray = R at *
    generalize hM : ((4 * j : Nat) : Int) = M at *
    clear hM
    go_enter Try.func49, Try.ntmps49
    go_wp2_with (first | (refine wpList_load_row rfl 27 (.tmp 2) rfl w.heap.size rfl 27 A (0, 0) _ hB.out Try.underlying27 rfl HC.out ?_) | (go_at_call 59; refine (HS.out _).mono ?_; rintro e w2 ⟨rfl, hb2⟩))
    go_ret2
    exact ⟨rfl, hk2.out.trans (hb2.mono hk2.out.size)⟩
  · obtain ⟨e1, e2⟩ := ld_out d m hc
    rw [e1, e2]
    obtain ⟨h0, h1⟩ := hm
    clear e1 e2 hd
    unfold Da.val
    generalize d.cells.toArray = A at *
    by_cases h4 : m % 4 = 0
    · have hr : Int.tmod m 4 = 0 := by rw [Int.tmod_eq_emod_of_nonneg (by omega)]; omega
      have hlt : (64 : Int) ≤ m := by omega
      clear hc h4 h0 h1
      go_enter Try.func49, Try.ntmps49
      go_wp2
      go_ret2
      exact ⟨rfl, hk2.out⟩
    · have hr : ¬ Int.tmod m 4 = 0 := by rw [Int.tmod_eq_emod_of_nonneg (by omega)]; omega
      clear hc h4 h0 h1
      go_enter Try.func49, Try.ntmps49
      go_wp2
      go_ret2
      exact ⟨rfl, hk2.out⟩

end Go.Proofs.Ytinjlneeafopoaa
