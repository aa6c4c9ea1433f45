/-
  The law DataHalves, walked: true for every call and every number of an argument.
-/
import Derived.Test.YtkfpcdnkpafphaaAwake
import Derived.Test.YtkfpcdnkpafphaaLoad
namespace Go.Proofs.Ytkfpcdnkpafphaa
open Go.RowKit

theorem ld_lo (d : Da) (hd : d.ok) (k : Nat) (hk : k < 6) : ldv d (16 + 8 * (k : Int)) = lo (d.g.getD k 0) ∧ lde (16 + 8 * (k : Int)) = 0 := by
  have h := ld_in d (4 + 2 * k) (by omega)
  rw [show ((4 * (4 + 2 * k) : Nat) : Int) = 16 + 8 * (k : Int) by omega, word_lo d hd k hk] at h
  exact h

theorem ld_hi (d : Da) (hd : d.ok) (k : Nat) (hk : k < 6) : ldv d (16 + 8 * (k : Int) + 4) = hi (d.g.getD k 0) ∧ lde (16 + 8 * (k : Int) + 4) = 0 := by
  have h := ld_in d (4 + 2 * k + 1) (by omega)
  rw [show ((4 * (4 + 2 * k + 1) : Nat) : Int) = 16 + 8 * (k : Int) + 4 by omega, word_hi d hd k hk] at h
  exact h

theorem or64' (x : Int) (h : U64 x) : bits BinOp.or IntKind.u64 (hi x * 4294967296) (lo x) = x := by
  have hh := hi_u x h
  have hl := lo_u x
  have e := both_lohi x
  unfold U32 at hh hl
  unfold both at e
  generalize hi x = y at *
  generalize lo x = z at *
  obtain ⟨n, rfl⟩ := Int.eq_ofNat_of_zero_le hh.1
  obtain ⟨m, rfl⟩ := Int.eq_ofNat_of_zero_le hl.1
  have e2 : ((n : Int) * 4294967296) = ((n * 2 ^ 32 : Nat) : Int) := by omega
  rw [e2, bits_or_u64_nat (n * 2 ^ 32) m (by omega) (by omega), ← Nat.shiftLeft_eq, ← Nat.shiftLeft_add_eq_or_of_lt (by omega), Nat.shiftLeft_eq]
  omega

set_option maxRecDepth 4000 in
set_option maxHeartbeats 1000000 in
theorem dataHalves_walk (d : Da) (arg : Int) (w : World) (hd : d.ok) (ha : (Lit.int .i64 arg).wf = true) :
    Calls Try.prog 6 #[d.val, .int .i64 arg] w fun e w' => e = .returned (.bool true) ∧ Below w.heap.size w w' := by
  have HP := fun W : World => place_any arg W
  have z1 : Blk (w.alloc (Obj.cells d.cells.toArray 26)) w.heap.size 26 d.cells := blk_new w _ 26
  have z5 : Below w.heap.size w (w.alloc (Obj.cells d.cells.toArray 26)) := (Below.refl _ _).alloc (Nat.le_refl _) _
  by_cases hin : 0 ≤ arg ∧ arg ≤ 5
  · obtain ⟨k, rfl⟩ := Int.eq_ofNat_of_zero_le hin.1
    have hk : k < 6 := by omega
    rw [if_pos hin, (pl_in _ hin.1 hin.2).1, (pl_in _ hin.1 hin.2).2] at HP
    have HPH : Hid (∀ W : World, Calls Try.prog 16 #[.int .i64 (k : Int)] W fun e w' => e = .returned (.tuple #[.int .u32 (16 + 8 * (k : Int)), .int .u32 (16 + 8 * (k : Int) + 4), .int .i64 0]) ∧ Below W.heap.size W w') := HP
    have HC : Hid ((Try.prog.info? 26).map (·.size) = some d.cells.toArray.size) := by unfold Hid; rw [Try.size26]; simp [d.cells_len hd]
    have U0 : U32 (16 + 8 * (k : Int)) := by unfold U32; omega
    have U1 : U32 (16 + 8 * (k : Int) + 4) := by unfold U32; omega
    have HX : Hid (∀ W : World, Calls Try.prog 14 #[.agg d.cells.toArray, .int .u32 (16 + 8 * (k : Int))] W fun e w' => e = .returned (.tuple #[.int .u32 (lo (d.g.getD k 0)), .int .i64 0]) ∧ Below W.heap.size W w') := by
      intro W
      have := load_any d _ W hd U0
      rw [(ld_lo d hd k hk).1, (ld_lo d hd k hk).2] at this
      exact this
    have HY : Hid (∀ W : World, Calls Try.prog 14 #[.agg d.cells.toArray, .int .u32 (16 + 8 * (k : Int) + 4)] W fun e w' => e = .returned (.tuple #[.int .u32 (hi (d.g.getD k 0)), .int .i64 0]) ∧ Below W.heap.size W w') := by
      intro W
      have := load_any d _ W hd U1
      rw [(ld_hi d hd k hk).1, (ld_hi d hd k hk).2] at this
      exact this
    have CG : Hid (d.cells[3 + k]? = some (.int .u64 (d.g.getD k 0))) := by
      unfold Hid
      have := hd.2.2.2.1
      rw [Nat.add_comm]
      simp [Da.cells, List.getElem?_eq_getElem (show k < d.g.length by omega)]
    have UG : U64 (d.g.getD k 0) := by
      rw [List.getD_eq_getElem?_getD, List.getElem?_eq_getElem (show k < d.g.length by have := hd.2.2.2.1; omega)]
      exact hd.2.2.2.2 _ (List.getElem_mem _)
    have HH : Hid (∀ W : World, Calls Try.prog 17 #[.int .u64 (d.g.getD k 0)] W fun e w' => e = .returned (.tuple #[.int .u32 (lo (d.g.getD k 0)), .int .u32 (hi (d.g.getD k 0))]) ∧ w' = W) := fun W => halves_any _ W UG
    have W1 : IntKind.u64.wrap (hi (d.g.getD k 0)) = hi (d.g.getD k 0) := by have := hi_u _ UG; unfold U32 at this; rw [IntKind.wrap_u64]; omega
    have W2 : IntKind.u64.wrap (lo (d.g.getD k 0)) = lo (d.g.getD k 0) := by have := lo_u (d.g.getD k 0); unfold U32 at this; rw [IntKind.wrap_u64]; omega
    have W3 : IntKind.u64.wrap (hi (d.g.getD k 0) * 4294967296) = hi (d.g.getD k 0) * 4294967296 := by have := hi_u _ UG; unfold U32 at this; rw [IntKind.wrap_u64]; omega
    have W4 : bits BinOp.or IntKind.u64 (hi (d.g.getD k 0) * 4294967296) (lo (d.g.getD k 0)) = d.g.getD k 0 := or64' _ UG
    unfold Da.val
    generalize d.cells = A at *
    generalize d.g.getD k 0 = x at *
    generalize lo x = y0 at *
    generalize hi x = y1 at *
    clear hd ha hin HP U0 U1 UG
    obtain ⟨p0, e0⟩ : ∃ p0, 16 + 8 * (k : Int) = p0 := ⟨_, rfl⟩
    rw [e0] at HPH HX HY
    have q1 : IntKind.u32.wrap (p0 + 4) = p0 + 4 := by rw [IntKind.wrap_u32]; omega
    obtain ⟨p1, e1⟩ : ∃ p1, p0 + 4 = p1 := ⟨_, rfl⟩
    rw [e1] at HPH HY q1
    have q2 : IntKind.u32.wrap (16 + 8 * (k : Int)) = p0 := by rw [e0, IntKind.wrap_u32]; omega
    go_enter Try.func6, Try.ntmps6
    go_wp2_with fail
    generalize w.alloc (Obj.cells A.toArray 26) = W0 at *
    refine (awake_any _).mono ?_
    rintro e X ⟨rfl, hX⟩
    have b1 : Hid (Blk X w.heap.size 26 A) := z1.over hX
    have y5 := z5.trans (hX.mono z5.size)
    clear z1 z5 hX
    go_wp2_with fail
    refine (HPH.out _).mono ?_
    rintro e Y ⟨rfl, hY⟩
    have b2 : Hid (Blk Y w.heap.size 26 A) := b1.out.over hY
    have y6 := y5.trans (hY.mono y5.size)
    clear b1 hY y5
    go_wp2_with (refine wpList_load_row rfl 26 (.tmp 2) rfl w.heap.size rfl 26 A.toArray (0, 0) _ b2.out Try.underlying26 rfl HC.out ?_)
    refine (HX.out _).mono ?_
    rintro e Z ⟨rfl, hZ⟩
    have b3 : Hid (Blk Z w.heap.size 26 A) := b2.out.over hZ
    have y7 := y6.trans (hZ.mono y6.size)
    clear b2 y6 hZ
    go_wp2_with (refine wpList_load_row rfl 26 (.tmp 2) rfl w.heap.size rfl 26 A.toArray (0, 0) _ b3.out Try.underlying26 rfl HC.out ?_)
    refine (HY.out _).mono ?_
    rintro e V ⟨rfl, hV⟩
    have b4 := (b3.out.over hV).cell (3 + k)
    rw [CG.out] at b4
    have y8 := y7.trans (hV.mono y7.size)
    clear b3 y7 hV
    go_wp2_with fail
    refine (HH.out _).mono ?_
    rintro e V2 ⟨rfl, hV2⟩
    subst hV2
    go_wp2
    go_ret
    exact ⟨rfl, y8⟩
  · have HPH : Hid (∀ W : World, Calls Try.prog 16 #[.int .i64 arg] W fun e w' => e = .returned (.tuple #[.int .u32 0, .int .u32 0, .int .i64 1]) ∧ Below W.heap.size W w') := by
      rw [if_neg hin, (pl_out _ (by omega)).1, (pl_out _ (by omega)).2] at HP
      exact HP
    unfold Da.val
    generalize d.cells = A at *
    clear hd ha HP z1
    by_cases h0 : arg < 0
    · clear hin
      go_enter Try.func6, Try.ntmps6
      go_wp2_with fail
      generalize w.alloc (Obj.cells A.toArray 26) = W0 at *
      refine (awake_any _).mono ?_
      rintro e X ⟨rfl, hX⟩
      have y5 := z5.trans (hX.mono z5.size)
      go_wp2_with fail
      refine (HPH.out _).mono ?_
      rintro e Y ⟨rfl, hY⟩
      have y6 := y5.trans (hY.mono y5.size)
      go_wp2
      go_ret
      exact ⟨rfl, y6⟩
    · have h5 : arg > 5 := by omega
      clear hin
      go_enter Try.func6, Try.ntmps6
      go_wp2_with fail
      generalize w.alloc (Obj.cells A.toArray 26) = W0 at *
      refine (awake_any _).mono ?_
      rintro e X ⟨rfl, hX⟩
      have y5 := z5.trans (hX.mono z5.size)
      go_wp2_with fail
      refine (HPH.out _).mono ?_
      rintro e Y ⟨rfl, hY⟩
      have y6 := y5.trans (hY.mono y5.size)
      go_wp2
      go_ret
      exact ⟨rfl, y6⟩

end Go.Proofs.Ytkfpcdnkpafphaa
