/-
  The law DataWords, walked: true for every call.
-/
import Derived.Test.YtkfpcdnkpafphaaAwake
import Derived.Test.YtkfpcdnkpafphaaStep
import Derived.Test.YtkfpcdnkpafphaaLoad
namespace Go.Proofs.Ytkfpcdnkpafphaa
open Go.RowKit

set_option linter.unusedSimpArgs false in
set_option maxHeartbeats 4000000 in
theorem dataWords_walk (x : Da) (w : World) (hx : x.ok) :
    Calls Try.prog 7 #[x.val] w fun e w' => e = .returned (.bool true) ∧ Below w.heap.size w w' := by
  have BX : Hid (Byt x.enc) := enc_byt x hx
  have HX : Hid (∀ W : World, Calls Try.prog 12 #[x.val] W fun e w' => Below W.heap.size W w' ∧ ∃ v', e = .returned v' ∧ w'.ownsRow W.heap.size 5 1 v' 64 (cellsB x.enc)) := fun W => bytes_any x W hx
  have HL : Hid (∀ k, k < 16 → ∀ W : World, Calls Try.prog 14 #[x.val, .int .u32 ((4 * k : Nat) : Int)] W fun e w' => e = .returned (.tuple #[.int .u32 (x.words.getD k 0), .int .i64 0]) ∧ Below W.heap.size W w') := by
    intro k hk W
    have := load_any x ((4 * k : Nat) : Int) W hx (by unfold U32; omega)
    rw [(ld_in x k hk).1, (ld_in x k hk).2] at this
    exact this
  have H0 : Hid (∀ W : World, Calls Try.prog 14 #[x.val, .int .u32 0] W fun e w' => e = .returned (.tuple #[.int .u32 x.n, .int .i64 0]) ∧ Below W.heap.size W w') := fun W => HL.out 0 (by decide) W
  have H4 : Hid (∀ W : World, Calls Try.prog 14 #[x.val, .int .u32 4] W fun e w' => e = .returned (.tuple #[.int .u32 x.a, .int .i64 0]) ∧ Below W.heap.size W w') := fun W => HL.out 1 (by decide) W
  have HW : Hid (x.words.length = 16) := words_len x hx
  have HU : Hid (∀ z ∈ x.words, U32 z) := words_u x hx
  have HEN : Hid (encW x.words = x.enc) := rfl
  have hl := hx.2.2.2.1
  generalize x.enc = ex at *
  generalize x.words = ws at *
  clear hx
  obtain ⟨n, a, p, g⟩ := x
  obtain ⟨x0, x1, x2, x3, x4, x5, rfl⟩ := six hl
  clear hl
  unfold Da.val Da.cells at *
  simp only [List.map_cons, List.map_nil] at *
  have f1 := blk_new w #[.int .u32 n, .int .u32 a, .int .u64 p, .int .u64 x0, .int .u64 x1, .int .u64 x2, .int .u64 x3, .int .u64 x4, .int .u64 x5] 26
  have b1 : Below w.heap.size w (w.alloc (Obj.cells #[.int .u32 n, .int .u32 a, .int .u64 p, .int .u64 x0, .int .u64 x1, .int .u64 x2, .int .u64 x3, .int .u64 x4, .int .u64 x5] 26)) := (Below.refl _ _).alloc (Nat.le_refl _) _
  have HC : Hid ((Try.prog.info? 26).map (·.size) = some (#[.int .u32 n, .int .u32 a, .int .u64 p, .int .u64 x0, .int .u64 x1, .int .u64 x2, .int .u64 x3, .int .u64 x4, .int .u64 x5] : Array Value).size) := Try.size26
  go_enter Try.func7, Try.ntmps7
  go_wp2_with fail
  generalize w.alloc (Obj.cells #[.int .u32 n, .int .u32 a, .int .u64 p, .int .u64 x0, .int .u64 x1, .int .u64 x2, .int .u64 x3, .int .u64 x4, .int .u64 x5] 26) = W0 at *
  refine (awake_any _).mono ?_
  rintro e X ⟨rfl, hX⟩
  have f2 : Blk X w.heap.size 26 [.int .u32 n, .int .u32 a, .int .u64 p, .int .u64 x0, .int .u64 x1, .int .u64 x2, .int .u64 x3, .int .u64 x4, .int .u64 x5] := f1.over hX
  have b2 := b1.trans (hX.mono b1.size)
  clear f1 b1 hX
  go_wp2_with fail
  go_loopw [4, 5] (fun v i wr => ∃ k : Nat, k ≤ 16 ∧ i = .int .u32 ((4 * k : Nat) : Int) ∧ wr.ownsRow (w.heap.size + 1) 5 1 v (4 * k) (cellsB (encW (ws.take k))) ∧ Blk wr w.heap.size 26 [.int .u32 n, .int .u32 a, .int .u64 p, .int .u64 x0, .int .u64 x1, .int .u64 x2, .int .u64 x3, .int .u64 x4, .int .u64 x5] ∧ Below w.heap.size w wr) (fun _ i _ => 64 - (intOf i).toNat)
  case atStart => exact ⟨0, by decide, rfl, owns_nil _ _, f2, b2⟩
  case round =>
    obtain ⟨k, hk, rfl, ho, hA, hB⟩ := hrel
    clear f2 b2
    by_cases hlt : k < 16
    · have HE : Hid (encW (ws.take (k + 1)) = encW (ws.take k) ++ w4 (ws.getD k 0)) := encW_take ws k (by rw [HW.out]; exact hlt)
      have HD : Hid ([ws.getD k 0 % 256, ws.getD k 0 / 256 % 256, ws.getD k 0 / 65536 % 256, ws.getD k 0 / 16777216 % 256] = w4 (ws.getD k 0)) := by
        have := getD_u HU.out k
        unfold U32 at this
        unfold Hid w4
        rw [show ws.getD k 0 / 16777216 % 256 = ws.getD k 0 / 16777216 by omega]
      have HQ : Hid (Byt [ws.getD k 0 % 256, ws.getD k 0 / 256 % 256, ws.getD k 0 / 65536 % 256, ws.getD k 0 / 16777216 % 256]) := by
        unfold Hid
        rw [HD.out]
        exact w4_byt _ (getD_u HU.out k)
      have HK := HL.out k hlt
      have HK : Hid (∀ W : World, Calls Try.prog 14 #[.agg #[.int .u32 n, .int .u32 a, .int .u64 p, .int .u64 x0, .int .u64 x1, .int .u64 x2, .int .u64 x3, .int .u64 x4, .int .u64 x5], .int .u32 ((4 * k : Nat) : Int)] W fun e w' => e = .returned (.tuple #[.int .u32 (ws.getD k 0), .int .i64 0]) ∧ Below W.heap.size W w') := HK
      generalize ws.getD k 0 = z at *
      generalize encW (ws.take k) = el at *
      have h1 : Hid (Blk wr w.heap.size 26 [.int .u32 n, .int .u32 a, .int .u64 p, .int .u64 x0, .int .u64 x1, .int .u64 x2, .int .u64 x3, .int .u64 x4, .int .u64 x5]) := hA
      have hi1 : ((4 * k : Nat) : Int) < 64 := by omega
      have hw4 : IntKind.u32.wrap (((4 * k : Nat) : Int) + 4) = ((4 * (k + 1) : Nat) : Int) := by rw [IntKind.wrap_u32]; omega
      have hk4 : 4 * k ≤ 60 := by omega
      have HM : Hid (4 * k = 4 * k) := rfl
      clear hA HL H0 H4 HX HEN
      go_wp2_with (first | (refine wpList_load_row rfl 26 (.tmp 1) rfl w.heap.size rfl 26 #[.int .u32 n, .int .u32 a, .int .u64 p, .int .u64 x0, .int .u64 x1, .int .u64 x2, .int .u64 x3, .int .u64 x4, .int .u64 x5] (0, 0) _ h1.out Try.underlying26 rfl HC.out ?_) | (go_at_call 14; refine (HK.out _).mono ?_; rintro e w2 ⟨rfl, hb2⟩; have ho2 := owns_below ho hb2 (Nat.le_refl _); have h2 := h1.out.over hb2; have c2 := hB.trans (hb2.mono hB.size)) | (at_builtin; refine append_bytes rfl (.tmp 25) (.tmp 37) rfl (w.heap.size + 1) _ (4 * k) el rfl (ho2.alloc _) (some ⟨w2.heap.size, 0, none⟩) 4 4 [z % 256, z / 256 % 256, z / 65536 % 256, z / 16777216 % 256] rfl (by simp) (bs_four w2 _ _ _ _ HQ.out) (by omega) (by rw [size_alloc']; have := h2.lt; omega) ?_; intro v1 w1 ho1 hg1))
      go_roundw
      case rel =>
        have c3 := c2.alloc c2.size (Obj.cells #[.int .u8 (z % 256), .int .u8 (z / 256 % 256), .int .u8 (z / 65536 % 256), .int .u8 (z / 16777216 % 256)] 5)
        refine ⟨k + 1, by omega, by first | go_num | rw [hw4], ?_, ?_, c3.grown hg1 c3.size (owns_block (owns_lower ho2 (Nat.le_succ _)))⟩
        · rw [HE.out, ← HD.out, Nat.mul_add, Nat.mul_one]
          exact ho1
        · exact (h2.alloc _).grown hg1 (own_ne ho2 (Nat.lt_succ_self _))
      case measure => simp [intOf]; omega
    · have hk6 : ¬ ((4 * k : Nat) : Int) < 64 := by omega
      obtain ⟨e4, et⟩ : 4 * k = 64 ∧ ws.take k = ws := by
        obtain rfl : k = 16 := by omega
        exact ⟨rfl, List.take_of_length_le (by rw [HW.out]; omega)⟩
      rw [e4, et, HEN.out] at ho
      rw [e4] at hk6
      rw [e4]
      clear et hlt hk HEN HL HW HU
      have h1 : Hid (Blk wr w.heap.size 26 [.int .u32 n, .int .u32 a, .int .u64 p, .int .u64 x0, .int .u64 x1, .int .u64 x2, .int .u64 x3, .int .u64 x4, .int .u64 x5]) := hA
      clear hA
      go_wp2_with (refine wpList_load_row rfl 26 (.tmp 1) rfl w.heap.size rfl 26 #[.int .u32 n, .int .u32 a, .int .u64 p, .int .u64 x0, .int .u64 x1, .int .u64 x2, .int .u64 x3, .int .u64 x4, .int .u64 x5] (0, 0) _ h1.out Try.underlying26 rfl HC.out ?_)
      refine (H0.out _).mono ?_
      rintro e Y ⟨rfl, hY⟩
      have ho3 := owns_below ho hY (Nat.le_refl _)
      have h2 : Hid (Blk Y w.heap.size 26 [.int .u32 n, .int .u32 a, .int .u64 p, .int .u64 x0, .int .u64 x1, .int .u64 x2, .int .u64 x3, .int .u64 x4, .int .u64 x5]) := h1.out.over hY
      have b3 := hB.trans (hY.mono hB.size)
      clear ho h1 hB hY
      go_wp2_with (refine wpList_load_row rfl 26 (.tmp 1) rfl w.heap.size rfl 26 #[.int .u32 n, .int .u32 a, .int .u64 p, .int .u64 x0, .int .u64 x1, .int .u64 x2, .int .u64 x3, .int .u64 x4, .int .u64 x5] (0, 0) _ h2.out Try.underlying26 rfl HC.out ?_)
      refine (H4.out _).mono ?_
      rintro e Z ⟨rfl, hZ⟩
      have ho4 := owns_below ho3 hZ (Nat.le_refl _)
      have h3 : Hid (Blk Z w.heap.size 26 [.int .u32 n, .int .u32 a, .int .u64 p, .int .u64 x0, .int .u64 x1, .int .u64 x2, .int .u64 x3, .int .u64 x4, .int .u64 x5]) := h2.out.over hZ
      have b4 := b3.trans (hZ.mono b3.size)
      obtain ⟨ao, capo, rfl, bso, -, -⟩ := owns_bs ho4 BX.out
      clear ho3 h2 b3 hZ ho4 H0 H4
      have i3 : Hid (Bs Z ao 64 ex) := bso
      clear bso
      generalize hB1 : w.heap.size = B1 at *
      go_wp2_with fail
      refine wp_region_held_drew (S := (fun w' => Blk w' B1 26 [.int .u32 n, .int .u32 a, .int .u64 p, .int .u64 x0, .int .u64 x1, .int .u64 x2, .int .u64 x3, .int .u64 x4, .int .u64 x5] ∧ Bs w' ao 64 ex)) (by kernel_rfl) (⟨h3.out.drew, i3.out.below (Below.refl _ _).drew⟩) (fun hHeld => ?_)
      simp only [List.size_toArray, List.length_cons, List.length_nil, Nat.reduceAdd]
      refine wpAnyH_take (i := 0) (v := ?_) rfl (by kernel_rfl) (by kernel_rfl) (by kernel_rfl) (fun _ _ _ h => h) (Or.inl ⟨by rfl, ?_⟩) hHeld ?_
      rotate_left
      · (intro w hSw; (try dsimp only at hSw); go_simp; try with_reducible rfl)
      try simp only [Act.put, List.setIfInBounds_toArray, List.set_cons_zero, List.set_cons_succ, List.getElem_toArray, List.getElem_cons_zero, List.getElem_cons_succ]
      refine wpAnyH_take (i := 1) (v := ?_) rfl (by kernel_rfl) (by kernel_rfl) (by kernel_rfl) (fun _ _ _ h => h) (Or.inl ⟨by rfl, ?_⟩) hHeld ?_
      rotate_left
      · (intro w hSw; (try dsimp only at hSw); go_simp; try with_reducible rfl)
      try simp only [Act.put, List.setIfInBounds_toArray, List.set_cons_zero, List.set_cons_succ, List.getElem_toArray, List.getElem_cons_zero, List.getElem_cons_succ]
      refine wpAnyH_take (i := 2) (v := ?_) rfl (by kernel_rfl) (by kernel_rfl) (by kernel_rfl) (fun _ _ _ h => h) (Or.inl ⟨by rfl, ?_⟩) hHeld ?_
      rotate_left
      · (intro w hSw; (try dsimp only at hSw); go_simp; try with_reducible rfl)
      try simp only [Act.put, List.setIfInBounds_toArray, List.set_cons_zero, List.set_cons_succ, List.getElem_toArray, List.getElem_cons_zero, List.getElem_cons_succ]
      refine wpAnyH_take (i := 3) (v := ?_) rfl (by kernel_rfl) (by kernel_rfl) (by kernel_rfl) (fun _ _ _ h => h) (Or.inl ⟨by rfl, ?_⟩) hHeld ?_
      rotate_left
      · (intro w hSw; (try dsimp only at hSw); have cy := run_text hSw.2 capo; go_simp; try with_reducible rfl)
      try simp only [Act.put, List.setIfInBounds_toArray, List.set_cons_zero, List.set_cons_succ, List.getElem_toArray, List.getElem_cons_zero, List.getElem_cons_succ]
      refine wpAnyH_take (i := 4) (v := ?_) rfl (by kernel_rfl) (by kernel_rfl) (by kernel_rfl) (fun _ _ _ h => h) (Or.inl ⟨by rfl, ?_⟩) hHeld ?_
      rotate_left
      · (intro w hSw; (try dsimp only at hSw); have s0 := (hSw.1).cell 0; have s1 := (hSw.1).cell 1; have s2 := (hSw.1).cell 2; have s3 := (hSw.1).cell 3; have s4 := (hSw.1).cell 4; have s5 := (hSw.1).cell 5; have s6 := (hSw.1).cell 6; have s7 := (hSw.1).cell 7; have s8 := (hSw.1).cell 8; go_simp; try with_reducible rfl)
      try simp only [Act.put, List.setIfInBounds_toArray, List.set_cons_zero, List.set_cons_succ, List.getElem_toArray, List.getElem_cons_zero, List.getElem_cons_succ]
      refine wpAnyH_ready (rs := [5]) (by kernel_rfl) (by simp) ?_
      refine AllReadyH.cons rfl (fun K hK => ?_) AllReadyH.nil
      go_simp
      refine (HX.out _).mono ?_
      rintro e w2 ⟨hb2, v2, rfl, ho2⟩
      obtain ⟨a2, cap2, rfl, bs2, -, -⟩ := owns_bs ho2 BX.out
      go_wp2_with fail
      refine hK.out _ _ (⟨hHeld.1.over hb2, hHeld.2.below hb2⟩) (fun hHeld => ?_)
      clear hK K
      try simp only [Act.put, List.setIfInBounds_toArray, List.set_cons_zero, List.set_cons_succ, List.getElem_toArray, List.getElem_cons_zero, List.getElem_cons_succ]
      refine wpAnyH_switch (S2 := (fun w' => (Blk w' B1 26 [.int .u32 n, .int .u32 a, .int .u64 p, .int .u64 x0, .int .u64 x1, .int .u64 x2, .int .u64 x3, .int .u64 x4, .int .u64 x5] ∧ Bs w' ao 64 ex) ∧ Bs w' a2 64 ex)) (fun _ h => h.1) ?_
      replace hHeld : ((fun w' => (Blk w' B1 26 [.int .u32 n, .int .u32 a, .int .u64 p, .int .u64 x0, .int .u64 x1, .int .u64 x2, .int .u64 x3, .int .u64 x4, .int .u64 x5] ∧ Bs w' ao 64 ex) ∧ Bs w' a2 64 ex)) _ := ⟨hHeld, bs2⟩
      refine wpAnyH_take (i := 6) (v := ?_) rfl (by kernel_rfl) (by kernel_rfl) (by kernel_rfl) (fun _ _ _ h => h) (Or.inl ⟨by rfl, ?_⟩) hHeld ?_
      rotate_left
      · (intro w hSw; (try dsimp only at hSw); have cx := run_text hSw.2 cap2; go_simp; try with_reducible rfl)
      try simp only [Act.put, List.setIfInBounds_toArray, List.set_cons_zero, List.set_cons_succ, List.getElem_toArray, List.getElem_cons_zero, List.getElem_cons_succ]
      refine wpAnyH_take (i := 7) (v := ?_) rfl (by kernel_rfl) (by kernel_rfl) (by kernel_rfl) (fun _ _ _ h => h) (Or.inl ⟨by rfl, ?_⟩) hHeld ?_
      rotate_left
      · (intro w hSw; (try dsimp only at hSw); go_simp; try with_reducible rfl)
      try simp only [Act.put, List.setIfInBounds_toArray, List.set_cons_zero, List.set_cons_succ, List.getElem_toArray, List.getElem_cons_zero, List.getElem_cons_succ]
      refine wpAnyH_take (i := 8) (v := ?_) rfl (by kernel_rfl) (by kernel_rfl) (by kernel_rfl) (fun _ _ _ h => h) (Or.inl ⟨by rfl, ?_⟩) hHeld ?_
      rotate_left
      · (intro w hSw; (try dsimp only at hSw); go_simp; try with_reducible rfl)
      try simp only [Act.put, List.setIfInBounds_toArray, List.set_cons_zero, List.set_cons_succ, List.getElem_toArray, List.getElem_cons_zero, List.getElem_cons_succ]
      refine wpAnyH_take (i := 9) (v := ?_) rfl (by kernel_rfl) (by kernel_rfl) (by kernel_rfl) (fun _ _ _ h => h) (Or.inl ⟨by rfl, ?_⟩) hHeld ?_
      rotate_left
      · (intro w hSw; (try dsimp only at hSw); go_simp; try with_reducible rfl)
      try simp only [Act.put, List.setIfInBounds_toArray, List.set_cons_zero, List.set_cons_succ, List.getElem_toArray, List.getElem_cons_zero, List.getElem_cons_succ]
      refine wpAnyH_take (i := 10) (v := ?_) rfl (by kernel_rfl) (by kernel_rfl) (by kernel_rfl) (fun _ _ _ h => h) (Or.inl ⟨by rfl, ?_⟩) hHeld ?_
      rotate_left
      · (intro w hSw; (try dsimp only at hSw); go_simp; try with_reducible rfl)
      try simp only [Act.put, List.setIfInBounds_toArray, List.set_cons_zero, List.set_cons_succ, List.getElem_toArray, List.getElem_cons_zero, List.getElem_cons_succ]
      refine wpAnyH_take (i := 11) (v := ?_) rfl (by kernel_rfl) (by kernel_rfl) (by kernel_rfl) (fun _ _ _ h => h) (Or.inl ⟨by rfl, ?_⟩) hHeld ?_
      rotate_left
      · (intro w hSw; (try dsimp only at hSw); go_simp; try with_reducible rfl)
      try simp only [Act.put, List.setIfInBounds_toArray, List.set_cons_zero, List.set_cons_succ, List.getElem_toArray, List.getElem_cons_zero, List.getElem_cons_succ]
      refine wpAnyH_take (i := 12) (v := ?_) rfl (by kernel_rfl) (by kernel_rfl) (by kernel_rfl) (fun _ _ _ h => h) (Or.inl ⟨by rfl, ?_⟩) hHeld ?_
      rotate_left
      · (intro w hSw; (try dsimp only at hSw); have s0 := (hSw.1.1).cell 0; go_simp; try with_reducible rfl)
      try simp only [Act.put, List.setIfInBounds_toArray, List.set_cons_zero, List.set_cons_succ, List.getElem_toArray, List.getElem_cons_zero, List.getElem_cons_succ]
      refine wpAnyH_take (i := 13) (v := ?_) rfl (by kernel_rfl) (by kernel_rfl) (by kernel_rfl) (fun _ _ _ h => h) (Or.inl ⟨by rfl, ?_⟩) hHeld ?_
      rotate_left
      · (intro w hSw; (try dsimp only at hSw); go_simp; try with_reducible rfl)
      try simp only [Act.put, List.setIfInBounds_toArray, List.set_cons_zero, List.set_cons_succ, List.getElem_toArray, List.getElem_cons_zero, List.getElem_cons_succ]
      refine wpAnyH_take (i := 14) (v := ?_) rfl (by kernel_rfl) (by kernel_rfl) (by kernel_rfl) (fun _ _ _ h => h) (Or.inl ⟨by rfl, ?_⟩) hHeld ?_
      rotate_left
      · (intro w hSw; (try dsimp only at hSw); go_simp; try with_reducible rfl)
      try simp only [Act.put, List.setIfInBounds_toArray, List.set_cons_zero, List.set_cons_succ, List.getElem_toArray, List.getElem_cons_zero, List.getElem_cons_succ]
      refine wpAnyH_take (i := 15) (v := ?_) rfl (by kernel_rfl) (by kernel_rfl) (by kernel_rfl) (fun _ _ _ h => h) (Or.inl ⟨by rfl, ?_⟩) hHeld ?_
      rotate_left
      · (intro w hSw; (try dsimp only at hSw); go_simp; try with_reducible rfl)
      try simp only [Act.put, List.setIfInBounds_toArray, List.set_cons_zero, List.set_cons_succ, List.getElem_toArray, List.getElem_cons_zero, List.getElem_cons_succ]
      refine wpAnyH_take (i := 16) (v := ?_) rfl (by kernel_rfl) (by kernel_rfl) (by kernel_rfl) (fun _ _ _ h => h) (Or.inl ⟨by rfl, ?_⟩) hHeld ?_
      rotate_left
      · (intro w hSw; (try dsimp only at hSw); go_simp; try with_reducible rfl)
      try simp only [Act.put, List.setIfInBounds_toArray, List.set_cons_zero, List.set_cons_succ, List.getElem_toArray, List.getElem_cons_zero, List.getElem_cons_succ]
      refine wpAnyH_take (i := 17) (v := ?_) rfl (by kernel_rfl) (by kernel_rfl) (by kernel_rfl) (fun _ _ _ h => h) (Or.inl ⟨by rfl, ?_⟩) hHeld ?_
      rotate_left
      · (intro w hSw; (try dsimp only at hSw); go_simp; try with_reducible rfl)
      try simp only [Act.put, List.setIfInBounds_toArray, List.set_cons_zero, List.set_cons_succ, List.getElem_toArray, List.getElem_cons_zero, List.getElem_cons_succ]
      refine wpAnyH_take (i := 18) (v := ?_) rfl (by kernel_rfl) (by kernel_rfl) (by kernel_rfl) (fun _ _ _ h => h) (Or.inl ⟨by rfl, ?_⟩) hHeld ?_
      rotate_left
      · (intro w hSw; (try dsimp only at hSw); have s1 := (hSw.1.1).cell 1; go_simp; try with_reducible rfl)
      try simp only [Act.put, List.setIfInBounds_toArray, List.set_cons_zero, List.set_cons_succ, List.getElem_toArray, List.getElem_cons_zero, List.getElem_cons_succ]
      refine wpAnyH_take (i := 19) (v := ?_) rfl (by kernel_rfl) (by kernel_rfl) (by kernel_rfl) (fun _ _ _ h => h) (Or.inl ⟨by rfl, ?_⟩) hHeld ?_
      rotate_left
      · (intro w hSw; (try dsimp only at hSw); go_simp; try with_reducible rfl)
      try simp only [Act.put, List.setIfInBounds_toArray, List.set_cons_zero, List.set_cons_succ, List.getElem_toArray, List.getElem_cons_zero, List.getElem_cons_succ]
      refine wpAnyH_take (i := 20) (v := ?_) rfl (by kernel_rfl) (by kernel_rfl) (by kernel_rfl) (fun _ _ _ h => h) (Or.inl ⟨by rfl, ?_⟩) hHeld ?_
      rotate_left
      · (intro w hSw; (try dsimp only at hSw); go_simp; try with_reducible rfl)
      try simp only [Act.put, List.setIfInBounds_toArray, List.set_cons_zero, List.set_cons_succ, List.getElem_toArray, List.getElem_cons_zero, List.getElem_cons_succ]
      refine wpAnyH_take (i := 21) (v := ?_) rfl (by kernel_rfl) (by kernel_rfl) (by kernel_rfl) (fun _ _ _ h => h) (Or.inl ⟨by rfl, ?_⟩) hHeld ?_
      rotate_left
      · (intro w hSw; (try dsimp only at hSw); go_simp; try with_reducible rfl)
      try simp only [Act.put, List.setIfInBounds_toArray, List.set_cons_zero, List.set_cons_succ, List.getElem_toArray, List.getElem_cons_zero, List.getElem_cons_succ]
      refine wpAnyH_done (by kernel_rfl) ?_ _
      go_wp2_with fail
      go_ret
      have z1 : B1 ≤ Z.drew.heap.size := by rw [← hB1]; exact b4.size
      exact ⟨by first | rfl | simp, b4.drew.trans (hb2.mono z1)⟩

end Go.Proofs.Ytkfpcdnkpafphaa
