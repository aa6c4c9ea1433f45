/-
  The law DataBack, walked: true for every call and all bytes.
-/
import Derived.Test.YtkfpcdnkpafphaaAwake
import Derived.Test.YtkfpcdnkpafphaaStep
import Derived.Test.YtkfpcdnkpafphaaOf
namespace Go.Proofs.Ytkfpcdnkpafphaa
open Go.RowKit

theorem errOf_in : errOf 64 = 0 := rfl
theorem errOf_out (n : Nat) (h : n ≠ 64) : errOf n = 2 ∨ errOf n = 3 := by
  unfold errOf
  rcases Nat.lt_trichotomy n 64 with h1 | h1 | h1
  · exact .inl (if_pos h1)
  · exact absurd h1 h
  · rw [if_neg (by omega), if_pos h1]; exact .inr rfl

set_option linter.unusedSimpArgs false in
set_option maxHeartbeats 4000000 in
theorem dataBack_walk (x : Da) (a1 : Option Addr) (len1 cap1 : Nat) (l : List Int) (w : World) (hx : x.ok) (hb : Bs w a1 len1 l) :
    Calls Try.prog 5 #[x.val, .slice a1 len1 cap1] w fun e w' => e = .returned (.bool true) ∧ Below w.heap.size w w' := by
  have BX : Hid (Byt x.enc) := enc_byt x hx
  have BL : Hid (Byt l) := hb.2.1
  have HX : Hid (∀ W : World, Calls Try.prog 12 #[x.val] W fun e w' => Below W.heap.size W w' ∧ ∃ v', e = .returned v' ∧ w'.ownsRow W.heap.size 5 1 v' 64 (cellsB x.enc)) := fun W => bytes_any x W hx
  have HO : Hid (∀ (W : World) (a : Option Addr) (cap : Nat), Bs W a 64 x.enc → Calls Try.prog 10 #[.slice a 64 cap] W fun e w' => e = .returned (.tuple #[x.val, .int .i64 0]) ∧ Below W.heap.size W w') := by
    intro W a cap h
    have := of_any a 64 cap x.enc W h
    rw [dec_enc x hx] at this
    exact this
  have HD : Hid (∀ W : World, Bs W a1 len1 l → Calls Try.prog 10 #[.slice a1 len1 cap1] W fun e w' => e = .returned (.tuple #[(decOf l).val, .int .i64 (errOf len1)]) ∧ Below W.heap.size W w') := fun W h => of_any a1 len1 cap1 l W h
  have ok2 := decOf_ok l hb.2.1
  have hq1 : ∀ W : World, (binOp .neq 26 x.val x.val).run Try.prog W = .ok (.bool false) W := fun W => by rw [neq_da _ _ W hx hx, Da.same_self]; rfl
  have hq2 : ∀ W : World, (Op.equalIn 10000 26 x.val x.val).run Try.prog W = .ok true W := fun W => by rw [equalIn_da _ _ W hx hx, Da.same_self]
  have HL : Hid (len1 = 64 → ∀ W : World, Calls Try.prog 12 #[(decOf l).val] W fun e w' => Below W.heap.size W w' ∧ ∃ v', e = .returned v' ∧ w'.ownsRow W.heap.size 5 1 v' 64 (cellsB l)) := by
    intro h W
    have := bytes_any (decOf l) W ok2
    rw [enc_dec l hb.2.1 (by rw [hb.1, h])] at this
    exact this
  have hl := hx.2.2.2.1
  have hl2 := ok2.2.2.2.1
  have HB : Hid (Bs w a1 len1 l) := hb
  generalize x.enc = ex at *
  generalize decOf l = y at *
  clear hx ok2 hb
  obtain ⟨n, a, p, g⟩ := x
  obtain ⟨n2, c2, p2, g2⟩ := y
  obtain ⟨x0, x1, x2, x3, x4, x5, rfl⟩ := six hl
  obtain ⟨y0, y1, y2, y3, y4, y5, rfl⟩ := six hl2
  clear hl hl2
  unfold Da.val Da.cells at *
  simp only [List.map_cons, List.map_nil] at *
  have f1 := blk_new w #[.int .u32 n, .int .u32 a, .int .u64 p, .int .u64 x0, .int .u64 x1, .int .u64 x2, .int .u64 x3, .int .u64 x4, .int .u64 x5] 26
  have b1 : Below w.heap.size w (w.alloc (Obj.cells #[.int .u32 n, .int .u32 a, .int .u64 p, .int .u64 x0, .int .u64 x1, .int .u64 x2, .int .u64 x3, .int .u64 x4, .int .u64 x5] 26)) := (Below.refl _ _).alloc (Nat.le_refl _) _
  have HC : Hid ((Try.prog.info? 26).map (·.size) = some (#[.int .u32 n, .int .u32 a, .int .u64 p, .int .u64 x0, .int .u64 x1, .int .u64 x2, .int .u64 x3, .int .u64 x4, .int .u64 x5] : Array Value).size) := Try.size26
  go_enter Try.func5, Try.ntmps5
  go_wp2_with fail
  generalize w.alloc (Obj.cells #[.int .u32 n, .int .u32 a, .int .u64 p, .int .u64 x0, .int .u64 x1, .int .u64 x2, .int .u64 x3, .int .u64 x4, .int .u64 x5] 26) = W0 at *
  refine (awake_any _).mono ?_
  rintro e X ⟨rfl, hX⟩
  have f2 : Hid (Blk X w.heap.size 26 [.int .u32 n, .int .u32 a, .int .u64 p, .int .u64 x0, .int .u64 x1, .int .u64 x2, .int .u64 x3, .int .u64 x4, .int .u64 x5]) := f1.over hX
  have b2 := b1.trans (hX.mono b1.size)
  clear f1 b1 hX
  go_wp2_with (refine wpList_load_row rfl 26 (.tmp 2) rfl w.heap.size rfl 26 #[.int .u32 n, .int .u32 a, .int .u64 p, .int .u64 x0, .int .u64 x1, .int .u64 x2, .int .u64 x3, .int .u64 x4, .int .u64 x5] (0, 0) _ f2.out Try.underlying26 rfl HC.out ?_)
  refine (HX.out X).mono ?_
  rintro e Y ⟨hY, v2, rfl, ho2⟩
  obtain ⟨a2, cap2, rfl, bs2, -, -⟩ := owns_bs ho2 BX.out
  have f3 := f2.out.over hY
  have b3 := b2.trans (hY.mono b2.size)
  clear f2 b2 hY ho2
  go_wp2_with fail
  refine (HO.out Y a2 cap2 bs2).mono ?_
  rintro e Y2 ⟨rfl, hY2⟩
  have f4 := f3.over hY2
  have b4 := b3.trans (hY2.mono b3.size)
  clear f3 b3 hY2 bs2
  have f5 : Hid (Blk (Y2.alloc (Obj.cells #[.int .u32 n, .int .u32 a, .int .u64 p, .int .u64 x0, .int .u64 x1, .int .u64 x2, .int .u64 x3, .int .u64 x4, .int .u64 x5] 26)) w.heap.size 26 [.int .u32 n, .int .u32 a, .int .u64 p, .int .u64 x0, .int .u64 x1, .int .u64 x2, .int .u64 x3, .int .u64 x4, .int .u64 x5]) := f4.alloc _
  have b5 := b4.alloc b4.size (Obj.cells #[.int .u32 n, .int .u32 a, .int .u64 p, .int .u64 x0, .int .u64 x1, .int .u64 x2, .int .u64 x3, .int .u64 x4, .int .u64 x5] 26)
  clear f4 b4
  go_wp2_with (refine wpList_load_row rfl 26 (.tmp 2) rfl w.heap.size rfl 26 #[.int .u32 n, .int .u32 a, .int .u64 p, .int .u64 x0, .int .u64 x1, .int .u64 x2, .int .u64 x3, .int .u64 x4, .int .u64 x5] (0, 0) _ f5.out Try.underlying26 rfl HC.out ?_)
  generalize Y2.alloc (Obj.cells #[.int .u32 n, .int .u32 a, .int .u64 p, .int .u64 x0, .int .u64 x1, .int .u64 x2, .int .u64 x3, .int .u64 x4, .int .u64 x5] 26) = Y3 at *
  clear f5 HX HO hq1 hq2
  refine (HD.out Y3 (HB.out.below b5)).mono ?_
  rintro e Z ⟨rfl, hZ⟩
  have b6 := b5.trans (hZ.mono b5.size)
  clear hZ b5 HD
  by_cases h64 : len1 = 64
  · subst h64
    replace HL : Hid (∀ W : World, Calls Try.prog 12 #[.agg #[.int .u32 n2, .int .u32 c2, .int .u64 p2, .int .u64 y0, .int .u64 y1, .int .u64 y2, .int .u64 y3, .int .u64 y4, .int .u64 y5]] W fun e w' => Below W.heap.size W w' ∧ ∃ v', e = .returned v' ∧ w'.ownsRow W.heap.size 5 1 v' 64 (cellsB l)) := HL.out rfl
    rw [errOf_in]
    go_wp2_with fail
    have f10 := blk_new Z #[.int .u32 n2, .int .u32 c2, .int .u64 p2, .int .u64 y0, .int .u64 y1, .int .u64 y2, .int .u64 y3, .int .u64 y4, .int .u64 y5] 26
    have b7 := b6.alloc b6.size (Obj.cells #[.int .u32 n2, .int .u32 c2, .int .u64 p2, .int .u64 y0, .int .u64 y1, .int .u64 y2, .int .u64 y3, .int .u64 y4, .int .u64 y5] 26)
    have i7 := HB.out.below b7
    generalize hB3 : Z.heap.size = B3 at *
    generalize Z.alloc (Obj.cells #[.int .u32 n2, .int .u32 c2, .int .u64 p2, .int .u64 y0, .int .u64 y1, .int .u64 y2, .int .u64 y3, .int .u64 y4, .int .u64 y5] 26) = V at *
    clear hB3 b6
    have g1 : Hid (Blk V B3 26 [.int .u32 n2, .int .u32 c2, .int .u64 p2, .int .u64 y0, .int .u64 y1, .int .u64 y2, .int .u64 y3, .int .u64 y4, .int .u64 y5]) := f10
    have g2 : Hid (Bs V a1 64 l) := i7
    clear f10 i7
    refine wp_region_held_drew (S := (fun w' => Blk w' B3 26 [.int .u32 n2, .int .u32 c2, .int .u64 p2, .int .u64 y0, .int .u64 y1, .int .u64 y2, .int .u64 y3, .int .u64 y4, .int .u64 y5] ∧ Bs w' a1 64 l)) (by kernel_rfl) (⟨g1.out.drew, g2.out.below (Below.refl _ _).drew⟩) (fun hHeld => ?_)
    simp only [List.size_toArray, List.length_cons, List.length_nil, Nat.reduceAdd]
    refine wpAnyH_take (i := 0) (v := ?_) rfl (by kernel_rfl) (by kernel_rfl) (by kernel_rfl) (fun _ _ _ h => h) (Or.inl ⟨by rfl, ?_⟩) hHeld ?_
    rotate_left
    · (intro w hSw; (try dsimp only at hSw); go_simp; try with_reducible rfl)
    try simp only [Act.put, List.setIfInBounds_toArray, List.set_cons_zero, List.set_cons_succ, List.getElem_toArray, List.getElem_cons_zero, List.getElem_cons_succ]
    refine wpAnyH_take (i := 1) (v := ?_) rfl (by kernel_rfl) (by kernel_rfl) (by kernel_rfl) (fun _ _ _ h => h) (Or.inl ⟨by rfl, ?_⟩) hHeld ?_
    rotate_left
    · (intro w hSw; (try dsimp only at hSw); go_simp; try with_reducible rfl)
    try simp only [Act.put, List.setIfInBounds_toArray, List.set_cons_zero, List.set_cons_succ, List.getElem_toArray, List.getElem_cons_zero, List.getElem_cons_succ]
    refine wpAnyH_take (i := 2) (v := ?_) rfl (by kernel_rfl) (by kernel_rfl) (by kernel_rfl) (fun _ _ _ h => h) (Or.inl ⟨by rfl, ?_⟩) hHeld ?_
    rotate_left
    · (intro w hSw; (try dsimp only at hSw); go_simp; try with_reducible rfl)
    try simp only [Act.put, List.setIfInBounds_toArray, List.set_cons_zero, List.set_cons_succ, List.getElem_toArray, List.getElem_cons_zero, List.getElem_cons_succ]
    refine wpAnyH_take (i := 3) (v := ?_) rfl (by kernel_rfl) (by kernel_rfl) (by kernel_rfl) (fun _ _ _ h => h) (Or.inl ⟨by rfl, ?_⟩) hHeld ?_
    rotate_left
    · (intro w hSw; (try dsimp only at hSw); have s0 := (hSw.1).cell 0; have s1 := (hSw.1).cell 1; have s2 := (hSw.1).cell 2; have s3 := (hSw.1).cell 3; have s4 := (hSw.1).cell 4; have s5 := (hSw.1).cell 5; have s6 := (hSw.1).cell 6; have s7 := (hSw.1).cell 7; have s8 := (hSw.1).cell 8; go_simp; try with_reducible rfl)
    try simp only [Act.put, List.setIfInBounds_toArray, List.set_cons_zero, List.set_cons_succ, List.getElem_toArray, List.getElem_cons_zero, List.getElem_cons_succ]
    refine wpAnyH_take (i := 6) (v := ?_) rfl (by kernel_rfl) (by kernel_rfl) (by kernel_rfl) (fun _ _ _ h => h) (Or.inl ⟨by rfl, ?_⟩) hHeld ?_
    rotate_left
    · (intro w hSw; (try dsimp only at hSw); go_simp; try with_reducible rfl)
    try simp only [Act.put, List.setIfInBounds_toArray, List.set_cons_zero, List.set_cons_succ, List.getElem_toArray, List.getElem_cons_zero, List.getElem_cons_succ]
    refine wpAnyH_take (i := 7) (v := ?_) rfl (by kernel_rfl) (by kernel_rfl) (by kernel_rfl) (fun _ _ _ h => h) (Or.inl ⟨by rfl, ?_⟩) hHeld ?_
    rotate_left
    · (intro w hSw; (try dsimp only at hSw); have cy := run_text hSw.2 cap1; go_simp; try with_reducible rfl)
    try simp only [Act.put, List.setIfInBounds_toArray, List.set_cons_zero, List.set_cons_succ, List.getElem_toArray, List.getElem_cons_zero, List.getElem_cons_succ]
    refine wpAnyH_ready (rs := [4]) (by kernel_rfl) (by simp) ?_
    refine AllReadyH.cons rfl (fun K hK => ?_) AllReadyH.nil
    go_simp
    refine (HL.out _).mono ?_
    rintro e w2 ⟨hb2, v2, rfl, ho2⟩
    obtain ⟨a2, cap2, rfl, bs2, -, -⟩ := owns_bs ho2 BL.out
    go_wp2_with fail
    refine hK.out _ _ (⟨hHeld.1.over hb2, hHeld.2.below hb2⟩) (fun hHeld => ?_)
    clear hK K
    try simp only [Act.put, List.setIfInBounds_toArray, List.set_cons_zero, List.set_cons_succ, List.getElem_toArray, List.getElem_cons_zero, List.getElem_cons_succ]
    refine wpAnyH_switch (S2 := (fun w' => (Blk w' B3 26 [.int .u32 n2, .int .u32 c2, .int .u64 p2, .int .u64 y0, .int .u64 y1, .int .u64 y2, .int .u64 y3, .int .u64 y4, .int .u64 y5] ∧ Bs w' a1 64 l) ∧ Bs w' a2 64 l)) (fun _ h => h.1) ?_
    replace hHeld : ((fun w' => (Blk w' B3 26 [.int .u32 n2, .int .u32 c2, .int .u64 p2, .int .u64 y0, .int .u64 y1, .int .u64 y2, .int .u64 y3, .int .u64 y4, .int .u64 y5] ∧ Bs w' a1 64 l) ∧ Bs w' a2 64 l)) _ := ⟨hHeld, bs2⟩
    refine wpAnyH_take (i := 5) (v := ?_) rfl (by kernel_rfl) (by kernel_rfl) (by kernel_rfl) (fun _ _ _ h => h) (Or.inl ⟨by rfl, ?_⟩) hHeld ?_
    rotate_left
    · (intro w hSw; (try dsimp only at hSw); have cx := run_text hSw.2 cap2; go_simp; try with_reducible rfl)
    try simp only [Act.put, List.setIfInBounds_toArray, List.set_cons_zero, List.set_cons_succ, List.getElem_toArray, List.getElem_cons_zero, List.getElem_cons_succ]
    refine wpAnyH_take (i := 8) (v := ?_) rfl (by kernel_rfl) (by kernel_rfl) (by kernel_rfl) (fun _ _ _ h => h) (Or.inl ⟨by rfl, ?_⟩) hHeld ?_
    rotate_left
    · (intro w hSw; (try dsimp only at hSw); go_simp; try with_reducible rfl)
    try simp only [Act.put, List.setIfInBounds_toArray, List.set_cons_zero, List.set_cons_succ, List.getElem_toArray, List.getElem_cons_zero, List.getElem_cons_succ]
    refine wpAnyH_take (i := 9) (v := ?_) rfl (by kernel_rfl) (by kernel_rfl) (by kernel_rfl) (fun _ _ _ h => h) (Or.inl ⟨by rfl, ?_⟩) hHeld ?_
    rotate_left
    · (intro w hSw; (try dsimp only at hSw); go_simp; try with_reducible rfl)
    try simp only [Act.put, List.setIfInBounds_toArray, List.set_cons_zero, List.set_cons_succ, List.getElem_toArray, List.getElem_cons_zero, List.getElem_cons_succ]
    refine wpAnyH_done (by kernel_rfl) ?_ _
    go_wp2
    go_ret
    have c1 := b7.drew.trans (hb2.mono b7.size)
    exact ⟨by first | rfl | simp, c1⟩
  · have hne : ¬ errOf len1 = 0 := by rcases errOf_out len1 h64 with e | e <;> rw [e] <;> decide
    have hnb : (errOf len1 == 0) = false := by simpa using hne
    have hlb : ((len1 : Int) == 64) = false := by simp; omega
    generalize errOf len1 = er at *
    go_wp2_with fail
    have b7 := b6.alloc b6.size (Obj.cells #[.int .u32 n2, .int .u32 c2, .int .u64 p2, .int .u64 y0, .int .u64 y1, .int .u64 y2, .int .u64 y3, .int .u64 y4, .int .u64 y5] 26)
    generalize Z.alloc (Obj.cells #[.int .u32 n2, .int .u32 c2, .int .u64 p2, .int .u64 y0, .int .u64 y1, .int .u64 y2, .int .u64 y3, .int .u64 y4, .int .u64 y5] 26) = V at *
    refine wp_region_held_drew (S := (fun _ => True)) (by kernel_rfl) (trivial) (fun hHeld => ?_)
    simp only [List.size_toArray, List.length_cons, List.length_nil, Nat.reduceAdd]
    refine wpAnyH_take (i := 0) (v := ?_) rfl (by kernel_rfl) (by kernel_rfl) (by kernel_rfl) (fun _ _ _ h => h) (Or.inl ⟨by rfl, ?_⟩) hHeld ?_
    rotate_left
    · (intro w hSw; (try dsimp only at hSw); go_simp; try with_reducible rfl)
    try simp only [Act.put, List.setIfInBounds_toArray, List.set_cons_zero, List.set_cons_succ, List.getElem_toArray, List.getElem_cons_zero, List.getElem_cons_succ]
    refine wpAnyH_take (i := 1) (v := ?_) rfl (by kernel_rfl) (by kernel_rfl) (by kernel_rfl) (fun _ _ _ h => h) (Or.inl ⟨by rfl, ?_⟩) hHeld ?_
    rotate_left
    · (intro w hSw; (try dsimp only at hSw); go_simp; try with_reducible rfl)
    try simp only [Act.put, List.setIfInBounds_toArray, List.set_cons_zero, List.set_cons_succ, List.getElem_toArray, List.getElem_cons_zero, List.getElem_cons_succ]
    refine wpAnyH_take (i := 2) (v := ?_) rfl (by kernel_rfl) (by kernel_rfl) (by kernel_rfl) (fun _ _ _ h => h) (Or.inl ⟨by rfl, ?_⟩) hHeld ?_
    rotate_left
    · (intro w hSw; (try dsimp only at hSw); go_simp; try with_reducible rfl)
    try simp only [Act.put, List.setIfInBounds_toArray, List.set_cons_zero, List.set_cons_succ, List.getElem_toArray, List.getElem_cons_zero, List.getElem_cons_succ]
    refine wpAnyH_take (i := 3) (v := undef) rfl (by kernel_rfl) (by kernel_rfl) (by kernel_rfl) (fun _ _ _ h => h) (Or.inr ⟨by rfl, rfl⟩) hHeld ?_
    try simp only [Act.put, List.setIfInBounds_toArray, List.set_cons_zero, List.set_cons_succ, List.getElem_toArray, List.getElem_cons_zero, List.getElem_cons_succ]
    refine wpAnyH_take (i := 4) (v := undef) rfl (by kernel_rfl) (by kernel_rfl) (by kernel_rfl) (fun _ _ _ h => h) (Or.inr ⟨by rfl, rfl⟩) hHeld ?_
    try simp only [Act.put, List.setIfInBounds_toArray, List.set_cons_zero, List.set_cons_succ, List.getElem_toArray, List.getElem_cons_zero, List.getElem_cons_succ]
    refine wpAnyH_take (i := 5) (v := undef) rfl (by kernel_rfl) (by kernel_rfl) (by kernel_rfl) (fun _ _ _ h => h) (Or.inr ⟨by rfl, rfl⟩) hHeld ?_
    try simp only [Act.put, List.setIfInBounds_toArray, List.set_cons_zero, List.set_cons_succ, List.getElem_toArray, List.getElem_cons_zero, List.getElem_cons_succ]
    refine wpAnyH_take (i := 6) (v := undef) rfl (by kernel_rfl) (by kernel_rfl) (by kernel_rfl) (fun _ _ _ h => h) (Or.inr ⟨by rfl, rfl⟩) hHeld ?_
    try simp only [Act.put, List.setIfInBounds_toArray, List.set_cons_zero, List.set_cons_succ, List.getElem_toArray, List.getElem_cons_zero, List.getElem_cons_succ]
    refine wpAnyH_take (i := 7) (v := undef) rfl (by kernel_rfl) (by kernel_rfl) (by kernel_rfl) (fun _ _ _ h => h) (Or.inr ⟨by rfl, rfl⟩) hHeld ?_
    try simp only [Act.put, List.setIfInBounds_toArray, List.set_cons_zero, List.set_cons_succ, List.getElem_toArray, List.getElem_cons_zero, List.getElem_cons_succ]
    refine wpAnyH_take (i := 8) (v := undef) rfl (by kernel_rfl) (by kernel_rfl) (by kernel_rfl) (fun _ _ _ h => h) (Or.inr ⟨by rfl, rfl⟩) hHeld ?_
    try simp only [Act.put, List.setIfInBounds_toArray, List.set_cons_zero, List.set_cons_succ, List.getElem_toArray, List.getElem_cons_zero, List.getElem_cons_succ]
    refine wpAnyH_take (i := 9) (v := ?_) rfl (by kernel_rfl) (by kernel_rfl) (by kernel_rfl) (fun _ _ _ h => h) (Or.inl ⟨by rfl, ?_⟩) hHeld ?_
    rotate_left
    · (intro w hSw; (try dsimp only at hSw); go_simp; try with_reducible rfl)
    try simp only [Act.put, List.setIfInBounds_toArray, List.set_cons_zero, List.set_cons_succ, List.getElem_toArray, List.getElem_cons_zero, List.getElem_cons_succ]
    refine wpAnyH_done (by kernel_rfl) ?_ _
    go_wp2
    go_ret
    exact ⟨by first | rfl | simp, b7.drew⟩

end Go.Proofs.Ytkfpcdnkpafphaa
