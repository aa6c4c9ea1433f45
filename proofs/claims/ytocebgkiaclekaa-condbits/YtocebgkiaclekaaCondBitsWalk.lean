/-
  The law CondBits, walked: true for every condition, call and pair of numbers.
-/
import Derived.Test.YtocebgkiaclekaaAwake
import Derived.Test.YtocebgkiaclekaaOpen
import Derived.Deep.RegionHeld3
namespace Go.Proofs.Ytocebgkiaclekaa
open Go.RowKit

theorem three_new (w : World) (l r s : List Value) : Blk (((w.alloc (Obj.cells l.toArray 24)).alloc (Obj.cells r.toArray 28)).alloc (Obj.cells s.toArray 40)) w.heap.size 24 l ∧ Blk (((w.alloc (Obj.cells l.toArray 24)).alloc (Obj.cells r.toArray 28)).alloc (Obj.cells s.toArray 40)) (w.heap.size + 1) 28 r ∧ Blk (((w.alloc (Obj.cells l.toArray 24)).alloc (Obj.cells r.toArray 28)).alloc (Obj.cells s.toArray 40)) (w.heap.size + 1 + 1) 40 s ∧ Below w.heap.size w (((w.alloc (Obj.cells l.toArray 24)).alloc (Obj.cells r.toArray 28)).alloc (Obj.cells s.toArray 40)) := by
  have h := two_new w l r
  have h1 := blk_new' (w.alloc (Obj.cells l.toArray 24)) (Obj.cells r.toArray 28) s.toArray 40
  rw [size_alloc'] at h1
  exact ⟨h.1.alloc _, h.2.1.alloc _, h1, h.2.2.alloc h.2.2.size _⟩

/-- a call's cells when the first of its arguments have become one number. -/
def filled (n ar p x0 x1 x2 x3 x4 x5 y : Int) (j : Nat) : List Value :=
  [.int .u32 n, .int .u32 ar, .int .u64 p, .int .u64 (if 0 < j then y else x0), .int .u64 (if 1 < j then y else x1), .int .u64 (if 2 < j then y else x2), .int .u64 (if 3 < j then y else x3), .int .u64 (if 4 < j then y else x4), .int .u64 (if 5 < j then y else x5)]

theorem xor_one {n : Int} (h : U32 n) : U32 (bits BinOp.xor IntKind.u32 n 1) := by
  obtain ⟨h0, h1⟩ := h
  obtain ⟨k, rfl⟩ := Int.eq_ofNat_of_zero_le h0
  rw [show (1 : Int) = ((1 : Nat) : Int) from rfl, u32_xor_nat k 1 (by omega) (by decide)]
  have : k ^^^ 1 < 2 ^ 32 := Nat.xor_lt_two_pow (by omega) (by decide)
  unfold U32
  omega

set_option maxHeartbeats 800000 in
theorem condBits_wrong (a o m v : Int) (A : List Value) (y1 y2 : Int) (w : World) (hr : rightB a o = false) :
    Calls Try.prog 8 #[(.agg #[.int .i64 a, .int .i64 o, .int .u64 m, .int .u64 v]), .agg A.toArray, .agg #[.int .u64 y1, .int .u64 y2]] w fun e w' => e = .returned (.bool true) ∧ Below w.heap.size w w' := by
  have HW : Hid (∀ W : World, Calls Try.prog 9 #[] W fun e w' => e = .returned (.bool true) ∧ Below W.heap.size W w') := awake_any
  have H2 : Hid (∀ W : World, Calls Try.prog 10 #[(.agg #[.int .i64 a, .int .i64 o, .int .u64 m, .int .u64 v])] W fun e w' => e = .returned (.bool false) ∧ Below W.heap.size W w') := fun W => hr ▸ right_any a o m v W
  have HK : Hid (_ ∧ _ ∧ _ ∧ _) := three_new w [.int .i64 a, .int .i64 o, .int .u64 m, .int .u64 v] A [.int .u64 y1, .int .u64 y2]
  clear hr
  go_enter Try.func8, Try.ntmps8
  go_wp2_with (first | (go_at_call 9; refine (HW.out _).mono ?_; rintro e w1 ⟨rfl, b1⟩; have c0 := (HK.out.1.over b1).cell 0; have c1 := (HK.out.1.over b1).cell 1; have c2 := (HK.out.1.over b1).cell 2; have c3 := (HK.out.1.over b1).cell 3; have B1 : Hid (Below w.heap.size w w1) := HK.out.2.2.2.trans (b1.mono HK.out.2.2.2.size); clear b1) | (go_at_call 10; refine (H2.out _).mono ?_; rintro e w2 ⟨rfl, b2⟩; have B2 : Hid (Below w.heap.size w w2) := B1.out.trans (b2.mono B1.out.size); clear b2))
  go_ret
  exact ⟨rfl, B2.out⟩

set_option linter.unusedSimpArgs false in
set_option maxRecDepth 4000 in
set_option maxHeartbeats 8000000 in
theorem condBits_right (a o m v : Int) (d : Da) (y1 y2 : Int) (w : World) (hm : U64 m) (hd : d.ok) (hy1 : U64 y1) (hy2 : U64 y2) (hr : rightB a o = true) :
    Calls Try.prog 8 #[(.agg #[.int .i64 a, .int .i64 o, .int .u64 m, .int .u64 v]), d.val, .agg #[.int .u64 y1, .int .u64 y2]] w fun e w' => e = .returned (.bool true) ∧ Below w.heap.size w w' := by
  have HW : Hid (∀ W : World, Calls Try.prog 9 #[] W fun e w' => e = .returned (.bool true) ∧ Below W.heap.size W w') := awake_any
  have H2 : Hid (∀ W : World, Calls Try.prog 10 #[(.agg #[.int .i64 a, .int .i64 o, .int .u64 m, .int .u64 v])] W fun e w' => e = .returned (.bool true) ∧ Below W.heap.size W w') := fun W => hr ▸ right_any a o m v W
  have H3 : Hid (∀ W : World, Calls Try.prog 12 #[(.agg #[.int .i64 a, .int .i64 o, .int .u64 m, .int .u64 v]), d.val] W fun e w' => e = .returned (.bool (heldB o (an (d.g.getD a.toNat 0) m) v)) ∧ Below W.heap.size W w') := by
    intro W
    have := holds_any a o m v d W hd
    unfold holdN at this
    rw [hr, Bool.true_and] at this
    exact this
  obtain ⟨q, HQ⟩ : ∃ q, Hid (heldB o (an (d.g.getD a.toNat 0) m) v = q) := ⟨_, rfl⟩
  rw [HQ.out] at H3
  have HD : Hid d.ok := hd
  have HM : Hid (U64 m) := hm
  have HY1 : Hid (U64 y1) := hy1
  have HY2 : Hid (U64 y2) := hy2
  have HR : Hid (rightB a o = true) := hr
  have hl := hd.2.2.2.1
  clear hd hm hy1 hy2 hr
  obtain ⟨n, ar, p, g⟩ := d
  obtain ⟨x0, x1, x2, x3, x4, x5, rfl⟩ := six_of hl
  clear hl
  unfold Da.val Da.cells at H3
  simp only [List.map_cons, List.map_nil] at H3
  show Calls Try.prog 8 #[(.agg #[.int .i64 a, .int .i64 o, .int .u64 m, .int .u64 v]), .agg #[.int .u32 n, .int .u32 ar, .int .u64 p, .int .u64 x0, .int .u64 x1, .int .u64 x2, .int .u64 x3, .int .u64 x4, .int .u64 x5], .agg #[.int .u64 y1, .int .u64 y2]] w _
  obtain ⟨n', hn'⟩ : ∃ n', bits BinOp.xor IntKind.u32 n 1 = n' := ⟨_, rfl⟩
  obtain ⟨u, hu⟩ : ∃ u, bits BinOp.andNot IntKind.u64 y2 m = u := ⟨_, rfl⟩
  have HK := three_new w [.int .i64 a, .int .i64 o, .int .u64 m, .int .u64 v] [.int .u32 n, .int .u32 ar, .int .u64 p, .int .u64 x0, .int .u64 x1, .int .u64 x2, .int .u64 x3, .int .u64 x4, .int .u64 x5] [.int .u64 y1, .int .u64 y2]
  go_enter Try.func8, Try.ntmps8
  go_wp2_with fail
  generalize ((w.alloc (Obj.cells #[.int .i64 a, .int .i64 o, .int .u64 m, .int .u64 v] 24)).alloc (Obj.cells #[.int .u32 n, .int .u32 ar, .int .u64 p, .int .u64 x0, .int .u64 x1, .int .u64 x2, .int .u64 x3, .int .u64 x4, .int .u64 x5] 28)).alloc (Obj.cells #[.int .u64 y1, .int .u64 y2] 40) = W0 at *
  refine (HW.out _).mono ?_
  rintro e X ⟨rfl, bX⟩
  have k1 := HK.1.over bX
  have k2 := HK.2.1.over bX
  have k3 := HK.2.2.1.over bX
  have k4 := HK.2.2.2.trans (bX.mono HK.2.2.2.size)
  have q0 := (k1).cell 0
  have q1 := (k1).cell 1
  have q2 := (k1).cell 2
  have q3 := (k1).cell 3
  go_wp2_with fail
  refine (H2.out _).mono ?_
  rintro e Y ⟨rfl, bY⟩
  have l1 := k1.over bY
  have l2 := k2.over bY
  have l3 := k3.over bY
  have l4 := k4.trans (bY.mono k4.size)
  have e0 := (l2).cell 0
  have e1 := (l2).cell 1
  have e2 := (l2).cell 2
  have e3 := (l2).cell 3
  have e4 := (l2).cell 4
  have e5 := (l2).cell 5
  have e6 := (l2).cell 6
  have e7 := (l2).cell 7
  have e8 := (l2).cell 8
  clear HK bX k1 k2 k3 k4 q0 q1 q2 q3 bY
  go_wp2_with fail
  have KY : (Blk (Y.alloc (Obj.cells #[.int .u32 n, .int .u32 ar, .int .u64 p, .int .u64 x0, .int .u64 x1, .int .u64 x2, .int .u64 x3, .int .u64 x4, .int .u64 x5] 28)) w.heap.size 24 [.int .i64 a, .int .i64 o, .int .u64 m, .int .u64 v] ∧ Blk (Y.alloc (Obj.cells #[.int .u32 n, .int .u32 ar, .int .u64 p, .int .u64 x0, .int .u64 x1, .int .u64 x2, .int .u64 x3, .int .u64 x4, .int .u64 x5] 28)) (w.heap.size + 1) 28 [.int .u32 n, .int .u32 ar, .int .u64 p, .int .u64 x0, .int .u64 x1, .int .u64 x2, .int .u64 x3, .int .u64 x4, .int .u64 x5] ∧ Blk (Y.alloc (Obj.cells #[.int .u32 n, .int .u32 ar, .int .u64 p, .int .u64 x0, .int .u64 x1, .int .u64 x2, .int .u64 x3, .int .u64 x4, .int .u64 x5] 28)) (w.heap.size + 1 + 1) 40 [.int .u64 y1, .int .u64 y2] ∧ Below w.heap.size w (Y.alloc (Obj.cells #[.int .u32 n, .int .u32 ar, .int .u64 p, .int .u64 x0, .int .u64 x1, .int .u64 x2, .int .u64 x3, .int .u64 x4, .int .u64 x5] 28))) ∧ Blk (Y.alloc (Obj.cells #[.int .u32 n, .int .u32 ar, .int .u64 p, .int .u64 x0, .int .u64 x1, .int .u64 x2, .int .u64 x3, .int .u64 x4, .int .u64 x5] 28)) Y.heap.size 28 (filled n ar p x0 x1 x2 x3 x4 x5 y1 0) :=
    ⟨⟨l1.alloc _, l2.alloc _, l3.alloc _, l4.trans ((below_new Y _).mono l4.size)⟩, blk_new Y _ 28⟩
  have g1 : w.heap.size < Y.heap.size := l1.lt
  have g2 : w.heap.size + 1 < Y.heap.size := l2.lt
  have g3 : w.heap.size + 1 + 1 < Y.heap.size := l3.lt
  have HG : Hid (w.heap.size ≠ Y.heap.size ∧ w.heap.size + 1 ≠ Y.heap.size ∧ w.heap.size + 1 + 1 ≠ Y.heap.size ∧ w.heap.size ≤ Y.heap.size) := ⟨by omega, by omega, by omega, by omega⟩
  clear l1 l2 l3 l4 e0 e1 e2 e3 e4 e5 e6 e7 e8 g1 g2 g3
  generalize Y.alloc (Obj.cells #[.int .u32 n, .int .u32 ar, .int .u64 p, .int .u64 x0, .int .u64 x1, .int .u64 x2, .int .u64 x3, .int .u64 x4, .int .u64 x5] 28) = Y1 at *
  generalize Y.heap.size = G at *
  have HKY : Hid _ := KY
  clear KY
  go_loopw [10] (fun i wr => ∃ k : Nat, k ≤ 6 ∧ i = .int .i64 k ∧ (Blk wr w.heap.size 24 [.int .i64 a, .int .i64 o, .int .u64 m, .int .u64 v] ∧ Blk wr (w.heap.size + 1) 28 [.int .u32 n, .int .u32 ar, .int .u64 p, .int .u64 x0, .int .u64 x1, .int .u64 x2, .int .u64 x3, .int .u64 x4, .int .u64 x5] ∧ Blk wr (w.heap.size + 1 + 1) 40 [.int .u64 y1, .int .u64 y2] ∧ Below w.heap.size w wr) ∧ Blk wr G 28 (filled n ar p x0 x1 x2 x3 x4 x5 y1 k)) (fun i _ => 6 - (intOf i).toNat)
  case atStart =>
    exact ⟨0, by omega, rfl, HKY.out.1, HKY.out.2⟩
  case round =>
    obtain ⟨k, hk, rfl, hb, hg⟩ := hrel
    have HB : Hid _ := hb
    have HGk : Hid (Blk wr G 28 (filled n ar p x0 x1 x2 x3 x4 x5 y1 k)) := hg
    have s0 := hb.2.2.1.cell 0
    clear hb hg HKY
    by_cases hlt : k < 6
    · have hc : k = 0 ∨ k = 1 ∨ k = 2 ∨ k = 3 ∨ k = 4 ∨ k = 5 := by omega
      clear hlt hk
      rcases hc with rfl | rfl | rfl | rfl | rfl | rfl
      · have t0 : wr.cell? ⟨G, 3, none⟩ = some (.int .u64 x0) := HGk.out.cell 3
        have v0 := HGk.out.f 3
        go_wp2_with fail
        go_roundw
        case rel => exact ⟨1, by omega, by first | rfl | go_num, ⟨HB.out.1.other _ _ HG.out.1, HB.out.2.1.other _ _ HG.out.2.1, HB.out.2.2.1.other _ _ HG.out.2.2.1, HB.out.2.2.2.setCell (p := ⟨G, 3, none⟩) HG.out.2.2.2 _⟩, HGk.out.set 3 (.int .u64 y1)⟩
        case measure => simp [intOf]
      · have t0 : wr.cell? ⟨G, 4, none⟩ = some (.int .u64 x1) := HGk.out.cell 4
        have v0 := HGk.out.f 4
        go_wp2_with fail
        go_roundw
        case rel => exact ⟨2, by omega, by first | rfl | go_num, ⟨HB.out.1.other _ _ HG.out.1, HB.out.2.1.other _ _ HG.out.2.1, HB.out.2.2.1.other _ _ HG.out.2.2.1, HB.out.2.2.2.setCell (p := ⟨G, 4, none⟩) HG.out.2.2.2 _⟩, HGk.out.set 4 (.int .u64 y1)⟩
        case measure => simp [intOf]
      · have t0 : wr.cell? ⟨G, 5, none⟩ = some (.int .u64 x2) := HGk.out.cell 5
        have v0 := HGk.out.f 5
        go_wp2_with fail
        go_roundw
        case rel => exact ⟨3, by omega, by first | rfl | go_num, ⟨HB.out.1.other _ _ HG.out.1, HB.out.2.1.other _ _ HG.out.2.1, HB.out.2.2.1.other _ _ HG.out.2.2.1, HB.out.2.2.2.setCell (p := ⟨G, 5, none⟩) HG.out.2.2.2 _⟩, HGk.out.set 5 (.int .u64 y1)⟩
        case measure => simp [intOf]
      · have t0 : wr.cell? ⟨G, 6, none⟩ = some (.int .u64 x3) := HGk.out.cell 6
        have v0 := HGk.out.f 6
        go_wp2_with fail
        go_roundw
        case rel => exact ⟨4, by omega, by first | rfl | go_num, ⟨HB.out.1.other _ _ HG.out.1, HB.out.2.1.other _ _ HG.out.2.1, HB.out.2.2.1.other _ _ HG.out.2.2.1, HB.out.2.2.2.setCell (p := ⟨G, 6, none⟩) HG.out.2.2.2 _⟩, HGk.out.set 6 (.int .u64 y1)⟩
        case measure => simp [intOf]
      · have t0 : wr.cell? ⟨G, 7, none⟩ = some (.int .u64 x4) := HGk.out.cell 7
        have v0 := HGk.out.f 7
        go_wp2_with fail
        go_roundw
        case rel => exact ⟨5, by omega, by first | rfl | go_num, ⟨HB.out.1.other _ _ HG.out.1, HB.out.2.1.other _ _ HG.out.2.1, HB.out.2.2.1.other _ _ HG.out.2.2.1, HB.out.2.2.2.setCell (p := ⟨G, 7, none⟩) HG.out.2.2.2 _⟩, HGk.out.set 7 (.int .u64 y1)⟩
        case measure => simp [intOf]
      · have t0 : wr.cell? ⟨G, 8, none⟩ = some (.int .u64 x5) := HGk.out.cell 8
        have v0 := HGk.out.f 8
        go_wp2_with fail
        go_roundw
        case rel => exact ⟨6, by omega, by first | rfl | go_num, ⟨HB.out.1.other _ _ HG.out.1, HB.out.2.1.other _ _ HG.out.2.1, HB.out.2.2.1.other _ _ HG.out.2.2.1, HB.out.2.2.2.setCell (p := ⟨G, 8, none⟩) HG.out.2.2.2 _⟩, HGk.out.set 8 (.int .u64 y1)⟩
        case measure => simp [intOf]
    · have h6 : k = 6 := by omega
      have hno : ¬ (k : Int) < 6 := by omega
      have HGe : Hid (Blk wr G 28 [.int .u32 n, .int .u32 ar, .int .u64 p, .int .u64 y1, .int .u64 y1, .int .u64 y1, .int .u64 y1, .int .u64 y1, .int .u64 y1]) := by subst h6; exact HGk.out
      have r0 := HB.out.2.1.cell 0
      have t0 := HGe.out.cell 0
      have v0 := HGe.out.f 0
      have HGn : Hid (Blk (wr.setCell ⟨G, 0, none⟩ (.int .u32 n')) G 28 [.int .u32 n', .int .u32 ar, .int .u64 p, .int .u64 y1, .int .u64 y1, .int .u64 y1, .int .u64 y1, .int .u64 y1, .int .u64 y1]) := HGe.out.set 0 _
      have HBn : Hid (Blk (wr.setCell ⟨G, 0, none⟩ (.int .u32 n')) w.heap.size 24 [.int .i64 a, .int .i64 o, .int .u64 m, .int .u64 v] ∧ Blk (wr.setCell ⟨G, 0, none⟩ (.int .u32 n')) (w.heap.size + 1) 28 [.int .u32 n, .int .u32 ar, .int .u64 p, .int .u64 x0, .int .u64 x1, .int .u64 x2, .int .u64 x3, .int .u64 x4, .int .u64 x5] ∧ Blk (wr.setCell ⟨G, 0, none⟩ (.int .u32 n')) (w.heap.size + 1 + 1) 40 [.int .u64 y1, .int .u64 y2] ∧ Below w.heap.size w (wr.setCell ⟨G, 0, none⟩ (.int .u32 n'))) :=
        ⟨HB.out.1.other _ _ HG.out.1, HB.out.2.1.other _ _ HG.out.2.1, HB.out.2.2.1.other _ _ HG.out.2.2.1, HB.out.2.2.2.setCell (p := ⟨G, 0, none⟩) HG.out.2.2.2 _⟩
      clear hk h6 HGk HGe s0
      go_wp2_with fail
      clear HB r0 t0 v0
      generalize wr.setCell ⟨G, 0, none⟩ (.int .u32 n') = V at *
      have hc : a = 0 ∨ a = 1 ∨ a = 2 ∨ a = 3 ∨ a = 4 ∨ a = 5 := by
        obtain ⟨h1, h2, _, _⟩ := right_bd HR.out
        omega
      generalize hB1 : w.heap.size = B1 at *
      generalize hB2 : B1 + 1 = B2 at *
      generalize hB3 : B2 + 1 = B3 at *
      rcases hc with rfl | rfl | rfl | rfl | rfl | rfl
      · obtain ⟨z, hz⟩ : ∃ z, bits BinOp.xor IntKind.u64 x0 u = z := ⟨_, rfl⟩
        have hxk : U64 x0 := HD.out.2.2.2.2 x0 (by simp)
        have hz2 : an z m = an x0 m ∧ U64 z := by
          have := an_other hxk HY2.out HM.out
          rw [hu, hz] at this
          exact this
        have HE : Hid (∀ W : World, Calls Try.prog 12 #[.agg #[.int .i64 0, .int .i64 o, .int .u64 m, .int .u64 v], .agg #[.int .u32 n', .int .u32 ar, .int .u64 p, .int .u64 z, .int .u64 y1, .int .u64 y1, .int .u64 y1, .int .u64 y1, .int .u64 y1]] W fun e w' => e = .returned (.bool q) ∧ Below W.heap.size W w') := by
          intro W
          have hok : (Da.mk n' ar p [z, y1, y1, y1, y1, y1]).ok := by
            refine ⟨?_, HD.out.2.1, HD.out.2.2.1, rfl, ?_⟩
            · show U32 n'
              rw [← hn']
              exact xor_one HD.out.1
            · intro c hc
              simp only [List.mem_cons, List.not_mem_nil, or_false] at hc
              rcases hc with rfl | rfl | rfl | rfl | rfl | rfl <;> first | exact HY1.out | exact hz2.2
          have := holds_any 0 o m v ⟨n', ar, p, [z, y1, y1, y1, y1, y1]⟩ W hok
          unfold holdN at this
          rw [HR.out, Bool.true_and] at this
          rw [← HQ.out]
          have e1 : ([z, y1, y1, y1, y1, y1] : List Int).getD (0 : Int).toNat 0 = z := rfl
          dsimp only at this
          rw [e1, hz2.1] at this
          exact this
        clear hxk hz2 HQ HR HY1 HY2 HM HD
        have t1 : V.cell? ⟨G, 3, none⟩ = some (.int .u64 y1) := HGn.out.cell 3
        have v1 : V.frozen? ⟨G, 3, none⟩ = false := HGn.out.f 3
        refine wp_region_held_drew (S := (fun X => Blk X B1 24 [.int .i64 0, .int .i64 o, .int .u64 m, .int .u64 v] ∧ Blk X B2 28 [.int .u32 n, .int .u32 ar, .int .u64 p, .int .u64 x0, .int .u64 x1, .int .u64 x2, .int .u64 x3, .int .u64 x4, .int .u64 x5] ∧ Blk X B3 40 [.int .u64 y1, .int .u64 y2] ∧ Below B1 w X)) (by kernel_rfl) (⟨HBn.out.1.drew, HBn.out.2.1.drew, HBn.out.2.2.1.drew, HBn.out.2.2.2.drew⟩) (fun hHeld => ?_)
        simp only [List.size_toArray, List.length_cons, List.length_nil, Nat.reduceAdd]
        refine wpAnyH_take (i := 0) (v := ?_) rfl (by kernel_rfl) (by kernel_rfl) (by kernel_rfl) (fun _ _ _ h => h) (Or.inl ⟨by rfl, ?_⟩) hHeld ?_
        rotate_left
        · (intro w hSw; (try dsimp only at hSw); go_simp; try with_reducible rfl)
        try simp only [Act.put, List.setIfInBounds_toArray, List.set_cons_zero, List.set_cons_succ, List.getElem_toArray, List.getElem_cons_zero, List.getElem_cons_succ]
        refine wpAnyH_take (i := 1) (v := ?_) rfl (by kernel_rfl) (by kernel_rfl) (by kernel_rfl) (fun _ _ _ h => h) (Or.inl ⟨by rfl, ?_⟩) hHeld ?_
        rotate_left
        · (intro w hSw; (try dsimp only at hSw); have s0 := (hSw.1).cell 0; have s1 := (hSw.1).cell 1; have s2 := (hSw.1).cell 2; have s3 := (hSw.1).cell 3; go_simp; try with_reducible rfl)
        try simp only [Act.put, List.setIfInBounds_toArray, List.set_cons_zero, List.set_cons_succ, List.getElem_toArray, List.getElem_cons_zero, List.getElem_cons_succ]
        refine wpAnyH_take (i := 2) (v := ?_) rfl (by kernel_rfl) (by kernel_rfl) (by kernel_rfl) (fun _ _ _ h => h) (Or.inl ⟨by rfl, ?_⟩) hHeld ?_
        rotate_left
        · (intro w hSw; (try dsimp only at hSw); go_simp; try with_reducible rfl)
        try simp only [Act.put, List.setIfInBounds_toArray, List.set_cons_zero, List.set_cons_succ, List.getElem_toArray, List.getElem_cons_zero, List.getElem_cons_succ]
        refine wpAnyH_take (i := 3) (v := ?_) rfl (by kernel_rfl) (by kernel_rfl) (by kernel_rfl) (fun _ _ _ h => h) (Or.inl ⟨by rfl, ?_⟩) hHeld ?_
        rotate_left
        · (intro w hSw; (try dsimp only at hSw); have s0 := (hSw.1).cell 0; have s1 := (hSw.1).cell 1; have s2 := (hSw.1).cell 2; have s3 := (hSw.1).cell 3; go_simp; try with_reducible rfl)
        try simp only [Act.put, List.setIfInBounds_toArray, List.set_cons_zero, List.set_cons_succ, List.getElem_toArray, List.getElem_cons_zero, List.getElem_cons_succ]
        refine wpAnyH_take (i := 4) (v := ?_) rfl (by kernel_rfl) (by kernel_rfl) (by kernel_rfl) (fun _ _ _ h => h) (Or.inl ⟨by rfl, ?_⟩) hHeld ?_
        rotate_left
        · (intro w hSw; (try dsimp only at hSw); go_simp; try with_reducible rfl)
        try simp only [Act.put, List.setIfInBounds_toArray, List.set_cons_zero, List.set_cons_succ, List.getElem_toArray, List.getElem_cons_zero, List.getElem_cons_succ]
        refine wpAnyH_take (i := 5) (v := ?_) rfl (by kernel_rfl) (by kernel_rfl) (by kernel_rfl) (fun _ _ _ h => h) (Or.inl ⟨by rfl, ?_⟩) hHeld ?_
        rotate_left
        · (intro w hSw; (try dsimp only at hSw); go_simp; try with_reducible rfl)
        try simp only [Act.put, List.setIfInBounds_toArray, List.set_cons_zero, List.set_cons_succ, List.getElem_toArray, List.getElem_cons_zero, List.getElem_cons_succ]
        refine wpAnyH_take (i := 6) (v := ?_) rfl (by kernel_rfl) (by kernel_rfl) (by kernel_rfl) (fun _ _ _ h => h) (Or.inl ⟨by rfl, ?_⟩) hHeld ?_
        rotate_left
        · (intro w hSw; (try dsimp only at hSw); have s0 := (hSw.2.1).cell 0; have s1 := (hSw.2.1).cell 1; have s2 := (hSw.2.1).cell 2; have s3 := (hSw.2.1).cell 3; have s4 := (hSw.2.1).cell 4; have s5 := (hSw.2.1).cell 5; have s6 := (hSw.2.1).cell 6; have s7 := (hSw.2.1).cell 7; have s8 := (hSw.2.1).cell 8; go_simp; try with_reducible rfl)
        try simp only [Act.put, List.setIfInBounds_toArray, List.set_cons_zero, List.set_cons_succ, List.getElem_toArray, List.getElem_cons_zero, List.getElem_cons_succ]
        refine wpAnyH_take (i := 7) (v := ?_) rfl (by kernel_rfl) (by kernel_rfl) (by kernel_rfl) (fun _ _ _ h => h) (Or.inl ⟨by rfl, ?_⟩) hHeld ?_
        rotate_left
        · (intro w hSw; (try dsimp only at hSw); go_simp; try with_reducible rfl)
        try simp only [Act.put, List.setIfInBounds_toArray, List.set_cons_zero, List.set_cons_succ, List.getElem_toArray, List.getElem_cons_zero, List.getElem_cons_succ]
        refine wpAnyH_take (i := 8) (v := ?_) rfl (by kernel_rfl) (by kernel_rfl) (by kernel_rfl) (fun _ _ _ h => h) (Or.inl ⟨by rfl, ?_⟩) hHeld ?_
        rotate_left
        · (intro w hSw; (try dsimp only at hSw); have g0 := (hSw.2.2.1).cell 0; have g1 := (hSw.2.2.1).cell 1; go_simp; try with_reducible rfl)
        try simp only [Act.put, List.setIfInBounds_toArray, List.set_cons_zero, List.set_cons_succ, List.getElem_toArray, List.getElem_cons_zero, List.getElem_cons_succ]
        refine wpAnyH_take (i := 9) (v := ?_) rfl (by kernel_rfl) (by kernel_rfl) (by kernel_rfl) (fun _ _ _ h => h) (Or.inl ⟨by rfl, ?_⟩) hHeld ?_
        rotate_left
        · (intro w hSw; (try dsimp only at hSw); go_simp; try with_reducible rfl)
        try simp only [Act.put, List.setIfInBounds_toArray, List.set_cons_zero, List.set_cons_succ, List.getElem_toArray, List.getElem_cons_zero, List.getElem_cons_succ]
        refine wpAnyH_take (i := 10) (v := ?_) rfl (by kernel_rfl) (by kernel_rfl) (by kernel_rfl) (fun _ _ _ h => h) (Or.inl ⟨by rfl, ?_⟩) hHeld ?_
        rotate_left
        · (intro w hSw; (try dsimp only at hSw); have s0 := (hSw.1).cell 0; have s1 := (hSw.1).cell 1; have s2 := (hSw.1).cell 2; have s3 := (hSw.1).cell 3; go_simp; try with_reducible rfl)
        try simp only [Act.put, List.setIfInBounds_toArray, List.set_cons_zero, List.set_cons_succ, List.getElem_toArray, List.getElem_cons_zero, List.getElem_cons_succ]
        refine wpAnyH_take (i := 11) (v := ?_) rfl (by kernel_rfl) (by kernel_rfl) (by kernel_rfl) (fun _ _ _ h => h) (Or.inl ⟨by rfl, ?_⟩) hHeld ?_
        rotate_left
        · (intro w hSw; (try dsimp only at hSw); go_simp; try with_reducible rfl)
        try simp only [Act.put, List.setIfInBounds_toArray, List.set_cons_zero, List.set_cons_succ, List.getElem_toArray, List.getElem_cons_zero, List.getElem_cons_succ]
        refine wpAnyH_take (i := 12) (v := ?_) rfl (by kernel_rfl) (by kernel_rfl) (by kernel_rfl) (fun _ _ _ h => h) (Or.inl ⟨by rfl, ?_⟩) hHeld ?_
        rotate_left
        · (intro w hSw; (try dsimp only at hSw); go_simp; try with_reducible rfl)
        try simp only [Act.put, List.setIfInBounds_toArray, List.set_cons_zero, List.set_cons_succ, List.getElem_toArray, List.getElem_cons_zero, List.getElem_cons_succ]
        refine wpAnyH_take (i := 13) (v := ?_) rfl (by kernel_rfl) (by kernel_rfl) (by kernel_rfl) (fun _ _ _ h => h) (Or.inl ⟨by rfl, ?_⟩) hHeld ?_
        rotate_left
        · (intro w hSw; (try dsimp only at hSw); go_simp; try with_reducible rfl)
        try simp only [Act.put, List.setIfInBounds_toArray, List.set_cons_zero, List.set_cons_succ, List.getElem_toArray, List.getElem_cons_zero, List.getElem_cons_succ]
        refine wpAnyH_take (i := 14) (v := ?_) rfl (by kernel_rfl) (by kernel_rfl) (by kernel_rfl) (fun _ _ _ h => h) (Or.inl ⟨by rfl, ?_⟩) hHeld ?_
        rotate_left
        · (intro w hSw; (try dsimp only at hSw); go_simp; try with_reducible rfl)
        try simp only [Act.put, List.setIfInBounds_toArray, List.set_cons_zero, List.set_cons_succ, List.getElem_toArray, List.getElem_cons_zero, List.getElem_cons_succ]
        refine wpAnyH_ready (rs := [15]) (by kernel_rfl) (by simp) ?_
        refine AllReadyH.cons rfl (fun K hK => ?_) AllReadyH.nil
        go_simp
        refine hK.out _ _ (⟨hHeld.1.other _ _ HG.out.1, hHeld.2.1.other _ _ HG.out.2.1, hHeld.2.2.1.other _ _ HG.out.2.2.1, hHeld.2.2.2.setCell (p := ⟨G, 3, none⟩) HG.out.2.2.2 _⟩) (fun hHeld => ?_)
        clear hK K
        refine wpAnyH_done (by kernel_rfl) ?_ _
        have HGz : Blk (V.drew.setCell ⟨G, 3, none⟩ (.int .u64 z)) G 28 [.int .u32 n', .int .u32 ar, .int .u64 p, .int .u64 z, .int .u64 y1, .int .u64 y1, .int .u64 y1, .int .u64 y1, .int .u64 y1] := HGn.out.drew.set 3 _
        go_wp2_with fail
        refine wp_region_held_drew (S := (fun X => Blk X B1 24 [.int .i64 0, .int .i64 o, .int .u64 m, .int .u64 v] ∧ Blk X B2 28 [.int .u32 n, .int .u32 ar, .int .u64 p, .int .u64 x0, .int .u64 x1, .int .u64 x2, .int .u64 x3, .int .u64 x4, .int .u64 x5] ∧ Blk X G 28 [.int .u32 n', .int .u32 ar, .int .u64 p, .int .u64 z, .int .u64 y1, .int .u64 y1, .int .u64 y1, .int .u64 y1, .int .u64 y1] ∧ Below B1 w X)) (by kernel_rfl) (⟨hHeld.1.drew, hHeld.2.1.drew, HGz.drew, hHeld.2.2.2.drew⟩) (fun hHeld => ?_)
        simp only [List.size_toArray, List.length_cons, List.length_nil, Nat.reduceAdd]
        refine wpAnyH_take (i := 0) (v := ?_) rfl (by kernel_rfl) (by kernel_rfl) (by kernel_rfl) (fun _ _ _ h => h) (Or.inl ⟨by rfl, ?_⟩) hHeld ?_
        rotate_left
        · (intro w hSw; (try dsimp only at hSw); go_simp; try with_reducible rfl)
        try simp only [Act.put, List.setIfInBounds_toArray, List.set_cons_zero, List.set_cons_succ, List.getElem_toArray, List.getElem_cons_zero, List.getElem_cons_succ]
        refine wpAnyH_take (i := 1) (v := ?_) rfl (by kernel_rfl) (by kernel_rfl) (by kernel_rfl) (fun _ _ _ h => h) (Or.inl ⟨by rfl, ?_⟩) hHeld ?_
        rotate_left
        · (intro w hSw; (try dsimp only at hSw); go_simp; try with_reducible rfl)
        try simp only [Act.put, List.setIfInBounds_toArray, List.set_cons_zero, List.set_cons_succ, List.getElem_toArray, List.getElem_cons_zero, List.getElem_cons_succ]
        refine wpAnyH_take (i := 2) (v := ?_) rfl (by kernel_rfl) (by kernel_rfl) (by kernel_rfl) (fun _ _ _ h => h) (Or.inl ⟨by rfl, ?_⟩) hHeld ?_
        rotate_left
        · (intro w hSw; (try dsimp only at hSw); have s0 := (hSw.1).cell 0; have s1 := (hSw.1).cell 1; have s2 := (hSw.1).cell 2; have s3 := (hSw.1).cell 3; go_simp; try with_reducible rfl)
        try simp only [Act.put, List.setIfInBounds_toArray, List.set_cons_zero, List.set_cons_succ, List.getElem_toArray, List.getElem_cons_zero, List.getElem_cons_succ]
        refine wpAnyH_take (i := 3) (v := ?_) rfl (by kernel_rfl) (by kernel_rfl) (by kernel_rfl) (fun _ _ _ h => h) (Or.inl ⟨by rfl, ?_⟩) hHeld ?_
        rotate_left
        · (intro w hSw; (try dsimp only at hSw); have s0 := (hSw.2.1).cell 0; have s1 := (hSw.2.1).cell 1; have s2 := (hSw.2.1).cell 2; have s3 := (hSw.2.1).cell 3; have s4 := (hSw.2.1).cell 4; have s5 := (hSw.2.1).cell 5; have s6 := (hSw.2.1).cell 6; have s7 := (hSw.2.1).cell 7; have s8 := (hSw.2.1).cell 8; go_simp; try with_reducible rfl)
        try simp only [Act.put, List.setIfInBounds_toArray, List.set_cons_zero, List.set_cons_succ, List.getElem_toArray, List.getElem_cons_zero, List.getElem_cons_succ]
        refine wpAnyH_take (i := 5) (v := ?_) rfl (by kernel_rfl) (by kernel_rfl) (by kernel_rfl) (fun _ _ _ h => h) (Or.inl ⟨by rfl, ?_⟩) hHeld ?_
        rotate_left
        · (intro w hSw; (try dsimp only at hSw); have s0 := (hSw.1).cell 0; have s1 := (hSw.1).cell 1; have s2 := (hSw.1).cell 2; have s3 := (hSw.1).cell 3; go_simp; try with_reducible rfl)
        try simp only [Act.put, List.setIfInBounds_toArray, List.set_cons_zero, List.set_cons_succ, List.getElem_toArray, List.getElem_cons_zero, List.getElem_cons_succ]
        refine wpAnyH_take (i := 6) (v := ?_) rfl (by kernel_rfl) (by kernel_rfl) (by kernel_rfl) (fun _ _ _ h => h) (Or.inl ⟨by rfl, ?_⟩) hHeld ?_
        rotate_left
        · (intro w hSw; (try dsimp only at hSw); have s0 := (hSw.2.2.1).cell 0; have s1 := (hSw.2.2.1).cell 1; have s2 := (hSw.2.2.1).cell 2; have s3 := (hSw.2.2.1).cell 3; have s4 := (hSw.2.2.1).cell 4; have s5 := (hSw.2.2.1).cell 5; have s6 := (hSw.2.2.1).cell 6; have s7 := (hSw.2.2.1).cell 7; have s8 := (hSw.2.2.1).cell 8; go_simp; try with_reducible rfl)
        try simp only [Act.put, List.setIfInBounds_toArray, List.set_cons_zero, List.set_cons_succ, List.getElem_toArray, List.getElem_cons_zero, List.getElem_cons_succ]
        refine wpAnyH_ready (rs := [4]) (by kernel_rfl) (by simp) ?_
        refine AllReadyH.cons rfl (fun K hK => ?_) AllReadyH.nil
        go_simp
        refine (H3.out _).mono ?_
        rintro e w1 ⟨rfl, b1⟩
        go_wp2_with fail
        refine hK.out _ _ (⟨hHeld.1.over b1, hHeld.2.1.over b1, hHeld.2.2.1.over b1, hHeld.2.2.2.trans (b1.mono (hB1 ▸ hHeld.2.2.2.size))⟩) (fun hHeld => ?_)
        clear hK K
        try simp only [Act.put, List.setIfInBounds_toArray, List.set_cons_zero, List.set_cons_succ, List.getElem_toArray, List.getElem_cons_zero, List.getElem_cons_succ]
        refine wpAnyH_ready (rs := [7]) (by kernel_rfl) (by simp) ?_
        refine AllReadyH.cons rfl (fun K hK => ?_) AllReadyH.nil
        go_simp
        refine (HE.out _).mono ?_
        rintro e w2 ⟨rfl, b2⟩
        go_wp2_with fail
        refine hK.out _ _ (⟨hHeld.1.over b2, hHeld.2.1.over b2, hHeld.2.2.1.over b2, hHeld.2.2.2.trans (b2.mono (hB1 ▸ hHeld.2.2.2.size))⟩) (fun hHeld => ?_)
        clear hK K
        try simp only [Act.put, List.setIfInBounds_toArray, List.set_cons_zero, List.set_cons_succ, List.getElem_toArray, List.getElem_cons_zero, List.getElem_cons_succ]
        refine wpAnyH_take (i := 8) (v := ?_) rfl (by kernel_rfl) (by kernel_rfl) (by kernel_rfl) (fun _ _ _ h => h) (Or.inl ⟨by rfl, ?_⟩) hHeld ?_
        rotate_left
        · (intro w hSw; (try dsimp only at hSw); go_simp; try with_reducible rfl)
        try simp only [Act.put, List.setIfInBounds_toArray, List.set_cons_zero, List.set_cons_succ, List.getElem_toArray, List.getElem_cons_zero, List.getElem_cons_succ]
        refine wpAnyH_take (i := 9) (v := ?_) rfl (by kernel_rfl) (by kernel_rfl) (by kernel_rfl) (fun _ _ _ h => h) (Or.inl ⟨by rfl, ?_⟩) hHeld ?_
        rotate_left
        · (intro w hSw; (try dsimp only at hSw); go_simp; try with_reducible rfl)
        try simp only [Act.put, List.setIfInBounds_toArray, List.set_cons_zero, List.set_cons_succ, List.getElem_toArray, List.getElem_cons_zero, List.getElem_cons_succ]
        refine wpAnyH_take (i := 10) (v := ?_) rfl (by kernel_rfl) (by kernel_rfl) (by kernel_rfl) (fun _ _ _ h => h) (Or.inl ⟨by rfl, ?_⟩) hHeld ?_
        rotate_left
        · (intro w hSw; (try dsimp only at hSw); go_simp; try with_reducible rfl)
        try simp only [Act.put, List.setIfInBounds_toArray, List.set_cons_zero, List.set_cons_succ, List.getElem_toArray, List.getElem_cons_zero, List.getElem_cons_succ]
        refine wpAnyH_done (by kernel_rfl) ?_ _
        go_wp2_with fail
        go_ret
        exact ⟨by first | rfl | simp, by rw [hB1]; exact hHeld.2.2.2⟩
      · obtain ⟨z, hz⟩ : ∃ z, bits BinOp.xor IntKind.u64 x1 u = z := ⟨_, rfl⟩
        have hxk : U64 x1 := HD.out.2.2.2.2 x1 (by simp)
        have hz2 : an z m = an x1 m ∧ U64 z := by
          have := an_other hxk HY2.out HM.out
          rw [hu, hz] at this
          exact this
        have HE : Hid (∀ W : World, Calls Try.prog 12 #[.agg #[.int .i64 1, .int .i64 o, .int .u64 m, .int .u64 v], .agg #[.int .u32 n', .int .u32 ar, .int .u64 p, .int .u64 y1, .int .u64 z, .int .u64 y1, .int .u64 y1, .int .u64 y1, .int .u64 y1]] W fun e w' => e = .returned (.bool q) ∧ Below W.heap.size W w') := by
          intro W
          have hok : (Da.mk n' ar p [y1, z, y1, y1, y1, y1]).ok := by
            refine ⟨?_, HD.out.2.1, HD.out.2.2.1, rfl, ?_⟩
            · show U32 n'
              rw [← hn']
              exact xor_one HD.out.1
            · intro c hc
              simp only [List.mem_cons, List.not_mem_nil, or_false] at hc
              rcases hc with rfl | rfl | rfl | rfl | rfl | rfl <;> first | exact HY1.out | exact hz2.2
          have := holds_any 1 o m v ⟨n', ar, p, [y1, z, y1, y1, y1, y1]⟩ W hok
          unfold holdN at this
          rw [HR.out, Bool.true_and] at this
          rw [← HQ.out]
          have e1 : ([y1, z, y1, y1, y1, y1] : List Int).getD (1 : Int).toNat 0 = z := rfl
          dsimp only at this
          rw [e1, hz2.1] at this
          exact this
        clear hxk hz2 HQ HR HY1 HY2 HM HD
        have t1 : V.cell? ⟨G, 4, none⟩ = some (.int .u64 y1) := HGn.out.cell 4
        have v1 : V.frozen? ⟨G, 4, none⟩ = false := HGn.out.f 4
        refine wp_region_held_drew (S := (fun X => Blk X B1 24 [.int .i64 1, .int .i64 o, .int .u64 m, .int .u64 v] ∧ Blk X B2 28 [.int .u32 n, .int .u32 ar, .int .u64 p, .int .u64 x0, .int .u64 x1, .int .u64 x2, .int .u64 x3, .int .u64 x4, .int .u64 x5] ∧ Blk X B3 40 [.int .u64 y1, .int .u64 y2] ∧ Below B1 w X)) (by kernel_rfl) (⟨HBn.out.1.drew, HBn.out.2.1.drew, HBn.out.2.2.1.drew, HBn.out.2.2.2.drew⟩) (fun hHeld => ?_)
        simp only [List.size_toArray, List.length_cons, List.length_nil, Nat.reduceAdd]
        refine wpAnyH_take (i := 0) (v := ?_) rfl (by kernel_rfl) (by kernel_rfl) (by kernel_rfl) (fun _ _ _ h => h) (Or.inl ⟨by rfl, ?_⟩) hHeld ?_
        rotate_left
        · (intro w hSw; (try dsimp only at hSw); go_simp; try with_reducible rfl)
        try simp only [Act.put, List.setIfInBounds_toArray, List.set_cons_zero, List.set_cons_succ, List.getElem_toArray, List.getElem_cons_zero, List.getElem_cons_succ]
        refine wpAnyH_take (i := 1) (v := ?_) rfl (by kernel_rfl) (by kernel_rfl) (by kernel_rfl) (fun _ _ _ h => h) (Or.inl ⟨by rfl, ?_⟩) hHeld ?_
        rotate_left
        · (intro w hSw; (try dsimp only at hSw); have s0 := (hSw.1).cell 0; have s1 := (hSw.1).cell 1; have s2 := (hSw.1).cell 2; have s3 := (hSw.1).cell 3; go_simp; try with_reducible rfl)
        try simp only [Act.put, List.setIfInBounds_toArray, List.set_cons_zero, List.set_cons_succ, List.getElem_toArray, List.getElem_cons_zero, List.getElem_cons_succ]
        refine wpAnyH_take (i := 2) (v := ?_) rfl (by kernel_rfl) (by kernel_rfl) (by kernel_rfl) (fun _ _ _ h => h) (Or.inl ⟨by rfl, ?_⟩) hHeld ?_
        rotate_left
        · (intro w hSw; (try dsimp only at hSw); go_simp; try with_reducible rfl)
        try simp only [Act.put, List.setIfInBounds_toArray, List.set_cons_zero, List.set_cons_succ, List.getElem_toArray, List.getElem_cons_zero, List.getElem_cons_succ]
        refine wpAnyH_take (i := 3) (v := ?_) rfl (by kernel_rfl) (by kernel_rfl) (by kernel_rfl) (fun _ _ _ h => h) (Or.inl ⟨by rfl, ?_⟩) hHeld ?_
        rotate_left
        · (intro w hSw; (try dsimp only at hSw); have s0 := (hSw.1).cell 0; have s1 := (hSw.1).cell 1; have s2 := (hSw.1).cell 2; have s3 := (hSw.1).cell 3; go_simp; try with_reducible rfl)
        try simp only [Act.put, List.setIfInBounds_toArray, List.set_cons_zero, List.set_cons_succ, List.getElem_toArray, List.getElem_cons_zero, List.getElem_cons_succ]
        refine wpAnyH_take (i := 4) (v := ?_) rfl (by kernel_rfl) (by kernel_rfl) (by kernel_rfl) (fun _ _ _ h => h) (Or.inl ⟨by rfl, ?_⟩) hHeld ?_
        rotate_left
        · (intro w hSw; (try dsimp only at hSw); go_simp; try with_reducible rfl)
        try simp only [Act.put, List.setIfInBounds_toArray, List.set_cons_zero, List.set_cons_succ, List.getElem_toArray, List.getElem_cons_zero, List.getElem_cons_succ]
        refine wpAnyH_take (i := 5) (v := ?_) rfl (by kernel_rfl) (by kernel_rfl) (by kernel_rfl) (fun _ _ _ h => h) (Or.inl ⟨by rfl, ?_⟩) hHeld ?_
        rotate_left
        · (intro w hSw; (try dsimp only at hSw); go_simp; try with_reducible rfl)
        try simp only [Act.put, List.setIfInBounds_toArray, List.set_cons_zero, List.set_cons_succ, List.getElem_toArray, List.getElem_cons_zero, List.getElem_cons_succ]
        refine wpAnyH_take (i := 6) (v := ?_) rfl (by kernel_rfl) (by kernel_rfl) (by kernel_rfl) (fun _ _ _ h => h) (Or.inl ⟨by rfl, ?_⟩) hHeld ?_
        rotate_left
        · (intro w hSw; (try dsimp only at hSw); have s0 := (hSw.2.1).cell 0; have s1 := (hSw.2.1).cell 1; have s2 := (hSw.2.1).cell 2; have s3 := (hSw.2.1).cell 3; have s4 := (hSw.2.1).cell 4; have s5 := (hSw.2.1).cell 5; have s6 := (hSw.2.1).cell 6; have s7 := (hSw.2.1).cell 7; have s8 := (hSw.2.1).cell 8; go_simp; try with_reducible rfl)
        try simp only [Act.put, List.setIfInBounds_toArray, List.set_cons_zero, List.set_cons_succ, List.getElem_toArray, List.getElem_cons_zero, List.getElem_cons_succ]
        refine wpAnyH_take (i := 7) (v := ?_) rfl (by kernel_rfl) (by kernel_rfl) (by kernel_rfl) (fun _ _ _ h => h) (Or.inl ⟨by rfl, ?_⟩) hHeld ?_
        rotate_left
        · (intro w hSw; (try dsimp only at hSw); go_simp; try with_reducible rfl)
        try simp only [Act.put, List.setIfInBounds_toArray, List.set_cons_zero, List.set_cons_succ, List.getElem_toArray, List.getElem_cons_zero, List.getElem_cons_succ]
        refine wpAnyH_take (i := 8) (v := ?_) rfl (by kernel_rfl) (by kernel_rfl) (by kernel_rfl) (fun _ _ _ h => h) (Or.inl ⟨by rfl, ?_⟩) hHeld ?_
        rotate_left
        · (intro w hSw; (try dsimp only at hSw); have g0 := (hSw.2.2.1).cell 0; have g1 := (hSw.2.2.1).cell 1; go_simp; try with_reducible rfl)
        try simp only [Act.put, List.setIfInBounds_toArray, List.set_cons_zero, List.set_cons_succ, List.getElem_toArray, List.getElem_cons_zero, List.getElem_cons_succ]
        refine wpAnyH_take (i := 9) (v := ?_) rfl (by kernel_rfl) (by kernel_rfl) (by kernel_rfl) (fun _ _ _ h => h) (Or.inl ⟨by rfl, ?_⟩) hHeld ?_
        rotate_left
        · (intro w hSw; (try dsimp only at hSw); go_simp; try with_reducible rfl)
        try simp only [Act.put, List.setIfInBounds_toArray, List.set_cons_zero, List.set_cons_succ, List.getElem_toArray, List.getElem_cons_zero, List.getElem_cons_succ]
        refine wpAnyH_take (i := 10) (v := ?_) rfl (by kernel_rfl) (by kernel_rfl) (by kernel_rfl) (fun _ _ _ h => h) (Or.inl ⟨by rfl, ?_⟩) hHeld ?_
        rotate_left
        · (intro w hSw; (try dsimp only at hSw); have s0 := (hSw.1).cell 0; have s1 := (hSw.1).cell 1; have s2 := (hSw.1).cell 2; have s3 := (hSw.1).cell 3; go_simp; try with_reducible rfl)
        try simp only [Act.put, List.setIfInBounds_toArray, List.set_cons_zero, List.set_cons_succ, List.getElem_toArray, List.getElem_cons_zero, List.getElem_cons_succ]
        refine wpAnyH_take (i := 11) (v := ?_) rfl (by kernel_rfl) (by kernel_rfl) (by kernel_rfl) (fun _ _ _ h => h) (Or.inl ⟨by rfl, ?_⟩) hHeld ?_
        rotate_left
        · (intro w hSw; (try dsimp only at hSw); go_simp; try with_reducible rfl)
        try simp only [Act.put, List.setIfInBounds_toArray, List.set_cons_zero, List.set_cons_succ, List.getElem_toArray, List.getElem_cons_zero, List.getElem_cons_succ]
        refine wpAnyH_take (i := 12) (v := ?_) rfl (by kernel_rfl) (by kernel_rfl) (by kernel_rfl) (fun _ _ _ h => h) (Or.inl ⟨by rfl, ?_⟩) hHeld ?_
        rotate_left
        · (intro w hSw; (try dsimp only at hSw); go_simp; try with_reducible rfl)
        try simp only [Act.put, List.setIfInBounds_toArray, List.set_cons_zero, List.set_cons_succ, List.getElem_toArray, List.getElem_cons_zero, List.getElem_cons_succ]
        refine wpAnyH_take (i := 13) (v := ?_) rfl (by kernel_rfl) (by kernel_rfl) (by kernel_rfl) (fun _ _ _ h => h) (Or.inl ⟨by rfl, ?_⟩) hHeld ?_
        rotate_left
        · (intro w hSw; (try dsimp only at hSw); go_simp; try with_reducible rfl)
        try simp only [Act.put, List.setIfInBounds_toArray, List.set_cons_zero, List.set_cons_succ, List.getElem_toArray, List.getElem_cons_zero, List.getElem_cons_succ]
        refine wpAnyH_take (i := 14) (v := ?_) rfl (by kernel_rfl) (by kernel_rfl) (by kernel_rfl) (fun _ _ _ h => h) (Or.inl ⟨by rfl, ?_⟩) hHeld ?_
        rotate_left
        · (intro w hSw; (try dsimp only at hSw); go_simp; try with_reducible rfl)
        try simp only [Act.put, List.setIfInBounds_toArray, List.set_cons_zero, List.set_cons_succ, List.getElem_toArray, List.getElem_cons_zero, List.getElem_cons_succ]
        refine wpAnyH_ready (rs := [15]) (by kernel_rfl) (by simp) ?_
        refine AllReadyH.cons rfl (fun K hK => ?_) AllReadyH.nil
        go_simp
        refine hK.out _ _ (⟨hHeld.1.other _ _ HG.out.1, hHeld.2.1.other _ _ HG.out.2.1, hHeld.2.2.1.other _ _ HG.out.2.2.1, hHeld.2.2.2.setCell (p := ⟨G, 4, none⟩) HG.out.2.2.2 _⟩) (fun hHeld => ?_)
        clear hK K
        refine wpAnyH_done (by kernel_rfl) ?_ _
        have HGz : Blk (V.drew.setCell ⟨G, 4, none⟩ (.int .u64 z)) G 28 [.int .u32 n', .int .u32 ar, .int .u64 p, .int .u64 y1, .int .u64 z, .int .u64 y1, .int .u64 y1, .int .u64 y1, .int .u64 y1] := HGn.out.drew.set 4 _
        go_wp2_with fail
        refine wp_region_held_drew (S := (fun X => Blk X B1 24 [.int .i64 1, .int .i64 o, .int .u64 m, .int .u64 v] ∧ Blk X B2 28 [.int .u32 n, .int .u32 ar, .int .u64 p, .int .u64 x0, .int .u64 x1, .int .u64 x2, .int .u64 x3, .int .u64 x4, .int .u64 x5] ∧ Blk X G 28 [.int .u32 n', .int .u32 ar, .int .u64 p, .int .u64 y1, .int .u64 z, .int .u64 y1, .int .u64 y1, .int .u64 y1, .int .u64 y1] ∧ Below B1 w X)) (by kernel_rfl) (⟨hHeld.1.drew, hHeld.2.1.drew, HGz.drew, hHeld.2.2.2.drew⟩) (fun hHeld => ?_)
        simp only [List.size_toArray, List.length_cons, List.length_nil, Nat.reduceAdd]
        refine wpAnyH_take (i := 0) (v := ?_) rfl (by kernel_rfl) (by kernel_rfl) (by kernel_rfl) (fun _ _ _ h => h) (Or.inl ⟨by rfl, ?_⟩) hHeld ?_
        rotate_left
        · (intro w hSw; (try dsimp only at hSw); go_simp; try with_reducible rfl)
        try simp only [Act.put, List.setIfInBounds_toArray, List.set_cons_zero, List.set_cons_succ, List.getElem_toArray, List.getElem_cons_zero, List.getElem_cons_succ]
        refine wpAnyH_take (i := 1) (v := ?_) rfl (by kernel_rfl) (by kernel_rfl) (by kernel_rfl) (fun _ _ _ h => h) (Or.inl ⟨by rfl, ?_⟩) hHeld ?_
        rotate_left
        · (intro w hSw; (try dsimp only at hSw); go_simp; try with_reducible rfl)
        try simp only [Act.put, List.setIfInBounds_toArray, List.set_cons_zero, List.set_cons_succ, List.getElem_toArray, List.getElem_cons_zero, List.getElem_cons_succ]
        refine wpAnyH_take (i := 2) (v := ?_) rfl (by kernel_rfl) (by kernel_rfl) (by kernel_rfl) (fun _ _ _ h => h) (Or.inl ⟨by rfl, ?_⟩) hHeld ?_
        rotate_left
        · (intro w hSw; (try dsimp only at hSw); have s0 := (hSw.1).cell 0; have s1 := (hSw.1).cell 1; have s2 := (hSw.1).cell 2; have s3 := (hSw.1).cell 3; go_simp; try with_reducible rfl)
        try simp only [Act.put, List.setIfInBounds_toArray, List.set_cons_zero, List.set_cons_succ, List.getElem_toArray, List.getElem_cons_zero, List.getElem_cons_succ]
        refine wpAnyH_take (i := 3) (v := ?_) rfl (by kernel_rfl) (by kernel_rfl) (by kernel_rfl) (fun _ _ _ h => h) (Or.inl ⟨by rfl, ?_⟩) hHeld ?_
        rotate_left
        · (intro w hSw; (try dsimp only at hSw); have s0 := (hSw.2.1).cell 0; have s1 := (hSw.2.1).cell 1; have s2 := (hSw.2.1).cell 2; have s3 := (hSw.2.1).cell 3; have s4 := (hSw.2.1).cell 4; have s5 := (hSw.2.1).cell 5; have s6 := (hSw.2.1).cell 6; have s7 := (hSw.2.1).cell 7; have s8 := (hSw.2.1).cell 8; go_simp; try with_reducible rfl)
        try simp only [Act.put, List.setIfInBounds_toArray, List.set_cons_zero, List.set_cons_succ, List.getElem_toArray, List.getElem_cons_zero, List.getElem_cons_succ]
        refine wpAnyH_take (i := 5) (v := ?_) rfl (by kernel_rfl) (by kernel_rfl) (by kernel_rfl) (fun _ _ _ h => h) (Or.inl ⟨by rfl, ?_⟩) hHeld ?_
        rotate_left
        · (intro w hSw; (try dsimp only at hSw); have s0 := (hSw.1).cell 0; have s1 := (hSw.1).cell 1; have s2 := (hSw.1).cell 2; have s3 := (hSw.1).cell 3; go_simp; try with_reducible rfl)
        try simp only [Act.put, List.setIfInBounds_toArray, List.set_cons_zero, List.set_cons_succ, List.getElem_toArray, List.getElem_cons_zero, List.getElem_cons_succ]
        refine wpAnyH_take (i := 6) (v := ?_) rfl (by kernel_rfl) (by kernel_rfl) (by kernel_rfl) (fun _ _ _ h => h) (Or.inl ⟨by rfl, ?_⟩) hHeld ?_
        rotate_left
        · (intro w hSw; (try dsimp only at hSw); have s0 := (hSw.2.2.1).cell 0; have s1 := (hSw.2.2.1).cell 1; have s2 := (hSw.2.2.1).cell 2; have s3 := (hSw.2.2.1).cell 3; have s4 := (hSw.2.2.1).cell 4; have s5 := (hSw.2.2.1).cell 5; have s6 := (hSw.2.2.1).cell 6; have s7 := (hSw.2.2.1).cell 7; have s8 := (hSw.2.2.1).cell 8; go_simp; try with_reducible rfl)
        try simp only [Act.put, List.setIfInBounds_toArray, List.set_cons_zero, List.set_cons_succ, List.getElem_toArray, List.getElem_cons_zero, List.getElem_cons_succ]
        refine wpAnyH_ready (rs := [4]) (by kernel_rfl) (by simp) ?_
        refine AllReadyH.cons rfl (fun K hK => ?_) AllReadyH.nil
        go_simp
        refine (H3.out _).mono ?_
        rintro e w1 ⟨rfl, b1⟩
        go_wp2_with fail
        refine hK.out _ _ (⟨hHeld.1.over b1, hHeld.2.1.over b1, hHeld.2.2.1.over b1, hHeld.2.2.2.trans (b1.mono (hB1 ▸ hHeld.2.2.2.size))⟩) (fun hHeld => ?_)
        clear hK K
        try simp only [Act.put, List.setIfInBounds_toArray, List.set_cons_zero, List.set_cons_succ, List.getElem_toArray, List.getElem_cons_zero, List.getElem_cons_succ]
        refine wpAnyH_ready (rs := [7]) (by kernel_rfl) (by simp) ?_
        refine AllReadyH.cons rfl (fun K hK => ?_) AllReadyH.nil
        go_simp
        refine (HE.out _).mono ?_
        rintro e w2 ⟨rfl, b2⟩
        go_wp2_with fail
        refine hK.out _ _ (⟨hHeld.1.over b2, hHeld.2.1.over b2, hHeld.2.2.1.over b2, hHeld.2.2.2.trans (b2.mono (hB1 ▸ hHeld.2.2.2.size))⟩) (fun hHeld => ?_)
        clear hK K
        try simp only [Act.put, List.setIfInBounds_toArray, List.set_cons_zero, List.set_cons_succ, List.getElem_toArray, List.getElem_cons_zero, List.getElem_cons_succ]
        refine wpAnyH_take (i := 8) (v := ?_) rfl (by kernel_rfl) (by kernel_rfl) (by kernel_rfl) (fun _ _ _ h => h) (Or.inl ⟨by rfl, ?_⟩) hHeld ?_
        rotate_left
        · (intro w hSw; (try dsimp only at hSw); go_simp; try with_reducible rfl)
        try simp only [Act.put, List.setIfInBounds_toArray, List.set_cons_zero, List.set_cons_succ, List.getElem_toArray, List.getElem_cons_zero, List.getElem_cons_succ]
        refine wpAnyH_take (i := 9) (v := ?_) rfl (by kernel_rfl) (by kernel_rfl) (by kernel_rfl) (fun _ _ _ h => h) (Or.inl ⟨by rfl, ?_⟩) hHeld ?_
        rotate_left
        · (intro w hSw; (try dsimp only at hSw); go_simp; try with_reducible rfl)
        try simp only [Act.put, List.setIfInBounds_toArray, List.set_cons_zero, List.set_cons_succ, List.getElem_toArray, List.getElem_cons_zero, List.getElem_cons_succ]
        refine wpAnyH_take (i := 10) (v := ?_) rfl (by kernel_rfl) (by kernel_rfl) (by kernel_rfl) (fun _ _ _ h => h) (Or.inl ⟨by rfl, ?_⟩) hHeld ?_
        rotate_left
        · (intro w hSw; (try dsimp only at hSw); go_simp; try with_reducible rfl)
        try simp only [Act.put, List.setIfInBounds_toArray, List.set_cons_zero, List.set_cons_succ, List.getElem_toArray, List.getElem_cons_zero, List.getElem_cons_succ]
        refine wpAnyH_done (by kernel_rfl) ?_ _
        go_wp2_with fail
        go_ret
        exact ⟨by first | rfl | simp, by rw [hB1]; exact hHeld.2.2.2⟩
      · obtain ⟨z, hz⟩ : ∃ z, bits BinOp.xor IntKind.u64 x2 u = z := ⟨_, rfl⟩
        have hxk : U64 x2 := HD.out.2.2.2.2 x2 (by simp)
        have hz2 : an z m = an x2 m ∧ U64 z := by
          have := an_other hxk HY2.out HM.out
          rw [hu, hz] at this
          exact this
        have HE : Hid (∀ W : World, Calls Try.prog 12 #[.agg #[.int .i64 2, .int .i64 o, .int .u64 m, .int .u64 v], .agg #[.int .u32 n', .int .u32 ar, .int .u64 p, .int .u64 y1, .int .u64 y1, .int .u64 z, .int .u64 y1, .int .u64 y1, .int .u64 y1]] W fun e w' => e = .returned (.bool q) ∧ Below W.heap.size W w') := by
          intro W
          have hok : (Da.mk n' ar p [y1, y1, z, y1, y1, y1]).ok := by
            refine ⟨?_, HD.out.2.1, HD.out.2.2.1, rfl, ?_⟩
            · show U32 n'
              rw [← hn']
              exact xor_one HD.out.1
            · intro c hc
              simp only [List.mem_cons, List.not_mem_nil, or_false] at hc
              rcases hc with rfl | rfl | rfl | rfl | rfl | rfl <;> first | exact HY1.out | exact hz2.2
          have := holds_any 2 o m v ⟨n', ar, p, [y1, y1, z, y1, y1, y1]⟩ W hok
          unfold holdN at this
          rw [HR.out, Bool.true_and] at this
          rw [← HQ.out]
          have e1 : ([y1, y1, z, y1, y1, y1] : List Int).getD (2 : Int).toNat 0 = z := rfl
          dsimp only at this
          rw [e1, hz2.1] at this
          exact this
        clear hxk hz2 HQ HR HY1 HY2 HM HD
        have t1 : V.cell? ⟨G, 5, none⟩ = some (.int .u64 y1) := HGn.out.cell 5
        have v1 : V.frozen? ⟨G, 5, none⟩ = false := HGn.out.f 5
        refine wp_region_held_drew (S := (fun X => Blk X B1 24 [.int .i64 2, .int .i64 o, .int .u64 m, .int .u64 v] ∧ Blk X B2 28 [.int .u32 n, .int .u32 ar, .int .u64 p, .int .u64 x0, .int .u64 x1, .int .u64 x2, .int .u64 x3, .int .u64 x4, .int .u64 x5] ∧ Blk X B3 40 [.int .u64 y1, .int .u64 y2] ∧ Below B1 w X)) (by kernel_rfl) (⟨HBn.out.1.drew, HBn.out.2.1.drew, HBn.out.2.2.1.drew, HBn.out.2.2.2.drew⟩) (fun hHeld => ?_)
        simp only [List.size_toArray, List.length_cons, List.length_nil, Nat.reduceAdd]
        refine wpAnyH_take (i := 0) (v := ?_) rfl (by kernel_rfl) (by kernel_rfl) (by kernel_rfl) (fun _ _ _ h => h) (Or.inl ⟨by rfl, ?_⟩) hHeld ?_
        rotate_left
        · (intro w hSw; (try dsimp only at hSw); go_simp; try with_reducible rfl)
        try simp only [Act.put, List.setIfInBounds_toArray, List.set_cons_zero, List.set_cons_succ, List.getElem_toArray, List.getElem_cons_zero, List.getElem_cons_succ]
        refine wpAnyH_take (i := 1) (v := ?_) rfl (by kernel_rfl) (by kernel_rfl) (by kernel_rfl) (fun _ _ _ h => h) (Or.inl ⟨by rfl, ?_⟩) hHeld ?_
        rotate_left
        · (intro w hSw; (try dsimp only at hSw); have s0 := (hSw.1).cell 0; have s1 := (hSw.1).cell 1; have s2 := (hSw.1).cell 2; have s3 := (hSw.1).cell 3; go_simp; try with_reducible rfl)
        try simp only [Act.put, List.setIfInBounds_toArray, List.set_cons_zero, List.set_cons_succ, List.getElem_toArray, List.getElem_cons_zero, List.getElem_cons_succ]
        refine wpAnyH_take (i := 2) (v := ?_) rfl (by kernel_rfl) (by kernel_rfl) (by kernel_rfl) (fun _ _ _ h => h) (Or.inl ⟨by rfl, ?_⟩) hHeld ?_
        rotate_left
        · (intro w hSw; (try dsimp only at hSw); go_simp; try with_reducible rfl)
        try simp only [Act.put, List.setIfInBounds_toArray, List.set_cons_zero, List.set_cons_succ, List.getElem_toArray, List.getElem_cons_zero, List.getElem_cons_succ]
        refine wpAnyH_take (i := 3) (v := ?_) rfl (by kernel_rfl) (by kernel_rfl) (by kernel_rfl) (fun _ _ _ h => h) (Or.inl ⟨by rfl, ?_⟩) hHeld ?_
        rotate_left
        · (intro w hSw; (try dsimp only at hSw); have s0 := (hSw.1).cell 0; have s1 := (hSw.1).cell 1; have s2 := (hSw.1).cell 2; have s3 := (hSw.1).cell 3; go_simp; try with_reducible rfl)
        try simp only [Act.put, List.setIfInBounds_toArray, List.set_cons_zero, List.set_cons_succ, List.getElem_toArray, List.getElem_cons_zero, List.getElem_cons_succ]
        refine wpAnyH_take (i := 4) (v := ?_) rfl (by kernel_rfl) (by kernel_rfl) (by kernel_rfl) (fun _ _ _ h => h) (Or.inl ⟨by rfl, ?_⟩) hHeld ?_
        rotate_left
        · (intro w hSw; (try dsimp only at hSw); go_simp; try with_reducible rfl)
        try simp only [Act.put, List.setIfInBounds_toArray, List.set_cons_zero, List.set_cons_succ, List.getElem_toArray, List.getElem_cons_zero, List.getElem_cons_succ]
        refine wpAnyH_take (i := 5) (v := ?_) rfl (by kernel_rfl) (by kernel_rfl) (by kernel_rfl) (fun _ _ _ h => h) (Or.inl ⟨by rfl, ?_⟩) hHeld ?_
        rotate_left
        · (intro w hSw; (try dsimp only at hSw); go_simp; try with_reducible rfl)
        try simp only [Act.put, List.setIfInBounds_toArray, List.set_cons_zero, List.set_cons_succ, List.getElem_toArray, List.getElem_cons_zero, List.getElem_cons_succ]
        refine wpAnyH_take (i := 6) (v := ?_) rfl (by kernel_rfl) (by kernel_rfl) (by kernel_rfl) (fun _ _ _ h => h) (Or.inl ⟨by rfl, ?_⟩) hHeld ?_
        rotate_left
        · (intro w hSw; (try dsimp only at hSw); have s0 := (hSw.2.1).cell 0; have s1 := (hSw.2.1).cell 1; have s2 := (hSw.2.1).cell 2; have s3 := (hSw.2.1).cell 3; have s4 := (hSw.2.1).cell 4; have s5 := (hSw.2.1).cell 5; have s6 := (hSw.2.1).cell 6; have s7 := (hSw.2.1).cell 7; have s8 := (hSw.2.1).cell 8; go_simp; try with_reducible rfl)
        try simp only [Act.put, List.setIfInBounds_toArray, List.set_cons_zero, List.set_cons_succ, List.getElem_toArray, List.getElem_cons_zero, List.getElem_cons_succ]
        refine wpAnyH_take (i := 7) (v := ?_) rfl (by kernel_rfl) (by kernel_rfl) (by kernel_rfl) (fun _ _ _ h => h) (Or.inl ⟨by rfl, ?_⟩) hHeld ?_
        rotate_left
        · (intro w hSw; (try dsimp only at hSw); go_simp; try with_reducible rfl)
        try simp only [Act.put, List.setIfInBounds_toArray, List.set_cons_zero, List.set_cons_succ, List.getElem_toArray, List.getElem_cons_zero, List.getElem_cons_succ]
        refine wpAnyH_take (i := 8) (v := ?_) rfl (by kernel_rfl) (by kernel_rfl) (by kernel_rfl) (fun _ _ _ h => h) (Or.inl ⟨by rfl, ?_⟩) hHeld ?_
        rotate_left
        · (intro w hSw; (try dsimp only at hSw); have g0 := (hSw.2.2.1).cell 0; have g1 := (hSw.2.2.1).cell 1; go_simp; try with_reducible rfl)
        try simp only [Act.put, List.setIfInBounds_toArray, List.set_cons_zero, List.set_cons_succ, List.getElem_toArray, List.getElem_cons_zero, List.getElem_cons_succ]
        refine wpAnyH_take (i := 9) (v := ?_) rfl (by kernel_rfl) (by kernel_rfl) (by kernel_rfl) (fun _ _ _ h => h) (Or.inl ⟨by rfl, ?_⟩) hHeld ?_
        rotate_left
        · (intro w hSw; (try dsimp only at hSw); go_simp; try with_reducible rfl)
        try simp only [Act.put, List.setIfInBounds_toArray, List.set_cons_zero, List.set_cons_succ, List.getElem_toArray, List.getElem_cons_zero, List.getElem_cons_succ]
        refine wpAnyH_take (i := 10) (v := ?_) rfl (by kernel_rfl) (by kernel_rfl) (by kernel_rfl) (fun _ _ _ h => h) (Or.inl ⟨by rfl, ?_⟩) hHeld ?_
        rotate_left
        · (intro w hSw; (try dsimp only at hSw); have s0 := (hSw.1).cell 0; have s1 := (hSw.1).cell 1; have s2 := (hSw.1).cell 2; have s3 := (hSw.1).cell 3; go_simp; try with_reducible rfl)
        try simp only [Act.put, List.setIfInBounds_toArray, List.set_cons_zero, List.set_cons_succ, List.getElem_toArray, List.getElem_cons_zero, List.getElem_cons_succ]
        refine wpAnyH_take (i := 11) (v := ?_) rfl (by kernel_rfl) (by kernel_rfl) (by kernel_rfl) (fun _ _ _ h => h) (Or.inl ⟨by rfl, ?_⟩) hHeld ?_
        rotate_left
        · (intro w hSw; (try dsimp only at hSw); go_simp; try with_reducible rfl)
        try simp only [Act.put, List.setIfInBounds_toArray, List.set_cons_zero, List.set_cons_succ, List.getElem_toArray, List.getElem_cons_zero, List.getElem_cons_succ]
        refine wpAnyH_take (i := 12) (v := ?_) rfl (by kernel_rfl) (by kernel_rfl) (by kernel_rfl) (fun _ _ _ h => h) (Or.inl ⟨by rfl, ?_⟩) hHeld ?_
        rotate_left
        · (intro w hSw; (try dsimp only at hSw); go_simp; try with_reducible rfl)
        try simp only [Act.put, List.setIfInBounds_toArray, List.set_cons_zero, List.set_cons_succ, List.getElem_toArray, List.getElem_cons_zero, List.getElem_cons_succ]
        refine wpAnyH_take (i := 13) (v := ?_) rfl (by kernel_rfl) (by kernel_rfl) (by kernel_rfl) (fun _ _ _ h => h) (Or.inl ⟨by rfl, ?_⟩) hHeld ?_
        rotate_left
        · (intro w hSw; (try dsimp only at hSw); go_simp; try with_reducible rfl)
        try simp only [Act.put, List.setIfInBounds_toArray, List.set_cons_zero, List.set_cons_succ, List.getElem_toArray, List.getElem_cons_zero, List.getElem_cons_succ]
        refine wpAnyH_take (i := 14) (v := ?_) rfl (by kernel_rfl) (by kernel_rfl) (by kernel_rfl) (fun _ _ _ h => h) (Or.inl ⟨by rfl, ?_⟩) hHeld ?_
        rotate_left
        · (intro w hSw; (try dsimp only at hSw); go_simp; try with_reducible rfl)
        try simp only [Act.put, List.setIfInBounds_toArray, List.set_cons_zero, List.set_cons_succ, List.getElem_toArray, List.getElem_cons_zero, List.getElem_cons_succ]
        refine wpAnyH_ready (rs := [15]) (by kernel_rfl) (by simp) ?_
        refine AllReadyH.cons rfl (fun K hK => ?_) AllReadyH.nil
        go_simp
        refine hK.out _ _ (⟨hHeld.1.other _ _ HG.out.1, hHeld.2.1.other _ _ HG.out.2.1, hHeld.2.2.1.other _ _ HG.out.2.2.1, hHeld.2.2.2.setCell (p := ⟨G, 5, none⟩) HG.out.2.2.2 _⟩) (fun hHeld => ?_)
        clear hK K
        refine wpAnyH_done (by kernel_rfl) ?_ _
        have HGz : Blk (V.drew.setCell ⟨G, 5, none⟩ (.int .u64 z)) G 28 [.int .u32 n', .int .u32 ar, .int .u64 p, .int .u64 y1, .int .u64 y1, .int .u64 z, .int .u64 y1, .int .u64 y1, .int .u64 y1] := HGn.out.drew.set 5 _
        go_wp2_with fail
        refine wp_region_held_drew (S := (fun X => Blk X B1 24 [.int .i64 2, .int .i64 o, .int .u64 m, .int .u64 v] ∧ Blk X B2 28 [.int .u32 n, .int .u32 ar, .int .u64 p, .int .u64 x0, .int .u64 x1, .int .u64 x2, .int .u64 x3, .int .u64 x4, .int .u64 x5] ∧ Blk X G 28 [.int .u32 n', .int .u32 ar, .int .u64 p, .int .u64 y1, .int .u64 y1, .int .u64 z, .int .u64 y1, .int .u64 y1, .int .u64 y1] ∧ Below B1 w X)) (by kernel_rfl) (⟨hHeld.1.drew, hHeld.2.1.drew, HGz.drew, hHeld.2.2.2.drew⟩) (fun hHeld => ?_)
        simp only [List.size_toArray, List.length_cons, List.length_nil, Nat.reduceAdd]
        refine wpAnyH_take (i := 0) (v := ?_) rfl (by kernel_rfl) (by kernel_rfl) (by kernel_rfl) (fun _ _ _ h => h) (Or.inl ⟨by rfl, ?_⟩) hHeld ?_
        rotate_left
        · (intro w hSw; (try dsimp only at hSw); go_simp; try with_reducible rfl)
        try simp only [Act.put, List.setIfInBounds_toArray, List.set_cons_zero, List.set_cons_succ, List.getElem_toArray, List.getElem_cons_zero, List.getElem_cons_succ]
        refine wpAnyH_take (i := 1) (v := ?_) rfl (by kernel_rfl) (by kernel_rfl) (by kernel_rfl) (fun _ _ _ h => h) (Or.inl ⟨by rfl, ?_⟩) hHeld ?_
        rotate_left
        · (intro w hSw; (try dsimp only at hSw); go_simp; try with_reducible rfl)
        try simp only [Act.put, List.setIfInBounds_toArray, List.set_cons_zero, List.set_cons_succ, List.getElem_toArray, List.getElem_cons_zero, List.getElem_cons_succ]
        refine wpAnyH_take (i := 2) (v := ?_) rfl (by kernel_rfl) (by kernel_rfl) (by kernel_rfl) (fun _ _ _ h => h) (Or.inl ⟨by rfl, ?_⟩) hHeld ?_
        rotate_left
        · (intro w hSw; (try dsimp only at hSw); have s0 := (hSw.1).cell 0; have s1 := (hSw.1).cell 1; have s2 := (hSw.1).cell 2; have s3 := (hSw.1).cell 3; go_simp; try with_reducible rfl)
        try simp only [Act.put, List.setIfInBounds_toArray, List.set_cons_zero, List.set_cons_succ, List.getElem_toArray, List.getElem_cons_zero, List.getElem_cons_succ]
        refine wpAnyH_take (i := 3) (v := ?_) rfl (by kernel_rfl) (by kernel_rfl) (by kernel_rfl) (fun _ _ _ h => h) (Or.inl ⟨by rfl, ?_⟩) hHeld ?_
        rotate_left
        · (intro w hSw; (try dsimp only at hSw); have s0 := (hSw.2.1).cell 0; have s1 := (hSw.2.1).cell 1; have s2 := (hSw.2.1).cell 2; have s3 := (hSw.2.1).cell 3; have s4 := (hSw.2.1).cell 4; have s5 := (hSw.2.1).cell 5; have s6 := (hSw.2.1).cell 6; have s7 := (hSw.2.1).cell 7; have s8 := (hSw.2.1).cell 8; go_simp; try with_reducible rfl)
        try simp only [Act.put, List.setIfInBounds_toArray, List.set_cons_zero, List.set_cons_succ, List.getElem_toArray, List.getElem_cons_zero, List.getElem_cons_succ]
        refine wpAnyH_take (i := 5) (v := ?_) rfl (by kernel_rfl) (by kernel_rfl) (by kernel_rfl) (fun _ _ _ h => h) (Or.inl ⟨by rfl, ?_⟩) hHeld ?_
        rotate_left
        · (intro w hSw; (try dsimp only at hSw); have s0 := (hSw.1).cell 0; have s1 := (hSw.1).cell 1; have s2 := (hSw.1).cell 2; have s3 := (hSw.1).cell 3; go_simp; try with_reducible rfl)
        try simp only [Act.put, List.setIfInBounds_toArray, List.set_cons_zero, List.set_cons_succ, List.getElem_toArray, List.getElem_cons_zero, List.getElem_cons_succ]
        refine wpAnyH_take (i := 6) (v := ?_) rfl (by kernel_rfl) (by kernel_rfl) (by kernel_rfl) (fun _ _ _ h => h) (Or.inl ⟨by rfl, ?_⟩) hHeld ?_
        rotate_left
        · (intro w hSw; (try dsimp only at hSw); have s0 := (hSw.2.2.1).cell 0; have s1 := (hSw.2.2.1).cell 1; have s2 := (hSw.2.2.1).cell 2; have s3 := (hSw.2.2.1).cell 3; have s4 := (hSw.2.2.1).cell 4; have s5 := (hSw.2.2.1).cell 5; have s6 := (hSw.2.2.1).cell 6; have s7 := (hSw.2.2.1).cell 7; have s8 := (hSw.2.2.1).cell 8; go_simp; try with_reducible rfl)
        try simp only [Act.put, List.setIfInBounds_toArray, List.set_cons_zero, List.set_cons_succ, List.getElem_toArray, List.getElem_cons_zero, List.getElem_cons_succ]
        refine wpAnyH_ready (rs := [4]) (by kernel_rfl) (by simp) ?_
        refine AllReadyH.cons rfl (fun K hK => ?_) AllReadyH.nil
        go_simp
        refine (H3.out _).mono ?_
        rintro e w1 ⟨rfl, b1⟩
        go_wp2_with fail
        refine hK.out _ _ (⟨hHeld.1.over b1, hHeld.2.1.over b1, hHeld.2.2.1.over b1, hHeld.2.2.2.trans (b1.mono (hB1 ▸ hHeld.2.2.2.size))⟩) (fun hHeld => ?_)
        clear hK K
        try simp only [Act.put, List.setIfInBounds_toArray, List.set_cons_zero, List.set_cons_succ, List.getElem_toArray, List.getElem_cons_zero, List.getElem_cons_succ]
        refine wpAnyH_ready (rs := [7]) (by kernel_rfl) (by simp) ?_
        refine AllReadyH.cons rfl (fun K hK => ?_) AllReadyH.nil
        go_simp
        refine (HE.out _).mono ?_
        rintro e w2 ⟨rfl, b2⟩
        go_wp2_with fail
        refine hK.out _ _ (⟨hHeld.1.over b2, hHeld.2.1.over b2, hHeld.2.2.1.over b2, hHeld.2.2.2.trans (b2.mono (hB1 ▸ hHeld.2.2.2.size))⟩) (fun hHeld => ?_)
        clear hK K
        try simp only [Act.put, List.setIfInBounds_toArray, List.set_cons_zero, List.set_cons_succ, List.getElem_toArray, List.getElem_cons_zero, List.getElem_cons_succ]
        refine wpAnyH_take (i := 8) (v := ?_) rfl (by kernel_rfl) (by kernel_rfl) (by kernel_rfl) (fun _ _ _ h => h) (Or.inl ⟨by rfl, ?_⟩) hHeld ?_
        rotate_left
        · (intro w hSw; (try dsimp only at hSw); go_simp; try with_reducible rfl)
        try simp only [Act.put, List.setIfInBounds_toArray, List.set_cons_zero, List.set_cons_succ, List.getElem_toArray, List.getElem_cons_zero, List.getElem_cons_succ]
        refine wpAnyH_take (i := 9) (v := ?_) rfl (by kernel_rfl) (by kernel_rfl) (by kernel_rfl) (fun _ _ _ h => h) (Or.inl ⟨by rfl, ?_⟩) hHeld ?_
        rotate_left
        · (intro w hSw; (try dsimp only at hSw); go_simp; try with_reducible rfl)
        try simp only [Act.put, List.setIfInBounds_toArray, List.set_cons_zero, List.set_cons_succ, List.getElem_toArray, List.getElem_cons_zero, List.getElem_cons_succ]
        refine wpAnyH_take (i := 10) (v := ?_) rfl (by kernel_rfl) (by kernel_rfl) (by kernel_rfl) (fun _ _ _ h => h) (Or.inl ⟨by rfl, ?_⟩) hHeld ?_
        rotate_left
        · (intro w hSw; (try dsimp only at hSw); go_simp; try with_reducible rfl)
        try simp only [Act.put, List.setIfInBounds_toArray, List.set_cons_zero, List.set_cons_succ, List.getElem_toArray, List.getElem_cons_zero, List.getElem_cons_succ]
        refine wpAnyH_done (by kernel_rfl) ?_ _
        go_wp2_with fail
        go_ret
        exact ⟨by first | rfl | simp, by rw [hB1]; exact hHeld.2.2.2⟩
      · obtain ⟨z, hz⟩ : ∃ z, bits BinOp.xor IntKind.u64 x3 u = z := ⟨_, rfl⟩
        have hxk : U64 x3 := HD.out.2.2.2.2 x3 (by simp)
        have hz2 : an z m = an x3 m ∧ U64 z := by
          have := an_other hxk HY2.out HM.out
          rw [hu, hz] at this
          exact this
        have HE : Hid (∀ W : World, Calls Try.prog 12 #[.agg #[.int .i64 3, .int .i64 o, .int .u64 m, .int .u64 v], .agg #[.int .u32 n', .int .u32 ar, .int .u64 p, .int .u64 y1, .int .u64 y1, .int .u64 y1, .int .u64 z, .int .u64 y1, .int .u64 y1]] W fun e w' => e = .returned (.bool q) ∧ Below W.heap.size W w') := by
          intro W
          have hok : (Da.mk n' ar p [y1, y1, y1, z, y1, y1]).ok := by
            refine ⟨?_, HD.out.2.1, HD.out.2.2.1, rfl, ?_⟩
            · show U32 n'
              rw [← hn']
              exact xor_one HD.out.1
            · intro c hc
              simp only [List.mem_cons, List.not_mem_nil, or_false] at hc
              rcases hc with rfl | rfl | rfl | rfl | rfl | rfl <;> first | exact HY1.out | exact hz2.2
          have := holds_any 3 o m v ⟨n', ar, p, [y1, y1, y1, z, y1, y1]⟩ W hok
          unfold holdN at this
          rw [HR.out, Bool.true_and] at this
          rw [← HQ.out]
          have e1 : ([y1, y1, y1, z, y1, y1] : List Int).getD (3 : Int).toNat 0 = z := rfl
          dsimp only at this
          rw [e1, hz2.1] at this
          exact this
        clear hxk hz2 HQ HR HY1 HY2 HM HD
        have t1 : V.cell? ⟨G, 6, none⟩ = some (.int .u64 y1) := HGn.out.cell 6
        have v1 : V.frozen? ⟨G, 6, none⟩ = false := HGn.out.f 6
        refine wp_region_held_drew (S := (fun X => Blk X B1 24 [.int .i64 3, .int .i64 o, .int .u64 m, .int .u64 v] ∧ Blk X B2 28 [.int .u32 n, .int .u32 ar, .int .u64 p, .int .u64 x0, .int .u64 x1, .int .u64 x2, .int .u64 x3, .int .u64 x4, .int .u64 x5] ∧ Blk X B3 40 [.int .u64 y1, .int .u64 y2] ∧ Below B1 w X)) (by kernel_rfl) (⟨HBn.out.1.drew, HBn.out.2.1.drew, HBn.out.2.2.1.drew, HBn.out.2.2.2.drew⟩) (fun hHeld => ?_)
        simp only [List.size_toArray, List.length_cons, List.length_nil, Nat.reduceAdd]
        refine wpAnyH_take (i := 0) (v := ?_) rfl (by kernel_rfl) (by kernel_rfl) (by kernel_rfl) (fun _ _ _ h => h) (Or.inl ⟨by rfl, ?_⟩) hHeld ?_
        rotate_left
        · (intro w hSw; (try dsimp only at hSw); go_simp; try with_reducible rfl)
        try simp only [Act.put, List.setIfInBounds_toArray, List.set_cons_zero, List.set_cons_succ, List.getElem_toArray, List.getElem_cons_zero, List.getElem_cons_succ]
        refine wpAnyH_take (i := 1) (v := ?_) rfl (by kernel_rfl) (by kernel_rfl) (by kernel_rfl) (fun _ _ _ h => h) (Or.inl ⟨by rfl, ?_⟩) hHeld ?_
        rotate_left
        · (intro w hSw; (try dsimp only at hSw); have s0 := (hSw.1).cell 0; have s1 := (hSw.1).cell 1; have s2 := (hSw.1).cell 2; have s3 := (hSw.1).cell 3; go_simp; try with_reducible rfl)
        try simp only [Act.put, List.setIfInBounds_toArray, List.set_cons_zero, List.set_cons_succ, List.getElem_toArray, List.getElem_cons_zero, List.getElem_cons_succ]
        refine wpAnyH_take (i := 2) (v := ?_) rfl (by kernel_rfl) (by kernel_rfl) (by kernel_rfl) (fun _ _ _ h => h) (Or.inl ⟨by rfl, ?_⟩) hHeld ?_
        rotate_left
        · (intro w hSw; (try dsimp only at hSw); go_simp; try with_reducible rfl)
        try simp only [Act.put, List.setIfInBounds_toArray, List.set_cons_zero, List.set_cons_succ, List.getElem_toArray, List.getElem_cons_zero, List.getElem_cons_succ]
        refine wpAnyH_take (i := 3) (v := ?_) rfl (by kernel_rfl) (by kernel_rfl) (by kernel_rfl) (fun _ _ _ h => h) (Or.inl ⟨by rfl, ?_⟩) hHeld ?_
        rotate_left
        · (intro w hSw; (try dsimp only at hSw); have s0 := (hSw.1).cell 0; have s1 := (hSw.1).cell 1; have s2 := (hSw.1).cell 2; have s3 := (hSw.1).cell 3; go_simp; try with_reducible rfl)
        try simp only [Act.put, List.setIfInBounds_toArray, List.set_cons_zero, List.set_cons_succ, List.getElem_toArray, List.getElem_cons_zero, List.getElem_cons_succ]
        refine wpAnyH_take (i := 4) (v := ?_) rfl (by kernel_rfl) (by kernel_rfl) (by kernel_rfl) (fun _ _ _ h => h) (Or.inl ⟨by rfl, ?_⟩) hHeld ?_
        rotate_left
        · (intro w hSw; (try dsimp only at hSw); go_simp; try with_reducible rfl)
        try simp only [Act.put, List.setIfInBounds_toArray, List.set_cons_zero, List.set_cons_succ, List.getElem_toArray, List.getElem_cons_zero, List.getElem_cons_succ]
        refine wpAnyH_take (i := 5) (v := ?_) rfl (by kernel_rfl) (by kernel_rfl) (by kernel_rfl) (fun _ _ _ h => h) (Or.inl ⟨by rfl, ?_⟩) hHeld ?_
        rotate_left
        · (intro w hSw; (try dsimp only at hSw); go_simp; try with_reducible rfl)
        try simp only [Act.put, List.setIfInBounds_toArray, List.set_cons_zero, List.set_cons_succ, List.getElem_toArray, List.getElem_cons_zero, List.getElem_cons_succ]
        refine wpAnyH_take (i := 6) (v := ?_) rfl (by kernel_rfl) (by kernel_rfl) (by kernel_rfl) (fun _ _ _ h => h) (Or.inl ⟨by rfl, ?_⟩) hHeld ?_
        rotate_left
        · (intro w hSw; (try dsimp only at hSw); have s0 := (hSw.2.1).cell 0; have s1 := (hSw.2.1).cell 1; have s2 := (hSw.2.1).cell 2; have s3 := (hSw.2.1).cell 3; have s4 := (hSw.2.1).cell 4; have s5 := (hSw.2.1).cell 5; have s6 := (hSw.2.1).cell 6; have s7 := (hSw.2.1).cell 7; have s8 := (hSw.2.1).cell 8; go_simp; try with_reducible rfl)
        try simp only [Act.put, List.setIfInBounds_toArray, List.set_cons_zero, List.set_cons_succ, List.getElem_toArray, List.getElem_cons_zero, List.getElem_cons_succ]
        refine wpAnyH_take (i := 7) (v := ?_) rfl (by kernel_rfl) (by kernel_rfl) (by kernel_rfl) (fun _ _ _ h => h) (Or.inl ⟨by rfl, ?_⟩) hHeld ?_
        rotate_left
        · (intro w hSw; (try dsimp only at hSw); go_simp; try with_reducible rfl)
        try simp only [Act.put, List.setIfInBounds_toArray, List.set_cons_zero, List.set_cons_succ, List.getElem_toArray, List.getElem_cons_zero, List.getElem_cons_succ]
        refine wpAnyH_take (i := 8) (v := ?_) rfl (by kernel_rfl) (by kernel_rfl) (by kernel_rfl) (fun _ _ _ h => h) (Or.inl ⟨by rfl, ?_⟩) hHeld ?_
        rotate_left
        · (intro w hSw; (try dsimp only at hSw); have g0 := (hSw.2.2.1).cell 0; have g1 := (hSw.2.2.1).cell 1; go_simp; try with_reducible rfl)
        try simp only [Act.put, List.setIfInBounds_toArray, List.set_cons_zero, List.set_cons_succ, List.getElem_toArray, List.getElem_cons_zero, List.getElem_cons_succ]
        refine wpAnyH_take (i := 9) (v := ?_) rfl (by kernel_rfl) (by kernel_rfl) (by kernel_rfl) (fun _ _ _ h => h) (Or.inl ⟨by rfl, ?_⟩) hHeld ?_
        rotate_left
        · (intro w hSw; (try dsimp only at hSw); go_simp; try with_reducible rfl)
        try simp only [Act.put, List.setIfInBounds_toArray, List.set_cons_zero, List.set_cons_succ, List.getElem_toArray, List.getElem_cons_zero, List.getElem_cons_succ]
        refine wpAnyH_take (i := 10) (v := ?_) rfl (by kernel_rfl) (by kernel_rfl) (by kernel_rfl) (fun _ _ _ h => h) (Or.inl ⟨by rfl, ?_⟩) hHeld ?_
        rotate_left
        · (intro w hSw; (try dsimp only at hSw); have s0 := (hSw.1).cell 0; have s1 := (hSw.1).cell 1; have s2 := (hSw.1).cell 2; have s3 := (hSw.1).cell 3; go_simp; try with_reducible rfl)
        try simp only [Act.put, List.setIfInBounds_toArray, List.set_cons_zero, List.set_cons_succ, List.getElem_toArray, List.getElem_cons_zero, List.getElem_cons_succ]
        refine wpAnyH_take (i := 11) (v := ?_) rfl (by kernel_rfl) (by kernel_rfl) (by kernel_rfl) (fun _ _ _ h => h) (Or.inl ⟨by rfl, ?_⟩) hHeld ?_
        rotate_left
        · (intro w hSw; (try dsimp only at hSw); go_simp; try with_reducible rfl)
        try simp only [Act.put, List.setIfInBounds_toArray, List.set_cons_zero, List.set_cons_succ, List.getElem_toArray, List.getElem_cons_zero, List.getElem_cons_succ]
        refine wpAnyH_take (i := 12) (v := ?_) rfl (by kernel_rfl) (by kernel_rfl) (by kernel_rfl) (fun _ _ _ h => h) (Or.inl ⟨by rfl, ?_⟩) hHeld ?_
        rotate_left
        · (intro w hSw; (try dsimp only at hSw); go_simp; try with_reducible rfl)
        try simp only [Act.put, List.setIfInBounds_toArray, List.set_cons_zero, List.set_cons_succ, List.getElem_toArray, List.getElem_cons_zero, List.getElem_cons_succ]
        refine wpAnyH_take (i := 13) (v := ?_) rfl (by kernel_rfl) (by kernel_rfl) (by kernel_rfl) (fun _ _ _ h => h) (Or.inl ⟨by rfl, ?_⟩) hHeld ?_
        rotate_left
        · (intro w hSw; (try dsimp only at hSw); go_simp; try with_reducible rfl)
        try simp only [Act.put, List.setIfInBounds_toArray, List.set_cons_zero, List.set_cons_succ, List.getElem_toArray, List.getElem_cons_zero, List.getElem_cons_succ]
        refine wpAnyH_take (i := 14) (v := ?_) rfl (by kernel_rfl) (by kernel_rfl) (by kernel_rfl) (fun _ _ _ h => h) (Or.inl ⟨by rfl, ?_⟩) hHeld ?_
        rotate_left
        · (intro w hSw; (try dsimp only at hSw); go_simp; try with_reducible rfl)
        try simp only [Act.put, List.setIfInBounds_toArray, List.set_cons_zero, List.set_cons_succ, List.getElem_toArray, List.getElem_cons_zero, List.getElem_cons_succ]
        refine wpAnyH_ready (rs := [15]) (by kernel_rfl) (by simp) ?_
        refine AllReadyH.cons rfl (fun K hK => ?_) AllReadyH.nil
        go_simp
        refine hK.out _ _ (⟨hHeld.1.other _ _ HG.out.1, hHeld.2.1.other _ _ HG.out.2.1, hHeld.2.2.1.other _ _ HG.out.2.2.1, hHeld.2.2.2.setCell (p := ⟨G, 6, none⟩) HG.out.2.2.2 _⟩) (fun hHeld => ?_)
        clear hK K
        refine wpAnyH_done (by kernel_rfl) ?_ _
        have HGz : Blk (V.drew.setCell ⟨G, 6, none⟩ (.int .u64 z)) G 28 [.int .u32 n', .int .u32 ar, .int .u64 p, .int .u64 y1, .int .u64 y1, .int .u64 y1, .int .u64 z, .int .u64 y1, .int .u64 y1] := HGn.out.drew.set 6 _
        go_wp2_with fail
        refine wp_region_held_drew (S := (fun X => Blk X B1 24 [.int .i64 3, .int .i64 o, .int .u64 m, .int .u64 v] ∧ Blk X B2 28 [.int .u32 n, .int .u32 ar, .int .u64 p, .int .u64 x0, .int .u64 x1, .int .u64 x2, .int .u64 x3, .int .u64 x4, .int .u64 x5] ∧ Blk X G 28 [.int .u32 n', .int .u32 ar, .int .u64 p, .int .u64 y1, .int .u64 y1, .int .u64 y1, .int .u64 z, .int .u64 y1, .int .u64 y1] ∧ Below B1 w X)) (by kernel_rfl) (⟨hHeld.1.drew, hHeld.2.1.drew, HGz.drew, hHeld.2.2.2.drew⟩) (fun hHeld => ?_)
        simp only [List.size_toArray, List.length_cons, List.length_nil, Nat.reduceAdd]
        refine wpAnyH_take (i := 0) (v := ?_) rfl (by kernel_rfl) (by kernel_rfl) (by kernel_rfl) (fun _ _ _ h => h) (Or.inl ⟨by rfl, ?_⟩) hHeld ?_
        rotate_left
        · (intro w hSw; (try dsimp only at hSw); go_simp; try with_reducible rfl)
        try simp only [Act.put, List.setIfInBounds_toArray, List.set_cons_zero, List.set_cons_succ, List.getElem_toArray, List.getElem_cons_zero, List.getElem_cons_succ]
        refine wpAnyH_take (i := 1) (v := ?_) rfl (by kernel_rfl) (by kernel_rfl) (by kernel_rfl) (fun _ _ _ h => h) (Or.inl ⟨by rfl, ?_⟩) hHeld ?_
        rotate_left
        · (intro w hSw; (try dsimp only at hSw); go_simp; try with_reducible rfl)
        try simp only [Act.put, List.setIfInBounds_toArray, List.set_cons_zero, List.set_cons_succ, List.getElem_toArray, List.getElem_cons_zero, List.getElem_cons_succ]
        refine wpAnyH_take (i := 2) (v := ?_) rfl (by kernel_rfl) (by kernel_rfl) (by kernel_rfl) (fun _ _ _ h => h) (Or.inl ⟨by rfl, ?_⟩) hHeld ?_
        rotate_left
        · (intro w hSw; (try dsimp only at hSw); have s0 := (hSw.1).cell 0; have s1 := (hSw.1).cell 1; have s2 := (hSw.1).cell 2; have s3 := (hSw.1).cell 3; go_simp; try with_reducible rfl)
        try simp only [Act.put, List.setIfInBounds_toArray, List.set_cons_zero, List.set_cons_succ, List.getElem_toArray, List.getElem_cons_zero, List.getElem_cons_succ]
        refine wpAnyH_take (i := 3) (v := ?_) rfl (by kernel_rfl) (by kernel_rfl) (by kernel_rfl) (fun _ _ _ h => h) (Or.inl ⟨by rfl, ?_⟩) hHeld ?_
        rotate_left
        · (intro w hSw; (try dsimp only at hSw); have s0 := (hSw.2.1).cell 0; have s1 := (hSw.2.1).cell 1; have s2 := (hSw.2.1).cell 2; have s3 := (hSw.2.1).cell 3; have s4 := (hSw.2.1).cell 4; have s5 := (hSw.2.1).cell 5; have s6 := (hSw.2.1).cell 6; have s7 := (hSw.2.1).cell 7; have s8 := (hSw.2.1).cell 8; go_simp; try with_reducible rfl)
        try simp only [Act.put, List.setIfInBounds_toArray, List.set_cons_zero, List.set_cons_succ, List.getElem_toArray, List.getElem_cons_zero, List.getElem_cons_succ]
        refine wpAnyH_take (i := 5) (v := ?_) rfl (by kernel_rfl) (by kernel_rfl) (by kernel_rfl) (fun _ _ _ h => h) (Or.inl ⟨by rfl, ?_⟩) hHeld ?_
        rotate_left
        · (intro w hSw; (try dsimp only at hSw); have s0 := (hSw.1).cell 0; have s1 := (hSw.1).cell 1; have s2 := (hSw.1).cell 2; have s3 := (hSw.1).cell 3; go_simp; try with_reducible rfl)
        try simp only [Act.put, List.setIfInBounds_toArray, List.set_cons_zero, List.set_cons_succ, List.getElem_toArray, List.getElem_cons_zero, List.getElem_cons_succ]
        refine wpAnyH_take (i := 6) (v := ?_) rfl (by kernel_rfl) (by kernel_rfl) (by kernel_rfl) (fun _ _ _ h => h) (Or.inl ⟨by rfl, ?_⟩) hHeld ?_
        rotate_left
        · (intro w hSw; (try dsimp only at hSw); have s0 := (hSw.2.2.1).cell 0; have s1 := (hSw.2.2.1).cell 1; have s2 := (hSw.2.2.1).cell 2; have s3 := (hSw.2.2.1).cell 3; have s4 := (hSw.2.2.1).cell 4; have s5 := (hSw.2.2.1).cell 5; have s6 := (hSw.2.2.1).cell 6; have s7 := (hSw.2.2.1).cell 7; have s8 := (hSw.2.2.1).cell 8; go_simp; try with_reducible rfl)
        try simp only [Act.put, List.setIfInBounds_toArray, List.set_cons_zero, List.set_cons_succ, List.getElem_toArray, List.getElem_cons_zero, List.getElem_cons_succ]
        refine wpAnyH_ready (rs := [4]) (by kernel_rfl) (by simp) ?_
        refine AllReadyH.cons rfl (fun K hK => ?_) AllReadyH.nil
        go_simp
        refine (H3.out _).mono ?_
        rintro e w1 ⟨rfl, b1⟩
        go_wp2_with fail
        refine hK.out _ _ (⟨hHeld.1.over b1, hHeld.2.1.over b1, hHeld.2.2.1.over b1, hHeld.2.2.2.trans (b1.mono (hB1 ▸ hHeld.2.2.2.size))⟩) (fun hHeld => ?_)
        clear hK K
        try simp only [Act.put, List.setIfInBounds_toArray, List.set_cons_zero, List.set_cons_succ, List.getElem_toArray, List.getElem_cons_zero, List.getElem_cons_succ]
        refine wpAnyH_ready (rs := [7]) (by kernel_rfl) (by simp) ?_
        refine AllReadyH.cons rfl (fun K hK => ?_) AllReadyH.nil
        go_simp
        refine (HE.out _).mono ?_
        rintro e w2 ⟨rfl, b2⟩
        go_wp2_with fail
        refine hK.out _ _ (⟨hHeld.1.over b2, hHeld.2.1.over b2, hHeld.2.2.1.over b2, hHeld.2.2.2.trans (b2.mono (hB1 ▸ hHeld.2.2.2.size))⟩) (fun hHeld => ?_)
        clear hK K
        try simp only [Act.put, List.setIfInBounds_toArray, List.set_cons_zero, List.set_cons_succ, List.getElem_toArray, List.getElem_cons_zero, List.getElem_cons_succ]
        refine wpAnyH_take (i := 8) (v := ?_) rfl (by kernel_rfl) (by kernel_rfl) (by kernel_rfl) (fun _ _ _ h => h) (Or.inl ⟨by rfl, ?_⟩) hHeld ?_
        rotate_left
        · (intro w hSw; (try dsimp only at hSw); go_simp; try with_reducible rfl)
        try simp only [Act.put, List.setIfInBounds_toArray, List.set_cons_zero, List.set_cons_succ, List.getElem_toArray, List.getElem_cons_zero, List.getElem_cons_succ]
        refine wpAnyH_take (i := 9) (v := ?_) rfl (by kernel_rfl) (by kernel_rfl) (by kernel_rfl) (fun _ _ _ h => h) (Or.inl ⟨by rfl, ?_⟩) hHeld ?_
        rotate_left
        · (intro w hSw; (try dsimp only at hSw); go_simp; try with_reducible rfl)
        try simp only [Act.put, List.setIfInBounds_toArray, List.set_cons_zero, List.set_cons_succ, List.getElem_toArray, List.getElem_cons_zero, List.getElem_cons_succ]
        refine wpAnyH_take (i := 10) (v := ?_) rfl (by kernel_rfl) (by kernel_rfl) (by kernel_rfl) (fun _ _ _ h => h) (Or.inl ⟨by rfl, ?_⟩) hHeld ?_
        rotate_left
        · (intro w hSw; (try dsimp only at hSw); go_simp; try with_reducible rfl)
        try simp only [Act.put, List.setIfInBounds_toArray, List.set_cons_zero, List.set_cons_succ, List.getElem_toArray, List.getElem_cons_zero, List.getElem_cons_succ]
        refine wpAnyH_done (by kernel_rfl) ?_ _
        go_wp2_with fail
        go_ret
        exact ⟨by first | rfl | simp, by rw [hB1]; exact hHeld.2.2.2⟩
      · obtain ⟨z, hz⟩ : ∃ z, bits BinOp.xor IntKind.u64 x4 u = z := ⟨_, rfl⟩
        have hxk : U64 x4 := HD.out.2.2.2.2 x4 (by simp)
        have hz2 : an z m = an x4 m ∧ U64 z := by
          have := an_other hxk HY2.out HM.out
          rw [hu, hz] at this
          exact this
        have HE : Hid (∀ W : World, Calls Try.prog 12 #[.agg #[.int .i64 4, .int .i64 o, .int .u64 m, .int .u64 v], .agg #[.int .u32 n', .int .u32 ar, .int .u64 p, .int .u64 y1, .int .u64 y1, .int .u64 y1, .int .u64 y1, .int .u64 z, .int .u64 y1]] W fun e w' => e = .returned (.bool q) ∧ Below W.heap.size W w') := by
          intro W
          have hok : (Da.mk n' ar p [y1, y1, y1, y1, z, y1]).ok := by
            refine ⟨?_, HD.out.2.1, HD.out.2.2.1, rfl, ?_⟩
            · show U32 n'
              rw [← hn']
              exact xor_one HD.out.1
            · intro c hc
              simp only [List.mem_cons, List.not_mem_nil, or_false] at hc
              rcases hc with rfl | rfl | rfl | rfl | rfl | rfl <;> first | exact HY1.out | exact hz2.2
          have := holds_any 4 o m v ⟨n', ar, p, [y1, y1, y1, y1, z, y1]⟩ W hok
          unfold holdN at this
          rw [HR.out, Bool.true_and] at this
          rw [← HQ.out]
          have e1 : ([y1, y1, y1, y1, z, y1] : List Int).getD (4 : Int).toNat 0 = z := rfl
          dsimp only at this
          rw [e1, hz2.1] at this
          exact this
        clear hxk hz2 HQ HR HY1 HY2 HM HD
        have t1 : V.cell? ⟨G, 7, none⟩ = some (.int .u64 y1) := HGn.out.cell 7
        have v1 : V.frozen? ⟨G, 7, none⟩ = false := HGn.out.f 7
        refine wp_region_held_drew (S := (fun X => Blk X B1 24 [.int .i64 4, .int .i64 o, .int .u64 m, .int .u64 v] ∧ Blk X B2 28 [.int .u32 n, .int .u32 ar, .int .u64 p, .int .u64 x0, .int .u64 x1, .int .u64 x2, .int .u64 x3, .int .u64 x4, .int .u64 x5] ∧ Blk X B3 40 [.int .u64 y1, .int .u64 y2] ∧ Below B1 w X)) (by kernel_rfl) (⟨HBn.out.1.drew, HBn.out.2.1.drew, HBn.out.2.2.1.drew, HBn.out.2.2.2.drew⟩) (fun hHeld => ?_)
        simp only [List.size_toArray, List.length_cons, List.length_nil, Nat.reduceAdd]
        refine wpAnyH_take (i := 0) (v := ?_) rfl (by kernel_rfl) (by kernel_rfl) (by kernel_rfl) (fun _ _ _ h => h) (Or.inl ⟨by rfl, ?_⟩) hHeld ?_
        rotate_left
        · (intro w hSw; (try dsimp only at hSw); go_simp; try with_reducible rfl)
        try simp only [Act.put, List.setIfInBounds_toArray, List.set_cons_zero, List.set_cons_succ, List.getElem_toArray, List.getElem_cons_zero, List.getElem_cons_succ]
        refine wpAnyH_take (i := 1) (v := ?_) rfl (by kernel_rfl) (by kernel_rfl) (by kernel_rfl) (fun _ _ _ h => h) (Or.inl ⟨by rfl, ?_⟩) hHeld ?_
        rotate_left
        · (intro w hSw; (try dsimp only at hSw); have s0 := (hSw.1).cell 0; have s1 := (hSw.1).cell 1; have s2 := (hSw.1).cell 2; have s3 := (hSw.1).cell 3; go_simp; try with_reducible rfl)
        try simp only [Act.put, List.setIfInBounds_toArray, List.set_cons_zero, List.set_cons_succ, List.getElem_toArray, List.getElem_cons_zero, List.getElem_cons_succ]
        refine wpAnyH_take (i := 2) (v := ?_) rfl (by kernel_rfl) (by kernel_rfl) (by kernel_rfl) (fun _ _ _ h => h) (Or.inl ⟨by rfl, ?_⟩) hHeld ?_
        rotate_left
        · (intro w hSw; (try dsimp only at hSw); go_simp; try with_reducible rfl)
        try simp only [Act.put, List.setIfInBounds_toArray, List.set_cons_zero, List.set_cons_succ, List.getElem_toArray, List.getElem_cons_zero, List.getElem_cons_succ]
        refine wpAnyH_take (i := 3) (v := ?_) rfl (by kernel_rfl) (by kernel_rfl) (by kernel_rfl) (fun _ _ _ h => h) (Or.inl ⟨by rfl, ?_⟩) hHeld ?_
        rotate_left
        · (intro w hSw; (try dsimp only at hSw); have s0 := (hSw.1).cell 0; have s1 := (hSw.1).cell 1; have s2 := (hSw.1).cell 2; have s3 := (hSw.1).cell 3; go_simp; try with_reducible rfl)
        try simp only [Act.put, List.setIfInBounds_toArray, List.set_cons_zero, List.set_cons_succ, List.getElem_toArray, List.getElem_cons_zero, List.getElem_cons_succ]
        refine wpAnyH_take (i := 4) (v := ?_) rfl (by kernel_rfl) (by kernel_rfl) (by kernel_rfl) (fun _ _ _ h => h) (Or.inl ⟨by rfl, ?_⟩) hHeld ?_
        rotate_left
        · (intro w hSw; (try dsimp only at hSw); go_simp; try with_reducible rfl)
        try simp only [Act.put, List.setIfInBounds_toArray, List.set_cons_zero, List.set_cons_succ, List.getElem_toArray, List.getElem_cons_zero, List.getElem_cons_succ]
        refine wpAnyH_take (i := 5) (v := ?_) rfl (by kernel_rfl) (by kernel_rfl) (by kernel_rfl) (fun _ _ _ h => h) (Or.inl ⟨by rfl, ?_⟩) hHeld ?_
        rotate_left
        · (intro w hSw; (try dsimp only at hSw); go_simp; try with_reducible rfl)
        try simp only [Act.put, List.setIfInBounds_toArray, List.set_cons_zero, List.set_cons_succ, List.getElem_toArray, List.getElem_cons_zero, List.getElem_cons_succ]
        refine wpAnyH_take (i := 6) (v := ?_) rfl (by kernel_rfl) (by kernel_rfl) (by kernel_rfl) (fun _ _ _ h => h) (Or.inl ⟨by rfl, ?_⟩) hHeld ?_
        rotate_left
        · (intro w hSw; (try dsimp only at hSw); have s0 := (hSw.2.1).cell 0; have s1 := (hSw.2.1).cell 1; have s2 := (hSw.2.1).cell 2; have s3 := (hSw.2.1).cell 3; have s4 := (hSw.2.1).cell 4; have s5 := (hSw.2.1).cell 5; have s6 := (hSw.2.1).cell 6; have s7 := (hSw.2.1).cell 7; have s8 := (hSw.2.1).cell 8; go_simp; try with_reducible rfl)
        try simp only [Act.put, List.setIfInBounds_toArray, List.set_cons_zero, List.set_cons_succ, List.getElem_toArray, List.getElem_cons_zero, List.getElem_cons_succ]
        refine wpAnyH_take (i := 7) (v := ?_) rfl (by kernel_rfl) (by kernel_rfl) (by kernel_rfl) (fun _ _ _ h => h) (Or.inl ⟨by rfl, ?_⟩) hHeld ?_
        rotate_left
        · (intro w hSw; (try dsimp only at hSw); go_simp; try with_reducible rfl)
        try simp only [Act.put, List.setIfInBounds_toArray, List.set_cons_zero, List.set_cons_succ, List.getElem_toArray, List.getElem_cons_zero, List.getElem_cons_succ]
        refine wpAnyH_take (i := 8) (v := ?_) rfl (by kernel_rfl) (by kernel_rfl) (by kernel_rfl) (fun _ _ _ h => h) (Or.inl ⟨by rfl, ?_⟩) hHeld ?_
        rotate_left
        · (intro w hSw; (try dsimp only at hSw); have g0 := (hSw.2.2.1).cell 0; have g1 := (hSw.2.2.1).cell 1; go_simp; try with_reducible rfl)
        try simp only [Act.put, List.setIfInBounds_toArray, List.set_cons_zero, List.set_cons_succ, List.getElem_toArray, List.getElem_cons_zero, List.getElem_cons_succ]
        refine wpAnyH_take (i := 9) (v := ?_) rfl (by kernel_rfl) (by kernel_rfl) (by kernel_rfl) (fun _ _ _ h => h) (Or.inl ⟨by rfl, ?_⟩) hHeld ?_
        rotate_left
        · (intro w hSw; (try dsimp only at hSw); go_simp; try with_reducible rfl)
        try simp only [Act.put, List.setIfInBounds_toArray, List.set_cons_zero, List.set_cons_succ, List.getElem_toArray, List.getElem_cons_zero, List.getElem_cons_succ]
        refine wpAnyH_take (i := 10) (v := ?_) rfl (by kernel_rfl) (by kernel_rfl) (by kernel_rfl) (fun _ _ _ h => h) (Or.inl ⟨by rfl, ?_⟩) hHeld ?_
        rotate_left
        · (intro w hSw; (try dsimp only at hSw); have s0 := (hSw.1).cell 0; have s1 := (hSw.1).cell 1; have s2 := (hSw.1).cell 2; have s3 := (hSw.1).cell 3; go_simp; try with_reducible rfl)
        try simp only [Act.put, List.setIfInBounds_toArray, List.set_cons_zero, List.set_cons_succ, List.getElem_toArray, List.getElem_cons_zero, List.getElem_cons_succ]
        refine wpAnyH_take (i := 11) (v := ?_) rfl (by kernel_rfl) (by kernel_rfl) (by kernel_rfl) (fun _ _ _ h => h) (Or.inl ⟨by rfl, ?_⟩) hHeld ?_
        rotate_left
        · (intro w hSw; (try dsimp only at hSw); go_simp; try with_reducible rfl)
        try simp only [Act.put, List.setIfInBounds_toArray, List.set_cons_zero, List.set_cons_succ, List.getElem_toArray, List.getElem_cons_zero, List.getElem_cons_succ]
        refine wpAnyH_take (i := 12) (v := ?_) rfl (by kernel_rfl) (by kernel_rfl) (by kernel_rfl) (fun _ _ _ h => h) (Or.inl ⟨by rfl, ?_⟩) hHeld ?_
        rotate_left
        · (intro w hSw; (try dsimp only at hSw); go_simp; try with_reducible rfl)
        try simp only [Act.put, List.setIfInBounds_toArray, List.set_cons_zero, List.set_cons_succ, List.getElem_toArray, List.getElem_cons_zero, List.getElem_cons_succ]
        refine wpAnyH_take (i := 13) (v := ?_) rfl (by kernel_rfl) (by kernel_rfl) (by kernel_rfl) (fun _ _ _ h => h) (Or.inl ⟨by rfl, ?_⟩) hHeld ?_
        rotate_left
        · (intro w hSw; (try dsimp only at hSw); go_simp; try with_reducible rfl)
        try simp only [Act.put, List.setIfInBounds_toArray, List.set_cons_zero, List.set_cons_succ, List.getElem_toArray, List.getElem_cons_zero, List.getElem_cons_succ]
        refine wpAnyH_take (i := 14) (v := ?_) rfl (by kernel_rfl) (by kernel_rfl) (by kernel_rfl) (fun _ _ _ h => h) (Or.inl ⟨by rfl, ?_⟩) hHeld ?_
        rotate_left
        · (intro w hSw; (try dsimp only at hSw); go_simp; try with_reducible rfl)
        try simp only [Act.put, List.setIfInBounds_toArray, List.set_cons_zero, List.set_cons_succ, List.getElem_toArray, List.getElem_cons_zero, List.getElem_cons_succ]
        refine wpAnyH_ready (rs := [15]) (by kernel_rfl) (by simp) ?_
        refine AllReadyH.cons rfl (fun K hK => ?_) AllReadyH.nil
        go_simp
        refine hK.out _ _ (⟨hHeld.1.other _ _ HG.out.1, hHeld.2.1.other _ _ HG.out.2.1, hHeld.2.2.1.other _ _ HG.out.2.2.1, hHeld.2.2.2.setCell (p := ⟨G, 7, none⟩) HG.out.2.2.2 _⟩) (fun hHeld => ?_)
        clear hK K
        refine wpAnyH_done (by kernel_rfl) ?_ _
        have HGz : Blk (V.drew.setCell ⟨G, 7, none⟩ (.int .u64 z)) G 28 [.int .u32 n', .int .u32 ar, .int .u64 p, .int .u64 y1, .int .u64 y1, .int .u64 y1, .int .u64 y1, .int .u64 z, .int .u64 y1] := HGn.out.drew.set 7 _
        go_wp2_with fail
        refine wp_region_held_drew (S := (fun X => Blk X B1 24 [.int .i64 4, .int .i64 o, .int .u64 m, .int .u64 v] ∧ Blk X B2 28 [.int .u32 n, .int .u32 ar, .int .u64 p, .int .u64 x0, .int .u64 x1, .int .u64 x2, .int .u64 x3, .int .u64 x4, .int .u64 x5] ∧ Blk X G 28 [.int .u32 n', .int .u32 ar, .int .u64 p, .int .u64 y1, .int .u64 y1, .int .u64 y1, .int .u64 y1, .int .u64 z, .int .u64 y1] ∧ Below B1 w X)) (by kernel_rfl) (⟨hHeld.1.drew, hHeld.2.1.drew, HGz.drew, hHeld.2.2.2.drew⟩) (fun hHeld => ?_)
        simp only [List.size_toArray, List.length_cons, List.length_nil, Nat.reduceAdd]
        refine wpAnyH_take (i := 0) (v := ?_) rfl (by kernel_rfl) (by kernel_rfl) (by kernel_rfl) (fun _ _ _ h => h) (Or.inl ⟨by rfl, ?_⟩) hHeld ?_
        rotate_left
        · (intro w hSw; (try dsimp only at hSw); go_simp; try with_reducible rfl)
        try simp only [Act.put, List.setIfInBounds_toArray, List.set_cons_zero, List.set_cons_succ, List.getElem_toArray, List.getElem_cons_zero, List.getElem_cons_succ]
        refine wpAnyH_take (i := 1) (v := ?_) rfl (by kernel_rfl) (by kernel_rfl) (by kernel_rfl) (fun _ _ _ h => h) (Or.inl ⟨by rfl, ?_⟩) hHeld ?_
        rotate_left
        · (intro w hSw; (try dsimp only at hSw); go_simp; try with_reducible rfl)
        try simp only [Act.put, List.setIfInBounds_toArray, List.set_cons_zero, List.set_cons_succ, List.getElem_toArray, List.getElem_cons_zero, List.getElem_cons_succ]
        refine wpAnyH_take (i := 2) (v := ?_) rfl (by kernel_rfl) (by kernel_rfl) (by kernel_rfl) (fun _ _ _ h => h) (Or.inl ⟨by rfl, ?_⟩) hHeld ?_
        rotate_left
        · (intro w hSw; (try dsimp only at hSw); have s0 := (hSw.1).cell 0; have s1 := (hSw.1).cell 1; have s2 := (hSw.1).cell 2; have s3 := (hSw.1).cell 3; go_simp; try with_reducible rfl)
        try simp only [Act.put, List.setIfInBounds_toArray, List.set_cons_zero, List.set_cons_succ, List.getElem_toArray, List.getElem_cons_zero, List.getElem_cons_succ]
        refine wpAnyH_take (i := 3) (v := ?_) rfl (by kernel_rfl) (by kernel_rfl) (by kernel_rfl) (fun _ _ _ h => h) (Or.inl ⟨by rfl, ?_⟩) hHeld ?_
        rotate_left
        · (intro w hSw; (try dsimp only at hSw); have s0 := (hSw.2.1).cell 0; have s1 := (hSw.2.1).cell 1; have s2 := (hSw.2.1).cell 2; have s3 := (hSw.2.1).cell 3; have s4 := (hSw.2.1).cell 4; have s5 := (hSw.2.1).cell 5; have s6 := (hSw.2.1).cell 6; have s7 := (hSw.2.1).cell 7; have s8 := (hSw.2.1).cell 8; go_simp; try with_reducible rfl)
        try simp only [Act.put, List.setIfInBounds_toArray, List.set_cons_zero, List.set_cons_succ, List.getElem_toArray, List.getElem_cons_zero, List.getElem_cons_succ]
        refine wpAnyH_take (i := 5) (v := ?_) rfl (by kernel_rfl) (by kernel_rfl) (by kernel_rfl) (fun _ _ _ h => h) (Or.inl ⟨by rfl, ?_⟩) hHeld ?_
        rotate_left
        · (intro w hSw; (try dsimp only at hSw); have s0 := (hSw.1).cell 0; have s1 := (hSw.1).cell 1; have s2 := (hSw.1).cell 2; have s3 := (hSw.1).cell 3; go_simp; try with_reducible rfl)
        try simp only [Act.put, List.setIfInBounds_toArray, List.set_cons_zero, List.set_cons_succ, List.getElem_toArray, List.getElem_cons_zero, List.getElem_cons_succ]
        refine wpAnyH_take (i := 6) (v := ?_) rfl (by kernel_rfl) (by kernel_rfl) (by kernel_rfl) (fun _ _ _ h => h) (Or.inl ⟨by rfl, ?_⟩) hHeld ?_
        rotate_left
        · (intro w hSw; (try dsimp only at hSw); have s0 := (hSw.2.2.1).cell 0; have s1 := (hSw.2.2.1).cell 1; have s2 := (hSw.2.2.1).cell 2; have s3 := (hSw.2.2.1).cell 3; have s4 := (hSw.2.2.1).cell 4; have s5 := (hSw.2.2.1).cell 5; have s6 := (hSw.2.2.1).cell 6; have s7 := (hSw.2.2.1).cell 7; have s8 := (hSw.2.2.1).cell 8; go_simp; try with_reducible rfl)
        try simp only [Act.put, List.setIfInBounds_toArray, List.set_cons_zero, List.set_cons_succ, List.getElem_toArray, List.getElem_cons_zero, List.getElem_cons_succ]
        refine wpAnyH_ready (rs := [4]) (by kernel_rfl) (by simp) ?_
        refine AllReadyH.cons rfl (fun K hK => ?_) AllReadyH.nil
        go_simp
        refine (H3.out _).mono ?_
        rintro e w1 ⟨rfl, b1⟩
        go_wp2_with fail
        refine hK.out _ _ (⟨hHeld.1.over b1, hHeld.2.1.over b1, hHeld.2.2.1.over b1, hHeld.2.2.2.trans (b1.mono (hB1 ▸ hHeld.2.2.2.size))⟩) (fun hHeld => ?_)
        clear hK K
        try simp only [Act.put, List.setIfInBounds_toArray, List.set_cons_zero, List.set_cons_succ, List.getElem_toArray, List.getElem_cons_zero, List.getElem_cons_succ]
        refine wpAnyH_ready (rs := [7]) (by kernel_rfl) (by simp) ?_
        refine AllReadyH.cons rfl (fun K hK => ?_) AllReadyH.nil
        go_simp
        refine (HE.out _).mono ?_
        rintro e w2 ⟨rfl, b2⟩
        go_wp2_with fail
        refine hK.out _ _ (⟨hHeld.1.over b2, hHeld.2.1.over b2, hHeld.2.2.1.over b2, hHeld.2.2.2.trans (b2.mono (hB1 ▸ hHeld.2.2.2.size))⟩) (fun hHeld => ?_)
        clear hK K
        try simp only [Act.put, List.setIfInBounds_toArray, List.set_cons_zero, List.set_cons_succ, List.getElem_toArray, List.getElem_cons_zero, List.getElem_cons_succ]
        refine wpAnyH_take (i := 8) (v := ?_) rfl (by kernel_rfl) (by kernel_rfl) (by kernel_rfl) (fun _ _ _ h => h) (Or.inl ⟨by rfl, ?_⟩) hHeld ?_
        rotate_left
        · (intro w hSw; (try dsimp only at hSw); go_simp; try with_reducible rfl)
        try simp only [Act.put, List.setIfInBounds_toArray, List.set_cons_zero, List.set_cons_succ, List.getElem_toArray, List.getElem_cons_zero, List.getElem_cons_succ]
        refine wpAnyH_take (i := 9) (v := ?_) rfl (by kernel_rfl) (by kernel_rfl) (by kernel_rfl) (fun _ _ _ h => h) (Or.inl ⟨by rfl, ?_⟩) hHeld ?_
        rotate_left
        · (intro w hSw; (try dsimp only at hSw); go_simp; try with_reducible rfl)
        try simp only [Act.put, List.setIfInBounds_toArray, List.set_cons_zero, List.set_cons_succ, List.getElem_toArray, List.getElem_cons_zero, List.getElem_cons_succ]
        refine wpAnyH_take (i := 10) (v := ?_) rfl (by kernel_rfl) (by kernel_rfl) (by kernel_rfl) (fun _ _ _ h => h) (Or.inl ⟨by rfl, ?_⟩) hHeld ?_
        rotate_left
        · (intro w hSw; (try dsimp only at hSw); go_simp; try with_reducible rfl)
        try simp only [Act.put, List.setIfInBounds_toArray, List.set_cons_zero, List.set_cons_succ, List.getElem_toArray, List.getElem_cons_zero, List.getElem_cons_succ]
        refine wpAnyH_done (by kernel_rfl) ?_ _
        go_wp2_with fail
        go_ret
        exact ⟨by first | rfl | simp, by rw [hB1]; exact hHeld.2.2.2⟩
      · obtain ⟨z, hz⟩ : ∃ z, bits BinOp.xor IntKind.u64 x5 u = z := ⟨_, rfl⟩
        have hxk : U64 x5 := HD.out.2.2.2.2 x5 (by simp)
        have hz2 : an z m = an x5 m ∧ U64 z := by
          have := an_other hxk HY2.out HM.out
          rw [hu, hz] at this
          exact this
        have HE : Hid (∀ W : World, Calls Try.prog 12 #[.agg #[.int .i64 5, .int .i64 o, .int .u64 m, .int .u64 v], .agg #[.int .u32 n', .int .u32 ar, .int .u64 p, .int .u64 y1, .int .u64 y1, .int .u64 y1, .int .u64 y1, .int .u64 y1, .int .u64 z]] W fun e w' => e = .returned (.bool q) ∧ Below W.heap.size W w') := by
          intro W
          have hok : (Da.mk n' ar p [y1, y1, y1, y1, y1, z]).ok := by
            refine ⟨?_, HD.out.2.1, HD.out.2.2.1, rfl, ?_⟩
            · show U32 n'
              rw [← hn']
              exact xor_one HD.out.1
            · intro c hc
              simp only [List.mem_cons, List.not_mem_nil, or_false] at hc
              rcases hc with rfl | rfl | rfl | rfl | rfl | rfl <;> first | exact HY1.out | exact hz2.2
          have := holds_any 5 o m v ⟨n', ar, p, [y1, y1, y1, y1, y1, z]⟩ W hok
          unfold holdN at this
          rw [HR.out, Bool.true_and] at this
          rw [← HQ.out]
          have e1 : ([y1, y1, y1, y1, y1, z] : List Int).getD (5 : Int).toNat 0 = z := rfl
          dsimp only at this
          rw [e1, hz2.1] at this
          exact this
        clear hxk hz2 HQ HR HY1 HY2 HM HD
        have t1 : V.cell? ⟨G, 8, none⟩ = some (.int .u64 y1) := HGn.out.cell 8
        have v1 : V.frozen? ⟨G, 8, none⟩ = false := HGn.out.f 8
        refine wp_region_held_drew (S := (fun X => Blk X B1 24 [.int .i64 5, .int .i64 o, .int .u64 m, .int .u64 v] ∧ Blk X B2 28 [.int .u32 n, .int .u32 ar, .int .u64 p, .int .u64 x0, .int .u64 x1, .int .u64 x2, .int .u64 x3, .int .u64 x4, .int .u64 x5] ∧ Blk X B3 40 [.int .u64 y1, .int .u64 y2] ∧ Below B1 w X)) (by kernel_rfl) (⟨HBn.out.1.drew, HBn.out.2.1.drew, HBn.out.2.2.1.drew, HBn.out.2.2.2.drew⟩) (fun hHeld => ?_)
        simp only [List.size_toArray, List.length_cons, List.length_nil, Nat.reduceAdd]
        refine wpAnyH_take (i := 0) (v := ?_) rfl (by kernel_rfl) (by kernel_rfl) (by kernel_rfl) (fun _ _ _ h => h) (Or.inl ⟨by rfl, ?_⟩) hHeld ?_
        rotate_left
        · (intro w hSw; (try dsimp only at hSw); go_simp; try with_reducible rfl)
        try simp only [Act.put, List.setIfInBounds_toArray, List.set_cons_zero, List.set_cons_succ, List.getElem_toArray, List.getElem_cons_zero, List.getElem_cons_succ]
        refine wpAnyH_take (i := 1) (v := ?_) rfl (by kernel_rfl) (by kernel_rfl) (by kernel_rfl) (fun _ _ _ h => h) (Or.inl ⟨by rfl, ?_⟩) hHeld ?_
        rotate_left
        · (intro w hSw; (try dsimp only at hSw); have s0 := (hSw.1).cell 0; have s1 := (hSw.1).cell 1; have s2 := (hSw.1).cell 2; have s3 := (hSw.1).cell 3; go_simp; try with_reducible rfl)
        try simp only [Act.put, List.setIfInBounds_toArray, List.set_cons_zero, List.set_cons_succ, List.getElem_toArray, List.getElem_cons_zero, List.getElem_cons_succ]
        refine wpAnyH_take (i := 2) (v := ?_) rfl (by kernel_rfl) (by kernel_rfl) (by kernel_rfl) (fun _ _ _ h => h) (Or.inl ⟨by rfl, ?_⟩) hHeld ?_
        rotate_left
        · (intro w hSw; (try dsimp only at hSw); go_simp; try with_reducible rfl)
        try simp only [Act.put, List.setIfInBounds_toArray, List.set_cons_zero, List.set_cons_succ, List.getElem_toArray, List.getElem_cons_zero, List.getElem_cons_succ]
        refine wpAnyH_take (i := 3) (v := ?_) rfl (by kernel_rfl) (by kernel_rfl) (by kernel_rfl) (fun _ _ _ h => h) (Or.inl ⟨by rfl, ?_⟩) hHeld ?_
        rotate_left
        · (intro w hSw; (try dsimp only at hSw); have s0 := (hSw.1).cell 0; have s1 := (hSw.1).cell 1; have s2 := (hSw.1).cell 2; have s3 := (hSw.1).cell 3; go_simp; try with_reducible rfl)
        try simp only [Act.put, List.setIfInBounds_toArray, List.set_cons_zero, List.set_cons_succ, List.getElem_toArray, List.getElem_cons_zero, List.getElem_cons_succ]
        refine wpAnyH_take (i := 4) (v := ?_) rfl (by kernel_rfl) (by kernel_rfl) (by kernel_rfl) (fun _ _ _ h => h) (Or.inl ⟨by rfl, ?_⟩) hHeld ?_
        rotate_left
        · (intro w hSw; (try dsimp only at hSw); go_simp; try with_reducible rfl)
        try simp only [Act.put, List.setIfInBounds_toArray, List.set_cons_zero, List.set_cons_succ, List.getElem_toArray, List.getElem_cons_zero, List.getElem_cons_succ]
        refine wpAnyH_take (i := 5) (v := ?_) rfl (by kernel_rfl) (by kernel_rfl) (by kernel_rfl) (fun _ _ _ h => h) (Or.inl ⟨by rfl, ?_⟩) hHeld ?_
        rotate_left
        · (intro w hSw; (try dsimp only at hSw); go_simp; try with_reducible rfl)
        try simp only [Act.put, List.setIfInBounds_toArray, List.set_cons_zero, List.set_cons_succ, List.getElem_toArray, List.getElem_cons_zero, List.getElem_cons_succ]
        refine wpAnyH_take (i := 6) (v := ?_) rfl (by kernel_rfl) (by kernel_rfl) (by kernel_rfl) (fun _ _ _ h => h) (Or.inl ⟨by rfl, ?_⟩) hHeld ?_
        rotate_left
        · (intro w hSw; (try dsimp only at hSw); have s0 := (hSw.2.1).cell 0; have s1 := (hSw.2.1).cell 1; have s2 := (hSw.2.1).cell 2; have s3 := (hSw.2.1).cell 3; have s4 := (hSw.2.1).cell 4; have s5 := (hSw.2.1).cell 5; have s6 := (hSw.2.1).cell 6; have s7 := (hSw.2.1).cell 7; have s8 := (hSw.2.1).cell 8; go_simp; try with_reducible rfl)
        try simp only [Act.put, List.setIfInBounds_toArray, List.set_cons_zero, List.set_cons_succ, List.getElem_toArray, List.getElem_cons_zero, List.getElem_cons_succ]
        refine wpAnyH_take (i := 7) (v := ?_) rfl (by kernel_rfl) (by kernel_rfl) (by kernel_rfl) (fun _ _ _ h => h) (Or.inl ⟨by rfl, ?_⟩) hHeld ?_
        rotate_left
        · (intro w hSw; (try dsimp only at hSw); go_simp; try with_reducible rfl)
        try simp only [Act.put, List.setIfInBounds_toArray, List.set_cons_zero, List.set_cons_succ, List.getElem_toArray, List.getElem_cons_zero, List.getElem_cons_succ]
        refine wpAnyH_take (i := 8) (v := ?_) rfl (by kernel_rfl) (by kernel_rfl) (by kernel_rfl) (fun _ _ _ h => h) (Or.inl ⟨by rfl, ?_⟩) hHeld ?_
        rotate_left
        · (intro w hSw; (try dsimp only at hSw); have g0 := (hSw.2.2.1).cell 0; have g1 := (hSw.2.2.1).cell 1; go_simp; try with_reducible rfl)
        try simp only [Act.put, List.setIfInBounds_toArray, List.set_cons_zero, List.set_cons_succ, List.getElem_toArray, List.getElem_cons_zero, List.getElem_cons_succ]
        refine wpAnyH_take (i := 9) (v := ?_) rfl (by kernel_rfl) (by kernel_rfl) (by kernel_rfl) (fun _ _ _ h => h) (Or.inl ⟨by rfl, ?_⟩) hHeld ?_
        rotate_left
        · (intro w hSw; (try dsimp only at hSw); go_simp; try with_reducible rfl)
        try simp only [Act.put, List.setIfInBounds_toArray, List.set_cons_zero, List.set_cons_succ, List.getElem_toArray, List.getElem_cons_zero, List.getElem_cons_succ]
        refine wpAnyH_take (i := 10) (v := ?_) rfl (by kernel_rfl) (by kernel_rfl) (by kernel_rfl) (fun _ _ _ h => h) (Or.inl ⟨by rfl, ?_⟩) hHeld ?_
        rotate_left
        · (intro w hSw; (try dsimp only at hSw); have s0 := (hSw.1).cell 0; have s1 := (hSw.1).cell 1; have s2 := (hSw.1).cell 2; have s3 := (hSw.1).cell 3; go_simp; try with_reducible rfl)
        try simp only [Act.put, List.setIfInBounds_toArray, List.set_cons_zero, List.set_cons_succ, List.getElem_toArray, List.getElem_cons_zero, List.getElem_cons_succ]
        refine wpAnyH_take (i := 11) (v := ?_) rfl (by kernel_rfl) (by kernel_rfl) (by kernel_rfl) (fun _ _ _ h => h) (Or.inl ⟨by rfl, ?_⟩) hHeld ?_
        rotate_left
        · (intro w hSw; (try dsimp only at hSw); go_simp; try with_reducible rfl)
        try simp only [Act.put, List.setIfInBounds_toArray, List.set_cons_zero, List.set_cons_succ, List.getElem_toArray, List.getElem_cons_zero, List.getElem_cons_succ]
        refine wpAnyH_take (i := 12) (v := ?_) rfl (by kernel_rfl) (by kernel_rfl) (by kernel_rfl) (fun _ _ _ h => h) (Or.inl ⟨by rfl, ?_⟩) hHeld ?_
        rotate_left
        · (intro w hSw; (try dsimp only at hSw); go_simp; try with_reducible rfl)
        try simp only [Act.put, List.setIfInBounds_toArray, List.set_cons_zero, List.set_cons_succ, List.getElem_toArray, List.getElem_cons_zero, List.getElem_cons_succ]
        refine wpAnyH_take (i := 13) (v := ?_) rfl (by kernel_rfl) (by kernel_rfl) (by kernel_rfl) (fun _ _ _ h => h) (Or.inl ⟨by rfl, ?_⟩) hHeld ?_
        rotate_left
        · (intro w hSw; (try dsimp only at hSw); go_simp; try with_reducible rfl)
        try simp only [Act.put, List.setIfInBounds_toArray, List.set_cons_zero, List.set_cons_succ, List.getElem_toArray, List.getElem_cons_zero, List.getElem_cons_succ]
        refine wpAnyH_take (i := 14) (v := ?_) rfl (by kernel_rfl) (by kernel_rfl) (by kernel_rfl) (fun _ _ _ h => h) (Or.inl ⟨by rfl, ?_⟩) hHeld ?_
        rotate_left
        · (intro w hSw; (try dsimp only at hSw); go_simp; try with_reducible rfl)
        try simp only [Act.put, List.setIfInBounds_toArray, List.set_cons_zero, List.set_cons_succ, List.getElem_toArray, List.getElem_cons_zero, List.getElem_cons_succ]
        refine wpAnyH_ready (rs := [15]) (by kernel_rfl) (by simp) ?_
        refine AllReadyH.cons rfl (fun K hK => ?_) AllReadyH.nil
        go_simp
        refine hK.out _ _ (⟨hHeld.1.other _ _ HG.out.1, hHeld.2.1.other _ _ HG.out.2.1, hHeld.2.2.1.other _ _ HG.out.2.2.1, hHeld.2.2.2.setCell (p := ⟨G, 8, none⟩) HG.out.2.2.2 _⟩) (fun hHeld => ?_)
        clear hK K
        refine wpAnyH_done (by kernel_rfl) ?_ _
        have HGz : Blk (V.drew.setCell ⟨G, 8, none⟩ (.int .u64 z)) G 28 [.int .u32 n', .int .u32 ar, .int .u64 p, .int .u64 y1, .int .u64 y1, .int .u64 y1, .int .u64 y1, .int .u64 y1, .int .u64 z] := HGn.out.drew.set 8 _
        go_wp2_with fail
        refine wp_region_held_drew (S := (fun X => Blk X B1 24 [.int .i64 5, .int .i64 o, .int .u64 m, .int .u64 v] ∧ Blk X B2 28 [.int .u32 n, .int .u32 ar, .int .u64 p, .int .u64 x0, .int .u64 x1, .int .u64 x2, .int .u64 x3, .int .u64 x4, .int .u64 x5] ∧ Blk X G 28 [.int .u32 n', .int .u32 ar, .int .u64 p, .int .u64 y1, .int .u64 y1, .int .u64 y1, .int .u64 y1, .int .u64 y1, .int .u64 z] ∧ Below B1 w X)) (by kernel_rfl) (⟨hHeld.1.drew, hHeld.2.1.drew, HGz.drew, hHeld.2.2.2.drew⟩) (fun hHeld => ?_)
        simp only [List.size_toArray, List.length_cons, List.length_nil, Nat.reduceAdd]
        refine wpAnyH_take (i := 0) (v := ?_) rfl (by kernel_rfl) (by kernel_rfl) (by kernel_rfl) (fun _ _ _ h => h) (Or.inl ⟨by rfl, ?_⟩) hHeld ?_
        rotate_left
        · (intro w hSw; (try dsimp only at hSw); go_simp; try with_reducible rfl)
        try simp only [Act.put, List.setIfInBounds_toArray, List.set_cons_zero, List.set_cons_succ, List.getElem_toArray, List.getElem_cons_zero, List.getElem_cons_succ]
        refine wpAnyH_take (i := 1) (v := ?_) rfl (by kernel_rfl) (by kernel_rfl) (by kernel_rfl) (fun _ _ _ h => h) (Or.inl ⟨by rfl, ?_⟩) hHeld ?_
        rotate_left
        · (intro w hSw; (try dsimp only at hSw); go_simp; try with_reducible rfl)
        try simp only [Act.put, List.setIfInBounds_toArray, List.set_cons_zero, List.set_cons_succ, List.getElem_toArray, List.getElem_cons_zero, List.getElem_cons_succ]
        refine wpAnyH_take (i := 2) (v := ?_) rfl (by kernel_rfl) (by kernel_rfl) (by kernel_rfl) (fun _ _ _ h => h) (Or.inl ⟨by rfl, ?_⟩) hHeld ?_
        rotate_left
        · (intro w hSw; (try dsimp only at hSw); have s0 := (hSw.1).cell 0; have s1 := (hSw.1).cell 1; have s2 := (hSw.1).cell 2; have s3 := (hSw.1).cell 3; go_simp; try with_reducible rfl)
        try simp only [Act.put, List.setIfInBounds_toArray, List.set_cons_zero, List.set_cons_succ, List.getElem_toArray, List.getElem_cons_zero, List.getElem_cons_succ]
        refine wpAnyH_take (i := 3) (v := ?_) rfl (by kernel_rfl) (by kernel_rfl) (by kernel_rfl) (fun _ _ _ h => h) (Or.inl ⟨by rfl, ?_⟩) hHeld ?_
        rotate_left
        · (intro w hSw; (try dsimp only at hSw); have s0 := (hSw.2.1).cell 0; have s1 := (hSw.2.1).cell 1; have s2 := (hSw.2.1).cell 2; have s3 := (hSw.2.1).cell 3; have s4 := (hSw.2.1).cell 4; have s5 := (hSw.2.1).cell 5; have s6 := (hSw.2.1).cell 6; have s7 := (hSw.2.1).cell 7; have s8 := (hSw.2.1).cell 8; go_simp; try with_reducible rfl)
        try simp only [Act.put, List.setIfInBounds_toArray, List.set_cons_zero, List.set_cons_succ, List.getElem_toArray, List.getElem_cons_zero, List.getElem_cons_succ]
        refine wpAnyH_take (i := 5) (v := ?_) rfl (by kernel_rfl) (by kernel_rfl) (by kernel_rfl) (fun _ _ _ h => h) (Or.inl ⟨by rfl, ?_⟩) hHeld ?_
        rotate_left
        · (intro w hSw; (try dsimp only at hSw); have s0 := (hSw.1).cell 0; have s1 := (hSw.1).cell 1; have s2 := (hSw.1).cell 2; have s3 := (hSw.1).cell 3; go_simp; try with_reducible rfl)
        try simp only [Act.put, List.setIfInBounds_toArray, List.set_cons_zero, List.set_cons_succ, List.getElem_toArray, List.getElem_cons_zero, List.getElem_cons_succ]
        refine wpAnyH_take (i := 6) (v := ?_) rfl (by kernel_rfl) (by kernel_rfl) (by kernel_rfl) (fun _ _ _ h => h) (Or.inl ⟨by rfl, ?_⟩) hHeld ?_
        rotate_left
        · (intro w hSw; (try dsimp only at hSw); have s0 := (hSw.2.2.1).cell 0; have s1 := (hSw.2.2.1).cell 1; have s2 := (hSw.2.2.1).cell 2; have s3 := (hSw.2.2.1).cell 3; have s4 := (hSw.2.2.1).cell 4; have s5 := (hSw.2.2.1).cell 5; have s6 := (hSw.2.2.1).cell 6; have s7 := (hSw.2.2.1).cell 7; have s8 := (hSw.2.2.1).cell 8; go_simp; try with_reducible rfl)
        try simp only [Act.put, List.setIfInBounds_toArray, List.set_cons_zero, List.set_cons_succ, List.getElem_toArray, List.getElem_cons_zero, List.getElem_cons_succ]
        refine wpAnyH_ready (rs := [4]) (by kernel_rfl) (by simp) ?_
        refine AllReadyH.cons rfl (fun K hK => ?_) AllReadyH.nil
        go_simp
        refine (H3.out _).mono ?_
        rintro e w1 ⟨rfl, b1⟩
        go_wp2_with fail
        refine hK.out _ _ (⟨hHeld.1.over b1, hHeld.2.1.over b1, hHeld.2.2.1.over b1, hHeld.2.2.2.trans (b1.mono (hB1 ▸ hHeld.2.2.2.size))⟩) (fun hHeld => ?_)
        clear hK K
        try simp only [Act.put, List.setIfInBounds_toArray, List.set_cons_zero, List.set_cons_succ, List.getElem_toArray, List.getElem_cons_zero, List.getElem_cons_succ]
        refine wpAnyH_ready (rs := [7]) (by kernel_rfl) (by simp) ?_
        refine AllReadyH.cons rfl (fun K hK => ?_) AllReadyH.nil
        go_simp
        refine (HE.out _).mono ?_
        rintro e w2 ⟨rfl, b2⟩
        go_wp2_with fail
        refine hK.out _ _ (⟨hHeld.1.over b2, hHeld.2.1.over b2, hHeld.2.2.1.over b2, hHeld.2.2.2.trans (b2.mono (hB1 ▸ hHeld.2.2.2.size))⟩) (fun hHeld => ?_)
        clear hK K
        try simp only [Act.put, List.setIfInBounds_toArray, List.set_cons_zero, List.set_cons_succ, List.getElem_toArray, List.getElem_cons_zero, List.getElem_cons_succ]
        refine wpAnyH_take (i := 8) (v := ?_) rfl (by kernel_rfl) (by kernel_rfl) (by kernel_rfl) (fun _ _ _ h => h) (Or.inl ⟨by rfl, ?_⟩) hHeld ?_
        rotate_left
        · (intro w hSw; (try dsimp only at hSw); go_simp; try with_reducible rfl)
        try simp only [Act.put, List.setIfInBounds_toArray, List.set_cons_zero, List.set_cons_succ, List.getElem_toArray, List.getElem_cons_zero, List.getElem_cons_succ]
        refine wpAnyH_take (i := 9) (v := ?_) rfl (by kernel_rfl) (by kernel_rfl) (by kernel_rfl) (fun _ _ _ h => h) (Or.inl ⟨by rfl, ?_⟩) hHeld ?_
        rotate_left
        · (intro w hSw; (try dsimp only at hSw); go_simp; try with_reducible rfl)
        try simp only [Act.put, List.setIfInBounds_toArray, List.set_cons_zero, List.set_cons_succ, List.getElem_toArray, List.getElem_cons_zero, List.getElem_cons_succ]
        refine wpAnyH_take (i := 10) (v := ?_) rfl (by kernel_rfl) (by kernel_rfl) (by kernel_rfl) (fun _ _ _ h => h) (Or.inl ⟨by rfl, ?_⟩) hHeld ?_
        rotate_left
        · (intro w hSw; (try dsimp only at hSw); go_simp; try with_reducible rfl)
        try simp only [Act.put, List.setIfInBounds_toArray, List.set_cons_zero, List.set_cons_succ, List.getElem_toArray, List.getElem_cons_zero, List.getElem_cons_succ]
        refine wpAnyH_done (by kernel_rfl) ?_ _
        go_wp2_with fail
        go_ret
        exact ⟨by first | rfl | simp, by rw [hB1]; exact hHeld.2.2.2⟩

theorem condBits_walk (a o m v : Int) (d : Da) (y1 y2 : Int) (w : World) (hm : U64 m) (hd : d.ok) (hy1 : U64 y1) (hy2 : U64 y2) :
    Calls Try.prog 8 #[(.agg #[.int .i64 a, .int .i64 o, .int .u64 m, .int .u64 v]), d.val, .agg #[.int .u64 y1, .int .u64 y2]] w fun e w' => e = .returned (.bool true) ∧ Below w.heap.size w w' := by
  by_cases h : rightB a o = true
  · exact condBits_right a o m v d y1 y2 w hm hd hy1 hy2 h
  · exact condBits_wrong a o m v d.cells y1 y2 w (by simpa using h)

end Go.Proofs.Ytocebgkiaclekaa
