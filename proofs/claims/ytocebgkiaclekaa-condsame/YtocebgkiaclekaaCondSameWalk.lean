/-
  The law CondSame, walked: true for every condition and number.
-/
import Derived.Test.YtocebgkiaclekaaAwake
import Derived.Test.YtocebgkiaclekaaIs
namespace Go.Proofs.Ytocebgkiaclekaa
open Go.RowKit

theorem u32_0 : U32 0 := ⟨by decide, by decide⟩
theorem u64_0 : U64 0 := ⟨by decide, by decide⟩

/-- what a condition's form is, where the condition holds and where it does not. -/
theorem same_kinds (a o m v x : Int) (hm : U64 m) (hv : U64 v) (hx : U64 x) : isN (normN a o m v) x = holdN a o m v x ∧
    (((normN a o m v).al = true ∧ (normN a o m v).ne = false ∧ holdN a o m v x = true) ∨ ((normN a o m v).al = false ∧ (normN a o m v).ne = true ∧ holdN a o m v x = false) ∨ ((normN a o m v).al = false ∧ (normN a o m v).ne = false)) := by
  have e : isN (normN a o m v) x = holdN a o m v x := by
    unfold holdN
    by_cases hr : rightB a o = true
    · rw [norm_is hr hx hv hm, hr, Bool.true_and]
    · have hr' : rightB a o = false := by simpa using hr
      have en : normN a o m v = never := by unfold normN; rw [if_neg hr]
      rw [en, hr', Bool.false_and]
      rfl
  refine ⟨e, ?_⟩
  rw [← e]
  rcases norm_kinds a o m v with h | h | h
  · rw [h]; exact .inl ⟨rfl, rfl, rfl⟩
  · rw [h]; exact .inr (.inl ⟨rfl, rfl, rfl⟩)
  · exact .inr (.inr h)

set_option maxHeartbeats 800000 in
theorem condSame_out (a o m v x : Int) (w : World) (h : a < 0 ∨ (¬ a < 0 ∧ 5 < a)) :
    Calls Try.prog 6 #[.agg #[.int .i64 a, .int .i64 o, .int .u64 m, .int .u64 v], .int .u64 x] w fun e w' => e = .returned (.bool true) ∧ Below w.heap.size w w' := by
  have HW : Hid (∀ W : World, Calls Try.prog 9 #[] W fun e w' => e = .returned (.bool true) ∧ Below W.heap.size W w') := awake_any
  have hr : rightB a o = false := by
    rcases h with h | h
    · have : decide (0 ≤ a) = false := by simp; omega
      simp [rightB, this]
    · have : decide (a < 6) = false := by simp; omega
      simp [rightB, this]
  have H1 : Hid (∀ W : World, Calls Try.prog 16 #[.agg #[.int .i64 a, .int .i64 o, .int .u64 m, .int .u64 v]] W fun e w' => e = .returned (.agg #[.bool false, .bool true, .bool false, .int .i64 0, .int .u64 0, .int .u64 0]) ∧ Below W.heap.size W w') := by
    intro W
    have := norm_any a o m v W
    rw [show normN a o m v = never by unfold normN; rw [if_neg (by rw [hr]; decide)]] at this
    exact this
  have hq : ∀ W : World, (Op.equalIn 10000 36 (.agg #[.bool false, .bool true, .bool false, .int .i64 0, .int .u64 0, .int .u64 0]) (.agg #[.bool false, .bool true, .bool false, .int .i64 0, .int .u64 0, .int .u64 0])).run Try.prog W = .ok true W := fun W => equalIn_no never never W
  have HB : Hid (Blk (w.alloc (Obj.cells #[.int .i64 a, .int .i64 o, .int .u64 m, .int .u64 v] 24)) w.heap.size 24 [.int .i64 a, .int .i64 o, .int .u64 m, .int .u64 v]) := blk_new w _ 24
  have HB2 : Hid (∀ o, Below w.heap.size w (w.alloc o)) := below_new w
  clear hr
  rcases h with h | ⟨h, h5⟩
  all_goals
    go_enter Try.func6, Try.ntmps6
    go_wp2_with (first | (go_at_call 9; refine (HW.out _).mono ?_; rintro e w1 ⟨rfl, b1⟩; have c0 := (HB.out.over b1).cell 0; have c1 := (HB.out.over b1).cell 1; have c2 := (HB.out.over b1).cell 2; have c3 := (HB.out.over b1).cell 3; have B1 : Hid (Below w.heap.size w w1) := (HB2.out _).trans (b1.mono (HB2.out _).size); clear b1) | (go_at_call 16; refine (H1.out _).mono ?_; rintro e w2 ⟨rfl, b2⟩; have B2 : Hid (Below w.heap.size w w2) := B1.out.trans (b2.mono B1.out.size); clear b2))
    go_ret
    exact ⟨rfl, B2.out⟩

theorem ok_0 (x : Int) (hx : U64 x) : (Da.mk 0 0 0 [x, 0, 0, 0, 0, 0]).ok := by
  refine ⟨u32_0, u32_0, u64_0, rfl, ?_⟩
  intro z hz
  simp only [List.mem_cons, List.not_mem_nil, or_false] at hz
  rcases hz with rfl | rfl | rfl | rfl | rfl | rfl <;> first | exact u64_0 | exact hx

set_option maxRecDepth 4000 in
set_option maxHeartbeats 2000000 in
theorem condSame_0 (o m v x : Int) (w : World) (hm : U64 m) (hv : U64 v) (hx : U64 x) :
    Calls Try.prog 6 #[.agg #[.int .i64 0, .int .i64 o, .int .u64 m, .int .u64 v], .int .u64 x] w fun e w' => e = .returned (.bool true) ∧ Below w.heap.size w w' := by
  have HW : Hid (∀ W : World, Calls Try.prog 9 #[] W fun e w' => e = .returned (.bool true) ∧ Below W.heap.size W w') := awake_any
  have H1 : Hid (∀ W : World, Calls Try.prog 16 #[.agg #[.int .i64 0, .int .i64 o, .int .u64 m, .int .u64 v]] W fun e w' => e = .returned (normN 0 o m v).val ∧ Below W.heap.size W w') := fun W => norm_any 0 o m v W
  have H2 : Hid (∀ W : World, Calls Try.prog 12 #[.agg #[.int .i64 0, .int .i64 o, .int .u64 m, .int .u64 v], .agg #[.int .u32 0, .int .u32 0, .int .u64 0, .int .u64 x, .int .u64 0, .int .u64 0, .int .u64 0, .int .u64 0, .int .u64 0]] W fun e w' => e = .returned (.bool (holdN 0 o m v x)) ∧ Below W.heap.size W w') := fun W => holds_any 0 o m v ⟨0, 0, 0, [x, 0, 0, 0, 0, 0]⟩ W (ok_0 x hx)
  obtain ⟨hs, hkind⟩ := same_kinds 0 o m v x hm hv hx
  have H3 : Hid (∀ W : World, Calls Try.prog 18 #[(normN 0 o m v).val, .int .u64 x] W fun e w' => e = .returned (.bool (holdN 0 o m v x)) ∧ Below W.heap.size W w') := fun W => hs ▸ is_any _ x W
  clear hs hm hv hx
  generalize holdN 0 o m v x = q at *
  generalize normN 0 o m v = n at *
  obtain ⟨b0, b1, b2, no, nm, nv⟩ := n
  unfold No.val No.cells at *
  dsimp only at *
  have HK : Blk (w.alloc (Obj.cells #[.int .i64 0, .int .i64 o, .int .u64 m, .int .u64 v] 24)) w.heap.size 24 [.int .i64 0, .int .i64 o, .int .u64 m, .int .u64 v] := blk_new w _ 24
  have HB := below_new w (Obj.cells #[.int .i64 0, .int .i64 o, .int .u64 m, .int .u64 v] 24)
  go_enter Try.func6, Try.ntmps6
  go_wp2_with fail
  generalize w.alloc (Obj.cells #[.int .i64 0, .int .i64 o, .int .u64 m, .int .u64 v] 24) = W0 at *
  refine (HW.out _).mono ?_
  rintro e X ⟨rfl, bX⟩
  have k1 := HK.over bX
  have k2 := HB.trans (bX.mono HB.size)
  have q0 := k1.cell 0
  have qx0 : ∀ ob, (X.alloc ob).cell? ⟨w.heap.size, 0, none⟩ = some (.int .i64 0) := fun ob => (k1.alloc ob).cell 0
  have qx1 : ∀ ob, (X.alloc ob).cell? ⟨w.heap.size, 1, none⟩ = some (.int .i64 o) := fun ob => (k1.alloc ob).cell 1
  have qx2 : ∀ ob, (X.alloc ob).cell? ⟨w.heap.size, 2, none⟩ = some (.int .u64 m) := fun ob => (k1.alloc ob).cell 2
  have qx3 : ∀ ob, (X.alloc ob).cell? ⟨w.heap.size, 3, none⟩ = some (.int .u64 v) := fun ob => (k1.alloc ob).cell 3
  go_wp2_with fail
  have l1 := k1.alloc (Obj.cells #[.int .u32 0, .int .u32 0, .int .u64 0, .int .u64 x, .int .u64 0, .int .u64 0, .int .u64 0, .int .u64 0, .int .u64 0] 28)
  have l2 := blk_new X #[.int .u32 0, .int .u32 0, .int .u64 0, .int .u64 x, .int .u64 0, .int .u64 0, .int .u64 0, .int .u64 0, .int .u64 0] 28
  have l3 := k2.trans ((below_new X (Obj.cells #[.int .u32 0, .int .u32 0, .int .u64 0, .int .u64 x, .int .u64 0, .int .u64 0, .int .u64 0, .int .u64 0, .int .u64 0] 28)).mono k2.size)
  clear HK HB bX k1 k2 q0 qx0 qx1 qx2 qx3
  generalize X.alloc (Obj.cells #[.int .u32 0, .int .u32 0, .int .u64 0, .int .u64 x, .int .u64 0, .int .u64 0, .int .u64 0, .int .u64 0, .int .u64 0] 28) = X1 at *
  generalize X.heap.size = G1 at *
  refine (H1.out _).mono ?_
  rintro e Y ⟨rfl, bY⟩
  have m1 := l1.over bY
  have m2 := l2.over bY
  have m3 := l3.trans (bY.mono l3.size)
  have qy0 : ∀ ob, (Y.alloc ob).cell? ⟨w.heap.size, 0, none⟩ = some (.int .i64 0) := fun ob => (m1.alloc ob).cell 0
  have qy1 : ∀ ob, (Y.alloc ob).cell? ⟨w.heap.size, 1, none⟩ = some (.int .i64 o) := fun ob => (m1.alloc ob).cell 1
  have qy2 : ∀ ob, (Y.alloc ob).cell? ⟨w.heap.size, 2, none⟩ = some (.int .u64 m) := fun ob => (m1.alloc ob).cell 2
  have qy3 : ∀ ob, (Y.alloc ob).cell? ⟨w.heap.size, 3, none⟩ = some (.int .u64 v) := fun ob => (m1.alloc ob).cell 3
  have qd0 : ∀ ob, (Y.alloc ob).cell? ⟨G1, 0, none⟩ = some (.int .u32 0) := fun ob => (m2.alloc ob).cell 0
  have qd1 : ∀ ob, (Y.alloc ob).cell? ⟨G1, 1, none⟩ = some (.int .u32 0) := fun ob => (m2.alloc ob).cell 1
  have qd2 : ∀ ob, (Y.alloc ob).cell? ⟨G1, 2, none⟩ = some (.int .u64 0) := fun ob => (m2.alloc ob).cell 2
  have qd3 : ∀ ob, (Y.alloc ob).cell? ⟨G1, 3, none⟩ = some (.int .u64 x) := fun ob => (m2.alloc ob).cell 3
  have qd4 : ∀ ob, (Y.alloc ob).cell? ⟨G1, 4, none⟩ = some (.int .u64 0) := fun ob => (m2.alloc ob).cell 4
  have qd5 : ∀ ob, (Y.alloc ob).cell? ⟨G1, 5, none⟩ = some (.int .u64 0) := fun ob => (m2.alloc ob).cell 5
  have qd6 : ∀ ob, (Y.alloc ob).cell? ⟨G1, 6, none⟩ = some (.int .u64 0) := fun ob => (m2.alloc ob).cell 6
  have qd7 : ∀ ob, (Y.alloc ob).cell? ⟨G1, 7, none⟩ = some (.int .u64 0) := fun ob => (m2.alloc ob).cell 7
  have qd8 : ∀ ob, (Y.alloc ob).cell? ⟨G1, 8, none⟩ = some (.int .u64 0) := fun ob => (m2.alloc ob).cell 8
  go_wp2_with fail
  have n1 := m1.alloc (Obj.cells #[.bool b0, .bool b1, .bool b2, .int .i64 no, .int .u64 nm, .int .u64 nv] 36)
  have n2 := m2.alloc (Obj.cells #[.bool b0, .bool b1, .bool b2, .int .i64 no, .int .u64 nm, .int .u64 nv] 36)
  have n3 := blk_new Y #[.bool b0, .bool b1, .bool b2, .int .i64 no, .int .u64 nm, .int .u64 nv] 36
  have n4 := m3.trans ((below_new Y (Obj.cells #[.bool b0, .bool b1, .bool b2, .int .i64 no, .int .u64 nm, .int .u64 nv] 36)).mono m3.size)
  clear l1 l2 l3 bY m1 m2 m3 qy0 qy1 qy2 qy3 qd0 qd1 qd2 qd3 qd4 qd5 qd6 qd7 qd8
  generalize Y.alloc (Obj.cells #[.bool b0, .bool b1, .bool b2, .int .i64 no, .int .u64 nm, .int .u64 nv] 36) = Y1 at *
  generalize Y.heap.size = G2 at *
  refine (H2.out _).mono ?_
  rintro e Z ⟨rfl, bZ⟩
  have p3 : Hid (Blk Z G2 36 [.bool b0, .bool b1, .bool b2, .int .i64 no, .int .u64 nm, .int .u64 nv]) := n3.over bZ
  have p4 : Hid (Below w.heap.size w Z) := n4.trans (bZ.mono n4.size)
  clear n1 n2 n3 n4 bZ
  have z0 := p3.out.cell 0
  have z1 := p3.out.cell 1
  have z2 := p3.out.cell 2
  have z3 := p3.out.cell 3
  have z4 := p3.out.cell 4
  have z5 := p3.out.cell 5
  rcases hkind with ⟨rfl, rfl, rfl⟩ | ⟨rfl, rfl, rfl⟩ | ⟨rfl, rfl⟩
  all_goals
    go_wp2_with (first | (go_at_call 18; refine (H3.out _).mono ?_; rintro e V ⟨rfl, bV⟩; have v0 := (p3.out.over bV).cell 0; have v1 := (p3.out.over bV).cell 1; have p5 : Hid (Below w.heap.size w V) := p4.out.trans (bV.mono p4.out.size); clear bV))
    all_goals
      go_ret
      exact ⟨by first | rfl | simp, p5.out⟩

theorem ok_1 (x : Int) (hx : U64 x) : (Da.mk 0 0 0 [0, x, 0, 0, 0, 0]).ok := by
  refine ⟨u32_0, u32_0, u64_0, rfl, ?_⟩
  intro z hz
  simp only [List.mem_cons, List.not_mem_nil, or_false] at hz
  rcases hz with rfl | rfl | rfl | rfl | rfl | rfl <;> first | exact u64_0 | exact hx

set_option maxRecDepth 4000 in
set_option maxHeartbeats 2000000 in
theorem condSame_1 (o m v x : Int) (w : World) (hm : U64 m) (hv : U64 v) (hx : U64 x) :
    Calls Try.prog 6 #[.agg #[.int .i64 1, .int .i64 o, .int .u64 m, .int .u64 v], .int .u64 x] w fun e w' => e = .returned (.bool true) ∧ Below w.heap.size w w' := by
  have HW : Hid (∀ W : World, Calls Try.prog 9 #[] W fun e w' => e = .returned (.bool true) ∧ Below W.heap.size W w') := awake_any
  have H1 : Hid (∀ W : World, Calls Try.prog 16 #[.agg #[.int .i64 1, .int .i64 o, .int .u64 m, .int .u64 v]] W fun e w' => e = .returned (normN 1 o m v).val ∧ Below W.heap.size W w') := fun W => norm_any 1 o m v W
  have H2 : Hid (∀ W : World, Calls Try.prog 12 #[.agg #[.int .i64 1, .int .i64 o, .int .u64 m, .int .u64 v], .agg #[.int .u32 0, .int .u32 0, .int .u64 0, .int .u64 0, .int .u64 x, .int .u64 0, .int .u64 0, .int .u64 0, .int .u64 0]] W fun e w' => e = .returned (.bool (holdN 1 o m v x)) ∧ Below W.heap.size W w') := fun W => holds_any 1 o m v ⟨0, 0, 0, [0, x, 0, 0, 0, 0]⟩ W (ok_1 x hx)
  obtain ⟨hs, hkind⟩ := same_kinds 1 o m v x hm hv hx
  have H3 : Hid (∀ W : World, Calls Try.prog 18 #[(normN 1 o m v).val, .int .u64 x] W fun e w' => e = .returned (.bool (holdN 1 o m v x)) ∧ Below W.heap.size W w') := fun W => hs ▸ is_any _ x W
  clear hs hm hv hx
  generalize holdN 1 o m v x = q at *
  generalize normN 1 o m v = n at *
  obtain ⟨b0, b1, b2, no, nm, nv⟩ := n
  unfold No.val No.cells at *
  dsimp only at *
  have HK : Blk (w.alloc (Obj.cells #[.int .i64 1, .int .i64 o, .int .u64 m, .int .u64 v] 24)) w.heap.size 24 [.int .i64 1, .int .i64 o, .int .u64 m, .int .u64 v] := blk_new w _ 24
  have HB := below_new w (Obj.cells #[.int .i64 1, .int .i64 o, .int .u64 m, .int .u64 v] 24)
  go_enter Try.func6, Try.ntmps6
  go_wp2_with fail
  generalize w.alloc (Obj.cells #[.int .i64 1, .int .i64 o, .int .u64 m, .int .u64 v] 24) = W0 at *
  refine (HW.out _).mono ?_
  rintro e X ⟨rfl, bX⟩
  have k1 := HK.over bX
  have k2 := HB.trans (bX.mono HB.size)
  have q0 := k1.cell 0
  have qx0 : ∀ ob, (X.alloc ob).cell? ⟨w.heap.size, 0, none⟩ = some (.int .i64 1) := fun ob => (k1.alloc ob).cell 0
  have qx1 : ∀ ob, (X.alloc ob).cell? ⟨w.heap.size, 1, none⟩ = some (.int .i64 o) := fun ob => (k1.alloc ob).cell 1
  have qx2 : ∀ ob, (X.alloc ob).cell? ⟨w.heap.size, 2, none⟩ = some (.int .u64 m) := fun ob => (k1.alloc ob).cell 2
  have qx3 : ∀ ob, (X.alloc ob).cell? ⟨w.heap.size, 3, none⟩ = some (.int .u64 v) := fun ob => (k1.alloc ob).cell 3
  go_wp2_with fail
  have l1 := k1.alloc (Obj.cells #[.int .u32 0, .int .u32 0, .int .u64 0, .int .u64 0, .int .u64 x, .int .u64 0, .int .u64 0, .int .u64 0, .int .u64 0] 28)
  have l2 := blk_new X #[.int .u32 0, .int .u32 0, .int .u64 0, .int .u64 0, .int .u64 x, .int .u64 0, .int .u64 0, .int .u64 0, .int .u64 0] 28
  have l3 := k2.trans ((below_new X (Obj.cells #[.int .u32 0, .int .u32 0, .int .u64 0, .int .u64 0, .int .u64 x, .int .u64 0, .int .u64 0, .int .u64 0, .int .u64 0] 28)).mono k2.size)
  clear HK HB bX k1 k2 q0 qx0 qx1 qx2 qx3
  generalize X.alloc (Obj.cells #[.int .u32 0, .int .u32 0, .int .u64 0, .int .u64 0, .int .u64 x, .int .u64 0, .int .u64 0, .int .u64 0, .int .u64 0] 28) = X1 at *
  generalize X.heap.size = G1 at *
  refine (H1.out _).mono ?_
  rintro e Y ⟨rfl, bY⟩
  have m1 := l1.over bY
  have m2 := l2.over bY
  have m3 := l3.trans (bY.mono l3.size)
  have qy0 : ∀ ob, (Y.alloc ob).cell? ⟨w.heap.size, 0, none⟩ = some (.int .i64 1) := fun ob => (m1.alloc ob).cell 0
  have qy1 : ∀ ob, (Y.alloc ob).cell? ⟨w.heap.size, 1, none⟩ = some (.int .i64 o) := fun ob => (m1.alloc ob).cell 1
  have qy2 : ∀ ob, (Y.alloc ob).cell? ⟨w.heap.size, 2, none⟩ = some (.int .u64 m) := fun ob => (m1.alloc ob).cell 2
  have qy3 : ∀ ob, (Y.alloc ob).cell? ⟨w.heap.size, 3, none⟩ = some (.int .u64 v) := fun ob => (m1.alloc ob).cell 3
  have qd0 : ∀ ob, (Y.alloc ob).cell? ⟨G1, 0, none⟩ = some (.int .u32 0) := fun ob => (m2.alloc ob).cell 0
  have qd1 : ∀ ob, (Y.alloc ob).cell? ⟨G1, 1, none⟩ = some (.int .u32 0) := fun ob => (m2.alloc ob).cell 1
  have qd2 : ∀ ob, (Y.alloc ob).cell? ⟨G1, 2, none⟩ = some (.int .u64 0) := fun ob => (m2.alloc ob).cell 2
  have qd3 : ∀ ob, (Y.alloc ob).cell? ⟨G1, 3, none⟩ = some (.int .u64 0) := fun ob => (m2.alloc ob).cell 3
  have qd4 : ∀ ob, (Y.alloc ob).cell? ⟨G1, 4, none⟩ = some (.int .u64 x) := fun ob => (m2.alloc ob).cell 4
  have qd5 : ∀ ob, (Y.alloc ob).cell? ⟨G1, 5, none⟩ = some (.int .u64 0) := fun ob => (m2.alloc ob).cell 5
  have qd6 : ∀ ob, (Y.alloc ob).cell? ⟨G1, 6, none⟩ = some (.int .u64 0) := fun ob => (m2.alloc ob).cell 6
  have qd7 : ∀ ob, (Y.alloc ob).cell? ⟨G1, 7, none⟩ = some (.int .u64 0) := fun ob => (m2.alloc ob).cell 7
  have qd8 : ∀ ob, (Y.alloc ob).cell? ⟨G1, 8, none⟩ = some (.int .u64 0) := fun ob => (m2.alloc ob).cell 8
  go_wp2_with fail
  have n1 := m1.alloc (Obj.cells #[.bool b0, .bool b1, .bool b2, .int .i64 no, .int .u64 nm, .int .u64 nv] 36)
  have n2 := m2.alloc (Obj.cells #[.bool b0, .bool b1, .bool b2, .int .i64 no, .int .u64 nm, .int .u64 nv] 36)
  have n3 := blk_new Y #[.bool b0, .bool b1, .bool b2, .int .i64 no, .int .u64 nm, .int .u64 nv] 36
  have n4 := m3.trans ((below_new Y (Obj.cells #[.bool b0, .bool b1, .bool b2, .int .i64 no, .int .u64 nm, .int .u64 nv] 36)).mono m3.size)
  clear l1 l2 l3 bY m1 m2 m3 qy0 qy1 qy2 qy3 qd0 qd1 qd2 qd3 qd4 qd5 qd6 qd7 qd8
  generalize Y.alloc (Obj.cells #[.bool b0, .bool b1, .bool b2, .int .i64 no, .int .u64 nm, .int .u64 nv] 36) = Y1 at *
  generalize Y.heap.size = G2 at *
  refine (H2.out _).mono ?_
  rintro e Z ⟨rfl, bZ⟩
  have p3 : Hid (Blk Z G2 36 [.bool b0, .bool b1, .bool b2, .int .i64 no, .int .u64 nm, .int .u64 nv]) := n3.over bZ
  have p4 : Hid (Below w.heap.size w Z) := n4.trans (bZ.mono n4.size)
  clear n1 n2 n3 n4 bZ
  have z0 := p3.out.cell 0
  have z1 := p3.out.cell 1
  have z2 := p3.out.cell 2
  have z3 := p3.out.cell 3
  have z4 := p3.out.cell 4
  have z5 := p3.out.cell 5
  rcases hkind with ⟨rfl, rfl, rfl⟩ | ⟨rfl, rfl, rfl⟩ | ⟨rfl, rfl⟩
  all_goals
    go_wp2_with (first | (go_at_call 18; refine (H3.out _).mono ?_; rintro e V ⟨rfl, bV⟩; have v0 := (p3.out.over bV).cell 0; have v1 := (p3.out.over bV).cell 1; have p5 : Hid (Below w.heap.size w V) := p4.out.trans (bV.mono p4.out.size); clear bV))
    all_goals
      go_ret
      exact ⟨by first | rfl | simp, p5.out⟩

theorem ok_2 (x : Int) (hx : U64 x) : (Da.mk 0 0 0 [0, 0, x, 0, 0, 0]).ok := by
  refine ⟨u32_0, u32_0, u64_0, rfl, ?_⟩
  intro z hz
  simp only [List.mem_cons, List.not_mem_nil, or_false] at hz
  rcases hz with rfl | rfl | rfl | rfl | rfl | rfl <;> first | exact u64_0 | exact hx

set_option maxRecDepth 4000 in
set_option maxHeartbeats 2000000 in
theorem condSame_2 (o m v x : Int) (w : World) (hm : U64 m) (hv : U64 v) (hx : U64 x) :
    Calls Try.prog 6 #[.agg #[.int .i64 2, .int .i64 o, .int .u64 m, .int .u64 v], .int .u64 x] w fun e w' => e = .returned (.bool true) ∧ Below w.heap.size w w' := by
  have HW : Hid (∀ W : World, Calls Try.prog 9 #[] W fun e w' => e = .returned (.bool true) ∧ Below W.heap.size W w') := awake_any
  have H1 : Hid (∀ W : World, Calls Try.prog 16 #[.agg #[.int .i64 2, .int .i64 o, .int .u64 m, .int .u64 v]] W fun e w' => e = .returned (normN 2 o m v).val ∧ Below W.heap.size W w') := fun W => norm_any 2 o m v W
  have H2 : Hid (∀ W : World, Calls Try.prog 12 #[.agg #[.int .i64 2, .int .i64 o, .int .u64 m, .int .u64 v], .agg #[.int .u32 0, .int .u32 0, .int .u64 0, .int .u64 0, .int .u64 0, .int .u64 x, .int .u64 0, .int .u64 0, .int .u64 0]] W fun e w' => e = .returned (.bool (holdN 2 o m v x)) ∧ Below W.heap.size W w') := fun W => holds_any 2 o m v ⟨0, 0, 0, [0, 0, x, 0, 0, 0]⟩ W (ok_2 x hx)
  obtain ⟨hs, hkind⟩ := same_kinds 2 o m v x hm hv hx
  have H3 : Hid (∀ W : World, Calls Try.prog 18 #[(normN 2 o m v).val, .int .u64 x] W fun e w' => e = .returned (.bool (holdN 2 o m v x)) ∧ Below W.heap.size W w') := fun W => hs ▸ is_any _ x W
  clear hs hm hv hx
  generalize holdN 2 o m v x = q at *
  generalize normN 2 o m v = n at *
  obtain ⟨b0, b1, b2, no, nm, nv⟩ := n
  unfold No.val No.cells at *
  dsimp only at *
  have HK : Blk (w.alloc (Obj.cells #[.int .i64 2, .int .i64 o, .int .u64 m, .int .u64 v] 24)) w.heap.size 24 [.int .i64 2, .int .i64 o, .int .u64 m, .int .u64 v] := blk_new w _ 24
  have HB := below_new w (Obj.cells #[.int .i64 2, .int .i64 o, .int .u64 m, .int .u64 v] 24)
  go_enter Try.func6, Try.ntmps6
  go_wp2_with fail
  generalize w.alloc (Obj.cells #[.int .i64 2, .int .i64 o, .int .u64 m, .int .u64 v] 24) = W0 at *
  refine (HW.out _).mono ?_
  rintro e X ⟨rfl, bX⟩
  have k1 := HK.over bX
  have k2 := HB.trans (bX.mono HB.size)
  have q0 := k1.cell 0
  have qx0 : ∀ ob, (X.alloc ob).cell? ⟨w.heap.size, 0, none⟩ = some (.int .i64 2) := fun ob => (k1.alloc ob).cell 0
  have qx1 : ∀ ob, (X.alloc ob).cell? ⟨w.heap.size, 1, none⟩ = some (.int .i64 o) := fun ob => (k1.alloc ob).cell 1
  have qx2 : ∀ ob, (X.alloc ob).cell? ⟨w.heap.size, 2, none⟩ = some (.int .u64 m) := fun ob => (k1.alloc ob).cell 2
  have qx3 : ∀ ob, (X.alloc ob).cell? ⟨w.heap.size, 3, none⟩ = some (.int .u64 v) := fun ob => (k1.alloc ob).cell 3
  go_wp2_with fail
  have l1 := k1.alloc (Obj.cells #[.int .u32 0, .int .u32 0, .int .u64 0, .int .u64 0, .int .u64 0, .int .u64 x, .int .u64 0, .int .u64 0, .int .u64 0] 28)
  have l2 := blk_new X #[.int .u32 0, .int .u32 0, .int .u64 0, .int .u64 0, .int .u64 0, .int .u64 x, .int .u64 0, .int .u64 0, .int .u64 0] 28
  have l3 := k2.trans ((below_new X (Obj.cells #[.int .u32 0, .int .u32 0, .int .u64 0, .int .u64 0, .int .u64 0, .int .u64 x, .int .u64 0, .int .u64 0, .int .u64 0] 28)).mono k2.size)
  clear HK HB bX k1 k2 q0 qx0 qx1 qx2 qx3
  generalize X.alloc (Obj.cells #[.int .u32 0, .int .u32 0, .int .u64 0, .int .u64 0, .int .u64 0, .int .u64 x, .int .u64 0, .int .u64 0, .int .u64 0] 28) = X1 at *
  generalize X.heap.size = G1 at *
  refine (H1.out _).mono ?_
  rintro e Y ⟨rfl, bY⟩
  have m1 := l1.over bY
  have m2 := l2.over bY
  have m3 := l3.trans (bY.mono l3.size)
  have qy0 : ∀ ob, (Y.alloc ob).cell? ⟨w.heap.size, 0, none⟩ = some (.int .i64 2) := fun ob => (m1.alloc ob).cell 0
  have qy1 : ∀ ob, (Y.alloc ob).cell? ⟨w.heap.size, 1, none⟩ = some (.int .i64 o) := fun ob => (m1.alloc ob).cell 1
  have qy2 : ∀ ob, (Y.alloc ob).cell? ⟨w.heap.size, 2, none⟩ = some (.int .u64 m) := fun ob => (m1.alloc ob).cell 2
  have qy3 : ∀ ob, (Y.alloc ob).cell? ⟨w.heap.size, 3, none⟩ = some (.int .u64 v) := fun ob => (m1.alloc ob).cell 3
  have qd0 : ∀ ob, (Y.alloc ob).cell? ⟨G1, 0, none⟩ = some (.int .u32 0) := fun ob => (m2.alloc ob).cell 0
  have qd1 : ∀ ob, (Y.alloc ob).cell? ⟨G1, 1, none⟩ = some (.int .u32 0) := fun ob => (m2.alloc ob).cell 1
  have qd2 : ∀ ob, (Y.alloc ob).cell? ⟨G1, 2, none⟩ = some (.int .u64 0) := fun ob => (m2.alloc ob).cell 2
  have qd3 : ∀ ob, (Y.alloc ob).cell? ⟨G1, 3, none⟩ = some (.int .u64 0) := fun ob => (m2.alloc ob).cell 3
  have qd4 : ∀ ob, (Y.alloc ob).cell? ⟨G1, 4, none⟩ = some (.int .u64 0) := fun ob => (m2.alloc ob).cell 4
  have qd5 : ∀ ob, (Y.alloc ob).cell? ⟨G1, 5, none⟩ = some (.int .u64 x) := fun ob => (m2.alloc ob).cell 5
  have qd6 : ∀ ob, (Y.alloc ob).cell? ⟨G1, 6, none⟩ = some (.int .u64 0) := fun ob => (m2.alloc ob).cell 6
  have qd7 : ∀ ob, (Y.alloc ob).cell? ⟨G1, 7, none⟩ = some (.int .u64 0) := fun ob => (m2.alloc ob).cell 7
  have qd8 : ∀ ob, (Y.alloc ob).cell? ⟨G1, 8, none⟩ = some (.int .u64 0) := fun ob => (m2.alloc ob).cell 8
  go_wp2_with fail
  have n1 := m1.alloc (Obj.cells #[.bool b0, .bool b1, .bool b2, .int .i64 no, .int .u64 nm, .int .u64 nv] 36)
  have n2 := m2.alloc (Obj.cells #[.bool b0, .bool b1, .bool b2, .int .i64 no, .int .u64 nm, .int .u64 nv] 36)
  have n3 := blk_new Y #[.bool b0, .bool b1, .bool b2, .int .i64 no, .int .u64 nm, .int .u64 nv] 36
  have n4 := m3.trans ((below_new Y (Obj.cells #[.bool b0, .bool b1, .bool b2, .int .i64 no, .int .u64 nm, .int .u64 nv] 36)).mono m3.size)
  clear l1 l2 l3 bY m1 m2 m3 qy0 qy1 qy2 qy3 qd0 qd1 qd2 qd3 qd4 qd5 qd6 qd7 qd8
  generalize Y.alloc (Obj.cells #[.bool b0, .bool b1, .bool b2, .int .i64 no, .int .u64 nm, .int .u64 nv] 36) = Y1 at *
  generalize Y.heap.size = G2 at *
  refine (H2.out _).mono ?_
  rintro e Z ⟨rfl, bZ⟩
  have p3 : Hid (Blk Z G2 36 [.bool b0, .bool b1, .bool b2, .int .i64 no, .int .u64 nm, .int .u64 nv]) := n3.over bZ
  have p4 : Hid (Below w.heap.size w Z) := n4.trans (bZ.mono n4.size)
  clear n1 n2 n3 n4 bZ
  have z0 := p3.out.cell 0
  have z1 := p3.out.cell 1
  have z2 := p3.out.cell 2
  have z3 := p3.out.cell 3
  have z4 := p3.out.cell 4
  have z5 := p3.out.cell 5
  rcases hkind with ⟨rfl, rfl, rfl⟩ | ⟨rfl, rfl, rfl⟩ | ⟨rfl, rfl⟩
  all_goals
    go_wp2_with (first | (go_at_call 18; refine (H3.out _).mono ?_; rintro e V ⟨rfl, bV⟩; have v0 := (p3.out.over bV).cell 0; have v1 := (p3.out.over bV).cell 1; have p5 : Hid (Below w.heap.size w V) := p4.out.trans (bV.mono p4.out.size); clear bV))
    all_goals
      go_ret
      exact ⟨by first | rfl | simp, p5.out⟩

theorem ok_3 (x : Int) (hx : U64 x) : (Da.mk 0 0 0 [0, 0, 0, x, 0, 0]).ok := by
  refine ⟨u32_0, u32_0, u64_0, rfl, ?_⟩
  intro z hz
  simp only [List.mem_cons, List.not_mem_nil, or_false] at hz
  rcases hz with rfl | rfl | rfl | rfl | rfl | rfl <;> first | exact u64_0 | exact hx

set_option maxRecDepth 4000 in
set_option maxHeartbeats 2000000 in
theorem condSame_3 (o m v x : Int) (w : World) (hm : U64 m) (hv : U64 v) (hx : U64 x) :
    Calls Try.prog 6 #[.agg #[.int .i64 3, .int .i64 o, .int .u64 m, .int .u64 v], .int .u64 x] w fun e w' => e = .returned (.bool true) ∧ Below w.heap.size w w' := by
  have HW : Hid (∀ W : World, Calls Try.prog 9 #[] W fun e w' => e = .returned (.bool true) ∧ Below W.heap.size W w') := awake_any
  have H1 : Hid (∀ W : World, Calls Try.prog 16 #[.agg #[.int .i64 3, .int .i64 o, .int .u64 m, .int .u64 v]] W fun e w' => e = .returned (normN 3 o m v).val ∧ Below W.heap.size W w') := fun W => norm_any 3 o m v W
  have H2 : Hid (∀ W : World, Calls Try.prog 12 #[.agg #[.int .i64 3, .int .i64 o, .int .u64 m, .int .u64 v], .agg #[.int .u32 0, .int .u32 0, .int .u64 0, .int .u64 0, .int .u64 0, .int .u64 0, .int .u64 x, .int .u64 0, .int .u64 0]] W fun e w' => e = .returned (.bool (holdN 3 o m v x)) ∧ Below W.heap.size W w') := fun W => holds_any 3 o m v ⟨0, 0, 0, [0, 0, 0, x, 0, 0]⟩ W (ok_3 x hx)
  obtain ⟨hs, hkind⟩ := same_kinds 3 o m v x hm hv hx
  have H3 : Hid (∀ W : World, Calls Try.prog 18 #[(normN 3 o m v).val, .int .u64 x] W fun e w' => e = .returned (.bool (holdN 3 o m v x)) ∧ Below W.heap.size W w') := fun W => hs ▸ is_any _ x W
  clear hs hm hv hx
  generalize holdN 3 o m v x = q at *
  generalize normN 3 o m v = n at *
  obtain ⟨b0, b1, b2, no, nm, nv⟩ := n
  unfold No.val No.cells at *
  dsimp only at *
  have HK : Blk (w.alloc (Obj.cells #[.int .i64 3, .int .i64 o, .int .u64 m, .int .u64 v] 24)) w.heap.size 24 [.int .i64 3, .int .i64 o, .int .u64 m, .int .u64 v] := blk_new w _ 24
  have HB := below_new w (Obj.cells #[.int .i64 3, .int .i64 o, .int .u64 m, .int .u64 v] 24)
  go_enter Try.func6, Try.ntmps6
  go_wp2_with fail
  generalize w.alloc (Obj.cells #[.int .i64 3, .int .i64 o, .int .u64 m, .int .u64 v] 24) = W0 at *
  refine (HW.out _).mono ?_
  rintro e X ⟨rfl, bX⟩
  have k1 := HK.over bX
  have k2 := HB.trans (bX.mono HB.size)
  have q0 := k1.cell 0
  have qx0 : ∀ ob, (X.alloc ob).cell? ⟨w.heap.size, 0, none⟩ = some (.int .i64 3) := fun ob => (k1.alloc ob).cell 0
  have qx1 : ∀ ob, (X.alloc ob).cell? ⟨w.heap.size, 1, none⟩ = some (.int .i64 o) := fun ob => (k1.alloc ob).cell 1
  have qx2 : ∀ ob, (X.alloc ob).cell? ⟨w.heap.size, 2, none⟩ = some (.int .u64 m) := fun ob => (k1.alloc ob).cell 2
  have qx3 : ∀ ob, (X.alloc ob).cell? ⟨w.heap.size, 3, none⟩ = some (.int .u64 v) := fun ob => (k1.alloc ob).cell 3
  go_wp2_with fail
  have l1 := k1.alloc (Obj.cells #[.int .u32 0, .int .u32 0, .int .u64 0, .int .u64 0, .int .u64 0, .int .u64 0, .int .u64 x, .int .u64 0, .int .u64 0] 28)
  have l2 := blk_new X #[.int .u32 0, .int .u32 0, .int .u64 0, .int .u64 0, .int .u64 0, .int .u64 0, .int .u64 x, .int .u64 0, .int .u64 0] 28
  have l3 := k2.trans ((below_new X (Obj.cells #[.int .u32 0, .int .u32 0, .int .u64 0, .int .u64 0, .int .u64 0, .int .u64 0, .int .u64 x, .int .u64 0, .int .u64 0] 28)).mono k2.size)
  clear HK HB bX k1 k2 q0 qx0 qx1 qx2 qx3
  generalize X.alloc (Obj.cells #[.int .u32 0, .int .u32 0, .int .u64 0, .int .u64 0, .int .u64 0, .int .u64 0, .int .u64 x, .int .u64 0, .int .u64 0] 28) = X1 at *
  generalize X.heap.size = G1 at *
  refine (H1.out _).mono ?_
  rintro e Y ⟨rfl, bY⟩
  have m1 := l1.over bY
  have m2 := l2.over bY
  have m3 := l3.trans (bY.mono l3.size)
  have qy0 : ∀ ob, (Y.alloc ob).cell? ⟨w.heap.size, 0, none⟩ = some (.int .i64 3) := fun ob => (m1.alloc ob).cell 0
  have qy1 : ∀ ob, (Y.alloc ob).cell? ⟨w.heap.size, 1, none⟩ = some (.int .i64 o) := fun ob => (m1.alloc ob).cell 1
  have qy2 : ∀ ob, (Y.alloc ob).cell? ⟨w.heap.size, 2, none⟩ = some (.int .u64 m) := fun ob => (m1.alloc ob).cell 2
  have qy3 : ∀ ob, (Y.alloc ob).cell? ⟨w.heap.size, 3, none⟩ = some (.int .u64 v) := fun ob => (m1.alloc ob).cell 3
  have qd0 : ∀ ob, (Y.alloc ob).cell? ⟨G1, 0, none⟩ = some (.int .u32 0) := fun ob => (m2.alloc ob).cell 0
  have qd1 : ∀ ob, (Y.alloc ob).cell? ⟨G1, 1, none⟩ = some (.int .u32 0) := fun ob => (m2.alloc ob).cell 1
  have qd2 : ∀ ob, (Y.alloc ob).cell? ⟨G1, 2, none⟩ = some (.int .u64 0) := fun ob => (m2.alloc ob).cell 2
  have qd3 : ∀ ob, (Y.alloc ob).cell? ⟨G1, 3, none⟩ = some (.int .u64 0) := fun ob => (m2.alloc ob).cell 3
  have qd4 : ∀ ob, (Y.alloc ob).cell? ⟨G1, 4, none⟩ = some (.int .u64 0) := fun ob => (m2.alloc ob).cell 4
  have qd5 : ∀ ob, (Y.alloc ob).cell? ⟨G1, 5, none⟩ = some (.int .u64 0) := fun ob => (m2.alloc ob).cell 5
  have qd6 : ∀ ob, (Y.alloc ob).cell? ⟨G1, 6, none⟩ = some (.int .u64 x) := fun ob => (m2.alloc ob).cell 6
  have qd7 : ∀ ob, (Y.alloc ob).cell? ⟨G1, 7, none⟩ = some (.int .u64 0) := fun ob => (m2.alloc ob).cell 7
  have qd8 : ∀ ob, (Y.alloc ob).cell? ⟨G1, 8, none⟩ = some (.int .u64 0) := fun ob => (m2.alloc ob).cell 8
  go_wp2_with fail
  have n1 := m1.alloc (Obj.cells #[.bool b0, .bool b1, .bool b2, .int .i64 no, .int .u64 nm, .int .u64 nv] 36)
  have n2 := m2.alloc (Obj.cells #[.bool b0, .bool b1, .bool b2, .int .i64 no, .int .u64 nm, .int .u64 nv] 36)
  have n3 := blk_new Y #[.bool b0, .bool b1, .bool b2, .int .i64 no, .int .u64 nm, .int .u64 nv] 36
  have n4 := m3.trans ((below_new Y (Obj.cells #[.bool b0, .bool b1, .bool b2, .int .i64 no, .int .u64 nm, .int .u64 nv] 36)).mono m3.size)
  clear l1 l2 l3 bY m1 m2 m3 qy0 qy1 qy2 qy3 qd0 qd1 qd2 qd3 qd4 qd5 qd6 qd7 qd8
  generalize Y.alloc (Obj.cells #[.bool b0, .bool b1, .bool b2, .int .i64 no, .int .u64 nm, .int .u64 nv] 36) = Y1 at *
  generalize Y.heap.size = G2 at *
  refine (H2.out _).mono ?_
  rintro e Z ⟨rfl, bZ⟩
  have p3 : Hid (Blk Z G2 36 [.bool b0, .bool b1, .bool b2, .int .i64 no, .int .u64 nm, .int .u64 nv]) := n3.over bZ
  have p4 : Hid (Below w.heap.size w Z) := n4.trans (bZ.mono n4.size)
  clear n1 n2 n3 n4 bZ
  have z0 := p3.out.cell 0
  have z1 := p3.out.cell 1
  have z2 := p3.out.cell 2
  have z3 := p3.out.cell 3
  have z4 := p3.out.cell 4
  have z5 := p3.out.cell 5
  rcases hkind with ⟨rfl, rfl, rfl⟩ | ⟨rfl, rfl, rfl⟩ | ⟨rfl, rfl⟩
  all_goals
    go_wp2_with (first | (go_at_call 18; refine (H3.out _).mono ?_; rintro e V ⟨rfl, bV⟩; have v0 := (p3.out.over bV).cell 0; have v1 := (p3.out.over bV).cell 1; have p5 : Hid (Below w.heap.size w V) := p4.out.trans (bV.mono p4.out.size); clear bV))
    all_goals
      go_ret
      exact ⟨by first | rfl | simp, p5.out⟩

theorem ok_4 (x : Int) (hx : U64 x) : (Da.mk 0 0 0 [0, 0, 0, 0, x, 0]).ok := by
  refine ⟨u32_0, u32_0, u64_0, rfl, ?_⟩
  intro z hz
  simp only [List.mem_cons, List.not_mem_nil, or_false] at hz
  rcases hz with rfl | rfl | rfl | rfl | rfl | rfl <;> first | exact u64_0 | exact hx

set_option maxRecDepth 4000 in
set_option maxHeartbeats 2000000 in
theorem condSame_4 (o m v x : Int) (w : World) (hm : U64 m) (hv : U64 v) (hx : U64 x) :
    Calls Try.prog 6 #[.agg #[.int .i64 4, .int .i64 o, .int .u64 m, .int .u64 v], .int .u64 x] w fun e w' => e = .returned (.bool true) ∧ Below w.heap.size w w' := by
  have HW : Hid (∀ W : World, Calls Try.prog 9 #[] W fun e w' => e = .returned (.bool true) ∧ Below W.heap.size W w') := awake_any
  have H1 : Hid (∀ W : World, Calls Try.prog 16 #[.agg #[.int .i64 4, .int .i64 o, .int .u64 m, .int .u64 v]] W fun e w' => e = .returned (normN 4 o m v).val ∧ Below W.heap.size W w') := fun W => norm_any 4 o m v W
  have H2 : Hid (∀ W : World, Calls Try.prog 12 #[.agg #[.int .i64 4, .int .i64 o, .int .u64 m, .int .u64 v], .agg #[.int .u32 0, .int .u32 0, .int .u64 0, .int .u64 0, .int .u64 0, .int .u64 0, .int .u64 0, .int .u64 x, .int .u64 0]] W fun e w' => e = .returned (.bool (holdN 4 o m v x)) ∧ Below W.heap.size W w') := fun W => holds_any 4 o m v ⟨0, 0, 0, [0, 0, 0, 0, x, 0]⟩ W (ok_4 x hx)
  obtain ⟨hs, hkind⟩ := same_kinds 4 o m v x hm hv hx
  have H3 : Hid (∀ W : World, Calls Try.prog 18 #[(normN 4 o m v).val, .int .u64 x] W fun e w' => e = .returned (.bool (holdN 4 o m v x)) ∧ Below W.heap.size W w') := fun W => hs ▸ is_any _ x W
  clear hs hm hv hx
  generalize holdN 4 o m v x = q at *
  generalize normN 4 o m v = n at *
  obtain ⟨b0, b1, b2, no, nm, nv⟩ := n
  unfold No.val No.cells at *
  dsimp only at *
  have HK : Blk (w.alloc (Obj.cells #[.int .i64 4, .int .i64 o, .int .u64 m, .int .u64 v] 24)) w.heap.size 24 [.int .i64 4, .int .i64 o, .int .u64 m, .int .u64 v] := blk_new w _ 24
  have HB := below_new w (Obj.cells #[.int .i64 4, .int .i64 o, .int .u64 m, .int .u64 v] 24)
  go_enter Try.func6, Try.ntmps6
  go_wp2_with fail
  generalize w.alloc (Obj.cells #[.int .i64 4, .int .i64 o, .int .u64 m, .int .u64 v] 24) = W0 at *
  refine (HW.out _).mono ?_
  rintro e X ⟨rfl, bX⟩
  have k1 := HK.over bX
  have k2 := HB.trans (bX.mono HB.size)
  have q0 := k1.cell 0
  have qx0 : ∀ ob, (X.alloc ob).cell? ⟨w.heap.size, 0, none⟩ = some (.int .i64 4) := fun ob => (k1.alloc ob).cell 0
  have qx1 : ∀ ob, (X.alloc ob).cell? ⟨w.heap.size, 1, none⟩ = some (.int .i64 o) := fun ob => (k1.alloc ob).cell 1
  have qx2 : ∀ ob, (X.alloc ob).cell? ⟨w.heap.size, 2, none⟩ = some (.int .u64 m) := fun ob => (k1.alloc ob).cell 2
  have qx3 : ∀ ob, (X.alloc ob).cell? ⟨w.heap.size, 3, none⟩ = some (.int .u64 v) := fun ob => (k1.alloc ob).cell 3
  go_wp2_with fail
  have l1 := k1.alloc (Obj.cells #[.int .u32 0, .int .u32 0, .int .u64 0, .int .u64 0, .int .u64 0, .int .u64 0, .int .u64 0, .int .u64 x, .int .u64 0] 28)
  have l2 := blk_new X #[.int .u32 0, .int .u32 0, .int .u64 0, .int .u64 0, .int .u64 0, .int .u64 0, .int .u64 0, .int .u64 x, .int .u64 0] 28
  have l3 := k2.trans ((below_new X (Obj.cells #[.int .u32 0, .int .u32 0, .int .u64 0, .int .u64 0, .int .u64 0, .int .u64 0, .int .u64 0, .int .u64 x, .int .u64 0] 28)).mono k2.size)
  clear HK HB bX k1 k2 q0 qx0 qx1 qx2 qx3
  generalize X.alloc (Obj.cells #[.int .u32 0, .int .u32 0, .int .u64 0, .int .u64 0, .int .u64 0, .int .u64 0, .int .u64 0, .int .u64 x, .int .u64 0] 28) = X1 at *
  generalize X.heap.size = G1 at *
  refine (H1.out _).mono ?_
  rintro e Y ⟨rfl, bY⟩
  have m1 := l1.over bY
  have m2 := l2.over bY
  have m3 := l3.trans (bY.mono l3.size)
  have qy0 : ∀ ob, (Y.alloc ob).cell? ⟨w.heap.size, 0, none⟩ = some (.int .i64 4) := fun ob => (m1.alloc ob).cell 0
  have qy1 : ∀ ob, (Y.alloc ob).cell? ⟨w.heap.size, 1, none⟩ = some (.int .i64 o) := fun ob => (m1.alloc ob).cell 1
  have qy2 : ∀ ob, (Y.alloc ob).cell? ⟨w.heap.size, 2, none⟩ = some (.int .u64 m) := fun ob => (m1.alloc ob).cell 2
  have qy3 : ∀ ob, (Y.alloc ob).cell? ⟨w.heap.size, 3, none⟩ = some (.int .u64 v) := fun ob => (m1.alloc ob).cell 3
  have qd0 : ∀ ob, (Y.alloc ob).cell? ⟨G1, 0, none⟩ = some (.int .u32 0) := fun ob => (m2.alloc ob).cell 0
  have qd1 : ∀ ob, (Y.alloc ob).cell? ⟨G1, 1, none⟩ = some (.int .u32 0) := fun ob => (m2.alloc ob).cell 1
  have qd2 : ∀ ob, (Y.alloc ob).cell? ⟨G1, 2, none⟩ = some (.int .u64 0) := fun ob => (m2.alloc ob).cell 2
  have qd3 : ∀ ob, (Y.alloc ob).cell? ⟨G1, 3, none⟩ = some (.int .u64 0) := fun ob => (m2.alloc ob).cell 3
  have qd4 : ∀ ob, (Y.alloc ob).cell? ⟨G1, 4, none⟩ = some (.int .u64 0) := fun ob => (m2.alloc ob).cell 4
  have qd5 : ∀ ob, (Y.alloc ob).cell? ⟨G1, 5, none⟩ = some (.int .u64 0) := fun ob => (m2.alloc ob).cell 5
  have qd6 : ∀ ob, (Y.alloc ob).cell? ⟨G1, 6, none⟩ = some (.int .u64 0) := fun ob => (m2.alloc ob).cell 6
  have qd7 : ∀ ob, (Y.alloc ob).cell? ⟨G1, 7, none⟩ = some (.int .u64 x) := fun ob => (m2.alloc ob).cell 7
  have qd8 : ∀ ob, (Y.alloc ob).cell? ⟨G1, 8, none⟩ = some (.int .u64 0) := fun ob => (m2.alloc ob).cell 8
  go_wp2_with fail
  have n1 := m1.alloc (Obj.cells #[.bool b0, .bool b1, .bool b2, .int .i64 no, .int .u64 nm, .int .u64 nv] 36)
  have n2 := m2.alloc (Obj.cells #[.bool b0, .bool b1, .bool b2, .int .i64 no, .int .u64 nm, .int .u64 nv] 36)
  have n3 := blk_new Y #[.bool b0, .bool b1, .bool b2, .int .i64 no, .int .u64 nm, .int .u64 nv] 36
  have n4 := m3.trans ((below_new Y (Obj.cells #[.bool b0, .bool b1, .bool b2, .int .i64 no, .int .u64 nm, .int .u64 nv] 36)).mono m3.size)
  clear l1 l2 l3 bY m1 m2 m3 qy0 qy1 qy2 qy3 qd0 qd1 qd2 qd3 qd4 qd5 qd6 qd7 qd8
  generalize Y.alloc (Obj.cells #[.bool b0, .bool b1, .bool b2, .int .i64 no, .int .u64 nm, .int .u64 nv] 36) = Y1 at *
  generalize Y.heap.size = G2 at *
  refine (H2.out _).mono ?_
  rintro e Z ⟨rfl, bZ⟩
  have p3 : Hid (Blk Z G2 36 [.bool b0, .bool b1, .bool b2, .int .i64 no, .int .u64 nm, .int .u64 nv]) := n3.over bZ
  have p4 : Hid (Below w.heap.size w Z) := n4.trans (bZ.mono n4.size)
  clear n1 n2 n3 n4 bZ
  have z0 := p3.out.cell 0
  have z1 := p3.out.cell 1
  have z2 := p3.out.cell 2
  have z3 := p3.out.cell 3
  have z4 := p3.out.cell 4
  have z5 := p3.out.cell 5
  rcases hkind with ⟨rfl, rfl, rfl⟩ | ⟨rfl, rfl, rfl⟩ | ⟨rfl, rfl⟩
  all_goals
    go_wp2_with (first | (go_at_call 18; refine (H3.out _).mono ?_; rintro e V ⟨rfl, bV⟩; have v0 := (p3.out.over bV).cell 0; have v1 := (p3.out.over bV).cell 1; have p5 : Hid (Below w.heap.size w V) := p4.out.trans (bV.mono p4.out.size); clear bV))
    all_goals
      go_ret
      exact ⟨by first | rfl | simp, p5.out⟩

theorem ok_5 (x : Int) (hx : U64 x) : (Da.mk 0 0 0 [0, 0, 0, 0, 0, x]).ok := by
  refine ⟨u32_0, u32_0, u64_0, rfl, ?_⟩
  intro z hz
  simp only [List.mem_cons, List.not_mem_nil, or_false] at hz
  rcases hz with rfl | rfl | rfl | rfl | rfl | rfl <;> first | exact u64_0 | exact hx

set_option maxRecDepth 4000 in
set_option maxHeartbeats 2000000 in
theorem condSame_5 (o m v x : Int) (w : World) (hm : U64 m) (hv : U64 v) (hx : U64 x) :
    Calls Try.prog 6 #[.agg #[.int .i64 5, .int .i64 o, .int .u64 m, .int .u64 v], .int .u64 x] w fun e w' => e = .returned (.bool true) ∧ Below w.heap.size w w' := by
  have HW : Hid (∀ W : World, Calls Try.prog 9 #[] W fun e w' => e = .returned (.bool true) ∧ Below W.heap.size W w') := awake_any
  have H1 : Hid (∀ W : World, Calls Try.prog 16 #[.agg #[.int .i64 5, .int .i64 o, .int .u64 m, .int .u64 v]] W fun e w' => e = .returned (normN 5 o m v).val ∧ Below W.heap.size W w') := fun W => norm_any 5 o m v W
  have H2 : Hid (∀ W : World, Calls Try.prog 12 #[.agg #[.int .i64 5, .int .i64 o, .int .u64 m, .int .u64 v], .agg #[.int .u32 0, .int .u32 0, .int .u64 0, .int .u64 0, .int .u64 0, .int .u64 0, .int .u64 0, .int .u64 0, .int .u64 x]] W fun e w' => e = .returned (.bool (holdN 5 o m v x)) ∧ Below W.heap.size W w') := fun W => holds_any 5 o m v ⟨0, 0, 0, [0, 0, 0, 0, 0, x]⟩ W (ok_5 x hx)
  obtain ⟨hs, hkind⟩ := same_kinds 5 o m v x hm hv hx
  have H3 : Hid (∀ W : World, Calls Try.prog 18 #[(normN 5 o m v).val, .int .u64 x] W fun e w' => e = .returned (.bool (holdN 5 o m v x)) ∧ Below W.heap.size W w') := fun W => hs ▸ is_any _ x W
  clear hs hm hv hx
  generalize holdN 5 o m v x = q at *
  generalize normN 5 o m v = n at *
  obtain ⟨b0, b1, b2, no, nm, nv⟩ := n
  unfold No.val No.cells at *
  dsimp only at *
  have HK : Blk (w.alloc (Obj.cells #[.int .i64 5, .int .i64 o, .int .u64 m, .int .u64 v] 24)) w.heap.size 24 [.int .i64 5, .int .i64 o, .int .u64 m, .int .u64 v] := blk_new w _ 24
  have HB := below_new w (Obj.cells #[.int .i64 5, .int .i64 o, .int .u64 m, .int .u64 v] 24)
  go_enter Try.func6, Try.ntmps6
  go_wp2_with fail
  generalize w.alloc (Obj.cells #[.int .i64 5, .int .i64 o, .int .u64 m, .int .u64 v] 24) = W0 at *
  refine (HW.out _).mono ?_
  rintro e X ⟨rfl, bX⟩
  have k1 := HK.over bX
  have k2 := HB.trans (bX.mono HB.size)
  have q0 := k1.cell 0
  have qx0 : ∀ ob, (X.alloc ob).cell? ⟨w.heap.size, 0, none⟩ = some (.int .i64 5) := fun ob => (k1.alloc ob).cell 0
  have qx1 : ∀ ob, (X.alloc ob).cell? ⟨w.heap.size, 1, none⟩ = some (.int .i64 o) := fun ob => (k1.alloc ob).cell 1
  have qx2 : ∀ ob, (X.alloc ob).cell? ⟨w.heap.size, 2, none⟩ = some (.int .u64 m) := fun ob => (k1.alloc ob).cell 2
  have qx3 : ∀ ob, (X.alloc ob).cell? ⟨w.heap.size, 3, none⟩ = some (.int .u64 v) := fun ob => (k1.alloc ob).cell 3
  go_wp2_with fail
  have l1 := k1.alloc (Obj.cells #[.int .u32 0, .int .u32 0, .int .u64 0, .int .u64 0, .int .u64 0, .int .u64 0, .int .u64 0, .int .u64 0, .int .u64 x] 28)
  have l2 := blk_new X #[.int .u32 0, .int .u32 0, .int .u64 0, .int .u64 0, .int .u64 0, .int .u64 0, .int .u64 0, .int .u64 0, .int .u64 x] 28
  have l3 := k2.trans ((below_new X (Obj.cells #[.int .u32 0, .int .u32 0, .int .u64 0, .int .u64 0, .int .u64 0, .int .u64 0, .int .u64 0, .int .u64 0, .int .u64 x] 28)).mono k2.size)
  clear HK HB bX k1 k2 q0 qx0 qx1 qx2 qx3
  generalize X.alloc (Obj.cells #[.int .u32 0, .int .u32 0, .int .u64 0, .int .u64 0, .int .u64 0, .int .u64 0, .int .u64 0, .int .u64 0, .int .u64 x] 28) = X1 at *
  generalize X.heap.size = G1 at *
  refine (H1.out _).mono ?_
  rintro e Y ⟨rfl, bY⟩
  have m1 := l1.over bY
  have m2 := l2.over bY
  have m3 := l3.trans (bY.mono l3.size)
  have qy0 : ∀ ob, (Y.alloc ob).cell? ⟨w.heap.size, 0, none⟩ = some (.int .i64 5) := fun ob => (m1.alloc ob).cell 0
  have qy1 : ∀ ob, (Y.alloc ob).cell? ⟨w.heap.size, 1, none⟩ = some (.int .i64 o) := fun ob => (m1.alloc ob).cell 1
  have qy2 : ∀ ob, (Y.alloc ob).cell? ⟨w.heap.size, 2, none⟩ = some (.int .u64 m) := fun ob => (m1.alloc ob).cell 2
  have qy3 : ∀ ob, (Y.alloc ob).cell? ⟨w.heap.size, 3, none⟩ = some (.int .u64 v) := fun ob => (m1.alloc ob).cell 3
  have qd0 : ∀ ob, (Y.alloc ob).cell? ⟨G1, 0, none⟩ = some (.int .u32 0) := fun ob => (m2.alloc ob).cell 0
  have qd1 : ∀ ob, (Y.alloc ob).cell? ⟨G1, 1, none⟩ = some (.int .u32 0) := fun ob => (m2.alloc ob).cell 1
  have qd2 : ∀ ob, (Y.alloc ob).cell? ⟨G1, 2, none⟩ = some (.int .u64 0) := fun ob => (m2.alloc ob).cell 2
  have qd3 : ∀ ob, (Y.alloc ob).cell? ⟨G1, 3, none⟩ = some (.int .u64 0) := fun ob => (m2.alloc ob).cell 3
  have qd4 : ∀ ob, (Y.alloc ob).cell? ⟨G1, 4, none⟩ = some (.int .u64 0) := fun ob => (m2.alloc ob).cell 4
  have qd5 : ∀ ob, (Y.alloc ob).cell? ⟨G1, 5, none⟩ = some (.int .u64 0) := fun ob => (m2.alloc ob).cell 5
  have qd6 : ∀ ob, (Y.alloc ob).cell? ⟨G1, 6, none⟩ = some (.int .u64 0) := fun ob => (m2.alloc ob).cell 6
  have qd7 : ∀ ob, (Y.alloc ob).cell? ⟨G1, 7, none⟩ = some (.int .u64 0) := fun ob => (m2.alloc ob).cell 7
  have qd8 : ∀ ob, (Y.alloc ob).cell? ⟨G1, 8, none⟩ = some (.int .u64 x) := fun ob => (m2.alloc ob).cell 8
  go_wp2_with fail
  have n1 := m1.alloc (Obj.cells #[.bool b0, .bool b1, .bool b2, .int .i64 no, .int .u64 nm, .int .u64 nv] 36)
  have n2 := m2.alloc (Obj.cells #[.bool b0, .bool b1, .bool b2, .int .i64 no, .int .u64 nm, .int .u64 nv] 36)
  have n3 := blk_new Y #[.bool b0, .bool b1, .bool b2, .int .i64 no, .int .u64 nm, .int .u64 nv] 36
  have n4 := m3.trans ((below_new Y (Obj.cells #[.bool b0, .bool b1, .bool b2, .int .i64 no, .int .u64 nm, .int .u64 nv] 36)).mono m3.size)
  clear l1 l2 l3 bY m1 m2 m3 qy0 qy1 qy2 qy3 qd0 qd1 qd2 qd3 qd4 qd5 qd6 qd7 qd8
  generalize Y.alloc (Obj.cells #[.bool b0, .bool b1, .bool b2, .int .i64 no, .int .u64 nm, .int .u64 nv] 36) = Y1 at *
  generalize Y.heap.size = G2 at *
  refine (H2.out _).mono ?_
  rintro e Z ⟨rfl, bZ⟩
  have p3 : Hid (Blk Z G2 36 [.bool b0, .bool b1, .bool b2, .int .i64 no, .int .u64 nm, .int .u64 nv]) := n3.over bZ
  have p4 : Hid (Below w.heap.size w Z) := n4.trans (bZ.mono n4.size)
  clear n1 n2 n3 n4 bZ
  have z0 := p3.out.cell 0
  have z1 := p3.out.cell 1
  have z2 := p3.out.cell 2
  have z3 := p3.out.cell 3
  have z4 := p3.out.cell 4
  have z5 := p3.out.cell 5
  rcases hkind with ⟨rfl, rfl, rfl⟩ | ⟨rfl, rfl, rfl⟩ | ⟨rfl, rfl⟩
  all_goals
    go_wp2_with (first | (go_at_call 18; refine (H3.out _).mono ?_; rintro e V ⟨rfl, bV⟩; have v0 := (p3.out.over bV).cell 0; have v1 := (p3.out.over bV).cell 1; have p5 : Hid (Below w.heap.size w V) := p4.out.trans (bV.mono p4.out.size); clear bV))
    all_goals
      go_ret
      exact ⟨by first | rfl | simp, p5.out⟩

theorem condSame_walk (a o m v x : Int) (w : World) (hm : U64 m) (hv : U64 v) (hx : U64 x) :
    Calls Try.prog 6 #[.agg #[.int .i64 a, .int .i64 o, .int .u64 m, .int .u64 v], .int .u64 x] w fun e w' => e = .returned (.bool true) ∧ Below w.heap.size w w' := by
  by_cases h0 : a < 0
  · exact condSame_out a o m v x w (.inl h0)
  · by_cases h5 : 5 < a
    · exact condSame_out a o m v x w (.inr ⟨h0, h5⟩)
    · have hc : a = 0 ∨ a = 1 ∨ a = 2 ∨ a = 3 ∨ a = 4 ∨ a = 5 := by omega
      rcases hc with rfl | rfl | rfl | rfl | rfl | rfl
      · exact condSame_0 o m v x w hm hv hx
      · exact condSame_1 o m v x w hm hv hx
      · exact condSame_2 o m v x w hm hv hx
      · exact condSame_3 o m v x w hm hv hx
      · exact condSame_4 o m v x w hm hv hx
      · exact condSame_5 o m v x w hm hv hx

end Go.Proofs.Ytocebgkiaclekaa
