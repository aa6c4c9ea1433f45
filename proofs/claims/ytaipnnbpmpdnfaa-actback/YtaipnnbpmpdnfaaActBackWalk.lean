/-
  The law ActBack, walked: true for every act and number.
-/
import Derived.Test.YtaipnnbpmpdnfaaAwake
import Derived.Deep.RegionHeld3
import Derived.Deep.QuietTactic
import Derived.BigQuiet
namespace Go.Proofs.Ytaipnnbpmpdnfaa
open Go.RowKit

theorem err_right {k a : Int} (h : rightB k a = true) : errZ k a = 0 := by unfold errZ; rw [if_pos h]
theorem err_wrong {k a : Int} (h : rightB k a = false) : errZ k a = 1 := by unfold errZ; rw [if_neg (by rw [h]; decide)]

/-- what stays beside the cells of two boxes. -/
def Kp (w : World) (g g' : Nat) (X : World) : Prop := g < X.heap.size ∧ g' < X.heap.size ∧ Below w.heap.size w X

theorem kept {w : World} {g g' : Nat} {k a kb ab : Int} {X Y : World} (h : X.cell? ⟨g, 0, none⟩ = some (.int .i64 k) ∧ X.cell? ⟨g, 1, none⟩ = some (.int .i64 a) ∧ X.cell? ⟨g', 0, none⟩ = some (.int .i64 kb) ∧ X.cell? ⟨g', 1, none⟩ = some (.int .i64 ab) ∧ Kp w g g' X) (hb : Below X.heap.size X Y) :
    Y.cell? ⟨g, 0, none⟩ = some (.int .i64 k) ∧ Y.cell? ⟨g, 1, none⟩ = some (.int .i64 a) ∧ Y.cell? ⟨g', 0, none⟩ = some (.int .i64 kb) ∧ Y.cell? ⟨g', 1, none⟩ = some (.int .i64 ab) ∧ Kp w g g' Y := by
  obtain ⟨h0, h1, h2, h3, h4, h5, h6⟩ := h
  exact ⟨(hb.cell (p := ⟨g, 0, none⟩) h4).trans h0, (hb.cell (p := ⟨g, 1, none⟩) h4).trans h1, (hb.cell (p := ⟨g', 0, none⟩) h5).trans h2, (hb.cell (p := ⟨g', 1, none⟩) h5).trans h3, Nat.lt_of_lt_of_le h4 hb.size, Nat.lt_of_lt_of_le h5 hb.size, h6.trans (hb.mono h6.size)⟩

/-- the second act, boxed behind the first. -/
theorem kept_new {w : World} {g : Nat} {k a : Int} {X : World} (h : Box w g k a X) (kb ab : Int) : (X.alloc (Obj.cells #[.int .i64 kb, .int .i64 ab] 23)).cell? ⟨g, 0, none⟩ = some (.int .i64 k) ∧ (X.alloc (Obj.cells #[.int .i64 kb, .int .i64 ab] 23)).cell? ⟨g, 1, none⟩ = some (.int .i64 a) ∧ (X.alloc (Obj.cells #[.int .i64 kb, .int .i64 ab] 23)).cell? ⟨X.heap.size, 0, none⟩ = some (.int .i64 kb) ∧ (X.alloc (Obj.cells #[.int .i64 kb, .int .i64 ab] 23)).cell? ⟨X.heap.size, 1, none⟩ = some (.int .i64 ab) ∧ Kp w g X.heap.size (X.alloc (Obj.cells #[.int .i64 kb, .int .i64 ab] 23)) := by
  have h' := h.over ((Below.refl _ _).alloc (Nat.le_refl _) (Obj.cells #[.int .i64 kb, .int .i64 ab] 23))
  exact ⟨h'.1, h'.2.1, (blk_new X _ 23).cell 0, (blk_new X _ 23).cell 1, h'.2.2.1, (blk_new X _ 23).lt, h'.2.2.2⟩

set_option maxHeartbeats 4000000 in
theorem actBack_true (k a v : Int) (w : World) (hv : U32 v) (hra : rightB k a = true) :
    Calls Try.prog 6 #[.agg #[.int .i64 k, .int .i64 a], .int .u32 v] w fun e w' => e = .returned (.bool true) ∧ Below w.heap.size w w' := by
  have HW : Hid (∀ W : World, Calls Try.prog 9 #[] W fun e w' => e = .returned (.bool true) ∧ Below W.heap.size W w') := awake_any
  have H1 : Hid (∀ W : World, Calls Try.prog 10 #[.agg #[.int .i64 k, .int .i64 a]] W fun e w' => e = .returned (.tuple #[.int .u32 (valZ k a), .int .i64 0]) ∧ Below W.heap.size W w') := fun W => (err_right hra) ▸ value_any k a W
  have H2 : Hid (∀ W : World, Calls Try.prog 14 #[.int .u32 v] W fun e w' => e = .returned (.agg #[.int .i64 (ki v), .int .i64 (ar v)]) ∧ Below W.heap.size W w') := fun W => of_any v W hv
  have hrb := right_of v
  obtain ⟨k1, k2, k3⟩ := back hrb
  have H3 : Hid (∀ W : World, Calls Try.prog 10 #[.agg #[.int .i64 (ki v), .int .i64 (ar v)]] W fun e w' => e = .returned (.tuple #[.int .u32 (valZ (ki v) (ar v)), .int .i64 0]) ∧ Below W.heap.size W w') := fun W => (err_right hrb) ▸ value_any (ki v) (ar v) W
  have H4 : Hid (∀ W : World, Calls Try.prog 14 #[.int .u32 (valZ (ki v) (ar v))] W fun e w' => e = .returned (.agg #[.int .i64 (ki v), .int .i64 (ar v)]) ∧ Below W.heap.size W w') := by
    intro W
    have := of_any _ W k3
    rw [k1, k2] at this
    exact this
  clear k1 k2 k3 hv
  generalize valZ (ki v) (ar v) = vb at *
  generalize ki v = kb at *
  generalize ar v = ab at *
  have hqb : ∀ W : World, (Op.equalIn 10000 23 (.agg #[.int .i64 kb, .int .i64 ab]) (.agg #[.int .i64 kb, .int .i64 ab])).run Try.prog W = .ok true W := fun W => by rw [equalIn_act, sameA_self]
  have HB0 : Hid (Box w w.heap.size k a (w.alloc (Obj.cells #[.int .i64 k, .int .i64 a] 23))) := box_new w k a
  have HX : Hid (∀ W : World, (fun X => X.cell? ⟨w.heap.size, 0, none⟩ = some (.int .i64 k) ∧ X.cell? ⟨w.heap.size, 1, none⟩ = some (.int .i64 a) ∧ w.heap.size < X.heap.size ∧ Below w.heap.size w X) W → Calls Try.prog 14 #[.int .u32 (valZ k a)] W fun e w' => e = .returned (.agg #[.int .i64 k, .int .i64 a]) ∧ (fun X => X.cell? ⟨w.heap.size, 0, none⟩ = some (.int .i64 k) ∧ X.cell? ⟨w.heap.size, 1, none⟩ = some (.int .i64 a) ∧ w.heap.size < X.heap.size ∧ Below w.heap.size w X) w') := by
    obtain ⟨k1, k2, k3⟩ := back hra
    intro W hS
    have := of_any _ W k3
    rw [k1, k2] at this
    exact this.mono fun e w' h => ⟨h.1, Box.over hS h.2⟩
  have hqa : ∀ W : World, (Op.equalIn 10000 23 (.agg #[.int .i64 k, .int .i64 a]) (.agg #[.int .i64 k, .int .i64 a])).run Try.prog W = .ok true W := fun W => by rw [equalIn_act, sameA_self]
  dsimp only at HX
  generalize valZ k a = va at *
  go_enter Try.func6, Try.ntmps6
  go_wp2_with (first | (go_at_call 9; refine (HW.out _).mono ?_; rintro e w1 ⟨rfl, b1⟩; have B1 : Hid (Box w w.heap.size k a w1) := HB0.out.over b1; have q0 := B1.out.1; have q1 := B1.out.2.1) | (go_at_call 10; refine (H1.out _).mono ?_; rintro e w2 ⟨rfl, b2⟩; have B2 : Hid (Box w w.heap.size k a w2) := B1.out.over b2))
  clear q0 q1 b1 b2 B1
  have HB2 : Hid (∀ X, (fun X => X.cell? ⟨w.heap.size, 0, none⟩ = some (.int .i64 k) ∧ X.cell? ⟨w.heap.size, 1, none⟩ = some (.int .i64 a) ∧ w.heap.size < X.heap.size ∧ Below w.heap.size w X) X → Box w w.heap.size k a X) := fun X h => h
  dsimp only at HB2
  have hS0 := B2.out.drew
  unfold Box at hS0
  go_region_held3 (fun X => X.cell? ⟨w.heap.size, 0, none⟩ = some (.int .i64 k) ∧ X.cell? ⟨w.heap.size, 1, none⟩ = some (.int .i64 a) ∧ w.heap.size < X.heap.size ∧ Below w.heap.size w X) (first | assumption | go_keep) (first | (go_at_call 14; refine (HX.out _ (by assumption)).mono ?_; rintro e w5 ⟨rfl, hS5⟩))
  all_goals
    have hxx := HB2.out _ (by assumption)
    clear hS0
    go_wp2_with (first | (go_at_call 14; refine (H2.out _).mono ?_; rintro e w3 ⟨rfl, b3⟩; have B3 : Hid (Box w w.heap.size k a w3) := hxx.over b3; have K3 : Hid ((fun X => X.cell? ⟨w.heap.size, 0, none⟩ = some (.int .i64 k) ∧ X.cell? ⟨w.heap.size, 1, none⟩ = some (.int .i64 a) ∧ X.cell? ⟨w3.heap.size, 0, none⟩ = some (.int .i64 kb) ∧ X.cell? ⟨w3.heap.size, 1, none⟩ = some (.int .i64 ab) ∧ Kp w w.heap.size w3.heap.size X) (w3.alloc (Obj.cells #[.int .i64 kb, .int .i64 ab] 23))) := kept_new B3.out kb ab) | (go_at_call 10; refine (H3.out _).mono ?_; rintro e w4 ⟨rfl, b4⟩; have K4 : Hid ((fun X => X.cell? ⟨w.heap.size, 0, none⟩ = some (.int .i64 k) ∧ X.cell? ⟨w.heap.size, 1, none⟩ = some (.int .i64 a) ∧ X.cell? ⟨w3.heap.size, 0, none⟩ = some (.int .i64 kb) ∧ X.cell? ⟨w3.heap.size, 1, none⟩ = some (.int .i64 ab) ∧ Kp w w.heap.size w3.heap.size X) w4) := kept K3.out b4))
    have H5 : Hid (∀ (kk aa : Int) (W : World), (fun X => X.cell? ⟨w.heap.size, 0, none⟩ = some (.int .i64 k) ∧ X.cell? ⟨w.heap.size, 1, none⟩ = some (.int .i64 a) ∧ X.cell? ⟨w3.heap.size, 0, none⟩ = some (.int .i64 kb) ∧ X.cell? ⟨w3.heap.size, 1, none⟩ = some (.int .i64 ab) ∧ Kp w w.heap.size w3.heap.size X) W → Calls Try.prog 12 #[.agg #[.int .i64 kk, .int .i64 aa]] W fun e w' => e = .returned (.bool (rightB kk aa)) ∧ (fun X => X.cell? ⟨w.heap.size, 0, none⟩ = some (.int .i64 k) ∧ X.cell? ⟨w.heap.size, 1, none⟩ = some (.int .i64 a) ∧ X.cell? ⟨w3.heap.size, 0, none⟩ = some (.int .i64 kb) ∧ X.cell? ⟨w3.heap.size, 1, none⟩ = some (.int .i64 ab) ∧ Kp w w.heap.size w3.heap.size X) w') := fun kk aa W hS => (right_any kk aa W).mono fun e w' h => ⟨h.1, kept hS h.2⟩
    have H6 : Hid (∀ (W : World), (fun X => X.cell? ⟨w.heap.size, 0, none⟩ = some (.int .i64 k) ∧ X.cell? ⟨w.heap.size, 1, none⟩ = some (.int .i64 a) ∧ X.cell? ⟨w3.heap.size, 0, none⟩ = some (.int .i64 kb) ∧ X.cell? ⟨w3.heap.size, 1, none⟩ = some (.int .i64 ab) ∧ Kp w w.heap.size w3.heap.size X) W → Calls Try.prog 14 #[.int .u32 vb] W fun e w' => e = .returned (.agg #[.int .i64 kb, .int .i64 ab]) ∧ (fun X => X.cell? ⟨w.heap.size, 0, none⟩ = some (.int .i64 k) ∧ X.cell? ⟨w.heap.size, 1, none⟩ = some (.int .i64 a) ∧ X.cell? ⟨w3.heap.size, 0, none⟩ = some (.int .i64 kb) ∧ X.cell? ⟨w3.heap.size, 1, none⟩ = some (.int .i64 ab) ∧ Kp w w.heap.size w3.heap.size X) w') := fun W hS => (H4.out W).mono fun e w' h => ⟨h.1, kept hS h.2⟩
    have HBB : Hid (∀ X, (fun X => X.cell? ⟨w.heap.size, 0, none⟩ = some (.int .i64 k) ∧ X.cell? ⟨w.heap.size, 1, none⟩ = some (.int .i64 a) ∧ X.cell? ⟨w3.heap.size, 0, none⟩ = some (.int .i64 kb) ∧ X.cell? ⟨w3.heap.size, 1, none⟩ = some (.int .i64 ab) ∧ Kp w w.heap.size w3.heap.size X) X → Below w.heap.size w X) := fun X h => h.2.2.2.2.2.2
    have hS0 := kept K4.out (Below.refl _ _).drew
    dsimp only at H5 H6 HBB
    clear H1 H2 H3 H4 HW K3 K4 b3 b4 B3
    go_region_held3 (fun X => X.cell? ⟨w.heap.size, 0, none⟩ = some (.int .i64 k) ∧ X.cell? ⟨w.heap.size, 1, none⟩ = some (.int .i64 a) ∧ X.cell? ⟨w3.heap.size, 0, none⟩ = some (.int .i64 kb) ∧ X.cell? ⟨w3.heap.size, 1, none⟩ = some (.int .i64 ab) ∧ Kp w w.heap.size w3.heap.size X) (first | assumption | go_keep) (first | (go_at_call 12; refine (H5.out _ _ _ (by assumption)).mono ?_; rintro e w5 ⟨rfl, hS5⟩) | (go_at_call 14; refine (H6.out _ (by assumption)).mono ?_; rintro e w6 ⟨rfl, hS6⟩))
    all_goals
      have hb9 := HBB.out _ (by assumption)
      go_wp2
      go_ret
      exact ⟨rfl, hb9⟩

set_option maxHeartbeats 4000000 in
theorem actBack_false (k a v : Int) (w : World) (hv : U32 v) (hra : rightB k a = false) :
    Calls Try.prog 6 #[.agg #[.int .i64 k, .int .i64 a], .int .u32 v] w fun e w' => e = .returned (.bool true) ∧ Below w.heap.size w w' := by
  have HW : Hid (∀ W : World, Calls Try.prog 9 #[] W fun e w' => e = .returned (.bool true) ∧ Below W.heap.size W w') := awake_any
  have H1 : Hid (∀ W : World, Calls Try.prog 10 #[.agg #[.int .i64 k, .int .i64 a]] W fun e w' => e = .returned (.tuple #[.int .u32 (valZ k a), .int .i64 1]) ∧ Below W.heap.size W w') := fun W => (err_wrong hra) ▸ value_any k a W
  have H2 : Hid (∀ W : World, Calls Try.prog 14 #[.int .u32 v] W fun e w' => e = .returned (.agg #[.int .i64 (ki v), .int .i64 (ar v)]) ∧ Below W.heap.size W w') := fun W => of_any v W hv
  have hrb := right_of v
  obtain ⟨k1, k2, k3⟩ := back hrb
  have H3 : Hid (∀ W : World, Calls Try.prog 10 #[.agg #[.int .i64 (ki v), .int .i64 (ar v)]] W fun e w' => e = .returned (.tuple #[.int .u32 (valZ (ki v) (ar v)), .int .i64 0]) ∧ Below W.heap.size W w') := fun W => (err_right hrb) ▸ value_any (ki v) (ar v) W
  have H4 : Hid (∀ W : World, Calls Try.prog 14 #[.int .u32 (valZ (ki v) (ar v))] W fun e w' => e = .returned (.agg #[.int .i64 (ki v), .int .i64 (ar v)]) ∧ Below W.heap.size W w') := by
    intro W
    have := of_any _ W k3
    rw [k1, k2] at this
    exact this
  clear k1 k2 k3 hv
  generalize valZ (ki v) (ar v) = vb at *
  generalize ki v = kb at *
  generalize ar v = ab at *
  have hqb : ∀ W : World, (Op.equalIn 10000 23 (.agg #[.int .i64 kb, .int .i64 ab]) (.agg #[.int .i64 kb, .int .i64 ab])).run Try.prog W = .ok true W := fun W => by rw [equalIn_act, sameA_self]
  have HB0 : Hid (Box w w.heap.size k a (w.alloc (Obj.cells #[.int .i64 k, .int .i64 a] 23))) := box_new w k a
  generalize valZ k a = va at *
  go_enter Try.func6, Try.ntmps6
  go_wp2_with (first | (go_at_call 9; refine (HW.out _).mono ?_; rintro e w1 ⟨rfl, b1⟩; have B1 : Hid (Box w w.heap.size k a w1) := HB0.out.over b1; have q0 := B1.out.1; have q1 := B1.out.2.1) | (go_at_call 10; refine (H1.out _).mono ?_; rintro e w2 ⟨rfl, b2⟩; have B2 : Hid (Box w w.heap.size k a w2) := B1.out.over b2))
  clear q0 q1 b1 b2 B1
  go_quiet (fail)
  go_wp2_with (first | (go_at_call 14; refine (H2.out _).mono ?_; rintro e w3 ⟨rfl, b3⟩; have B3 : Hid (Box w w.heap.size k a w3) := (B2.out.over (below_drewN _ _)).over b3; have K3 : Hid ((fun X => X.cell? ⟨w.heap.size, 0, none⟩ = some (.int .i64 k) ∧ X.cell? ⟨w.heap.size, 1, none⟩ = some (.int .i64 a) ∧ X.cell? ⟨w3.heap.size, 0, none⟩ = some (.int .i64 kb) ∧ X.cell? ⟨w3.heap.size, 1, none⟩ = some (.int .i64 ab) ∧ Kp w w.heap.size w3.heap.size X) (w3.alloc (Obj.cells #[.int .i64 kb, .int .i64 ab] 23))) := kept_new B3.out kb ab) | (go_at_call 10; refine (H3.out _).mono ?_; rintro e w4 ⟨rfl, b4⟩; have K4 : Hid ((fun X => X.cell? ⟨w.heap.size, 0, none⟩ = some (.int .i64 k) ∧ X.cell? ⟨w.heap.size, 1, none⟩ = some (.int .i64 a) ∧ X.cell? ⟨w3.heap.size, 0, none⟩ = some (.int .i64 kb) ∧ X.cell? ⟨w3.heap.size, 1, none⟩ = some (.int .i64 ab) ∧ Kp w w.heap.size w3.heap.size X) w4) := kept K3.out b4))
  have H5 : Hid (∀ (kk aa : Int) (W : World), (fun X => X.cell? ⟨w.heap.size, 0, none⟩ = some (.int .i64 k) ∧ X.cell? ⟨w.heap.size, 1, none⟩ = some (.int .i64 a) ∧ X.cell? ⟨w3.heap.size, 0, none⟩ = some (.int .i64 kb) ∧ X.cell? ⟨w3.heap.size, 1, none⟩ = some (.int .i64 ab) ∧ Kp w w.heap.size w3.heap.size X) W → Calls Try.prog 12 #[.agg #[.int .i64 kk, .int .i64 aa]] W fun e w' => e = .returned (.bool (rightB kk aa)) ∧ (fun X => X.cell? ⟨w.heap.size, 0, none⟩ = some (.int .i64 k) ∧ X.cell? ⟨w.heap.size, 1, none⟩ = some (.int .i64 a) ∧ X.cell? ⟨w3.heap.size, 0, none⟩ = some (.int .i64 kb) ∧ X.cell? ⟨w3.heap.size, 1, none⟩ = some (.int .i64 ab) ∧ Kp w w.heap.size w3.heap.size X) w') := fun kk aa W hS => (right_any kk aa W).mono fun e w' h => ⟨h.1, kept hS h.2⟩
  have H6 : Hid (∀ (W : World), (fun X => X.cell? ⟨w.heap.size, 0, none⟩ = some (.int .i64 k) ∧ X.cell? ⟨w.heap.size, 1, none⟩ = some (.int .i64 a) ∧ X.cell? ⟨w3.heap.size, 0, none⟩ = some (.int .i64 kb) ∧ X.cell? ⟨w3.heap.size, 1, none⟩ = some (.int .i64 ab) ∧ Kp w w.heap.size w3.heap.size X) W → Calls Try.prog 14 #[.int .u32 vb] W fun e w' => e = .returned (.agg #[.int .i64 kb, .int .i64 ab]) ∧ (fun X => X.cell? ⟨w.heap.size, 0, none⟩ = some (.int .i64 k) ∧ X.cell? ⟨w.heap.size, 1, none⟩ = some (.int .i64 a) ∧ X.cell? ⟨w3.heap.size, 0, none⟩ = some (.int .i64 kb) ∧ X.cell? ⟨w3.heap.size, 1, none⟩ = some (.int .i64 ab) ∧ Kp w w.heap.size w3.heap.size X) w') := fun W hS => (H4.out W).mono fun e w' h => ⟨h.1, kept hS h.2⟩
  have HBB : Hid (∀ X, (fun X => X.cell? ⟨w.heap.size, 0, none⟩ = some (.int .i64 k) ∧ X.cell? ⟨w.heap.size, 1, none⟩ = some (.int .i64 a) ∧ X.cell? ⟨w3.heap.size, 0, none⟩ = some (.int .i64 kb) ∧ X.cell? ⟨w3.heap.size, 1, none⟩ = some (.int .i64 ab) ∧ Kp w w.heap.size w3.heap.size X) X → Below w.heap.size w X) := fun X h => h.2.2.2.2.2.2
  have hS0 := kept K4.out (Below.refl _ _).drew
  dsimp only at H5 H6 HBB
  clear H1 H2 H3 H4 HW K3 K4 b3 b4 B3
  go_region_held3 (fun X => X.cell? ⟨w.heap.size, 0, none⟩ = some (.int .i64 k) ∧ X.cell? ⟨w.heap.size, 1, none⟩ = some (.int .i64 a) ∧ X.cell? ⟨w3.heap.size, 0, none⟩ = some (.int .i64 kb) ∧ X.cell? ⟨w3.heap.size, 1, none⟩ = some (.int .i64 ab) ∧ Kp w w.heap.size w3.heap.size X) (first | assumption | go_keep) (first | (go_at_call 12; refine (H5.out _ _ _ (by assumption)).mono ?_; rintro e w5 ⟨rfl, hS5⟩) | (go_at_call 14; refine (H6.out _ (by assumption)).mono ?_; rintro e w6 ⟨rfl, hS6⟩))
  all_goals
    have hb9 := HBB.out _ (by assumption)
    go_wp2
    go_ret
    exact ⟨rfl, hb9⟩

theorem actBack_walk (k a v : Int) (w : World) (hv : U32 v) :
    Calls Try.prog 6 #[.agg #[.int .i64 k, .int .i64 a], .int .u32 v] w fun e w' => e = .returned (.bool true) ∧ Below w.heap.size w w' := by
  by_cases h : rightB k a = true
  · exact actBack_true k a v w hv h
  · exact actBack_false k a v w hv (by simpa using h)

end Go.Proofs.Ytaipnnbpmpdnfaa
