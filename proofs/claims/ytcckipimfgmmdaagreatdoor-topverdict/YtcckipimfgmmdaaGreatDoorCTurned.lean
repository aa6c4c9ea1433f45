/-
  The form that holds where another one does not: proved of every form.
-/
import Derived.Test.YtcckipimfgmmdaaGreatDoorCForm
import Derived.Deep.RegionHeld3
namespace Go.Proofs.YtcckipimfgmmdaaGreatDoor.C
open Go.RowKit

/-- a form in a box of its own, room for another one behind it, and all that was there stands. -/
def Kn (w : World) (n : No) (X : World) : Prop := Blk X w.heap.size 239 n.cells ∧ Blk X (w.heap.size + 1) 239 [.bool false, .bool false, .bool false, .int .i64 0, .int .u64 0, .int .u64 0] ∧ Below w.heap.size w X

theorem Kn.over {w X Y : World} {n : No} (h : Kn w n X) (hb : Below X.heap.size X Y) : Kn w n Y := ⟨h.1.over hb, h.2.1.over hb, h.2.2.trans (hb.mono h.2.2.size)⟩

theorem Kn.all {w X : World} {b0 b1 b2 : Bool} {o m v : Int} (h : Kn w ⟨b0, b1, b2, o, m, v⟩ X) : (fun X => X.cell? ⟨w.heap.size, 0, none⟩ = some (.bool b0) ∧ X.cell? ⟨w.heap.size, 1, none⟩ = some (.bool b1) ∧ X.cell? ⟨w.heap.size, 2, none⟩ = some (.bool b2) ∧ X.cell? ⟨w.heap.size, 3, none⟩ = some (.int .i64 o) ∧ X.cell? ⟨w.heap.size, 4, none⟩ = some (.int .u64 m) ∧ X.cell? ⟨w.heap.size, 5, none⟩ = some (.int .u64 v) ∧ Kn w ⟨b0, b1, b2, o, m, v⟩ X) X := ⟨h.1.cell 0, h.1.cell 1, h.1.cell 2, h.1.cell 3, h.1.cell 4, h.1.cell 5, h⟩

theorem kn_new (w : World) (b0 b1 b2 : Bool) (o m v : Int) : Kn w ⟨b0, b1, b2, o, m, v⟩ ((w.alloc (Obj.cells #[.bool b0, .bool b1, .bool b2, .int .i64 o, .int .u64 m, .int .u64 v] 239)).alloc (Obj.cells #[.bool false, .bool false, .bool false, .int .i64 0, .int .u64 0, .int .u64 0] 239)) :=
  ⟨(blk_new w _ 239).alloc _, room w _ 239, room_below w _ _⟩

set_option maxHeartbeats 800000 in
theorem turned_always (w : World) :
    Calls Tryz.prog 188 #[(.agg #[.bool true, .bool false, .bool false, .int .i64 0, .int .u64 0, .int .u64 0])] w fun e w' => e = .returned never.val ∧ Below w.heap.size w w' := by
  have HK : Hid (Kn w always ((w.alloc (Obj.cells #[.bool true, .bool false, .bool false, .int .i64 0, .int .u64 0, .int .u64 0] 239)).alloc (Obj.cells #[.bool false, .bool false, .bool false, .int .i64 0, .int .u64 0, .int .u64 0] 239))) := kn_new w true false false 0 0 0
  have hS0 := (HK.out.over (Below.refl _ _).drew).all
  have HA : Hid (∀ W : World, (fun X => X.cell? ⟨w.heap.size, 0, none⟩ = some (.bool true) ∧ X.cell? ⟨w.heap.size, 1, none⟩ = some (.bool false) ∧ X.cell? ⟨w.heap.size, 2, none⟩ = some (.bool false) ∧ X.cell? ⟨w.heap.size, 3, none⟩ = some (.int .i64 0) ∧ X.cell? ⟨w.heap.size, 4, none⟩ = some (.int .u64 0) ∧ X.cell? ⟨w.heap.size, 5, none⟩ = some (.int .u64 0) ∧ Kn w always X) W → Calls Tryz.prog 195 #[] W fun e w' => e = .returned (.agg #[.bool true, .bool false, .bool false, .int .i64 0, .int .u64 0, .int .u64 0]) ∧ (fun X => X.cell? ⟨w.heap.size, 0, none⟩ = some (.bool true) ∧ X.cell? ⟨w.heap.size, 1, none⟩ = some (.bool false) ∧ X.cell? ⟨w.heap.size, 2, none⟩ = some (.bool false) ∧ X.cell? ⟨w.heap.size, 3, none⟩ = some (.int .i64 0) ∧ X.cell? ⟨w.heap.size, 4, none⟩ = some (.int .u64 0) ∧ X.cell? ⟨w.heap.size, 5, none⟩ = some (.int .u64 0) ∧ Kn w always X) w') := fun W hS => (always_any W).mono fun e w' h => ⟨h.1, (hS.2.2.2.2.2.2.over h.2).all⟩
  have HN : Hid (∀ W : World, Calls Tryz.prog 184 #[] W fun e w' => e = .returned (.agg #[.bool false, .bool true, .bool false, .int .i64 0, .int .u64 0, .int .u64 0]) ∧ Below W.heap.size W w') := never_any
  have hq : ∀ W : World, (Op.equalIn 10000 239 (.agg #[.bool true, .bool false, .bool false, .int .i64 0, .int .u64 0, .int .u64 0]) (.agg #[.bool true, .bool false, .bool false, .int .i64 0, .int .u64 0, .int .u64 0])).run Tryz.prog W = .ok true W := fun W => equalIn_no always always W
  have HKn : Hid (∀ X, (fun X => X.cell? ⟨w.heap.size, 0, none⟩ = some (.bool true) ∧ X.cell? ⟨w.heap.size, 1, none⟩ = some (.bool false) ∧ X.cell? ⟨w.heap.size, 2, none⟩ = some (.bool false) ∧ X.cell? ⟨w.heap.size, 3, none⟩ = some (.int .i64 0) ∧ X.cell? ⟨w.heap.size, 4, none⟩ = some (.int .u64 0) ∧ X.cell? ⟨w.heap.size, 5, none⟩ = some (.int .u64 0) ∧ Kn w always X) X → Kn w always X) := fun X h => h.2.2.2.2.2.2
  dsimp only at HA HKn hS0
  go_enter Tryz.func188, Tryz.ntmps188
  go_wp2
  go_region_held3 (fun X => X.cell? ⟨w.heap.size, 0, none⟩ = some (.bool true) ∧ X.cell? ⟨w.heap.size, 1, none⟩ = some (.bool false) ∧ X.cell? ⟨w.heap.size, 2, none⟩ = some (.bool false) ∧ X.cell? ⟨w.heap.size, 3, none⟩ = some (.int .i64 0) ∧ X.cell? ⟨w.heap.size, 4, none⟩ = some (.int .u64 0) ∧ X.cell? ⟨w.heap.size, 5, none⟩ = some (.int .u64 0) ∧ Kn w always X) (first | assumption | go_keep) (first | (go_at_call 195; refine (HA.out _ (by assumption)).mono ?_; rintro e w5 ⟨rfl, hS5⟩))
  all_goals
    have hk : Hid (Kn w always _) := HKn.out _ (by assumption)
    go_wp2_with (first | (go_at_call 184; refine (HN.out _).mono ?_; rintro e w1 ⟨rfl, b1⟩; have K1 : Hid (Kn w always w1) := hk.out.over b1) | (refine at_op (.store 239 (.tmp 2) (.tmp 6)) rfl ?_; refine wpList_store_row rfl 239 (.tmp 2) (.tmp 6) rfl (w.heap.size + 1) never.cells.toArray rfl rfl 239 _ K1.out.2.1 (no_size _) rfl (no_one _) ?_))
    refine bodyPost_ret (v := never.val) ?_ rfl ⟨rfl, ?_⟩
    · exact results_cell_row Tryz.results188 _ _ (w.heap.size + 1) 239 never.cells.toArray (0, 0) _ rfl (Blk.row K1.out.2.1 _) Tryz.underlying239 rfl (no_size _)
    · exact below_setRow K1.out.2.2 (Nat.le_succ _) _


set_option maxHeartbeats 800000 in
theorem turned_never (w : World) :
    Calls Tryz.prog 188 #[(.agg #[.bool false, .bool true, .bool false, .int .i64 0, .int .u64 0, .int .u64 0])] w fun e w' => e = .returned always.val ∧ Below w.heap.size w w' := by
  have HK : Hid (Kn w never ((w.alloc (Obj.cells #[.bool false, .bool true, .bool false, .int .i64 0, .int .u64 0, .int .u64 0] 239)).alloc (Obj.cells #[.bool false, .bool false, .bool false, .int .i64 0, .int .u64 0, .int .u64 0] 239))) := kn_new w false true false 0 0 0
  have hS0 := (HK.out.over (Below.refl _ _).drew).all
  have HA : Hid (∀ W : World, (fun X => X.cell? ⟨w.heap.size, 0, none⟩ = some (.bool false) ∧ X.cell? ⟨w.heap.size, 1, none⟩ = some (.bool true) ∧ X.cell? ⟨w.heap.size, 2, none⟩ = some (.bool false) ∧ X.cell? ⟨w.heap.size, 3, none⟩ = some (.int .i64 0) ∧ X.cell? ⟨w.heap.size, 4, none⟩ = some (.int .u64 0) ∧ X.cell? ⟨w.heap.size, 5, none⟩ = some (.int .u64 0) ∧ Kn w never X) W → Calls Tryz.prog 195 #[] W fun e w' => e = .returned (.agg #[.bool true, .bool false, .bool false, .int .i64 0, .int .u64 0, .int .u64 0]) ∧ (fun X => X.cell? ⟨w.heap.size, 0, none⟩ = some (.bool false) ∧ X.cell? ⟨w.heap.size, 1, none⟩ = some (.bool true) ∧ X.cell? ⟨w.heap.size, 2, none⟩ = some (.bool false) ∧ X.cell? ⟨w.heap.size, 3, none⟩ = some (.int .i64 0) ∧ X.cell? ⟨w.heap.size, 4, none⟩ = some (.int .u64 0) ∧ X.cell? ⟨w.heap.size, 5, none⟩ = some (.int .u64 0) ∧ Kn w never X) w') := fun W hS => (always_any W).mono fun e w' h => ⟨h.1, (hS.2.2.2.2.2.2.over h.2).all⟩
  have HN : Hid (∀ W : World, (fun X => X.cell? ⟨w.heap.size, 0, none⟩ = some (.bool false) ∧ X.cell? ⟨w.heap.size, 1, none⟩ = some (.bool true) ∧ X.cell? ⟨w.heap.size, 2, none⟩ = some (.bool false) ∧ X.cell? ⟨w.heap.size, 3, none⟩ = some (.int .i64 0) ∧ X.cell? ⟨w.heap.size, 4, none⟩ = some (.int .u64 0) ∧ X.cell? ⟨w.heap.size, 5, none⟩ = some (.int .u64 0) ∧ Kn w never X) W → Calls Tryz.prog 184 #[] W fun e w' => e = .returned (.agg #[.bool false, .bool true, .bool false, .int .i64 0, .int .u64 0, .int .u64 0]) ∧ (fun X => X.cell? ⟨w.heap.size, 0, none⟩ = some (.bool false) ∧ X.cell? ⟨w.heap.size, 1, none⟩ = some (.bool true) ∧ X.cell? ⟨w.heap.size, 2, none⟩ = some (.bool false) ∧ X.cell? ⟨w.heap.size, 3, none⟩ = some (.int .i64 0) ∧ X.cell? ⟨w.heap.size, 4, none⟩ = some (.int .u64 0) ∧ X.cell? ⟨w.heap.size, 5, none⟩ = some (.int .u64 0) ∧ Kn w never X) w') := fun W hS => (never_any W).mono fun e w' h => ⟨h.1, (hS.2.2.2.2.2.2.over h.2).all⟩
  have HA2 : Hid (∀ W : World, Calls Tryz.prog 195 #[] W fun e w' => e = .returned (.agg #[.bool true, .bool false, .bool false, .int .i64 0, .int .u64 0, .int .u64 0]) ∧ Below W.heap.size W w') := always_any
  have hq : ∀ W : World, (Op.equalIn 10000 239 (.agg #[.bool false, .bool true, .bool false, .int .i64 0, .int .u64 0, .int .u64 0]) (.agg #[.bool true, .bool false, .bool false, .int .i64 0, .int .u64 0, .int .u64 0])).run Tryz.prog W = .ok false W := fun W => equalIn_no never always W
  have hq2 : ∀ W : World, (Op.equalIn 10000 239 (.agg #[.bool false, .bool true, .bool false, .int .i64 0, .int .u64 0, .int .u64 0]) (.agg #[.bool false, .bool true, .bool false, .int .i64 0, .int .u64 0, .int .u64 0])).run Tryz.prog W = .ok true W := fun W => equalIn_no never never W
  have HKn : Hid (∀ X, (fun X => X.cell? ⟨w.heap.size, 0, none⟩ = some (.bool false) ∧ X.cell? ⟨w.heap.size, 1, none⟩ = some (.bool true) ∧ X.cell? ⟨w.heap.size, 2, none⟩ = some (.bool false) ∧ X.cell? ⟨w.heap.size, 3, none⟩ = some (.int .i64 0) ∧ X.cell? ⟨w.heap.size, 4, none⟩ = some (.int .u64 0) ∧ X.cell? ⟨w.heap.size, 5, none⟩ = some (.int .u64 0) ∧ Kn w never X) X → Kn w never X) := fun X h => h.2.2.2.2.2.2
  have HKd : Hid (∀ X, Kn w never X → (fun X => X.cell? ⟨w.heap.size, 0, none⟩ = some (.bool false) ∧ X.cell? ⟨w.heap.size, 1, none⟩ = some (.bool true) ∧ X.cell? ⟨w.heap.size, 2, none⟩ = some (.bool false) ∧ X.cell? ⟨w.heap.size, 3, none⟩ = some (.int .i64 0) ∧ X.cell? ⟨w.heap.size, 4, none⟩ = some (.int .u64 0) ∧ X.cell? ⟨w.heap.size, 5, none⟩ = some (.int .u64 0) ∧ Kn w never X) X.drew) := fun X h => (h.over (Below.refl _ _).drew).all
  dsimp only at HA HN HKn HKd hS0
  go_enter Tryz.func188, Tryz.ntmps188
  go_wp2
  go_region_held3 (fun X => X.cell? ⟨w.heap.size, 0, none⟩ = some (.bool false) ∧ X.cell? ⟨w.heap.size, 1, none⟩ = some (.bool true) ∧ X.cell? ⟨w.heap.size, 2, none⟩ = some (.bool false) ∧ X.cell? ⟨w.heap.size, 3, none⟩ = some (.int .i64 0) ∧ X.cell? ⟨w.heap.size, 4, none⟩ = some (.int .u64 0) ∧ X.cell? ⟨w.heap.size, 5, none⟩ = some (.int .u64 0) ∧ Kn w never X) (first | assumption | go_keep) (first | (go_at_call 195; refine (HA.out _ (by assumption)).mono ?_; rintro e w5 ⟨rfl, hS5⟩))
  all_goals
    have hS1 := HKd.out _ (HKn.out _ (by assumption))
    clear hS0
    go_wp2
    go_region_held3 (fun X => X.cell? ⟨w.heap.size, 0, none⟩ = some (.bool false) ∧ X.cell? ⟨w.heap.size, 1, none⟩ = some (.bool true) ∧ X.cell? ⟨w.heap.size, 2, none⟩ = some (.bool false) ∧ X.cell? ⟨w.heap.size, 3, none⟩ = some (.int .i64 0) ∧ X.cell? ⟨w.heap.size, 4, none⟩ = some (.int .u64 0) ∧ X.cell? ⟨w.heap.size, 5, none⟩ = some (.int .u64 0) ∧ Kn w never X) (first | assumption | go_keep) (first | (go_at_call 184; refine (HN.out _ (by assumption)).mono ?_; rintro e w6 ⟨rfl, hS6⟩))
    all_goals
      have hk : Hid (Kn w never _) := HKn.out _ (by assumption)
      go_wp2_with (first | (go_at_call 195; refine (HA2.out _).mono ?_; rintro e w1 ⟨rfl, b1⟩; have K1 : Hid (Kn w never w1) := hk.out.over b1) | (refine at_op (.store 239 (.tmp 2) (.tmp 10)) rfl ?_; refine wpList_store_row rfl 239 (.tmp 2) (.tmp 10) rfl (w.heap.size + 1) always.cells.toArray rfl rfl 239 _ K1.out.2.1 (no_size _) rfl (no_one _) ?_))
      refine bodyPost_ret (v := always.val) ?_ rfl ⟨rfl, ?_⟩
      · exact results_cell_row Tryz.results188 _ _ (w.heap.size + 1) 239 always.cells.toArray (0, 0) _ rfl (Blk.row K1.out.2.1 _) Tryz.underlying239 rfl (no_size _)
      · exact below_setRow K1.out.2.2 (Nat.le_succ _) _

set_option maxHeartbeats 800000 in
theorem turned_plain (b0 b1 b2 : Bool) (o m v : Int) (w : World) (ha : (No.mk b0 b1 b2 o m v).same always = false) (hn : (No.mk b0 b1 b2 o m v).same never = false) :
    Calls Tryz.prog 188 #[(.agg #[.bool b0, .bool b1, .bool b2, .int .i64 o, .int .u64 m, .int .u64 v])] w fun e w' => e = .returned (No.mk b0 b1 (!b2) o m v).val ∧ Below w.heap.size w w' := by
  have HK : Hid (Kn w ⟨b0, b1, b2, o, m, v⟩ ((w.alloc (Obj.cells #[.bool b0, .bool b1, .bool b2, .int .i64 o, .int .u64 m, .int .u64 v] 239)).alloc (Obj.cells #[.bool false, .bool false, .bool false, .int .i64 0, .int .u64 0, .int .u64 0] 239))) := kn_new w b0 b1 b2 o m v
  have hS0 := (HK.out.over (Below.refl _ _).drew).all
  have HA : Hid (∀ W : World, (fun X => X.cell? ⟨w.heap.size, 0, none⟩ = some (.bool b0) ∧ X.cell? ⟨w.heap.size, 1, none⟩ = some (.bool b1) ∧ X.cell? ⟨w.heap.size, 2, none⟩ = some (.bool b2) ∧ X.cell? ⟨w.heap.size, 3, none⟩ = some (.int .i64 o) ∧ X.cell? ⟨w.heap.size, 4, none⟩ = some (.int .u64 m) ∧ X.cell? ⟨w.heap.size, 5, none⟩ = some (.int .u64 v) ∧ Kn w ⟨b0, b1, b2, o, m, v⟩ X) W → Calls Tryz.prog 195 #[] W fun e w' => e = .returned (.agg #[.bool true, .bool false, .bool false, .int .i64 0, .int .u64 0, .int .u64 0]) ∧ (fun X => X.cell? ⟨w.heap.size, 0, none⟩ = some (.bool b0) ∧ X.cell? ⟨w.heap.size, 1, none⟩ = some (.bool b1) ∧ X.cell? ⟨w.heap.size, 2, none⟩ = some (.bool b2) ∧ X.cell? ⟨w.heap.size, 3, none⟩ = some (.int .i64 o) ∧ X.cell? ⟨w.heap.size, 4, none⟩ = some (.int .u64 m) ∧ X.cell? ⟨w.heap.size, 5, none⟩ = some (.int .u64 v) ∧ Kn w ⟨b0, b1, b2, o, m, v⟩ X) w') := fun W hS => (always_any W).mono fun e w' h => ⟨h.1, (hS.2.2.2.2.2.2.over h.2).all⟩
  have HN : Hid (∀ W : World, (fun X => X.cell? ⟨w.heap.size, 0, none⟩ = some (.bool b0) ∧ X.cell? ⟨w.heap.size, 1, none⟩ = some (.bool b1) ∧ X.cell? ⟨w.heap.size, 2, none⟩ = some (.bool b2) ∧ X.cell? ⟨w.heap.size, 3, none⟩ = some (.int .i64 o) ∧ X.cell? ⟨w.heap.size, 4, none⟩ = some (.int .u64 m) ∧ X.cell? ⟨w.heap.size, 5, none⟩ = some (.int .u64 v) ∧ Kn w ⟨b0, b1, b2, o, m, v⟩ X) W → Calls Tryz.prog 184 #[] W fun e w' => e = .returned (.agg #[.bool false, .bool true, .bool false, .int .i64 0, .int .u64 0, .int .u64 0]) ∧ (fun X => X.cell? ⟨w.heap.size, 0, none⟩ = some (.bool b0) ∧ X.cell? ⟨w.heap.size, 1, none⟩ = some (.bool b1) ∧ X.cell? ⟨w.heap.size, 2, none⟩ = some (.bool b2) ∧ X.cell? ⟨w.heap.size, 3, none⟩ = some (.int .i64 o) ∧ X.cell? ⟨w.heap.size, 4, none⟩ = some (.int .u64 m) ∧ X.cell? ⟨w.heap.size, 5, none⟩ = some (.int .u64 v) ∧ Kn w ⟨b0, b1, b2, o, m, v⟩ X) w') := fun W hS => (never_any W).mono fun e w' h => ⟨h.1, (hS.2.2.2.2.2.2.over h.2).all⟩
  have hq : ∀ W : World, (Op.equalIn 10000 239 (.agg #[.bool b0, .bool b1, .bool b2, .int .i64 o, .int .u64 m, .int .u64 v]) (.agg #[.bool true, .bool false, .bool false, .int .i64 0, .int .u64 0, .int .u64 0])).run Tryz.prog W = .ok false W := fun W => (equalIn_no ⟨b0, b1, b2, o, m, v⟩ always W).trans (by rw [ha])
  have hq2 : ∀ W : World, (Op.equalIn 10000 239 (.agg #[.bool b0, .bool b1, .bool b2, .int .i64 o, .int .u64 m, .int .u64 v]) (.agg #[.bool false, .bool true, .bool false, .int .i64 0, .int .u64 0, .int .u64 0])).run Tryz.prog W = .ok false W := fun W => (equalIn_no ⟨b0, b1, b2, o, m, v⟩ never W).trans (by rw [hn])
  have HKn : Hid (∀ X, (fun X => X.cell? ⟨w.heap.size, 0, none⟩ = some (.bool b0) ∧ X.cell? ⟨w.heap.size, 1, none⟩ = some (.bool b1) ∧ X.cell? ⟨w.heap.size, 2, none⟩ = some (.bool b2) ∧ X.cell? ⟨w.heap.size, 3, none⟩ = some (.int .i64 o) ∧ X.cell? ⟨w.heap.size, 4, none⟩ = some (.int .u64 m) ∧ X.cell? ⟨w.heap.size, 5, none⟩ = some (.int .u64 v) ∧ Kn w ⟨b0, b1, b2, o, m, v⟩ X) X → Kn w ⟨b0, b1, b2, o, m, v⟩ X) := fun X h => h.2.2.2.2.2.2
  have HKd : Hid (∀ X, Kn w ⟨b0, b1, b2, o, m, v⟩ X → (fun X => X.cell? ⟨w.heap.size, 0, none⟩ = some (.bool b0) ∧ X.cell? ⟨w.heap.size, 1, none⟩ = some (.bool b1) ∧ X.cell? ⟨w.heap.size, 2, none⟩ = some (.bool b2) ∧ X.cell? ⟨w.heap.size, 3, none⟩ = some (.int .i64 o) ∧ X.cell? ⟨w.heap.size, 4, none⟩ = some (.int .u64 m) ∧ X.cell? ⟨w.heap.size, 5, none⟩ = some (.int .u64 v) ∧ Kn w ⟨b0, b1, b2, o, m, v⟩ X) X.drew) := fun X h => (h.over (Below.refl _ _).drew).all
  dsimp only at HA HN HKn HKd hS0
  clear ha hn
  go_enter Tryz.func188, Tryz.ntmps188
  go_wp2
  go_region_held3 (fun X => X.cell? ⟨w.heap.size, 0, none⟩ = some (.bool b0) ∧ X.cell? ⟨w.heap.size, 1, none⟩ = some (.bool b1) ∧ X.cell? ⟨w.heap.size, 2, none⟩ = some (.bool b2) ∧ X.cell? ⟨w.heap.size, 3, none⟩ = some (.int .i64 o) ∧ X.cell? ⟨w.heap.size, 4, none⟩ = some (.int .u64 m) ∧ X.cell? ⟨w.heap.size, 5, none⟩ = some (.int .u64 v) ∧ Kn w ⟨b0, b1, b2, o, m, v⟩ X) (first | assumption | go_keep) (first | (go_at_call 195; refine (HA.out _ (by assumption)).mono ?_; rintro e w5 ⟨rfl, hS5⟩))
  all_goals
    have hS1 := HKd.out _ (HKn.out _ (by assumption))
    clear hS0
    go_wp2
    go_region_held3 (fun X => X.cell? ⟨w.heap.size, 0, none⟩ = some (.bool b0) ∧ X.cell? ⟨w.heap.size, 1, none⟩ = some (.bool b1) ∧ X.cell? ⟨w.heap.size, 2, none⟩ = some (.bool b2) ∧ X.cell? ⟨w.heap.size, 3, none⟩ = some (.int .i64 o) ∧ X.cell? ⟨w.heap.size, 4, none⟩ = some (.int .u64 m) ∧ X.cell? ⟨w.heap.size, 5, none⟩ = some (.int .u64 v) ∧ Kn w ⟨b0, b1, b2, o, m, v⟩ X) (first | assumption | go_keep) (first | (go_at_call 184; refine (HN.out _ (by assumption)).mono ?_; rintro e w6 ⟨rfl, hS6⟩))
    all_goals
      have hk : Hid (Kn w ⟨b0, b1, b2, o, m, v⟩ _) := HKn.out _ (by assumption)
      have c2 := hk.out.1.cell 2
      have f2 := hk.out.1.f 2
      go_wp2_with (first | (refine at_op (.load 239 (.tmp 1)) rfl ?_; refine wpList_load_row rfl 239 (.tmp 1) rfl w.heap.size rfl 239 (No.mk b0 b1 (!b2) o m v).cells.toArray (0, 0) _ (hk.out.1.set 2 (.bool (!b2))) Tryz.underlying239 rfl (no_size _) ?_) | (refine at_op (.store 239 (.tmp 2) (.tmp 15)) rfl ?_; refine wpList_store_row rfl 239 (.tmp 2) (.tmp 15) rfl (w.heap.size + 1) (No.mk b0 b1 (!b2) o m v).cells.toArray rfl rfl 239 _ (hk.out.2.1.other ⟨w.heap.size, 2, none⟩ (.bool (!b2)) (Nat.succ_ne_self _)) (no_size _) rfl (no_one _) ?_))
      refine bodyPost_ret (v := (No.mk b0 b1 (!b2) o m v).val) ?_ rfl ⟨rfl, ?_⟩
      · exact results_cell_row Tryz.results188 _ _ (w.heap.size + 1) 239 (No.mk b0 b1 (!b2) o m v).cells.toArray (0, 0) _ rfl (Blk.row (hk.out.2.1.other ⟨w.heap.size, 2, none⟩ (.bool (!b2)) (Nat.succ_ne_self _)) _) Tryz.underlying239 rfl (no_size _)
      · exact below_setRow (hk.out.2.2.setCell (p := ⟨w.heap.size, 2, none⟩) (Nat.le_refl _) _) (Nat.le_succ _) _

theorem turned_any (n : No) (w : World) :
    Calls Tryz.prog 188 #[n.val] w fun e w' => e = .returned (turn n).val ∧ Below w.heap.size w w' := by
  unfold turn
  by_cases ha : n.same always = true
  · rw [if_pos ha]
    obtain rfl := (No.same_iff _ _).1 ha
    exact turned_always w
  · rw [if_neg ha]
    by_cases hn : n.same never = true
    · rw [if_pos hn]
      obtain rfl := (No.same_iff _ _).1 hn
      exact turned_never w
    · rw [if_neg hn]
      obtain ⟨b0, b1, b2, o, m, v⟩ := n
      exact turned_plain b0 b1 b2 o m v w (by simpa using ha) (by simpa using hn)

end Go.Proofs.YtcckipimfgmmdaaGreatDoor.C
