/-
  Texts of this seat, joined: CTurned, CNot, CNorm, CIs.
-/
import Derived.Test.YtcckipimfgmmdaaGreatDoorGv19
import Derived.Deep.RegionHeld3

namespace Go.Proofs.YtcckipimfgmmdaaGreatDoor.C
open Go.RowKit

def Kn (w : World) (n : No) (X : World) : Prop := Blk X w.heap.size 239 n.cells ∧ Blk X (w.heap.size + 1) 239 [.bool false, .bool false, .bool false, .int .i64 0, .int .u64 0, .int .u64 0] ∧ Below w.heap.size w X

theorem Kn.over {w X Y : World} {n : No} (h : Kn w n X) (hb : Below X.heap.size X Y) : Kn w n Y := ⟨h.1.over hb, h.2.1.over hb, h.2.2.trans (hb.mono h.2.2.size)⟩

theorem Kn.all {w X : World} {b0 b1 b2 : Bool} {o m v : Int} (h : Kn w ⟨b0, b1, b2, o, m, v⟩ X) : (fun X => X.cell? ⟨w.heap.size, 0, none⟩ = some (.bool b0) ∧ X.cell? ⟨w.heap.size, 1, none⟩ = some (.bool b1) ∧ X.cell? ⟨w.heap.size, 2, none⟩ = some (.bool b2) ∧ X.cell? ⟨w.heap.size, 3, none⟩ = some (.int .i64 o) ∧ X.cell? ⟨w.heap.size, 4, none⟩ = some (.int .u64 m) ∧ X.cell? ⟨w.heap.size, 5, none⟩ = some (.int .u64 v) ∧ Kn w ⟨b0, b1, b2, o, m, v⟩ X) X := ⟨h.1.cell 0, h.1.cell 1, h.1.cell 2, h.1.cell 3, h.1.cell 4, h.1.cell 5, h⟩

theorem kn_new (w : World) (b0 b1 b2 : Bool) (o m v : Int) : Kn w ⟨b0, b1, b2, o, m, v⟩ ((w.alloc (Obj.cells #[.bool b0, .bool b1, .bool b2, .int .i64 o, .int .u64 m, .int .u64 v] 239)).alloc (Obj.cells #[.bool false, .bool false, .bool false, .int .i64 0, .int .u64 0, .int .u64 0] 239)) :=
  ⟨(blk_new w _ 239).alloc _, room w _ 239, room_below w _ _⟩

set_option maxHeartbeats 800000 in
theorem turned_always (w : World) :
    Calls Tryz.prog 188 #[(.agg #[.bool true, .bool false, .bool false, .int .i64 0, .int .u64 0, .int .u64 0])] w fun e w' => e = .returned never.val ∧ Below w.heap.size w w' := by
  have HK : Hid (Kn w always ((w.alloc (Obj.cells #[.bool true, .bool false, .bool false, .int .i64 0, .int .u64 0, .int .u64 0] 239)).alloc (Obj.cells #[.bool false, .bool false, .bool false, .int .i64 0, .int .u64 0, .int .u64 0] 239))) := kn_new w true false false 0 0 0
  have hS0 := (HK.out.over (Below.refl _ _).drew).all
  have HA : Hid (∀ W : World, (fun X => X.cell? ⟨w.heap.size, 0, none⟩ = some (.bool true) ∧ X.cell? ⟨w.heap.size, 1, none⟩ = some (.bool false) ∧ X.cell? ⟨w.heap.size, 2, none⟩ = some (.bool false) ∧ X.cell? ⟨w.heap.size, 3, none⟩ = some (.int .i64 0) ∧ X.cell? ⟨w.heap.size, 4, none⟩ = some (.int .u64 0) ∧ X.cell? ⟨w.heap.size, 5, none⟩ = some (.int .u64 0) ∧ Kn w always X) W → Calls Tryz.prog 195 #[] W fun e w' => e = .returned (.agg #[.bool true, .bool false, .bool false, .int .i64 0, .int .u64 0, .int .u64 0]) ∧ (fun X => X.cell? ⟨w.heap.size, 0, none⟩ = some (.bool true) ∧ X.cell? ⟨w.heap.size, 1, none⟩ = some (.bool false) ∧ X.cell? ⟨w.heap.size, 2, none⟩ = some (.bool false) ∧ X.cell? ⟨w.heap.size, 3, none⟩ = some (.int .i64 0) ∧ X.cell? ⟨w.heap.size, 4, none⟩ = some (.int .u64 0) ∧ X.cell? ⟨w.heap.size, 5, none⟩ = some (.int .u64 0) ∧ Kn w always X) w') := fun W hS => (always_any W).mono fun e w' h => ⟨h.1, (hS.2.2.2.2.2.2.over h.2).all⟩
  have HN : Hid (∀ W : World, Calls Tryz.prog 184 #[] W fun e w' => e = .returned (.agg #[.bool false, .bool true, .bool false, .int .i64 0, .int .u64 0, .int .u64 0]) ∧ Below W.heap.size W w') := never_any
  have hq : ∀ W : World, (Op.equalIn 10000 239 (.agg #[.bool true, .bool false, .bool false, .int .i64 0, .int .u64 0, .int .u64 0]) (.agg #[.bool true, .bool false, .bool false, .int .i64 0, .int .u64 0, .int .u64 0])).run Tryz.prog W = .ok true W := fun W => equalIn_no always always W
  have HKn : Hid (∀ X, (fun X => X.cell? ⟨w.heap.size, 0, none⟩ = some (.bool true) ∧ X.cell? ⟨w.heap.size, 1, none⟩ = some (.bool false) ∧ X.cell? ⟨w.heap.size, 2, none⟩ = some (.bool false) ∧ X.cell? ⟨w.heap.size, 3, none⟩ = some (.int .i64 0) ∧ X.cell? ⟨w.heap.size, 4, none⟩ = some (.int .u64 0) ∧ X.cell? ⟨w.heap.size, 5, none⟩ = some (.int .u64 0) ∧ Kn w always X) X → Kn w always X) := fun X h => h.2.2.2.2.2.2
  dsimp only at HA HKn hS0
  go_enter Tryz.func188, Tryz.ntmps188
  go_wp2
  go_region_held3 (fun X => X.cell? ⟨w.heap.size, 0, none⟩ = some (.bool true) ∧ X.cell? ⟨w.heap.size, 1, none⟩ = some (.bool false) ∧ X.cell? ⟨w.heap.size, 2, none⟩ = some (.bool false) ∧ X.cell? ⟨w.heap.size, 3, none⟩ = some (.int .i64 0) ∧ X.cell? ⟨w.heap.size, 4, none⟩ = some (.int .u64 0) ∧ X.cell? ⟨w.heap.size, 5, none⟩ = some (.int .u64 0) ∧ Kn w always X) (first | assumption | go_keep) (first | (go_at_call 195; refine (HA.out _ (by assumption)).mono ?_; rintro e w5 ⟨rfl, hS5⟩))
  all_goals
    have hk : Hid (Kn w always _) := HKn.out _ (by assumption)
    go_wp2_with (first | (go_at_call 184; refine (HN.out _).mono ?_; rintro e w1 ⟨rfl, b1⟩; have K1 : Hid (Kn w always w1) := hk.out.over b1) | (refine at_op (.store 239 (.tmp 2) (.tmp 6)) rfl ?_; refine wpList_store_row rfl 239 (.tmp 2) (.tmp 6) rfl (w.heap.size + 1) never.cells.toArray rfl rfl 239 _ K1.out.2.1 (no_size _) rfl (no_one _) ?_))
    refine bodyPost_ret (v := never.val) ?_ rfl ⟨rfl, ?_⟩
    · exact results_cell_row Tryz.results188 _ _ (w.heap.size + 1) 239 never.cells.toArray (0, 0) _ rfl (Blk.row K1.out.2.1 _) Tryz.underlying239 rfl (no_size _)
    · exact below_setRow K1.out.2.2 (Nat.le_succ _) _

set_option maxHeartbeats 800000 in
theorem turned_never (w : World) :
    Calls Tryz.prog 188 #[(.agg #[.bool false, .bool true, .bool false, .int .i64 0, .int .u64 0, .int .u64 0])] w fun e w' => e = .returned always.val ∧ Below w.heap.size w w' := by
  have HK : Hid (Kn w never ((w.alloc (Obj.cells #[.bool false, .bool true, .bool false, .int .i64 0, .int .u64 0, .int .u64 0] 239)).alloc (Obj.cells #[.bool false, .bool false, .bool false, .int .i64 0, .int .u64 0, .int .u64 0] 239))) := kn_new w false true false 0 0 0
  have hS0 := (HK.out.over (Below.refl _ _).drew).all
  have HA : Hid (∀ W : World, (fun X => X.cell? ⟨w.heap.size, 0, none⟩ = some (.bool false) ∧ X.cell? ⟨w.heap.size, 1, none⟩ = some (.bool true) ∧ X.cell? ⟨w.heap.size, 2, none⟩ = some (.bool false) ∧ X.cell? ⟨w.heap.size, 3, none⟩ = some (.int .i64 0) ∧ X.cell? ⟨w.heap.size, 4, none⟩ = some (.int .u64 0) ∧ X.cell? ⟨w.heap.size, 5, none⟩ = some (.int .u64 0) ∧ Kn w never X) W → Calls Tryz.prog 195 #[] W fun e w' => e = .returned (.agg #[.bool true, .bool false, .bool false, .int .i64 0, .int .u64 0, .int .u64 0]) ∧ (fun X => X.cell? ⟨w.heap.size, 0, none⟩ = some (.bool false) ∧ X.cell? ⟨w.heap.size, 1, none⟩ = some (.bool true) ∧ X.cell? ⟨w.heap.size, 2, none⟩ = some (.bool false) ∧ X.cell? ⟨w.heap.size, 3, none⟩ = some (.int .i64 0) ∧ X.cell? ⟨w.heap.size, 4, none⟩ = some (.int .u64 0) ∧ X.cell? ⟨w.heap.size, 5, none⟩ = some (.int .u64 0) ∧ Kn w never X) w') := fun W hS => (always_any W).mono fun e w' h => ⟨h.1, (hS.2.2.2.2.2.2.over h.2).all⟩
  have HN : Hid (∀ W : World, (fun X => X.cell? ⟨w.heap.size, 0, none⟩ = some (.bool false) ∧ X.cell? ⟨w.heap.size, 1, none⟩ = some (.bool true) ∧ X.cell? ⟨w.heap.size, 2, none⟩ = some (.bool false) ∧ X.cell? ⟨w.heap.size, 3, none⟩ = some (.int .i64 0) ∧ X.cell? ⟨w.heap.size, 4, none⟩ = some (.int .u64 0) ∧ X.cell? ⟨w.heap.size, 5, none⟩ = some (.int .u64 0) ∧ Kn w never X) W → Calls Tryz.prog 184 #[] W fun e w' => e = .returned (.agg #[.bool false, .bool true, .bool false, .int .i64 0, .int .u64 0, .int .u64 0]) ∧ (fun X => X.cell? ⟨w.heap.size, 0, none⟩ = some (.bool false) ∧ X.cell? ⟨w.heap.size, 1, none⟩ = some (.bool true) ∧ X.cell? ⟨w.heap.size, 2, none⟩ = some (.bool false) ∧ X.cell? ⟨w.heap.size, 3, none⟩ = some (.int .i64 0) ∧ X.cell? ⟨w.heap.size, 4, none⟩ = some (.int .u64 0) ∧ X.cell? ⟨w.heap.size, 5, none⟩ = some (.int .u64 0) ∧ Kn w never X) w') := fun W hS => (never_any W).mono fun e w' h => ⟨h.1, (hS.2.2.2.2.2.2.over h.2).all⟩
  have HA2 : Hid (∀ W : World, Calls Tryz.prog 195 #[] W fun e w' => e = .returned (.agg #[.bool true, .bool false, .bool false, .int .i64 0, .int .u64 0, .int .u64 0]) ∧ Below W.heap.size W w') := always_any
  have hq : ∀ W : World, (Op.equalIn 10000 239 (.agg #[.bool false, .bool true, .bool false, .int .i64 0, .int .u64 0, .int .u64 0]) (.agg #[.bool true, .bool false, .bool false, .int .i64 0, .int .u64 0, .int .u64 0])).run Tryz.prog W = .ok false W := fun W => equalIn_no never always W
  have hq2 : ∀ W : World, (Op.equalIn 10000 239 (.agg #[.bool false, .bool true, .bool false, .int .i64 0, .int .u64 0, .int .u64 0]) (.agg #[.bool false, .bool true, .bool false, .int .i64 0, .int .u64 0, .int .u64 0])).run Tryz.prog W = .ok true W := fun W => equalIn_no never never W
  have HKn : Hid (∀ X, (fun X => X.cell? ⟨w.heap.size, 0, none⟩ = some (.bool false) ∧ X.cell? ⟨w.heap.size, 1, none⟩ = some (.bool true) ∧ X.cell? ⟨w.heap.size, 2, none⟩ = some (.bool false) ∧ X.cell? ⟨w.heap.size, 3, none⟩ = some (.int .i64 0) ∧ X.cell? ⟨w.heap.size, 4, none⟩ = some (.int .u64 0) ∧ X.cell? ⟨w.heap.size, 5, none⟩ = some (.int .u64 0) ∧ Kn w never X) X → Kn w never X) := fun X h => h.2.2.2.2.2.2
  have HKd : Hid (∀ X, Kn w never X → (fun X => X.cell? ⟨w.heap.size, 0, none⟩ = some (.bool false) ∧ X.cell? ⟨w.heap.size, 1, none⟩ = some (.bool true) ∧ X.cell? ⟨w.heap.size, 2, none⟩ = some (.bool false) ∧ X.cell? ⟨w.heap.size, 3, none⟩ = some (.int .i64 0) ∧ X.cell? ⟨w.heap.size, 4, none⟩ = some (.int .u64 0) ∧ X.cell? ⟨w.heap.size, 5, none⟩ = some (.int .u64 0) ∧ Kn w never X) X.drew) := fun X h => (h.over (Below.refl _ _).drew).all
  dsimp only at HA HN HKn HKd hS0
  go_enter Tryz.func188, Tryz.ntmps188
  go_wp2
  go_region_held3 (fun X => X.cell? ⟨w.heap.size, 0, none⟩ = some (.bool false) ∧ X.cell? ⟨w.heap.size, 1, none⟩ = some (.bool true) ∧ X.cell? ⟨w.heap.size, 2, none⟩ = some (.bool false) ∧ X.cell? ⟨w.heap.size, 3, none⟩ = some (.int .i64 0) ∧ X.cell? ⟨w.heap.size, 4, none⟩ = some (.int .u64 0) ∧ X.cell? ⟨w.heap.size, 5, none⟩ = some (.int .u64 0) ∧ Kn w never X) (first | assumption | go_keep) (first | (go_at_call 195; refine (HA.out _ (by assumption)).mono ?_; rintro e w5 ⟨rfl, hS5⟩))
  all_goals
    have hS1 := HKd.out _ (HKn.out _ (by assumption))
    clear hS0
    go_wp2
    go_region_held3 (fun X => X.cell? ⟨w.heap.size, 0, none⟩ = some (.bool false) ∧ X.cell? ⟨w.heap.size, 1, none⟩ = some (.bool true) ∧ X.cell? ⟨w.heap.size, 2, none⟩ = some (.bool false) ∧ X.cell? ⟨w.heap.size, 3, none⟩ = some (.int .i64 0) ∧ X.cell? ⟨w.heap.size, 4, none⟩ = some (.int .u64 0) ∧ X.cell? ⟨w.heap.size, 5, none⟩ = some (.int .u64 0) ∧ Kn w never X) (first | assumption | go_keep) (first | (go_at_call 184; refine (HN.out _ (by assumption)).mono ?_; rintro e w6 ⟨rfl, hS6⟩))
    all_goals
      have hk : Hid (Kn w never _) := HKn.out _ (by assumption)
      go_wp2_with (first | (go_at_call 195; refine (HA2.out _).mono ?_; rintro e w1 ⟨rfl, b1⟩; have K1 : Hid (Kn w never w1) := hk.out.over b1) | (refine at_op (.store 239 (.tmp 2) (.tmp 10)) rfl ?_; refine wpList_store_row rfl 239 (.tmp 2) (.tmp 10) rfl (w.heap.size + 1) always.cells.toArray rfl rfl 239 _ K1.out.2.1 (no_size _) rfl (no_one _) ?_))
      refine bodyPost_ret (v := always.val) ?_ rfl ⟨rfl, ?_⟩
      · exact results_cell_row Tryz.results188 _ _ (w.heap.size + 1) 239 always.cells.toArray (0, 0) _ rfl (Blk.row K1.out.2.1 _) Tryz.underlying239 rfl (no_size _)
      · exact below_setRow K1.out.2.2 (Nat.le_succ _) _

set_option maxHeartbeats 800000 in
theorem turned_plain (b0 b1 b2 : Bool) (o m v : Int) (w : World) (ha : (No.mk b0 b1 b2 o m v).same always = false) (hn : (No.mk b0 b1 b2 o m v).same never = false) :
    Calls Tryz.prog 188 #[(.agg #[.bool b0, .bool b1, .bool b2, .int .i64 o, .int .u64 m, .int .u64 v])] w fun e w' => e = .returned (No.mk b0 b1 (!b2) o m v).val ∧ Below w.heap.size w w' := by
  have HK : Hid (Kn w ⟨b0, b1, b2, o, m, v⟩ ((w.alloc (Obj.cells #[.bool b0, .bool b1, .bool b2, .int .i64 o, .int .u64 m, .int .u64 v] 239)).alloc (Obj.cells #[.bool false, .bool false, .bool false, .int .i64 0, .int .u64 0, .int .u64 0] 239))) := kn_new w b0 b1 b2 o m v
  have hS0 := (HK.out.over (Below.refl _ _).drew).all
  have HA : Hid (∀ W : World, (fun X => X.cell? ⟨w.heap.size, 0, none⟩ = some (.bool b0) ∧ X.cell? ⟨w.heap.size, 1, none⟩ = some (.bool b1) ∧ X.cell? ⟨w.heap.size, 2, none⟩ = some (.bool b2) ∧ X.cell? ⟨w.heap.size, 3, none⟩ = some (.int .i64 o) ∧ X.cell? ⟨w.heap.size, 4, none⟩ = some (.int .u64 m) ∧ X.cell? ⟨w.heap.size, 5, none⟩ = some (.int .u64 v) ∧ Kn w ⟨b0, b1, b2, o, m, v⟩ X) W → Calls Tryz.prog 195 #[] W fun e w' => e = .returned (.agg #[.bool true, .bool false, .bool false, .int .i64 0, .int .u64 0, .int .u64 0]) ∧ (fun X => X.cell? ⟨w.heap.size, 0, none⟩ = some (.bool b0) ∧ X.cell? ⟨w.heap.size, 1, none⟩ = some (.bool b1) ∧ X.cell? ⟨w.heap.size, 2, none⟩ = some (.bool b2) ∧ X.cell? ⟨w.heap.size, 3, none⟩ = some (.int .i64 o) ∧ X.cell? ⟨w.heap.size, 4, none⟩ = some (.int .u64 m) ∧ X.cell? ⟨w.heap.size, 5, none⟩ = some (.int .u64 v) ∧ Kn w ⟨b0, b1, b2, o, m, v⟩ X) w') := fun W hS => (always_any W).mono fun e w' h => ⟨h.1, (hS.2.2.2.2.2.2.over h.2).all⟩
  have HN : Hid (∀ W : World, (fun X => X.cell? ⟨w.heap.size, 0, none⟩ = some (.bool b0) ∧ X.cell? ⟨w.heap.size, 1, none⟩ = some (.bool b1) ∧ X.cell? ⟨w.heap.size, 2, none⟩ = some (.bool b2) ∧ X.cell? ⟨w.heap.size, 3, none⟩ = some (.int .i64 o) ∧ X.cell? ⟨w.heap.size, 4, none⟩ = some (.int .u64 m) ∧ X.cell? ⟨w.heap.size, 5, none⟩ = some (.int .u64 v) ∧ Kn w ⟨b0, b1, b2, o, m, v⟩ X) W → Calls Tryz.prog 184 #[] W fun e w' => e = .returned (.agg #[.bool false, .bool true, .bool false, .int .i64 0, .int .u64 0, .int .u64 0]) ∧ (fun X => X.cell? ⟨w.heap.size, 0, none⟩ = some (.bool b0) ∧ X.cell? ⟨w.heap.size, 1, none⟩ = some (.bool b1) ∧ X.cell? ⟨w.heap.size, 2, none⟩ = some (.bool b2) ∧ X.cell? ⟨w.heap.size, 3, none⟩ = some (.int .i64 o) ∧ X.cell? ⟨w.heap.size, 4, none⟩ = some (.int .u64 m) ∧ X.cell? ⟨w.heap.size, 5, none⟩ = some (.int .u64 v) ∧ Kn w ⟨b0, b1, b2, o, m, v⟩ X) w') := fun W hS => (never_any W).mono fun e w' h => ⟨h.1, (hS.2.2.2.2.2.2.over h.2).all⟩
  have hq : ∀ W : World, (Op.equalIn 10000 239 (.agg #[.bool b0, .bool b1, .bool b2, .int .i64 o, .int .u64 m, .int .u64 v]) (.agg #[.bool true, .bool false, .bool false, .int .i64 0, .int .u64 0, .int .u64 0])).run Tryz.prog W = .ok false W := fun W => (equalIn_no ⟨b0, b1, b2, o, m, v⟩ always W).trans (by rw [ha])
  have hq2 : ∀ W : World, (Op.equalIn 10000 239 (.agg #[.bool b0, .bool b1, .bool b2, .int .i64 o, .int .u64 m, .int .u64 v]) (.agg #[.bool false, .bool true, .bool false, .int .i64 0, .int .u64 0, .int .u64 0])).run Tryz.prog W = .ok false W := fun W => (equalIn_no ⟨b0, b1, b2, o, m, v⟩ never W).trans (by rw [hn])
  have HKn : Hid (∀ X, (fun X => X.cell? ⟨w.heap.size, 0, none⟩ = some (.bool b0) ∧ X.cell? ⟨w.heap.size, 1, none⟩ = some (.bool b1) ∧ X.cell? ⟨w.heap.size, 2, none⟩ = some (.bool b2) ∧ X.cell? ⟨w.heap.size, 3, none⟩ = some (.int .i64 o) ∧ X.cell? ⟨w.heap.size, 4, none⟩ = some (.int .u64 m) ∧ X.cell? ⟨w.heap.size, 5, none⟩ = some (.int .u64 v) ∧ Kn w ⟨b0, b1, b2, o, m, v⟩ X) X → Kn w ⟨b0, b1, b2, o, m, v⟩ X) := fun X h => h.2.2.2.2.2.2
  have HKd : Hid (∀ X, Kn w ⟨b0, b1, b2, o, m, v⟩ X → (fun X => X.cell? ⟨w.heap.size, 0, none⟩ = some (.bool b0) ∧ X.cell? ⟨w.heap.size, 1, none⟩ = some (.bool b1) ∧ X.cell? ⟨w.heap.size, 2, none⟩ = some (.bool b2) ∧ X.cell? ⟨w.heap.size, 3, none⟩ = some (.int .i64 o) ∧ X.cell? ⟨w.heap.size, 4, none⟩ = some (.int .u64 m) ∧ X.cell? ⟨w.heap.size, 5, none⟩ = some (.int .u64 v) ∧ Kn w ⟨b0, b1, b2, o, m, v⟩ X) X.drew) := fun X h => (h.over (Below.refl _ _).drew).all
  dsimp only at HA HN HKn HKd hS0
  clear ha hn
  go_enter Tryz.func188, Tryz.ntmps188
  go_wp2
  go_region_held3 (fun X => X.cell? ⟨w.heap.size, 0, none⟩ = some (.bool b0) ∧ X.cell? ⟨w.heap.size, 1, none⟩ = some (.bool b1) ∧ X.cell? ⟨w.heap.size, 2, none⟩ = some (.bool b2) ∧ X.cell? ⟨w.heap.size, 3, none⟩ = some (.int .i64 o) ∧ X.cell? ⟨w.heap.size, 4, none⟩ = some (.int .u64 m) ∧ X.cell? ⟨w.heap.size, 5, none⟩ = some (.int .u64 v) ∧ Kn w ⟨b0, b1, b2, o, m, v⟩ X) (first | assumption | go_keep) (first | (go_at_call 195; refine (HA.out _ (by assumption)).mono ?_; rintro e w5 ⟨rfl, hS5⟩))
  all_goals
    have hS1 := HKd.out _ (HKn.out _ (by assumption))
    clear hS0
    go_wp2
    go_region_held3 (fun X => X.cell? ⟨w.heap.size, 0, none⟩ = some (.bool b0) ∧ X.cell? ⟨w.heap.size, 1, none⟩ = some (.bool b1) ∧ X.cell? ⟨w.heap.size, 2, none⟩ = some (.bool b2) ∧ X.cell? ⟨w.heap.size, 3, none⟩ = some (.int .i64 o) ∧ X.cell? ⟨w.heap.size, 4, none⟩ = some (.int .u64 m) ∧ X.cell? ⟨w.heap.size, 5, none⟩ = some (.int .u64 v) ∧ Kn w ⟨b0, b1, b2, o, m, v⟩ X) (first | assumption | go_keep) (first | (go_at_call 184; refine (HN.out _ (by assumption)).mono ?_; rintro e w6 ⟨rfl, hS6⟩))
    all_goals
      have hk : Hid (Kn w ⟨b0, b1, b2, o, m, v⟩ _) := HKn.out _ (by assumption)
      have c2 := hk.out.1.cell 2
      have f2 := hk.out.1.f 2
      go_wp2_with (first | (refine at_op (.load 239 (.tmp 1)) rfl ?_; refine wpList_load_row rfl 239 (.tmp 1) rfl w.heap.size rfl 239 (No.mk b0 b1 (!b2) o m v).cells.toArray (0, 0) _ (hk.out.1.set 2 (.bool (!b2))) Tryz.underlying239 rfl (no_size _) ?_) | (refine at_op (.store 239 (.tmp 2) (.tmp 15)) rfl ?_; refine wpList_store_row rfl 239 (.tmp 2) (.tmp 15) rfl (w.heap.size + 1) (No.mk b0 b1 (!b2) o m v).cells.toArray rfl rfl 239 _ (hk.out.2.1.other ⟨w.heap.size, 2, none⟩ (.bool (!b2)) (Nat.succ_ne_self _)) (no_size _) rfl (no_one _) ?_))
      refine bodyPost_ret (v := (No.mk b0 b1 (!b2) o m v).val) ?_ rfl ⟨rfl, ?_⟩
      · exact results_cell_row Tryz.results188 _ _ (w.heap.size + 1) 239 (No.mk b0 b1 (!b2) o m v).cells.toArray (0, 0) _ rfl (Blk.row (hk.out.2.1.other ⟨w.heap.size, 2, none⟩ (.bool (!b2)) (Nat.succ_ne_self _)) _) Tryz.underlying239 rfl (no_size _)
      · exact below_setRow (hk.out.2.2.setCell (p := ⟨w.heap.size, 2, none⟩) (Nat.le_refl _) _) (Nat.le_succ _) _

theorem turned_any (n : No) (w : World) :
    Calls Tryz.prog 188 #[n.val] w fun e w' => e = .returned (turn n).val ∧ Below w.heap.size w w' := by
  unfold turn
  by_cases ha : n.same always = true
  · rw [if_pos ha]
    obtain rfl := (No.same_iff _ _).1 ha
    exact turned_always w
  · rw [if_neg ha]
    by_cases hn : n.same never = true
    · rw [if_pos hn]
      obtain rfl := (No.same_iff _ _).1 hn
      exact turned_never w
    · rw [if_neg hn]
      obtain ⟨b0, b1, b2, o, m, v⟩ := n
      exact turned_plain b0 b1 b2 o m v w (by simpa using ha) (by simpa using hn)

end Go.Proofs.YtcckipimfgmmdaaGreatDoor.C

namespace Go.Proofs.YtcckipimfgmmdaaGreatDoor.C
open Go.RowKit

def Kc (w : World) (l : List Value) (t : TypeId) (r : List Value) (X : World) : Prop := Blk X w.heap.size 139 l ∧ Blk X (w.heap.size + 1) t r ∧ Below w.heap.size w X

theorem Kc.over {w X Y : World} {l r : List Value} {t : TypeId} (h : Kc w l t r X) (hb : Below X.heap.size X Y) : Kc w l t r Y := ⟨h.1.over hb, h.2.1.over hb, h.2.2.trans (hb.mono h.2.2.size)⟩

theorem kc_new (w : World) (l r : List Value) (t : TypeId) : Kc w l t r ((w.alloc (Obj.cells l.toArray 139)).alloc (Obj.cells r.toArray t)) :=
  ⟨(blk_new w _ 139).alloc _, blk_new' w _ _ t, room_below w _ _⟩

theorem Kc.set {w X : World} {l r : List Value} {t : TypeId} (h : Kc w l t r X) (i : Nat) (x : Value) : Kc w (l.set i x) t r (X.setCell ⟨w.heap.size, i, none⟩ x) :=
  ⟨h.1.set i x, h.2.1.other ⟨w.heap.size, i, none⟩ x (Nat.succ_ne_self _), h.2.2.setCell (p := ⟨w.heap.size, i, none⟩) (Nat.le_refl _) x⟩

end Go.Proofs.YtcckipimfgmmdaaGreatDoor.C

namespace Go.Proofs.YtcckipimfgmmdaaGreatDoor.C
open Go.RowKit

set_option maxHeartbeats 400000 in
theorem norm_wrong (a o m v : Int) (w : World) (hr : rightB a o = false) :
    Calls Tryz.prog 167 #[(.agg #[.int .i64 a, .int .i64 o, .int .u64 m, .int .u64 v])] w fun e w' => e = .returned never.val ∧ Below w.heap.size w w' := by
  have HR : Hid (∀ W : World, Calls Tryz.prog 102 #[(.agg #[.int .i64 a, .int .i64 o, .int .u64 m, .int .u64 v])] W fun e w' => e = .returned (.bool false) ∧ Below W.heap.size W w') := fun W => hr ▸ right_any a o m v W
  have HN : Hid (∀ W : World, Calls Tryz.prog 184 #[] W fun e w' => e = .returned never.val ∧ Below W.heap.size W w') := never_any
  have HK : Hid (Kc w [.int .i64 a, .int .i64 o, .int .u64 m, .int .u64 v] 239 [.bool false, .bool false, .bool false, .int .i64 0, .int .u64 0, .int .u64 0] ((w.alloc (Obj.cells #[.int .i64 a, .int .i64 o, .int .u64 m, .int .u64 v] 139)).alloc (Obj.cells #[.bool false, .bool false, .bool false, .int .i64 0, .int .u64 0, .int .u64 0] 239))) := kc_new w [.int .i64 a, .int .i64 o, .int .u64 m, .int .u64 v] [.bool false, .bool false, .bool false, .int .i64 0, .int .u64 0, .int .u64 0] 239
  clear hr
  go_enter Tryz.func167, Tryz.ntmps167
  go_wp2_with (first | (go_at_call 102; refine (HR.out _).mono ?_; rintro e w1 ⟨rfl, b1⟩; have K1 : Hid (Kc w [.int .i64 a, .int .i64 o, .int .u64 m, .int .u64 v] 239 [.bool false, .bool false, .bool false, .int .i64 0, .int .u64 0, .int .u64 0] w1) := HK.out.over b1; clear b1) | (go_at_call 184; refine (HN.out _).mono ?_; rintro e w2 ⟨rfl, b2⟩; have K2 : Hid (Kc w [.int .i64 a, .int .i64 o, .int .u64 m, .int .u64 v] 239 [.bool false, .bool false, .bool false, .int .i64 0, .int .u64 0, .int .u64 0] w2) := K1.out.over b2; clear b2) | (refine at_op (.store 239 (.tmp 2) (.tmp 6)) rfl ?_; refine wpList_store_row rfl 239 (.tmp 2) (.tmp 6) rfl (w.heap.size + 1) never.cells.toArray rfl rfl 239 _ K2.out.2.1 (no_size _) rfl (no_one _) ?_))
  refine bodyPost_ret (v := never.val) ?_ rfl ⟨rfl, ?_⟩
  · exact results_cell_row Tryz.results167 _ _ (w.heap.size + 1) 239 never.cells.toArray (0, 0) _ rfl (Blk.row K2.out.2.1 _) Tryz.underlying239 rfl (no_size _)
  · exact below_setRow K2.out.2.2 (Nat.le_succ _) _

set_option maxHeartbeats 800000 in
theorem norm_form (a o m v : Int) (w : World) (hr : rightB a o = true) (ho : hasF o = true) :
    Calls Tryz.prog 167 #[(.agg #[.int .i64 a, .int .i64 o, .int .u64 m, .int .u64 v])] w fun e w' => e = .returned (formN o m v).val ∧ Below w.heap.size w w' := by
  have HR : Hid (∀ W : World, Calls Tryz.prog 102 #[(.agg #[.int .i64 a, .int .i64 o, .int .u64 m, .int .u64 v])] W fun e w' => e = .returned (.bool true) ∧ Below W.heap.size W w') := fun W => hr ▸ right_any a o m v W
  have HH : Hid (∀ W : World, Calls Tryz.prog 185 #[.int .i64 o] W fun e w' => e = .returned (.bool true) ∧ w' = W) := fun W => ho ▸ hasForm_any o W
  have HF : Hid (∀ W : World, Calls Tryz.prog 186 #[(.agg #[.int .i64 a, .int .i64 o, .int .u64 m, .int .u64 v])] W fun e w' => e = .returned (formN o m v).val ∧ Below W.heap.size W w') := fun W => form_any a o m v W ho
  have HK : Hid (Kc w [.int .i64 a, .int .i64 o, .int .u64 m, .int .u64 v] 239 [.bool false, .bool false, .bool false, .int .i64 0, .int .u64 0, .int .u64 0] ((w.alloc (Obj.cells #[.int .i64 a, .int .i64 o, .int .u64 m, .int .u64 v] 139)).alloc (Obj.cells #[.bool false, .bool false, .bool false, .int .i64 0, .int .u64 0, .int .u64 0] 239))) := kc_new w [.int .i64 a, .int .i64 o, .int .u64 m, .int .u64 v] [.bool false, .bool false, .bool false, .int .i64 0, .int .u64 0, .int .u64 0] 239
  clear hr ho
  generalize formN o m v = n at *
  go_enter Tryz.func167, Tryz.ntmps167
  go_wp2_with (first | (go_at_call 102; refine (HR.out _).mono ?_; rintro e w1 ⟨rfl, b1⟩; have K1 : Hid (Kc w [.int .i64 a, .int .i64 o, .int .u64 m, .int .u64 v] 239 [.bool false, .bool false, .bool false, .int .i64 0, .int .u64 0, .int .u64 0] w1) := HK.out.over b1; have c1 := K1.out.1.cell 1; clear b1) | (go_at_call 185; refine (HH.out _).mono ?_; rintro e w2 ⟨rfl, rfl⟩) | (refine at_op (.load 139 (.tmp 1)) rfl ?_; refine wpList_load_row rfl 139 (.tmp 1) rfl w.heap.size rfl 139 #[.int .i64 a, .int .i64 o, .int .u64 m, .int .u64 v] (0, 0) _ K1.out.1 Tryz.underlying139 rfl Tryz.size139 ?_) | (go_at_call 186; refine (HF.out _).mono ?_; rintro e w3 ⟨rfl, b3⟩; have K2 : Hid (Kc w [.int .i64 a, .int .i64 o, .int .u64 m, .int .u64 v] 239 [.bool false, .bool false, .bool false, .int .i64 0, .int .u64 0, .int .u64 0] w3) := K1.out.over b3; clear b3) | (refine at_op (.store 239 (.tmp 2) (.tmp 11)) rfl ?_; refine wpList_store_row rfl 239 (.tmp 2) (.tmp 11) rfl (w.heap.size + 1) n.cells.toArray rfl rfl 239 _ K2.out.2.1 (no_size _) rfl (no_one _) ?_))
  refine bodyPost_ret (v := n.val) ?_ rfl ⟨rfl, ?_⟩
  · exact results_cell_row Tryz.results167 _ _ (w.heap.size + 1) 239 n.cells.toArray (0, 0) _ rfl (Blk.row K2.out.2.1 _) Tryz.underlying239 rfl (no_size _)
  · exact below_setRow K2.out.2.2 (Nat.le_succ _) _

set_option maxHeartbeats 800000 in
theorem norm_turned (a o m v : Int) (w : World) (hr : rightB a o = true) (ho : hasF o = false) :
    Calls Tryz.prog 167 #[(.agg #[.int .i64 a, .int .i64 o, .int .u64 m, .int .u64 v])] w fun e w' => e = .returned (turn (formN (opp o) m v)).val ∧ Below w.heap.size w w' := by
  have HR : Hid (∀ W : World, Calls Tryz.prog 102 #[(.agg #[.int .i64 a, .int .i64 o, .int .u64 m, .int .u64 v])] W fun e w' => e = .returned (.bool true) ∧ Below W.heap.size W w') := fun W => hr ▸ right_any a o m v W
  have HH : Hid (∀ W : World, Calls Tryz.prog 185 #[.int .i64 o] W fun e w' => e = .returned (.bool false) ∧ w' = W) := fun W => ho ▸ hasForm_any o W
  have HO : Hid (∀ W : World, Calls Tryz.prog 187 #[.int .i64 o] W fun e w' => e = .returned (.int .i64 (opp o)) ∧ Below W.heap.size W w') := fun W => opposite_any o W (right_bd hr).2.2.1 (right_bd hr).2.2.2
  have hp := opp_has (right_bd hr).2.2.1 (right_bd hr).2.2.2 ho
  generalize opp o = p at *
  have HF : Hid (∀ W : World, Calls Tryz.prog 186 #[(.agg #[.int .i64 a, .int .i64 p, .int .u64 m, .int .u64 v])] W fun e w' => e = .returned (formN p m v).val ∧ Below W.heap.size W w') := fun W => form_any a p m v W hp
  have HT : Hid (∀ W : World, Calls Tryz.prog 188 #[(formN p m v).val] W fun e w' => e = .returned (turn (formN p m v)).val ∧ Below W.heap.size W w') := fun W => turned_any _ W
  have HK : Hid (Kc w [.int .i64 a, .int .i64 o, .int .u64 m, .int .u64 v] 239 [.bool false, .bool false, .bool false, .int .i64 0, .int .u64 0, .int .u64 0] ((w.alloc (Obj.cells #[.int .i64 a, .int .i64 o, .int .u64 m, .int .u64 v] 139)).alloc (Obj.cells #[.bool false, .bool false, .bool false, .int .i64 0, .int .u64 0, .int .u64 0] 239))) := kc_new w [.int .i64 a, .int .i64 o, .int .u64 m, .int .u64 v] [.bool false, .bool false, .bool false, .int .i64 0, .int .u64 0, .int .u64 0] 239
  clear hr ho hp
  generalize turn (formN p m v) = n at *
  generalize formN p m v = n0 at *
  go_enter Tryz.func167, Tryz.ntmps167
  go_wp2_with (first | (go_at_call 102; refine (HR.out _).mono ?_; rintro e w1 ⟨rfl, b1⟩; have K1 : Hid (Kc w [.int .i64 a, .int .i64 o, .int .u64 m, .int .u64 v] 239 [.bool false, .bool false, .bool false, .int .i64 0, .int .u64 0, .int .u64 0] w1) := HK.out.over b1; have c1 := K1.out.1.cell 1; clear b1) | (go_at_call 185; refine (HH.out _).mono ?_; rintro e w2 ⟨rfl, rfl⟩) | (go_at_call 187; refine (HO.out _).mono ?_; rintro e w3 ⟨rfl, b3⟩; have K2 : Hid (Kc w [.int .i64 a, .int .i64 o, .int .u64 m, .int .u64 v] 239 [.bool false, .bool false, .bool false, .int .i64 0, .int .u64 0, .int .u64 0] w3) := K1.out.over b3; have d1 := K2.out.1.cell 1; have f1 := K2.out.1.f 1; have K3 : Hid (Kc w [.int .i64 a, .int .i64 p, .int .u64 m, .int .u64 v] 239 [.bool false, .bool false, .bool false, .int .i64 0, .int .u64 0, .int .u64 0] (w3.setCell ⟨w.heap.size, 1, none⟩ (.int .i64 p))) := K2.out.set 1 (.int .i64 p); clear b3) | (refine at_op (.load 139 (.tmp 1)) rfl ?_; refine wpList_load_row rfl 139 (.tmp 1) rfl w.heap.size rfl 139 #[.int .i64 a, .int .i64 p, .int .u64 m, .int .u64 v] (0, 0) _ K3.out.1 Tryz.underlying139 rfl Tryz.size139 ?_) | (go_at_call 186; refine (HF.out _).mono ?_; rintro e w4 ⟨rfl, b4⟩; have K4 : Hid (Kc w [.int .i64 a, .int .i64 p, .int .u64 m, .int .u64 v] 239 [.bool false, .bool false, .bool false, .int .i64 0, .int .u64 0, .int .u64 0] w4) := K3.out.over b4; clear b4) | (go_at_call 188; refine (HT.out _).mono ?_; rintro e w5 ⟨rfl, b5⟩; have K5 : Hid (Kc w [.int .i64 a, .int .i64 p, .int .u64 m, .int .u64 v] 239 [.bool false, .bool false, .bool false, .int .i64 0, .int .u64 0, .int .u64 0] w5) := K4.out.over b5; clear b5) | (refine at_op (.store 239 (.tmp 2) (.tmp 18)) rfl ?_; refine wpList_store_row rfl 239 (.tmp 2) (.tmp 18) rfl (w.heap.size + 1) n.cells.toArray rfl rfl 239 _ K5.out.2.1 (no_size _) rfl (no_one _) ?_))
  refine bodyPost_ret (v := n.val) ?_ rfl ⟨rfl, ?_⟩
  · exact results_cell_row Tryz.results167 _ _ (w.heap.size + 1) 239 n.cells.toArray (0, 0) _ rfl (Blk.row K5.out.2.1 _) Tryz.underlying239 rfl (no_size _)
  · exact below_setRow K5.out.2.2 (Nat.le_succ _) _

theorem norm_any (a o m v : Int) (w : World) :
    Calls Tryz.prog 167 #[(.agg #[.int .i64 a, .int .i64 o, .int .u64 m, .int .u64 v])] w fun e w' => e = .returned (normN a o m v).val ∧ Below w.heap.size w w' := by
  unfold normN
  by_cases h : rightB a o = true
  · rw [if_pos h]
    by_cases ho : hasF o = true
    · rw [if_pos ho]
      exact norm_form a o m v w h ho
    · rw [if_neg ho]
      exact norm_turned a o m v w h (by simpa using ho)
  · rw [if_neg h]
    exact norm_wrong a o m v w (by simpa using h)

end Go.Proofs.YtcckipimfgmmdaaGreatDoor.C

namespace Go.Proofs.YtcckipimfgmmdaaGreatDoor.C
open Go.RowKit

theorem is_said (b0 b1 b2 : Bool) (o m v x : Int) (w : World) (h : (b0 || b1) = true) :
    Calls Tryz.prog 169 #[.agg #[.bool b0, .bool b1, .bool b2, .int .i64 o, .int .u64 m, .int .u64 v], .int .u64 x] w fun e w' => e = .returned (.bool b0) ∧ Below w.heap.size w w' := by
  have HB : Hid (∀ o, Below w.heap.size w (w.alloc o)) := below_new w
  have hb : b0 = true ∨ (b0 = false ∧ b1 = true) := by cases b0 <;> simp_all
  clear h
  rcases hb with rfl | ⟨rfl, rfl⟩
  all_goals
    go_enter Tryz.func169, Tryz.ntmps169
    go_wp2
    go_ret
    exact ⟨rfl, HB.out _⟩

set_option maxHeartbeats 400000 in
theorem is_has (b2 : Bool) (o m v x : Int) (w : World) (ho : hasF o = true) :
    Calls Tryz.prog 169 #[.agg #[.bool false, .bool false, .bool b2, .int .i64 o, .int .u64 m, .int .u64 v], .int .u64 x] w fun e w' => e = .returned (.bool (!(heldB o (an x m) v == b2))) ∧ Below w.heap.size w w' := by
  have HB : Hid (Blk (w.alloc (Obj.cells #[.bool false, .bool false, .bool b2, .int .i64 o, .int .u64 m, .int .u64 v] 239)) w.heap.size 239 [.bool false, .bool false, .bool b2, .int .i64 o, .int .u64 m, .int .u64 v]) := blk_new w _ 239
  have HB2 : Hid (Below w.heap.size w (w.alloc (Obj.cells #[.bool false, .bool false, .bool b2, .int .i64 o, .int .u64 m, .int .u64 v] 239))) := below_new w _
  have HH : Hid (∀ W : World, Calls Tryz.prog 185 #[.int .i64 o] W fun e w' => e = .returned (.bool true) ∧ w' = W) := fun W => ho ▸ hasForm_any o W
  have h16 : 1 ≤ o ∧ o ≤ 6 := by
    have hcase : o = 1 ∨ o = 5 ∨ o = 6 := by simpa [hasF, or_assoc] using ho
    omega
  have HL : Hid (∀ W : World, Calls Tryz.prog 129 #[.int .i64 o, .int .u64 x, .int .u64 m, .int .u64 v] W fun e w' => e = .returned (.bool (heldB o (an x m) v)) ∧ Below W.heap.size W w') := fun W => held_any o x m v W h16.1 h16.2
  clear ho h16
  generalize heldB o (an x m) v = q at *
  go_enter Tryz.func169, Tryz.ntmps169
  go_wp2_with (first | (go_at_call 185; refine (HH.out _).mono ?_; rintro e w1 ⟨rfl, rfl⟩) | (go_at_call 129; refine (HL.out _).mono ?_; rintro e w2 ⟨rfl, b2'⟩; have c2 := (HB.out.over b2').cell 2; have B2 : Hid (Below w.heap.size w w2) := HB2.out.trans (b2'.mono HB2.out.size); clear b2'))
  all_goals
    go_ret
    exact ⟨by cases q <;> cases b2 <;> rfl, B2.out⟩

set_option maxHeartbeats 400000 in
theorem is_none (b2 : Bool) (o m v x : Int) (w : World) (ho : hasF o = false) :
    Calls Tryz.prog 169 #[.agg #[.bool false, .bool false, .bool b2, .int .i64 o, .int .u64 m, .int .u64 v], .int .u64 x] w fun e w' => e = .returned (.bool (!(false == b2))) ∧ Below w.heap.size w w' := by
  have HB2 : Hid (Below w.heap.size w (w.alloc (Obj.cells #[.bool false, .bool false, .bool b2, .int .i64 o, .int .u64 m, .int .u64 v] 239))) := below_new w _
  have HH : Hid (∀ W : World, Calls Tryz.prog 185 #[.int .i64 o] W fun e w' => e = .returned (.bool false) ∧ w' = W) := fun W => ho ▸ hasForm_any o W
  clear ho
  go_enter Tryz.func169, Tryz.ntmps169
  go_wp2_with (first | (go_at_call 185; refine (HH.out _).mono ?_; rintro e w1 ⟨rfl, rfl⟩))
  all_goals
    go_ret
    exact ⟨by cases b2 <;> rfl, HB2.out⟩

theorem is_any (n : No) (x : Int) (w : World) :
    Calls Tryz.prog 169 #[n.val, .int .u64 x] w fun e w' => e = .returned (.bool (isN n x)) ∧ Below w.heap.size w w' := by
  obtain ⟨b0, b1, b2, o, m, v⟩ := n
  unfold isN
  by_cases h : (b0 || b1) = true
  · rw [if_pos h]
    exact is_said b0 b1 b2 o m v x w h
  · rw [if_neg h]
    obtain ⟨rfl, rfl⟩ : b0 = false ∧ b1 = false := by simpa using h
    by_cases ho : hasF o = true
    · dsimp only
      rw [ho, Bool.true_and]
      exact is_has b2 o m v x w ho
    · have ho' : hasF o = false := by simpa using ho
      dsimp only
      rw [ho', Bool.false_and]
      exact is_none b2 o m v x w ho'

end Go.Proofs.YtcckipimfgmmdaaGreatDoor.C
