/-
  What strconv makes of its errors: never nil.
-/
import Derived.Test.YtcckipimfgmmdaaGreatDoorPParse
import Derived.Deep.RegionHeld3
import Derived.Lib.IfaceEq
namespace Go.Proofs.YtcckipimfgmmdaaGreatDoor.P
open Go.RowKit

/-- an error's pointer. -/
def IsPtr (e : Ending) : Prop := ∃ p, e = .returned (.pointer p)

/-- a variable's cell, and nothing old has turned. -/
def Kept (w : World) (g : Nat) (v : Value) (X : World) : Prop := X.cell? ⟨g, 0, none⟩ = some v ∧ Below w.heap.size w X

theorem lite_kept (s : ByteArray) (hs : s.size ≤ 100000000) (w : World) (g : Nat) (v : Value) (hg : g < w.heap.size) (W : World) (h : Kept w g v W) :
    Calls Tryz.prog 117 #[.string s] W fun e w' => e = .returned (.string s) ∧ Kept w g v w' := by
  refine (lite_any s W hs).mono ?_
  rintro e w' ⟨rfl, hb⟩
  have hb2 : Below w.heap.size w w' := h.2.trans (hb.mono h.2.size)
  refine ⟨rfl, ?_, hb2⟩
  rw [hb.cell (p := ⟨g, 0, none⟩) (Nat.lt_of_lt_of_le hg h.2.size)]
  exact h.1

theorem kept_alloc {w : World} {g : Nat} {v : Value} (hg : g < w.heap.size) (X : World) (o : Obj) (h : X.cell? ⟨g, 0, none⟩ = some v ∧ Kept w g v X) : (X.alloc o).cell? ⟨g, 0, none⟩ = some v ∧ Kept w g v (X.alloc o) := by
  have hb : Below w.heap.size w (X.alloc o) := h.2.2.alloc h.2.2.size o
  have hc : (X.alloc o).cell? ⟨g, 0, none⟩ = some v := by
    have hb2 : Below X.heap.size X (X.alloc o) := (Below.refl _ _).alloc (Nat.le_refl _) _
    rw [hb2.cell (p := ⟨g, 0, none⟩) (Nat.lt_of_lt_of_le hg h.2.2.size)]
    exact h.1
  exact ⟨hc, hc, hb⟩

set_option maxHeartbeats 2000000 in
theorem syntax_any (f s : ByteArray) (w : World) (hs : s.size ≤ 100000000) (hv : Vars w) :
    Calls Tryz.prog 179 #[.string f, .string s] w fun e w' => IsPtr e ∧ Below w.heap.size w w' := by
  obtain ⟨t0, v0, t1, v1, h0, h1⟩ := hv
  clear h1
  have HQ : Hid (∀ W, (W.cell? ⟨1, 0, none⟩ = some (.iface t0 v0) ∧ Kept w 1 (.iface t0 v0) W) → Calls Tryz.prog 117 #[.string s] W fun e w' => e = .returned (.string s) ∧ (w'.cell? ⟨1, 0, none⟩ = some (.iface t0 v0) ∧ Kept w 1 (.iface t0 v0) w')) := by
    intro W h
    refine (lite_kept s hs w 1 _ (World.block_lt_of_cell? w _ h0) W h.2).mono ?_
    rintro e w' ⟨rfl, hk⟩
    exact ⟨rfl, hk.1, hk⟩
  have HA : Hid (∀ X o, (X.cell? ⟨1, 0, none⟩ = some (.iface t0 v0) ∧ Kept w 1 (.iface t0 v0) X) → ((X.alloc o).cell? ⟨1, 0, none⟩ = some (.iface t0 v0) ∧ Kept w 1 (.iface t0 v0) (X.alloc o))) := fun X o => kept_alloc (World.block_lt_of_cell? w _ h0) X o
  have hS0 : w.drew.cell? ⟨1, 0, none⟩ = some (.iface t0 v0) ∧ Kept w 1 (.iface t0 v0) w.drew := ⟨h0, h0, (Below.refl _ _).drew⟩
  go_enter Tryz.func179, Tryz.ntmps179
  go_wp2
  go_region_held3 (fun X => X.cell? ⟨1, 0, none⟩ = some (.iface t0 v0) ∧ Kept w 1 (.iface t0 v0) X) (first | assumption | exact HA.out _ _ (by assumption) | go_keep) (first | (go_at_call 117; refine (HQ.out _ (by assumption)).mono ?_; rintro e w5 ⟨rfl, hS5⟩))
  all_goals
    go_wp2
    go_ret
    exact ⟨⟨_, rfl⟩, hS5.2.2.alloc hS5.2.2.size _⟩

set_option maxHeartbeats 2000000 in
theorem range_any (f s : ByteArray) (w : World) (hs : s.size ≤ 100000000) (hv : Vars w) :
    Calls Tryz.prog 180 #[.string f, .string s] w fun e w' => IsPtr e ∧ Below w.heap.size w w' := by
  obtain ⟨t0, v0, t1, v1, h1, h0⟩ := hv
  clear h1
  have HQ : Hid (∀ W, (W.cell? ⟨2, 0, none⟩ = some (.iface t1 v1) ∧ Kept w 2 (.iface t1 v1) W) → Calls Tryz.prog 117 #[.string s] W fun e w' => e = .returned (.string s) ∧ (w'.cell? ⟨2, 0, none⟩ = some (.iface t1 v1) ∧ Kept w 2 (.iface t1 v1) w')) := by
    intro W h
    refine (lite_kept s hs w 2 _ (World.block_lt_of_cell? w _ h0) W h.2).mono ?_
    rintro e w' ⟨rfl, hk⟩
    exact ⟨rfl, hk.1, hk⟩
  have HA : Hid (∀ X o, (X.cell? ⟨2, 0, none⟩ = some (.iface t1 v1) ∧ Kept w 2 (.iface t1 v1) X) → ((X.alloc o).cell? ⟨2, 0, none⟩ = some (.iface t1 v1) ∧ Kept w 2 (.iface t1 v1) (X.alloc o))) := fun X o => kept_alloc (World.block_lt_of_cell? w _ h0) X o
  have hS0 : w.drew.cell? ⟨2, 0, none⟩ = some (.iface t1 v1) ∧ Kept w 2 (.iface t1 v1) w.drew := ⟨h0, h0, (Below.refl _ _).drew⟩
  go_enter Tryz.func180, Tryz.ntmps180
  go_wp2
  go_region_held3 (fun X => X.cell? ⟨2, 0, none⟩ = some (.iface t1 v1) ∧ Kept w 2 (.iface t1 v1) X) (first | assumption | exact HA.out _ _ (by assumption) | go_keep) (first | (go_at_call 117; refine (HQ.out _ (by assumption)).mono ?_; rintro e w5 ⟨rfl, hS5⟩))
  all_goals
    go_wp2
    go_ret
    exact ⟨⟨_, rfl⟩, hS5.2.2.alloc hS5.2.2.size _⟩

set_option maxHeartbeats 800000 in
theorem toErr_any (f s : ByteArray) (b c : Int) (w : World) (hs : s.size ≤ 100000000) (hv : Vars w) (hc : c = 1 ∨ c = 2) :
    Calls Tryz.prog 160 #[.string f, .string s, .int .i64 b, .int .i64 64, .iface 246 (.int .i64 c)] w fun e w' => (∃ p, e = .returned (.iface 248 p)) ∧ Below w.heap.size w w' := by
  have h58 : (Tryz.prog.info? 246).map (·.comparable) = some true := by kernel_rfl
  have q22 : ∀ W, (binOp .eql 92 (.iface 246 (.int .i64 2)) (.iface 246 (.int .i64 2))).run Tryz.prog W = .ok (.bool true) W := fun W => Lib.run_eql_iface_int W 2 2 Tryz.underlying92 h58 Tryz.underlying246
  have q12 : ∀ W, (binOp .eql 92 (.iface 246 (.int .i64 1)) (.iface 246 (.int .i64 2))).run Tryz.prog W = .ok (.bool false) W := fun W => Lib.run_eql_iface_int W 1 2 Tryz.underlying92 h58 Tryz.underlying246
  have q11 : ∀ W, (binOp .eql 92 (.iface 246 (.int .i64 1)) (.iface 246 (.int .i64 1))).run Tryz.prog W = .ok (.bool true) W := fun W => Lib.run_eql_iface_int W 1 1 Tryz.underlying92 h58 Tryz.underlying246
  clear h58
  rcases hc with rfl | rfl
  · go_enter Tryz.func160, Tryz.ntmps160
    go_wp2_with (go_at_call 180; refine (range_any f s _ hs hv).mono ?_; rintro e w' ⟨⟨p, rfl⟩, hb⟩)
    go_ret
    exact ⟨⟨_, rfl⟩, hb⟩
  · go_enter Tryz.func160, Tryz.ntmps160
    go_wp2_with (go_at_call 179; refine (syntax_any f s _ hs hv).mono ?_; rintro e w' ⟨⟨p, rfl⟩, hb⟩)
    go_ret
    exact ⟨⟨_, rfl⟩, hb⟩

/-- what is told of a number's digits. -/
def Read (r : Option Nat) (e : Ending) : Prop :=
  match r with
  | some n => e = .returned (.tuple #[.int .u64 n, .nilIface])
  | none => ∃ m t x, e = .returned (.tuple #[.int .u64 m, .iface t x])

set_option maxHeartbeats 800000 in
theorem read10_any (s : ByteArray) (w : World) (hw : ∀ c ∈ lst s, wN c.toNat = true) (hs : s.size ≤ 100000000) (hv : Vars w) :
    Calls Tryz.prog 138 #[.string s, .int .i64 10, .int .i64 64] w fun e w' => Below w.heap.size w w' ∧ Read (if s.size = 0 then none else parse 10 0 (lst s)) e := by
  have HP := parse10_any s w hw hs
  generalize (if s.size = 0 then none else parse 10 0 (lst s)) = r at *
  cases r with
  | some n =>
    go_enter Tryz.func138, Tryz.ntmps138
    go_wp2_with (go_at_call 159; refine HP.mono ?_; rintro e w1 ⟨hb, rfl⟩)
    go_ret2
    exact ⟨hb, rfl⟩
  | none =>
    go_enter Tryz.func138, Tryz.ntmps138
    go_wp2_with (first | (go_at_call 159; refine HP.mono ?_; rintro e w1 ⟨hb, m, c, hc, rfl⟩; have hv1 := hv.below hb) | (go_at_call 160; refine (toErr_any _ s 10 c _ hs hv1 hc).mono ?_; rintro e w2 ⟨⟨p, rfl⟩, hb2⟩))
    go_ret2
    exact ⟨hb.trans (hb2.mono hb.size), _, _, _, rfl⟩

set_option maxHeartbeats 800000 in
theorem read16_any (s : ByteArray) (w : World) (hw : ∀ c ∈ lst s, wN c.toNat = true) (hs : s.size ≤ 100000000) (hv : Vars w) :
    Calls Tryz.prog 138 #[.string s, .int .i64 16, .int .i64 64] w fun e w' => Below w.heap.size w w' ∧ Read (if s.size = 0 then none else parse 16 0 (lst s)) e := by
  have HP := parse16_any s w hw hs
  generalize (if s.size = 0 then none else parse 16 0 (lst s)) = r at *
  cases r with
  | some n =>
    go_enter Tryz.func138, Tryz.ntmps138
    go_wp2_with (go_at_call 159; refine HP.mono ?_; rintro e w1 ⟨hb, rfl⟩)
    go_ret2
    exact ⟨hb, rfl⟩
  | none =>
    go_enter Tryz.func138, Tryz.ntmps138
    go_wp2_with (first | (go_at_call 159; refine HP.mono ?_; rintro e w1 ⟨hb, m, c, hc, rfl⟩; have hv1 := hv.below hb) | (go_at_call 160; refine (toErr_any _ s 16 c _ hs hv1 hc).mono ?_; rintro e w2 ⟨⟨p, rfl⟩, hb2⟩))
    go_ret2
    exact ⟨hb.trans (hb2.mono hb.size), _, _, _, rfl⟩

end Go.Proofs.YtcckipimfgmmdaaGreatDoor.P
