/-
  Encode, by package msg: proved of every message.
-/
import Derived.Test.YtpdndcmaaghnjaaMsLay
namespace Go.Proofs.Ytpdndcmaaghnjaa
open Go.RowKit
open D (Da Blk)

/-- what Encode tells. -/
def encL (m : Mg) : List Int := if rightB m = true then encM m else []
def encE (m : Mg) : Int := if rightB m = true then 0 else 1

theorem wy_new (w : World) : WY (· < w.heap.size) (w.alloc (.cells #[.slice none 0 0, .int .i64 0] 44)) w.heap.size ([], 0) := by
  refine ⟨⟨.slice none 0 0, D.blk_new w _ 44, ⟨rfl, .inl ⟨rfl, rfl⟩⟩, fun k hk => by cases hk⟩, Nat.lt_irrefl _, fun k hk => ?_, (fun z hz => by cases hz), fun h => absurd rfl h⟩
  rw [D.size_alloc']
  exact Nat.lt_succ_of_lt hk

set_option maxHeartbeats 1600000 in
theorem encode_any (m : Mg) (w : World) (ho : m.ok) : Calls Try.prog 9 #[m.vl] w fun e w' => Below w.heap.size w w' ∧ ∃ v, e = .returned (.tuple #[v, .int .i64 (encE m)]) ∧ w'.ownsRow w.heap.size 5 1 v (encL m).length (K.cellsB (encL m)) := by
  have HR : Hid (∀ W : World, Calls Try.prog 11 #[.agg m.cells.toArray] W fun e w' => e = .returned (.bool (rightB m)) ∧ Below W.heap.size W w') := fun W => right_any m W ho.2.2.1 ho.2.2.2
  have HZ : Hid ((Try.prog.info? 28).map (·.size) = some m.cells.toArray.size) := m.size ho.2.2.1
  have Z0 : Hid (Blk (w.alloc (Obj.cells m.cells.toArray 28)) w.heap.size 28 m.cells) := D.blk_new w m.cells.toArray 28
  have B0 : Hid (Below w.heap.size w (w.alloc (Obj.cells m.cells.toArray 28))) := (Below.refl _ _).alloc (Nat.le_refl _) _
  cases hq : rightB m
  · have e1 : encL m = [] := by unfold encL; rw [hq]; rfl
    have e2 : encE m = 1 := by unfold encE; rw [hq]; rfl
    rw [e1, e2]
    rw [hq] at HR
    unfold Mg.vl
    clear hq e1 e2 ho
    generalize m.cells = R at *
    go_enter Try.func9, Try.ntmps9
    go_wp2_with (first | (refine wpList_load_row rfl 28 (.tmp 1) rfl w.heap.size rfl 28 R.toArray (0, 0) _ Z0.out Try.underlying28 rfl HZ.out ?_) | (go_at_call 11; refine (HR.out _).mono ?_; rintro e w1 ⟨rfl, b1⟩))
    go_ret2
    exact ⟨B0.out.trans (b1.mono B0.out.size), _, rfl, rfl, .inl ⟨rfl, rfl⟩⟩
  · have hr := (rightB_iff m).1 hq
    have e1 : encL m = encM m := by unfold encL; rw [hq]; rfl
    have e2 : encE m = 0 := by unfold encE; rw [hq]; rfl
    have HL : Hid ((encM m).length ≤ 900000000) := Nat.le_trans (enc_most hr ho) (by decide)
    have HM : Hid (∀ (W : World) (Y : Nat → Prop) (b : Nat), WY Y W b ([], 0) → Calls Try.prog 15 #[.pointer (some ⟨b, 0, none⟩), .agg m.cells.toArray] W fun e w' => e = .returned (.tuple #[]) ∧ WY Y w' b (encM m, 0) ∧ FY Y W w') := fun W Y b hW => message_any Y W b [] m hW (by decide) hr ho
    rw [e1, e2]
    rw [hq] at HR
    unfold Mg.vl
    clear hq e1 e2 ho hr
    generalize m.cells = R at *
    generalize encM m = EN at *
    go_enter Try.func9, Try.ntmps9
    go_wp2_with (first | (refine wpList_load_row rfl 28 (.tmp 1) rfl w.heap.size rfl 28 R.toArray (0, 0) _ Z0.out Try.underlying28 rfl HZ.out ?_) | (go_at_call 11; refine (HR.out _).mono ?_; rintro e w1 ⟨rfl, b1⟩; have B1 : Hid (Below w.heap.size w w1) := B0.out.trans (b1.mono B0.out.size); have Z1 : Hid (Blk (w1.alloc (Obj.cells #[.slice none 0 0, .int .i64 0] 44)) w.heap.size 28 R) := (Z0.out.over b1).alloc _; have S1 : Hid (w.heap.size < w1.heap.size) := Nat.lt_of_lt_of_le (Z0.out.lt) b1.size; clear b1) | (refine wpList_load_row rfl 28 (.tmp 1) rfl w.heap.size rfl 28 R.toArray (0, 0) _ Z1.out Try.underlying28 rfl HZ.out ?_) | (go_at_call 15; refine (HM.out _ (· < w1.heap.size) w1.heap.size (wy_new w1)).mono ?_; rintro e w2 ⟨rfl, h2, f2⟩; have B2 : Hid (Below w.heap.size w w2) := B1.out.trans (((Below.refl _ _).alloc (Nat.le_refl _) _).trans ((f2.below (B := w1.heap.size) fun k hk => hk)) |>.mono (Nat.le_of_lt S1.out)); clear f2) | (go_at_call 16; refine (K.wbytes_any 0 w2 w1.heap.size _ h2.wr HL.out).mono ?_; rintro e w3 ⟨b3, v, rfl, o3⟩))
    go_ret2
    exact ⟨B2.out.trans (b3.mono B2.out.size), v, rfl, D.owns_lower o3 B2.out.size⟩

end Go.Proofs.Ytpdndcmaaghnjaa
