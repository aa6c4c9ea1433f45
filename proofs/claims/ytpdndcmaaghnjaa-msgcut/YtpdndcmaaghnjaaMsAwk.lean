/-
  The small question that each law of package msg asks first comes out true, and turns nothing that was there.
-/
import Derived.Test.YtpdndcmaaghnjaaMsNamed
import Derived.Test.YtpdndcmaaghnjaaMsEnc
namespace Go.Proofs.Ytpdndcmaaghnjaa
open Go.RowKit
open D (Da Blk)

/-- the message of the small question. -/
def askM : Mg := ⟨3, 1, 258, 0, 0, Da.zero, []⟩
theorem ask_ok : askM.ok := ⟨⟨by decide, by decide⟩, ⟨by decide, by decide⟩, D.zero_ok, fun z hz => by cases hz⟩
theorem ask_right : MgR askM := by
  refine ⟨by decide, by decide, fun h => ?_, fun _ => ⟨rfl, rfl, rfl⟩, fun h => ?_, fun _ => rfl, fun h => ?_, fun h => ?_⟩ <;> revert h <;> decide
theorem ask_enc : encM askM = [3, 0, 0, 0, 0, 0, 0, 0, 1, 0, 0, 0, 0, 0, 0, 1, 2] := by decide +kernel
theorem ask_L : encL askM = [3, 0, 0, 0, 0, 0, 0, 0, 1, 0, 0, 0, 0, 0, 0, 1, 2] := by unfold encL; rw [if_pos ((rightB_iff _).2 ask_right), ask_enc]
theorem ask_E : encE askM = 0 := if_pos ((rightB_iff _).2 ask_right)
theorem ask_dec : decM [3, 0, 0, 0, 0, 0, 0, 0, 1, 0, 0, 0, 0, 0, 0, 1, 2] = (askM, 0) := by rw [← ask_enc]; exact dec_enc ask_right ask_ok

set_option maxRecDepth 8000 in
set_option maxHeartbeats 1600000 in
theorem awake_any (w : World) : Calls Try.prog 8 #[] w fun e w' => e = .returned (.bool true) ∧ Below w.heap.size w w' := by
  have HE : Hid (∀ W : World, Calls Try.prog 9 #[.agg #[.int .i64 3, .int .u64 1, .int .u64 258, .int .i64 0, .int .i64 0, .int .u32 0, .int .u32 0, .int .u64 0, .int .u64 0, .int .u64 0, .int .u64 0, .int .u64 0, .int .u64 0, .int .u64 0, .string ⟨#[]⟩]] W fun e w' => Below W.heap.size W w' ∧ ∃ v, e = .returned (.tuple #[v, .int .i64 0]) ∧ w'.ownsRow W.heap.size 5 1 v 17 (K.cellsB [3, 0, 0, 0, 0, 0, 0, 0, 1, 0, 0, 0, 0, 0, 0, 1, 2])) := fun W => by
    have := encode_any askM W ask_ok
    rw [ask_L, ask_E] at this
    exact this
  have HD : Hid (∀ (W : World) (a : Option Addr) (cap : Nat), K.Bs W a 17 [3, 0, 0, 0, 0, 0, 0, 0, 1, 0, 0, 0, 0, 0, 0, 1, 2] → Calls Try.prog 13 #[.slice a 17 cap] W fun e w' => e = .returned (.tuple #[.agg askM.cells.toArray, .int .i64 0]) ∧ Below W.heap.size W w') := fun W a cap h => by
    have := decode_any a 17 cap _ W (by decide) h
    rw [ask_dec] at this
    exact this
  have HN : Hid (∀ W : World, Blk (W.alloc (Obj.cells zero15.toArray 28)) W.heap.size 28 zero15) := fun W => D.blk_new W _ 28
  have HZ : (Try.prog.info? 28).map (·.size) = some askM.cells.toArray.size := Try.size28
  have H1 : askM.cells.toArray.all (·.oneCell') = true := askM.cells_one
  have HB : Hid (K.Bs w none 0 []) := ⟨rfl, by simp, fun h => absurd h (by decide)⟩
  clear HB
  unfold zero15 at *
  go_enter Try.func8, Try.ntmps8
  go_wp2_with fail
  refine (HE.out _).mono ?_
  rintro e w1 ⟨b1, v1, rfl, o1⟩
  obtain ⟨a1, k1, rfl, s1, _⟩ := K.owns_bs o1 (by decide)
  obtain ⟨b, off, rfl, hc⟩ := s1.2.2 (by decide)
  go_wp2_with fail
  refine (HD.out _ _ k1 s1).mono ?_
  rintro e w2 ⟨rfl, b2⟩
  have z2 : Hid (Below w.heap.size w w2) := b1.trans (b2.mono b1.size)
  have s2 := s1.below b2
  obtain ⟨_, _, e2, hc2⟩ := s2.2.2 (by decide)
  cases e2
  have Zn := HN.out w2
  have hX : ∀ X, X = (w2.alloc (Obj.cells zero15.toArray 28)).setRow w2.heap.size askM.cells.toArray → Below w2.heap.size w2 X := fun X h => h ▸ below_setRow (room1 w2 _) (Nat.le_refl _) _
  unfold zero15 at *
  clear hc s1 o1 b1 b2
  have HC : Hid (∀ X, Below w2.heap.size w2 X → X.cell? ⟨b, off, none⟩ = some (.int .u8 3) ∧ X.cell? ⟨b, off + 16, none⟩ = some (.int .u8 2)) := fun X h => by
    have s3 := s2.below h
    obtain ⟨_, _, e3, hc3⟩ := s3.2.2 (by decide)
    cases e3
    exact ⟨hc3 0 (by decide), hc3 16 (by decide)⟩
  clear hc2 s2
  go_wp2_with (refine at_op (.store 28 (.tmp 3) (.tmp 13)) rfl ?_; refine wpList_store_r rfl 28 (.tmp 3) (.tmp 13) rfl w2.heap.size askM.cells.toArray rfl rfl 28 _ Zn HZ rfl H1 ?_; intro X hX0; have hb3 := hX X hX0; obtain ⟨y0, y16⟩ := HC.out X hb3; have yI : X.cell? ⟨w2.heap.size, 2, none⟩ = some (.int .u64 258) := hX0 ▸ (Blk.row Zn askM.cells.toArray).cell 2; have zB : Hid (Below w.heap.size w X) := z2.out.trans (hb3.mono z2.out.size); clear hX0 hX hb3 Zn)
  go_ret
  exact ⟨rfl, zB.out⟩

end Go.Proofs.Ytpdndcmaaghnjaa
