/-
  The walk of the law on the message of any bytes.
-/
import Derived.Test.YtpdndcmaaghnjaaMsDr
import Derived.Test.YtpdndcmaaghnjaaMsAwk
import Derived.Deep.QuietTactic
import Derived.BigQuiet
import Derived.Deep.DeepCutAuto
namespace Go.Proofs.Ytpdndcmaaghnjaa
open Go.RowKit
open D (Da Blk)

theorem dec_ok {l : List Int} (h : D.Byt l) : (decM l).1.ok := by
  cases l with
  | nil => exact ⟨⟨by decide, by decide⟩, ⟨by decide, by decide⟩, D.zero_ok, fun z hz => by cases hz⟩
  | cons k r =>
    by_cases hk : 1 ≤ k ∧ k ≤ 7
    · rw [dec_tell (m := rd k (k :: r)) rfl hk h fun _ _ => rfl]
      exact tell_ok (rd_ok h)
    · have e : decM (k :: r) = (Mg.zero, 3) := by rw [dec_at (k := k) rfl, if_pos hk]
      rw [e]
      exact ⟨⟨by decide, by decide⟩, ⟨by decide, by decide⟩, D.zero_ok, fun z hz => by cases hz⟩

set_option maxHeartbeats 1600000 in
theorem decodes_long (a : Option Addr) (len cap : Nat) (w : World) (h : 2000 < len) : Calls Try.prog 4 #[.slice a len cap] w fun e w' => e = .returned (.bool true) ∧ Below w.heap.size w w' := by
  have hd : decide ((2000 : Int) < (len : Int)) = true := decide_eq_true (by omega)
  clear h
  go_enter Try.func4, Try.ntmps4
  go_wp2_with (go_at_call 8; refine (awake_any _).mono ?_; rintro e w1 ⟨rfl, b1⟩)
  go_ret
  exact ⟨rfl, b1⟩

set_option maxRecDepth 8000 in
set_option maxHeartbeats 1600000 in
theorem decodes_walk (a : Option Addr) (len cap : Nat) (l : List Int) (w : World) (hcap : len ≤ cap) (hb : K.Bs w a len l) : Calls Try.prog 4 #[.slice a len cap] w fun e w' => e = .returned (.bool true) ∧ Below w.heap.size w w' := by
  by_cases hlen : 2000 < len
  · exact decodes_long a len cap w hlen
  · have ho := dec_ok (l := l) hb.2.1
    have hd : decide ((2000 : Int) < (len : Int)) = false := decide_eq_false (by omega)
    have HP : Hid (∀ W : World, K.Bs W a len l → Calls Try.prog 13 #[.slice a len cap] W fun e w' => e = .returned (.tuple #[.agg (decM l).1.cells.toArray, .int .i64 (decM l).2]) ∧ Below W.heap.size W w') := fun W h => decode_any a len cap l W (by omega) h
    have HR : Hid (∀ W : World, K.Bs W a len l → Calls Try.prog 14 #[.slice a len cap] W fun e w' => e = .returned (.tuple #[.agg (decM l).1.cells.toArray, .int .i64 (decM l).2]) ∧ Below W.heap.size W w') := fun W h => refDecode_any a len cap l W hcap (by omega) h
    have HZ : Hid ((Try.prog.info? 28).map (·.size) = some (decM l).1.cells.toArray.size) := Mg.size _ ho.2.2.1
    have H1 : Hid ((decM l).1.cells.toArray.all (·.oneCell') = true) := Mg.cells_one _
    have HS : Hid (zero15.toArray.size = (decM l).1.cells.toArray.size) := by unfold Hid; rw [List.size_toArray, List.size_toArray, Mg.cells_len _ ho.2.2.1]; rfl
    have HQ : Hid (∀ W : World, (binOp .eql 28 (.agg (decM l).1.cells.toArray) (.agg (decM l).1.cells.toArray)).run Try.prog W = .ok (.bool true) W) := fun W => by
      have := eql_mg (decM l).1 (decM l).1 W ho.2.2.1 ho.2.2.1 ho.2.2.2 ho.2.2.2
      rw [(Mg.same_iff _ _).2 rfl] at this
      exact this
    have HG : Hid (∀ (W : World) (x y : Operand), (eqGuard .eql 28 x y (.agg (decM l).1.cells.toArray) (.agg (decM l).1.cells.toArray)).run Try.prog W = .ok () W) := fun W x y => guard_mg .eql x y _ _ W (.inl rfl)
    have HN : Hid (∀ W : World, Blk (W.alloc (Obj.cells zero15.toArray 28)) W.heap.size 28 zero15) := fun W => D.blk_new W _ 28
    generalize (decM l).1.cells = R at *
    generalize (decM l).2 = en at *
    have hee : (en == en) = true := beq_self_eq_true en
    clear hlen ho
    unfold zero15 at *
    go_enter Try.func4, Try.ntmps4
    go_wp2_with (go_at_call 8; refine (awake_any _).mono ?_; rintro e w1 ⟨rfl, b1⟩; have s1 := hb.below b1)
    refine (HP.out _ s1).mono ?_
    rintro e w2 ⟨rfl, b2⟩
    have s2 := s1.below b2
    have z2 : Hid (Below w.heap.size w w2) := b1.trans (b2.mono b1.size)
    clear b1 b2 s1 hb
    have Z2 := HN.out w2
    go_wp2_with (refine at_op (.store 28 (.tmp 4) (.tmp 16)) rfl ?_; refine wpList_store_r rfl 28 (.tmp 4) (.tmp 16) rfl w2.heap.size R.toArray rfl rfl 28 _ Z2 HZ.out HS.out H1.out ?_; intro X hX; have k3 : Below w2.heap.size w2 X := hX ▸ below_setRow (room1 w2 _) (Nat.le_refl _) _; have Z3 : Blk X w2.heap.size 28 R := hX ▸ Blk.row Z2 _; have s3 := s2.below k3; have z3 : Hid (Below w.heap.size w X) := z2.out.trans (k3.mono z2.out.size); clear hX k3 Z2 s2)
    refine (HR.out _ s3).mono ?_
    rintro e w4 ⟨rfl, b4⟩
    have Z4 := Z3.over b4
    have z4 : Hid (Below w.heap.size w w4) := z3.out.trans (b4.mono z3.out.size)
    have ne4 : Hid (w2.heap.size < w4.heap.size) := Z4.lt
    clear b4 Z3 s3
    have Y4 := HN.out w4
    go_upto_region 6 with (refine at_op (.store 28 (.tmp 6) (.tmp 21)) rfl ?_; refine wpList_store_r rfl 28 (.tmp 6) (.tmp 21) rfl w4.heap.size R.toArray rfl rfl 28 _ Y4 HZ.out HS.out H1.out ?_; intro X5 hX; have k5 : Below w4.heap.size w4 X5 := hX ▸ below_setRow (room1 w4 _) (Nat.le_refl _) _; have Z5 : Blk X5 w4.heap.size 28 R := hX ▸ Blk.row Y4 _; have Z6 := Z4.over k5; have z5 : Hid (Below w.heap.size w X5) := z4.out.trans (k5.mono z4.out.size); clear hX k5 Z4 Y4)
    have q1 := HQ.out
    have q2 := HG.out
    go_wp2_with (first | (refine at_op (.load 28 (.tmp 4)) rfl ?_; refine wpList_load_rowG rfl 28 (.tmp 4) rfl w2.heap.size rfl 28 R.toArray (0, 0) _ Z6 Try.underlying28 rfl HZ.out ?_) | (refine at_op (.load 28 (.tmp 6)) rfl ?_; refine wpList_load_rowG rfl 28 (.tmp 6) rfl w4.heap.size rfl 28 R.toArray (0, 0) _ Z5 Try.underlying28 rfl HZ.out ?_))
    go_ret
    exact ⟨rfl, z5.out⟩

end Go.Proofs.Ytpdndcmaaghnjaa
