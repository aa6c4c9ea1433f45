/-
  The walk of the law that what was encoded is decoded as it was, and the other way round.
-/
import Derived.Test.YtpdndcmaaghnjaaMsEnc
import Derived.Test.YtpdndcmaaghnjaaMsAwk
import Derived.Deep.DeepCutAuto
namespace Go.Proofs.Ytpdndcmaaghnjaa
open Go.RowKit
open D (Da Blk)

theorem encL_byt {m : Mg} (ho : m.ok) : D.Byt (encL m) := by
  unfold encL
  split
  · next h => exact enc_byt ((rightB_iff m).1 h) ho
  · exact fun z hz => by cases hz
theorem encE_one {m : Mg} (h : encE m ≠ 0) : encE m = 1 ∧ encL m = [] := by
  unfold encE encL at *
  by_cases hr : rightB m = true
  · rw [if_pos hr] at h; exact absurd rfl h
  · rw [if_neg hr, if_neg hr]; exact ⟨rfl, rfl⟩
theorem encE_right {m : Mg} (h : encE m = 0) : MgR m ∧ encL m = encM m := by
  unfold encE encL at *
  by_cases hr : rightB m = true
  · rw [if_pos hr]; exact ⟨(rightB_iff m).1 hr, rfl⟩
  · rw [if_neg hr] at h; cases h
theorem enc_of_right {m : Mg} (h : MgR m) : encE m = 0 ∧ encL m = encM m := by
  unfold encE encL
  rw [if_pos ((rightB_iff m).2 h), if_pos ((rightB_iff m).2 h)]
  exact ⟨rfl, rfl⟩
theorem dec_ok {l : List Int} (h : D.Byt l) : (decM l).1.ok := by
  cases l with
  | nil => exact ⟨⟨by decide, by decide⟩, ⟨by decide, by decide⟩, D.zero_ok, fun z hz => by cases hz⟩
  | cons k r =>
    by_cases hk : 1 ≤ k ∧ k ≤ 7
    · rw [dec_tell (m := rd k (k :: r)) rfl hk h fun _ _ => rfl]
      exact tell_ok (rd_ok h)
    · have e : decM (k :: r) = (Mg.zero, 3) := by rw [dec_at (k := k) rfl, if_pos hk]
      rw [e]
      exact ⟨⟨by decide, by decide⟩, ⟨by decide, by decide⟩, D.zero_ok, fun z hz => by cases hz⟩
theorem same_op (m : Mg) (ho : m.ok) (W : World) : (binOp .eql 28 (.agg m.cells.toArray) (.agg m.cells.toArray)).run Try.prog W = .ok (.bool true) W ∧ (binOp .neq 28 (.agg m.cells.toArray) (.agg m.cells.toArray)).run Try.prog W = .ok (.bool false) W := by
  have h1 := eql_mg m m W ho.2.2.1 ho.2.2.1 ho.2.2.2 ho.2.2.2
  have h2 := neq_mg m m W ho.2.2.1 ho.2.2.1 ho.2.2.2 ho.2.2.2
  rw [(Mg.same_iff _ _).2 rfl] at h1 h2
  exact ⟨h1, h2⟩

set_option maxRecDepth 8000 in
set_option maxHeartbeats 1600000 in
theorem back_longa (m : Mg) (a : Option Addr) (len cap : Nat) (w : World) (ho : m.ok) (h : 2000 < m.path.length) : Calls Try.prog 5 #[m.vl, .slice a len cap] w fun e w' => e = .returned (.bool true) ∧ Below w.heap.size w w' := by
  have Z0 : Hid (Blk (w.alloc (Obj.cells m.cells.toArray 28)) w.heap.size 28 m.cells) := D.blk_new w _ 28
  have B0 : Hid (Below w.heap.size w (w.alloc (Obj.cells m.cells.toArray 28))) := room1 w _
  have HC : Hid (m.cells[14]? = some (.string (strOfNums m.path))) := m.c14 ho.2.2.1
  have hd : decide ((2000 : Int) < ((strOfNums m.path).size : Int)) = true := decide_eq_true (by rw [strOfNums_size]; omega)
  have hd2 : decide (2000 < (strOfNums m.path).size) = true := decide_eq_true (by rw [strOfNums_size]; exact h)
  unfold Mg.vl
  clear ho h
  generalize m.cells = R at *
  generalize strOfNums m.path = s at *
  go_enter Try.func5, Try.ntmps5
  go_wp2_with (go_at_call 8; refine (awake_any _).mono ?_; rintro e w1 ⟨rfl, b1⟩; have z1 := Z0.out.over b1; have c14 := (z1.cell 14).trans HC.out; have B1 : Hid (Below w.heap.size w w1) := B0.out.trans (b1.mono B0.out.size))
  go_ret
  exact ⟨rfl, B1.out⟩

set_option maxRecDepth 8000 in
set_option maxHeartbeats 1600000 in
theorem back_longb (m : Mg) (a : Option Addr) (len cap : Nat) (w : World) (ho : m.ok) (h0 : ¬ 2000 < m.path.length) (h : 2000 < len) : Calls Try.prog 5 #[m.vl, .slice a len cap] w fun e w' => e = .returned (.bool true) ∧ Below w.heap.size w w' := by
  have Z0 : Hid (Blk (w.alloc (Obj.cells m.cells.toArray 28)) w.heap.size 28 m.cells) := D.blk_new w _ 28
  have B0 : Hid (Below w.heap.size w (w.alloc (Obj.cells m.cells.toArray 28))) := room1 w _
  have HC : Hid (m.cells[14]? = some (.string (strOfNums m.path))) := m.c14 ho.2.2.1
  have hd : decide ((2000 : Int) < ((strOfNums m.path).size : Int)) = false := decide_eq_false (by rw [strOfNums_size]; omega)
  have hd2 : decide (2000 < (strOfNums m.path).size) = false := decide_eq_false (by rw [strOfNums_size]; exact h0)
  have he : decide ((2000 : Int) < (len : Int)) = true := decide_eq_true (by omega)
  have he2 : decide (2000 < len) = true := decide_eq_true h
  clear h0
  unfold Mg.vl
  clear ho h
  generalize m.cells = R at *
  generalize strOfNums m.path = s at *
  go_enter Try.func5, Try.ntmps5
  go_wp2_with (go_at_call 8; refine (awake_any _).mono ?_; rintro e w1 ⟨rfl, b1⟩; have z1 := Z0.out.over b1; have c14 := (z1.cell 14).trans HC.out; have B1 : Hid (Below w.heap.size w w1) := B0.out.trans (b1.mono B0.out.size))
  go_ret
  exact ⟨rfl, B1.out⟩

set_option maxRecDepth 8000 in
set_option maxHeartbeats 4000000 in
theorem back_rr (m : Mg) (a : Option Addr) (len cap : Nat) (l : List Int) (w : World) (ho : m.ok) (hb : K.Bs w a len l) (h0 : ¬ 2000 < m.path.length) (h1 : ¬ 2000 < len) (hE : encE m = 0) (hD : (decM l).2 = 0) : Calls Try.prog 5 #[m.vl, .slice a len cap] w fun e w' => e = .returned (.bool true) ∧ Below w.heap.size w w' := by
  have Z0 : Hid (Blk (w.alloc (Obj.cells m.cells.toArray 28)) w.heap.size 28 m.cells) := D.blk_new w _ 28
  have B0 : Hid (Below w.heap.size w (w.alloc (Obj.cells m.cells.toArray 28))) := room1 w _
  have HC : Hid (m.cells[14]? = some (.string (strOfNums m.path))) := m.c14 ho.2.2.1
  have hd : decide ((2000 : Int) < ((strOfNums m.path).size : Int)) = false := decide_eq_false (by rw [strOfNums_size]; omega)
  have hd2 : decide (2000 < (strOfNums m.path).size) = false := decide_eq_false (by rw [strOfNums_size]; exact h0)
  have he : decide ((2000 : Int) < (len : Int)) = false := decide_eq_false (by omega)
  have he2 : decide (2000 < len) = false := decide_eq_false h1
  have HZ : Hid ((Try.prog.info? 28).map (·.size) = some m.cells.toArray.size) := m.size ho.2.2.1
  have H1 : Hid (m.cells.toArray.all (·.oneCell') = true) := m.cells_one
  have HS : Hid (zero15.toArray.size = m.cells.toArray.size) := by unfold Hid; rw [List.size_toArray, List.size_toArray, m.cells_len ho.2.2.1]; rfl
  have HN : Hid (∀ W : World, Blk (W.alloc (Obj.cells zero15.toArray 28)) W.heap.size 28 zero15) := fun W => D.blk_new W _ 28
  have HP : Hid (∀ W : World, Calls Try.prog 9 #[.agg m.cells.toArray] W fun e w' => Below W.heap.size W w' ∧ ∃ v, e = .returned (.tuple #[v, .int .i64 (encE m)]) ∧ w'.ownsRow W.heap.size 5 1 v (encL m).length (K.cellsB (encL m))) := fun W => encode_any m W ho
  have HY : Hid (D.Byt (encL m)) := encL_byt ho
  obtain ⟨hr, hle⟩ := encE_right hE
  have hlm : (encL m).length ≤ 512 := by rw [hle]; exact enc_most hr ho
  have hf1 : decide ((512 : Int) < ((encL m).length : Int)) = false := decide_eq_false (by omega)
  have hf2 : decide (512 < (encL m).length) = false := decide_eq_false (by omega)
  have hde : decM (encL m) = (m, 0) := by rw [hle]; exact dec_enc hr ho
  have HX : Hid (∀ (W : World) (p : Option Addr) (c : Nat), K.Bs W p (encL m).length (encL m) → Calls Try.prog 13 #[.slice p (encL m).length c] W fun e w' => e = .returned (.tuple #[.agg m.cells.toArray, .int .i64 0]) ∧ Below W.heap.size W w') := fun W p c h => by have := decode_any p (encL m).length c (encL m) W (by omega) h; rw [hde] at this; exact this
  have HQ : Hid (∀ W : World, (binOp .neq 28 (.agg m.cells.toArray) (.agg m.cells.toArray)).run Try.prog W = .ok (.bool false) W) := fun W => (same_op m ho W).2
  have HG : Hid (∀ (W : World) (p q : Operand), (eqGuard .neq 28 p q (.agg m.cells.toArray) (.agg m.cells.toArray)).run Try.prog W = .ok () W) := fun W p q => guard_mg .neq p q m m W (.inr rfl)
  rw [hE] at HP
  clear hr hle hlm hde
  have hdk := dec_ok (l := l) hb.2.1
  have HB2 : Hid (∀ W : World, K.Bs W a len l → Calls Try.prog 13 #[.slice a len cap] W fun e w' => e = .returned (.tuple #[.agg (decM l).1.cells.toArray, .int .i64 (decM l).2]) ∧ Below W.heap.size W w') := fun W h => decode_any a len cap l W (by omega) h
  have HZ2 : Hid ((Try.prog.info? 28).map (·.size) = some (decM l).1.cells.toArray.size) := Mg.size _ hdk.2.2.1
  have H12 : Hid ((decM l).1.cells.toArray.all (·.oneCell') = true) := Mg.cells_one _
  have HS2 : Hid (zero15.toArray.size = (decM l).1.cells.toArray.size) := by unfold Hid; rw [List.size_toArray, List.size_toArray, Mg.cells_len _ hdk.2.2.1]; rfl
  obtain ⟨hr2, _, hel⟩ := enc_dec hb.2.1 hD
  have HP2 : Hid (∀ W : World, Calls Try.prog 9 #[.agg (decM l).1.cells.toArray] W fun e w' => Below W.heap.size W w' ∧ ∃ v, e = .returned (.tuple #[v, .int .i64 0]) ∧ w'.ownsRow W.heap.size 5 1 v l.length (K.cellsB l)) := fun W => by have := encode_any (decM l).1 W hdk; rw [(enc_of_right hr2).1, (enc_of_right hr2).2, hel] at this; exact this
  have HY2 : Hid (D.Byt l) := hb.2.1
  have hse : ((strOfNums l).toList == (strOfNums l).toList) = true := beq_self_eq_true _
  rw [hD] at HB2
  clear hr2 hel
  unfold Mg.vl
  clear ho h0 h1 hE hD hdk
  generalize m.cells = R at *
  generalize strOfNums m.path = s at *
  generalize encL m = L at *
  generalize (decM l).1.cells = R2 at *
  unfold zero15 at *
  go_enter Try.func5, Try.ntmps5
  go_wp2_with (first | (go_at_call 8; refine (awake_any _).mono ?_; rintro e w1 ⟨rfl, b1⟩; have z1 := Z0.out.over b1; have c14 := (z1.cell 14).trans HC.out; have B1 : Hid (Below w.heap.size w w1) := B0.out.trans (b1.mono B0.out.size); have hb1 := hb.below (B1.out); clear b1) | (refine at_op (.load 28 (.tmp 2)) rfl ?_; refine wpList_load_row rfl 28 (.tmp 2) rfl w.heap.size rfl 28 R.toArray (0, 0) _ z1 Try.underlying28 rfl HZ.out ?_))
  refine (HP.out _).mono ?_
  rintro e w2 ⟨b2, v2, rfl, o2⟩
  have z2 := z1.over b2
  have hb2 := hb1.below b2
  have B2 : Hid (Below w.heap.size w w2) := B1.out.trans (b2.mono B1.out.size)
  obtain ⟨a2, k2, rfl, s2, _⟩ := K.owns_bs o2 HY.out
  clear b2 o2 c14 z1 B1 hb1
  go_wp2_with fail
  refine (HX.out _ _ k2 s2).mono ?_
  rintro e w3 ⟨rfl, b3⟩
  have z3 := z2.over b3
  have hb3 := hb2.below b3
  have B3 : Hid (Below w.heap.size w w3) := B2.out.trans (b3.mono B2.out.size)
  clear b3 z2 B2 s2 hb2
  have Y3 := HN.out w3
  have q1 := HQ.out; have q2 := HG.out
  go_wp2_with (first | (refine at_op (.store 28 (.tmp 8) (.tmp 35)) rfl ?_; refine wpList_store_r rfl 28 (.tmp 8) (.tmp 35) rfl w3.heap.size R.toArray rfl rfl 28 _ Y3 HZ.out HS.out H1.out ?_; intro X4 hX; have k4 : Below w3.heap.size w3 X4 := hX ▸ below_setRow (room1 w3 _) (Nat.le_refl _) _; have y4 : Blk X4 w3.heap.size 28 R := hX ▸ Blk.row Y3 _; have z4 := z3.over k4; have hb4 := hb3.below k4; have B4 : Hid (Below w.heap.size w X4) := B3.out.trans (k4.mono B3.out.size); clear hX k4 Y3 z3 hb3) | (refine at_op (.load 28 (.tmp 8)) rfl ?_; refine wpList_load_row rfl 28 (.tmp 8) rfl w3.heap.size rfl 28 R.toArray (0, 0) _ y4 Try.underlying28 rfl HZ.out ?_) | (refine at_op (.load 28 (.tmp 2)) rfl ?_; refine wpList_load_row rfl 28 (.tmp 2) rfl w.heap.size rfl 28 R.toArray (0, 0) _ z4 Try.underlying28 rfl HZ.out ?_))
  refine (HB2.out _ hb4).mono ?_
  rintro e w5 ⟨rfl, b5⟩
  have hb5 := hb4.below b5
  have B5 : Hid (Below w.heap.size w w5) := B4.out.trans (b5.mono B4.out.size)
  have Y5 := HN.out w5
  clear b5 hb4
  go_wp2_with (first | (refine at_op (.store 28 (.tmp 10) (.tmp 52)) rfl ?_; refine wpList_store_r rfl 28 (.tmp 10) (.tmp 52) rfl w5.heap.size R2.toArray rfl rfl 28 _ Y5 HZ2.out HS2.out H12.out ?_; intro X6 hX; have k6 : Below w5.heap.size w5 X6 := hX ▸ below_setRow (room1 w5 _) (Nat.le_refl _) _; have y6 : Blk X6 w5.heap.size 28 R2 := hX ▸ Blk.row Y5 _; have hb6 := hb5.below k6; have B6 : Hid (Below w.heap.size w X6) := B5.out.trans (k6.mono B5.out.size); clear hX k6 Y5 hb5) | (refine at_op (.load 28 (.tmp 10)) rfl ?_; refine wpList_load_row rfl 28 (.tmp 10) rfl w5.heap.size rfl 28 R2.toArray (0, 0) _ y6 Try.underlying28 rfl HZ2.out ?_))
  refine (HP2.out _).mono ?_
  rintro e w7 ⟨b7, v7, rfl, o7⟩
  have hb7 := hb6.below b7
  have B7 : Hid (Below w.heap.size w w7) := B6.out.trans (b7.mono B6.out.size)
  obtain ⟨a7, k7, rfl, s7, _⟩ := K.owns_bs o7 HY2.out
  have t1 := K.run_text s7 k7
  have t2 := K.run_text hb7 cap
  clear b7 o7 s7 hb7
  go_wp2
  go_ret
  exact ⟨rfl, B7.out⟩

set_option maxRecDepth 8000 in
set_option maxHeartbeats 4000000 in
theorem back_rw (m : Mg) (a : Option Addr) (len cap : Nat) (l : List Int) (w : World) (ho : m.ok) (hb : K.Bs w a len l) (h0 : ¬ 2000 < m.path.length) (h1 : ¬ 2000 < len) (hE : encE m = 0) (hD : (decM l).2 ≠ 0) : Calls Try.prog 5 #[m.vl, .slice a len cap] w fun e w' => e = .returned (.bool true) ∧ Below w.heap.size w w' := by
  have Z0 : Hid (Blk (w.alloc (Obj.cells m.cells.toArray 28)) w.heap.size 28 m.cells) := D.blk_new w _ 28
  have B0 : Hid (Below w.heap.size w (w.alloc (Obj.cells m.cells.toArray 28))) := room1 w _
  have HC : Hid (m.cells[14]? = some (.string (strOfNums m.path))) := m.c14 ho.2.2.1
  have hd : decide ((2000 : Int) < ((strOfNums m.path).size : Int)) = false := decide_eq_false (by rw [strOfNums_size]; omega)
  have hd2 : decide (2000 < (strOfNums m.path).size) = false := decide_eq_false (by rw [strOfNums_size]; exact h0)
  have he : decide ((2000 : Int) < (len : Int)) = false := decide_eq_false (by omega)
  have he2 : decide (2000 < len) = false := decide_eq_false h1
  have HZ : Hid ((Try.prog.info? 28).map (·.size) = some m.cells.toArray.size) := m.size ho.2.2.1
  have H1 : Hid (m.cells.toArray.all (·.oneCell') = true) := m.cells_one
  have HS : Hid (zero15.toArray.size = m.cells.toArray.size) := by unfold Hid; rw [List.size_toArray, List.size_toArray, m.cells_len ho.2.2.1]; rfl
  have HN : Hid (∀ W : World, Blk (W.alloc (Obj.cells zero15.toArray 28)) W.heap.size 28 zero15) := fun W => D.blk_new W _ 28
  have HP : Hid (∀ W : World, Calls Try.prog 9 #[.agg m.cells.toArray] W fun e w' => Below W.heap.size W w' ∧ ∃ v, e = .returned (.tuple #[v, .int .i64 (encE m)]) ∧ w'.ownsRow W.heap.size 5 1 v (encL m).length (K.cellsB (encL m))) := fun W => encode_any m W ho
  have HY : Hid (D.Byt (encL m)) := encL_byt ho
  obtain ⟨hr, hle⟩ := encE_right hE
  have hlm : (encL m).length ≤ 512 := by rw [hle]; exact enc_most hr ho
  have hf1 : decide ((512 : Int) < ((encL m).length : Int)) = false := decide_eq_false (by omega)
  have hf2 : decide (512 < (encL m).length) = false := decide_eq_false (by omega)
  have hde : decM (encL m) = (m, 0) := by rw [hle]; exact dec_enc hr ho
  have HX : Hid (∀ (W : World) (p : Option Addr) (c : Nat), K.Bs W p (encL m).length (encL m) → Calls Try.prog 13 #[.slice p (encL m).length c] W fun e w' => e = .returned (.tuple #[.agg m.cells.toArray, .int .i64 0]) ∧ Below W.heap.size W w') := fun W p c h => by have := decode_any p (encL m).length c (encL m) W (by omega) h; rw [hde] at this; exact this
  have HQ : Hid (∀ W : World, (binOp .neq 28 (.agg m.cells.toArray) (.agg m.cells.toArray)).run Try.prog W = .ok (.bool false) W) := fun W => (same_op m ho W).2
  have HG : Hid (∀ (W : World) (p q : Operand), (eqGuard .neq 28 p q (.agg m.cells.toArray) (.agg m.cells.toArray)).run Try.prog W = .ok () W) := fun W p q => guard_mg .neq p q m m W (.inr rfl)
  rw [hE] at HP
  clear hr hle hlm hde
  have hdk := dec_ok (l := l) hb.2.1
  have HB2 : Hid (∀ W : World, K.Bs W a len l → Calls Try.prog 13 #[.slice a len cap] W fun e w' => e = .returned (.tuple #[.agg (decM l).1.cells.toArray, .int .i64 (decM l).2]) ∧ Below W.heap.size W w') := fun W h => decode_any a len cap l W (by omega) h
  have HZ2 : Hid ((Try.prog.info? 28).map (·.size) = some (decM l).1.cells.toArray.size) := Mg.size _ hdk.2.2.1
  have H12 : Hid ((decM l).1.cells.toArray.all (·.oneCell') = true) := Mg.cells_one _
  have HS2 : Hid (zero15.toArray.size = (decM l).1.cells.toArray.size) := by unfold Hid; rw [List.size_toArray, List.size_toArray, Mg.cells_len _ hdk.2.2.1]; rfl
  have hz0 := dec_none hD
  have hn2 : ((decM l).2 != 0) = true := by simp [hD]
  have HQ2 : Hid (∀ W : World, (binOp .eql 28 (.agg (decM l).1.cells.toArray) (.agg #[.int .i64 0, .int .u64 0, .int .u64 0, .int .i64 0, .int .i64 0, .int .u32 0, .int .u32 0, .int .u64 0, .int .u64 0, .int .u64 0, .int .u64 0, .int .u64 0, .int .u64 0, .int .u64 0, .string ⟨#[]⟩])).run Try.prog W = .ok (.bool true) W) := fun W => by rw [hz0]; exact (same_op Mg.zero (hz0 ▸ hdk) W).1
  have HG2 : Hid (∀ (W : World) (p q : Operand), (eqGuard .eql 28 p q (.agg (decM l).1.cells.toArray) (.agg #[.int .i64 0, .int .u64 0, .int .u64 0, .int .i64 0, .int .i64 0, .int .u32 0, .int .u32 0, .int .u64 0, .int .u64 0, .int .u64 0, .int .u64 0, .int .u64 0, .int .u64 0, .int .u64 0, .string ⟨#[]⟩])).run Try.prog W = .ok () W) := fun W p q => by rw [hz0]; exact guard_mg .eql p q Mg.zero Mg.zero W (.inl rfl)
  clear hz0
  unfold Mg.vl
  clear ho h0 h1 hE hD hdk
  generalize m.cells = R at *
  generalize strOfNums m.path = s at *
  generalize encL m = L at *
  generalize (decM l).1.cells = R2 at *
  generalize (decM l).2 = en at *
  unfold zero15 at *
  go_enter Try.func5, Try.ntmps5
  go_wp2_with (first | (go_at_call 8; refine (awake_any _).mono ?_; rintro e w1 ⟨rfl, b1⟩; have z1 := Z0.out.over b1; have c14 := (z1.cell 14).trans HC.out; have B1 : Hid (Below w.heap.size w w1) := B0.out.trans (b1.mono B0.out.size); have hb1 := hb.below (B1.out); clear b1) | (refine at_op (.load 28 (.tmp 2)) rfl ?_; refine wpList_load_row rfl 28 (.tmp 2) rfl w.heap.size rfl 28 R.toArray (0, 0) _ z1 Try.underlying28 rfl HZ.out ?_))
  refine (HP.out _).mono ?_
  rintro e w2 ⟨b2, v2, rfl, o2⟩
  have z2 := z1.over b2
  have hb2 := hb1.below b2
  have B2 : Hid (Below w.heap.size w w2) := B1.out.trans (b2.mono B1.out.size)
  obtain ⟨a2, k2, rfl, s2, _⟩ := K.owns_bs o2 HY.out
  clear b2 o2 c14 z1 B1 hb1
  go_wp2_with fail
  refine (HX.out _ _ k2 s2).mono ?_
  rintro e w3 ⟨rfl, b3⟩
  have z3 := z2.over b3
  have hb3 := hb2.below b3
  have B3 : Hid (Below w.heap.size w w3) := B2.out.trans (b3.mono B2.out.size)
  clear b3 z2 B2 s2 hb2
  have Y3 := HN.out w3
  have q1 := HQ.out; have q2 := HG.out
  go_wp2_with (first | (refine at_op (.store 28 (.tmp 8) (.tmp 35)) rfl ?_; refine wpList_store_r rfl 28 (.tmp 8) (.tmp 35) rfl w3.heap.size R.toArray rfl rfl 28 _ Y3 HZ.out HS.out H1.out ?_; intro X4 hX; have k4 : Below w3.heap.size w3 X4 := hX ▸ below_setRow (room1 w3 _) (Nat.le_refl _) _; have y4 : Blk X4 w3.heap.size 28 R := hX ▸ Blk.row Y3 _; have z4 := z3.over k4; have hb4 := hb3.below k4; have B4 : Hid (Below w.heap.size w X4) := B3.out.trans (k4.mono B3.out.size); clear hX k4 Y3 z3 hb3) | (refine at_op (.load 28 (.tmp 8)) rfl ?_; refine wpList_load_row rfl 28 (.tmp 8) rfl w3.heap.size rfl 28 R.toArray (0, 0) _ y4 Try.underlying28 rfl HZ.out ?_) | (refine at_op (.load 28 (.tmp 2)) rfl ?_; refine wpList_load_row rfl 28 (.tmp 2) rfl w.heap.size rfl 28 R.toArray (0, 0) _ z4 Try.underlying28 rfl HZ.out ?_))
  refine (HB2.out _ hb4).mono ?_
  rintro e w5 ⟨rfl, b5⟩
  have hb5 := hb4.below b5
  have B5 : Hid (Below w.heap.size w w5) := B4.out.trans (b5.mono B4.out.size)
  have Y5 := HN.out w5
  clear b5 hb4
  have q3 := HQ2.out; have q4 := HG2.out
  go_wp2_with (first | (refine at_op (.store 28 (.tmp 10) (.tmp 52)) rfl ?_; refine wpList_store_r rfl 28 (.tmp 10) (.tmp 52) rfl w5.heap.size R2.toArray rfl rfl 28 _ Y5 HZ2.out HS2.out H12.out ?_; intro X6 hX; have k6 : Below w5.heap.size w5 X6 := hX ▸ below_setRow (room1 w5 _) (Nat.le_refl _) _; have y6 : Blk X6 w5.heap.size 28 R2 := hX ▸ Blk.row Y5 _; have hb6 := hb5.below k6; have B6 : Hid (Below w.heap.size w X6) := B5.out.trans (k6.mono B5.out.size); clear hX k6 Y5 hb5) | (refine at_op (.load 28 (.tmp 10)) rfl ?_; refine wpList_load_rowG rfl 28 (.tmp 10) rfl w5.heap.size rfl 28 R2.toArray (0, 0) _ y6 Try.underlying28 rfl HZ2.out ?_))
  go_ret
  exact ⟨rfl, B6.out⟩

set_option maxRecDepth 8000 in
set_option maxHeartbeats 4000000 in
theorem back_wr (m : Mg) (a : Option Addr) (len cap : Nat) (l : List Int) (w : World) (ho : m.ok) (hb : K.Bs w a len l) (h0 : ¬ 2000 < m.path.length) (h1 : ¬ 2000 < len) (hE : encE m ≠ 0) (hD : (decM l).2 = 0) : Calls Try.prog 5 #[m.vl, .slice a len cap] w fun e w' => e = .returned (.bool true) ∧ Below w.heap.size w w' := by
  have Z0 : Hid (Blk (w.alloc (Obj.cells m.cells.toArray 28)) w.heap.size 28 m.cells) := D.blk_new w _ 28
  have B0 : Hid (Below w.heap.size w (w.alloc (Obj.cells m.cells.toArray 28))) := room1 w _
  have HC : Hid (m.cells[14]? = some (.string (strOfNums m.path))) := m.c14 ho.2.2.1
  have hd : decide ((2000 : Int) < ((strOfNums m.path).size : Int)) = false := decide_eq_false (by rw [strOfNums_size]; omega)
  have hd2 : decide (2000 < (strOfNums m.path).size) = false := decide_eq_false (by rw [strOfNums_size]; exact h0)
  have he : decide ((2000 : Int) < (len : Int)) = false := decide_eq_false (by omega)
  have he2 : decide (2000 < len) = false := decide_eq_false h1
  have HZ : Hid ((Try.prog.info? 28).map (·.size) = some m.cells.toArray.size) := m.size ho.2.2.1
  have H1 : Hid (m.cells.toArray.all (·.oneCell') = true) := m.cells_one
  have HS : Hid (zero15.toArray.size = m.cells.toArray.size) := by unfold Hid; rw [List.size_toArray, List.size_toArray, m.cells_len ho.2.2.1]; rfl
  have HN : Hid (∀ W : World, Blk (W.alloc (Obj.cells zero15.toArray 28)) W.heap.size 28 zero15) := fun W => D.blk_new W _ 28
  have HP : Hid (∀ W : World, Calls Try.prog 9 #[.agg m.cells.toArray] W fun e w' => Below W.heap.size W w' ∧ ∃ v, e = .returned (.tuple #[v, .int .i64 (encE m)]) ∧ w'.ownsRow W.heap.size 5 1 v (encL m).length (K.cellsB (encL m))) := fun W => encode_any m W ho
  have HY : Hid (D.Byt (encL m)) := encL_byt ho
  rw [(encE_one hE).1] at HP
  have hdk := dec_ok (l := l) hb.2.1
  have HB2 : Hid (∀ W : World, K.Bs W a len l → Calls Try.prog 13 #[.slice a len cap] W fun e w' => e = .returned (.tuple #[.agg (decM l).1.cells.toArray, .int .i64 (decM l).2]) ∧ Below W.heap.size W w') := fun W h => decode_any a len cap l W (by omega) h
  have HZ2 : Hid ((Try.prog.info? 28).map (·.size) = some (decM l).1.cells.toArray.size) := Mg.size _ hdk.2.2.1
  have H12 : Hid ((decM l).1.cells.toArray.all (·.oneCell') = true) := Mg.cells_one _
  have HS2 : Hid (zero15.toArray.size = (decM l).1.cells.toArray.size) := by unfold Hid; rw [List.size_toArray, List.size_toArray, Mg.cells_len _ hdk.2.2.1]; rfl
  obtain ⟨hr2, _, hel⟩ := enc_dec hb.2.1 hD
  have HP2 : Hid (∀ W : World, Calls Try.prog 9 #[.agg (decM l).1.cells.toArray] W fun e w' => Below W.heap.size W w' ∧ ∃ v, e = .returned (.tuple #[v, .int .i64 0]) ∧ w'.ownsRow W.heap.size 5 1 v l.length (K.cellsB l)) := fun W => by have := encode_any (decM l).1 W hdk; rw [(enc_of_right hr2).1, (enc_of_right hr2).2, hel] at this; exact this
  have HY2 : Hid (D.Byt l) := hb.2.1
  have hse : ((strOfNums l).toList == (strOfNums l).toList) = true := beq_self_eq_true _
  rw [hD] at HB2
  clear hr2 hel
  unfold Mg.vl
  clear ho h0 h1 hE hD hdk
  generalize m.cells = R at *
  generalize strOfNums m.path = s at *
  generalize (decM l).1.cells = R2 at *
  unfold zero15 at *
  go_enter Try.func5, Try.ntmps5
  go_wp2_with (first | (go_at_call 8; refine (awake_any _).mono ?_; rintro e w1 ⟨rfl, b1⟩; have z1 := Z0.out.over b1; have c14 := (z1.cell 14).trans HC.out; have B1 : Hid (Below w.heap.size w w1) := B0.out.trans (b1.mono B0.out.size); have hb1 := hb.below (B1.out); clear b1) | (refine at_op (.load 28 (.tmp 2)) rfl ?_; refine wpList_load_row rfl 28 (.tmp 2) rfl w.heap.size rfl 28 R.toArray (0, 0) _ z1 Try.underlying28 rfl HZ.out ?_))
  refine (HP.out _).mono ?_
  rintro e w2 ⟨b2, v2, rfl, o2⟩
  have z2 := z1.over b2
  have hb2 := hb1.below b2
  have B2 : Hid (Below w.heap.size w w2) := B1.out.trans (b2.mono B1.out.size)
  obtain ⟨a2, k2, rfl, s2, _⟩ := K.owns_bs o2 HY.out
  clear b2 o2 c14 z1 B1 hb1
  go_wp2_with fail
  refine (HB2.out _ hb2).mono ?_
  rintro e w5 ⟨rfl, b5⟩
  have hb5 := hb2.below b5
  have B5 : Hid (Below w.heap.size w w5) := B2.out.trans (b5.mono B2.out.size)
  have Y5 := HN.out w5
  clear b5 hb2
  go_wp2_with (first | (refine at_op (.store 28 (.tmp 10) (.tmp 52)) rfl ?_; refine wpList_store_r rfl 28 (.tmp 10) (.tmp 52) rfl w5.heap.size R2.toArray rfl rfl 28 _ Y5 HZ2.out HS2.out H12.out ?_; intro X6 hX; have k6 : Below w5.heap.size w5 X6 := hX ▸ below_setRow (room1 w5 _) (Nat.le_refl _) _; have y6 : Blk X6 w5.heap.size 28 R2 := hX ▸ Blk.row Y5 _; have hb6 := hb5.below k6; have B6 : Hid (Below w.heap.size w X6) := B5.out.trans (k6.mono B5.out.size); clear hX k6 Y5 hb5) | (refine at_op (.load 28 (.tmp 10)) rfl ?_; refine wpList_load_row rfl 28 (.tmp 10) rfl w5.heap.size rfl 28 R2.toArray (0, 0) _ y6 Try.underlying28 rfl HZ2.out ?_))
  refine (HP2.out _).mono ?_
  rintro e w7 ⟨b7, v7, rfl, o7⟩
  have hb7 := hb6.below b7
  have B7 : Hid (Below w.heap.size w w7) := B6.out.trans (b7.mono B6.out.size)
  obtain ⟨a7, k7, rfl, s7, _⟩ := K.owns_bs o7 HY2.out
  have t1 := K.run_text s7 k7
  have t2 := K.run_text hb7 cap
  clear b7 o7 s7 hb7
  go_wp2
  go_ret
  exact ⟨rfl, B7.out⟩

set_option maxRecDepth 8000 in
set_option maxHeartbeats 4000000 in
theorem back_ww (m : Mg) (a : Option Addr) (len cap : Nat) (l : List Int) (w : World) (ho : m.ok) (hb : K.Bs w a len l) (h0 : ¬ 2000 < m.path.length) (h1 : ¬ 2000 < len) (hE : encE m ≠ 0) (hD : (decM l).2 ≠ 0) : Calls Try.prog 5 #[m.vl, .slice a len cap] w fun e w' => e = .returned (.bool true) ∧ Below w.heap.size w w' := by
  have Z0 : Hid (Blk (w.alloc (Obj.cells m.cells.toArray 28)) w.heap.size 28 m.cells) := D.blk_new w _ 28
  have B0 : Hid (Below w.heap.size w (w.alloc (Obj.cells m.cells.toArray 28))) := room1 w _
  have HC : Hid (m.cells[14]? = some (.string (strOfNums m.path))) := m.c14 ho.2.2.1
  have hd : decide ((2000 : Int) < ((strOfNums m.path).size : Int)) = false := decide_eq_false (by rw [strOfNums_size]; omega)
  have hd2 : decide (2000 < (strOfNums m.path).size) = false := decide_eq_false (by rw [strOfNums_size]; exact h0)
  have he : decide ((2000 : Int) < (len : Int)) = false := decide_eq_false (by omega)
  have he2 : decide (2000 < len) = false := decide_eq_false h1
  have HZ : Hid ((Try.prog.info? 28).map (·.size) = some m.cells.toArray.size) := m.size ho.2.2.1
  have H1 : Hid (m.cells.toArray.all (·.oneCell') = true) := m.cells_one
  have HS : Hid (zero15.toArray.size = m.cells.toArray.size) := by unfold Hid; rw [List.size_toArray, List.size_toArray, m.cells_len ho.2.2.1]; rfl
  have HN : Hid (∀ W : World, Blk (W.alloc (Obj.cells zero15.toArray 28)) W.heap.size 28 zero15) := fun W => D.blk_new W _ 28
  have HP : Hid (∀ W : World, Calls Try.prog 9 #[.agg m.cells.toArray] W fun e w' => Below W.heap.size W w' ∧ ∃ v, e = .returned (.tuple #[v, .int .i64 (encE m)]) ∧ w'.ownsRow W.heap.size 5 1 v (encL m).length (K.cellsB (encL m))) := fun W => encode_any m W ho
  have HY : Hid (D.Byt (encL m)) := encL_byt ho
  rw [(encE_one hE).1] at HP
  have hdk := dec_ok (l := l) hb.2.1
  have HB2 : Hid (∀ W : World, K.Bs W a len l → Calls Try.prog 13 #[.slice a len cap] W fun e w' => e = .returned (.tuple #[.agg (decM l).1.cells.toArray, .int .i64 (decM l).2]) ∧ Below W.heap.size W w') := fun W h => decode_any a len cap l W (by omega) h
  have HZ2 : Hid ((Try.prog.info? 28).map (·.size) = some (decM l).1.cells.toArray.size) := Mg.size _ hdk.2.2.1
  have H12 : Hid ((decM l).1.cells.toArray.all (·.oneCell') = true) := Mg.cells_one _
  have HS2 : Hid (zero15.toArray.size = (decM l).1.cells.toArray.size) := by unfold Hid; rw [List.size_toArray, List.size_toArray, Mg.cells_len _ hdk.2.2.1]; rfl
  have hz0 := dec_none hD
  have hn2 : ((decM l).2 != 0) = true := by simp [hD]
  have HQ2 : Hid (∀ W : World, (binOp .eql 28 (.agg (decM l).1.cells.toArray) (.agg #[.int .i64 0, .int .u64 0, .int .u64 0, .int .i64 0, .int .i64 0, .int .u32 0, .int .u32 0, .int .u64 0, .int .u64 0, .int .u64 0, .int .u64 0, .int .u64 0, .int .u64 0, .int .u64 0, .string ⟨#[]⟩])).run Try.prog W = .ok (.bool true) W) := fun W => by rw [hz0]; exact (same_op Mg.zero (hz0 ▸ hdk) W).1
  have HG2 : Hid (∀ (W : World) (p q : Operand), (eqGuard .eql 28 p q (.agg (decM l).1.cells.toArray) (.agg #[.int .i64 0, .int .u64 0, .int .u64 0, .int .i64 0, .int .i64 0, .int .u32 0, .int .u32 0, .int .u64 0, .int .u64 0, .int .u64 0, .int .u64 0, .int .u64 0, .int .u64 0, .int .u64 0, .string ⟨#[]⟩])).run Try.prog W = .ok () W) := fun W p q => by rw [hz0]; exact guard_mg .eql p q Mg.zero Mg.zero W (.inl rfl)
  clear hz0
  unfold Mg.vl
  clear ho h0 h1 hE hD hdk
  generalize m.cells = R at *
  generalize strOfNums m.path = s at *
  generalize (decM l).1.cells = R2 at *
  generalize (decM l).2 = en at *
  unfold zero15 at *
  go_enter Try.func5, Try.ntmps5
  go_wp2_with (first | (go_at_call 8; refine (awake_any _).mono ?_; rintro e w1 ⟨rfl, b1⟩; have z1 := Z0.out.over b1; have c14 := (z1.cell 14).trans HC.out; have B1 : Hid (Below w.heap.size w w1) := B0.out.trans (b1.mono B0.out.size); have hb1 := hb.below (B1.out); clear b1) | (refine at_op (.load 28 (.tmp 2)) rfl ?_; refine wpList_load_row rfl 28 (.tmp 2) rfl w.heap.size rfl 28 R.toArray (0, 0) _ z1 Try.underlying28 rfl HZ.out ?_))
  refine (HP.out _).mono ?_
  rintro e w2 ⟨b2, v2, rfl, o2⟩
  have z2 := z1.over b2
  have hb2 := hb1.below b2
  have B2 : Hid (Below w.heap.size w w2) := B1.out.trans (b2.mono B1.out.size)
  obtain ⟨a2, k2, rfl, s2, _⟩ := K.owns_bs o2 HY.out
  clear b2 o2 c14 z1 B1 hb1
  go_wp2_with fail
  refine (HB2.out _ hb2).mono ?_
  rintro e w5 ⟨rfl, b5⟩
  have hb5 := hb2.below b5
  have B5 : Hid (Below w.heap.size w w5) := B2.out.trans (b5.mono B2.out.size)
  have Y5 := HN.out w5
  clear b5 hb2
  have q3 := HQ2.out; have q4 := HG2.out
  go_wp2_with (first | (refine at_op (.store 28 (.tmp 10) (.tmp 52)) rfl ?_; refine wpList_store_r rfl 28 (.tmp 10) (.tmp 52) rfl w5.heap.size R2.toArray rfl rfl 28 _ Y5 HZ2.out HS2.out H12.out ?_; intro X6 hX; have k6 : Below w5.heap.size w5 X6 := hX ▸ below_setRow (room1 w5 _) (Nat.le_refl _) _; have y6 : Blk X6 w5.heap.size 28 R2 := hX ▸ Blk.row Y5 _; have hb6 := hb5.below k6; have B6 : Hid (Below w.heap.size w X6) := B5.out.trans (k6.mono B5.out.size); clear hX k6 Y5 hb5) | (refine at_op (.load 28 (.tmp 10)) rfl ?_; refine wpList_load_rowG rfl 28 (.tmp 10) rfl w5.heap.size rfl 28 R2.toArray (0, 0) _ y6 Try.underlying28 rfl HZ2.out ?_))
  go_ret
  exact ⟨rfl, B6.out⟩

theorem back_walk (m : Mg) (a : Option Addr) (len cap : Nat) (l : List Int) (w : World) (ho : m.ok) (_hcap : len ≤ cap) (hb : K.Bs w a len l) : Calls Try.prog 5 #[m.vl, .slice a len cap] w fun e w' => e = .returned (.bool true) ∧ Below w.heap.size w w' := by
  by_cases h0 : 2000 < m.path.length
  · exact back_longa m a len cap w ho h0
  by_cases h1 : 2000 < len
  · exact back_longb m a len cap w ho h0 h1
  by_cases hE : encE m = 0
  · by_cases hD : (decM l).2 = 0
    · exact back_rr m a len cap l w ho hb h0 h1 hE hD
    · exact back_rw m a len cap l w ho hb h0 h1 hE hD
  · by_cases hD : (decM l).2 = 0
    · exact back_wr m a len cap l w ho hb h0 h1 hE hD
    · exact back_ww m a len cap l w ho hb h0 h1 hE hD

end Go.Proofs.Ytpdndcmaaghnjaa
