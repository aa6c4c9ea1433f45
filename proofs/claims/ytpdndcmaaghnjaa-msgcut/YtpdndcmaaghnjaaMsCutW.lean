/-
  The walk of the law that a beginning of a message's bytes is none, nor are they with more behind.
-/
import Derived.Test.YtpdndcmaaghnjaaMsEnc
import Derived.Test.YtpdndcmaaghnjaaMsAwk
import Derived.Deep.DeepCutAuto
import Derived.Deep.MidRow
namespace Go.Proofs.Ytpdndcmaaghnjaa
open Go.RowKit
open D (Da Blk)

theorem encL_byt {m : Mg} (ho : m.ok) : D.Byt (encL m) := by
  unfold encL
  split
  · next h => exact enc_byt ((rightB_iff m).1 h) ho
  · exact fun z hz => by cases hz
theorem encE_one {m : Mg} (h : encE m ≠ 0) : encE m = 1 ∧ encL m = [] := by
  unfold encE encL at *
  by_cases hr : rightB m = true
  · rw [if_pos hr] at h; exact absurd rfl h
  · rw [if_neg hr, if_neg hr]; exact ⟨rfl, rfl⟩
theorem encE_right {m : Mg} (h : encE m = 0) : MgR m ∧ encL m = encM m := by
  unfold encE encL at *
  by_cases hr : rightB m = true
  · rw [if_pos hr]; exact ⟨(rightB_iff m).1 hr, rfl⟩
  · rw [if_neg hr] at h; cases h
theorem enc_of_right {m : Mg} (h : MgR m) : encE m = 0 ∧ encL m = encM m := by
  unfold encE encL
  rw [if_pos ((rightB_iff m).2 h), if_pos ((rightB_iff m).2 h)]
  exact ⟨rfl, rfl⟩
theorem same_op (m : Mg) (ho : m.ok) (W : World) : (binOp .eql 28 (.agg m.cells.toArray) (.agg m.cells.toArray)).run Try.prog W = .ok (.bool true) W ∧ (binOp .neq 28 (.agg m.cells.toArray) (.agg m.cells.toArray)).run Try.prog W = .ok (.bool false) W := by
  have h1 := eql_mg m m W ho.2.2.1 ho.2.2.1 ho.2.2.2 ho.2.2.2
  have h2 := neq_mg m m W ho.2.2.1 ho.2.2.1 ho.2.2.2 ho.2.2.2
  rw [(Mg.same_iff _ _).2 rfl] at h1 h2
  exact ⟨h1, h2⟩

theorem sizeOf_b (W : World) : (sizeOf (Try.prog.elem 30)).run Try.prog W = .ok 1 W := by
  rw [show Try.prog.elem 30 = 5 from by kernel_rfl]
  exact Try.sizeOf5 W
theorem under_B : Try.prog.underlying 30 = some (.slice (Try.prog.elem 30)) := by kernel_rfl
theorem cut_front (b off len cap n : Nat) (h1 : n ≤ cap) (W : World) : (Instr.sliceAt 30 (.slice (some ⟨b, off, none⟩) len cap) none (some (.int .i64 n)) none).run Try.prog W = .ok (.slice (some ⟨b, off + 0, none⟩) n cap) W ∨ cap = 0 := by
  by_cases hc : cap = 0
  · exact .inr hc
  · left
    rw [run_sliceAt_slice W 30 _ _ _ _ under_B, run_slice_h W 30 _ _ _ under_B .i64 n (by omega) (by omega), sizeOf_b]
    simp only [Result.andThen_ok, sliced, Int.toNat_natCast]
    rw [if_neg (by omega), Nat.sub_zero, Nat.sub_zero, Nat.zero_mul, Option.map_some, Addr.add_mid]

set_option maxRecDepth 8000 in
set_option maxHeartbeats 1600000 in
theorem cut_longa (m : Mg) (cut : Int) (a : Option Addr) (len cap : Nat) (w : World) (ho : m.ok) (h : 2000 < m.path.length) : Calls Try.prog 6 #[m.vl, .int .i64 cut, .slice a len cap] w fun e w' => e = .returned (.bool true) ∧ Below w.heap.size w w' := by
  have Z0 : Hid (Blk (w.alloc (Obj.cells m.cells.toArray 28)) w.heap.size 28 m.cells) := D.blk_new w _ 28
  have B0 : Hid (Below w.heap.size w (w.alloc (Obj.cells m.cells.toArray 28))) := room1 w _
  have HC : Hid (m.cells[14]? = some (.string (strOfNums m.path))) := m.c14 ho.2.2.1
  have hd : decide ((2000 : Int) < ((strOfNums m.path).size : Int)) = true := decide_eq_true (by rw [strOfNums_size]; omega)
  have hd2 : decide (2000 < (strOfNums m.path).size) = true := decide_eq_true (by rw [strOfNums_size]; exact h)
  unfold Mg.vl
  clear ho h
  generalize m.cells = R at *
  generalize strOfNums m.path = s at *
  go_enter Try.func6, Try.ntmps6
  go_wp2_with (go_at_call 8; refine (awake_any _).mono ?_; rintro e w1 ⟨rfl, b1⟩; have z1 := Z0.out.over b1; have c14 := (z1.cell 14).trans HC.out; have B1 : Hid (Below w.heap.size w w1) := B0.out.trans (b1.mono B0.out.size))
  go_ret
  exact ⟨rfl, B1.out⟩

set_option maxRecDepth 8000 in
set_option maxHeartbeats 1600000 in
theorem cut_longb (m : Mg) (cut : Int) (a : Option Addr) (len cap : Nat) (w : World) (ho : m.ok) (h0 : ¬ 2000 < m.path.length) (h : 500 < len) : Calls Try.prog 6 #[m.vl, .int .i64 cut, .slice a len cap] w fun e w' => e = .returned (.bool true) ∧ Below w.heap.size w w' := by
  have Z0 : Hid (Blk (w.alloc (Obj.cells m.cells.toArray 28)) w.heap.size 28 m.cells) := D.blk_new w _ 28
  have B0 : Hid (Below w.heap.size w (w.alloc (Obj.cells m.cells.toArray 28))) := room1 w _
  have HC : Hid (m.cells[14]? = some (.string (strOfNums m.path))) := m.c14 ho.2.2.1
  have hd : decide ((2000 : Int) < ((strOfNums m.path).size : Int)) = false := decide_eq_false (by rw [strOfNums_size]; omega)
  have hd2 : decide (2000 < (strOfNums m.path).size) = false := decide_eq_false (by rw [strOfNums_size]; exact h0)
  have he : decide ((500 : Int) < (len : Int)) = true := decide_eq_true (by omega)
  have he2 : decide (500 < len) = true := decide_eq_true h
  clear h0
  unfold Mg.vl
  clear ho h
  generalize m.cells = R at *
  generalize strOfNums m.path = s at *
  go_enter Try.func6, Try.ntmps6
  go_wp2_with (go_at_call 8; refine (awake_any _).mono ?_; rintro e w1 ⟨rfl, b1⟩; have z1 := Z0.out.over b1; have c14 := (z1.cell 14).trans HC.out; have B1 : Hid (Below w.heap.size w w1) := B0.out.trans (b1.mono B0.out.size))
  go_ret
  exact ⟨rfl, B1.out⟩

set_option maxRecDepth 8000 in
set_option maxHeartbeats 1600000 in
theorem cut_longc (m : Mg) (cut : Int) (a : Option Addr) (len cap : Nat) (w : World) (ho : m.ok) (h0 : ¬ 2000 < m.path.length) (h1 : ¬ 500 < len) (h : cut < 0) : Calls Try.prog 6 #[m.vl, .int .i64 cut, .slice a len cap] w fun e w' => e = .returned (.bool true) ∧ Below w.heap.size w w' := by
  have Z0 : Hid (Blk (w.alloc (Obj.cells m.cells.toArray 28)) w.heap.size 28 m.cells) := D.blk_new w _ 28
  have B0 : Hid (Below w.heap.size w (w.alloc (Obj.cells m.cells.toArray 28))) := room1 w _
  have HC : Hid (m.cells[14]? = some (.string (strOfNums m.path))) := m.c14 ho.2.2.1
  have hd : decide ((2000 : Int) < ((strOfNums m.path).size : Int)) = false := decide_eq_false (by rw [strOfNums_size]; omega)
  have hd2 : decide (2000 < (strOfNums m.path).size) = false := decide_eq_false (by rw [strOfNums_size]; exact h0)
  have he : decide ((500 : Int) < (len : Int)) = false := decide_eq_false (by omega)
  have he2 : decide (500 < len) = false := decide_eq_false h1
  have hc : decide (cut < 0) = true := decide_eq_true h
  clear h0 h1
  unfold Mg.vl
  clear ho h
  generalize m.cells = R at *
  generalize strOfNums m.path = s at *
  go_enter Try.func6, Try.ntmps6
  go_wp2_with (go_at_call 8; refine (awake_any _).mono ?_; rintro e w1 ⟨rfl, b1⟩; have z1 := Z0.out.over b1; have c14 := (z1.cell 14).trans HC.out; have B1 : Hid (Below w.heap.size w w1) := B0.out.trans (b1.mono B0.out.size))
  go_ret
  exact ⟨rfl, B1.out⟩

set_option maxRecDepth 8000 in
set_option maxHeartbeats 1600000 in
theorem cut_wrong (m : Mg) (cut : Int) (a : Option Addr) (len cap : Nat) (w : World) (ho : m.ok) (h0 : ¬ 2000 < m.path.length) (h1 : ¬ 500 < len) (h2 : ¬ cut < 0) (hE : encE m ≠ 0) : Calls Try.prog 6 #[m.vl, .int .i64 cut, .slice a len cap] w fun e w' => e = .returned (.bool true) ∧ Below w.heap.size w w' := by
  have Z0 : Hid (Blk (w.alloc (Obj.cells m.cells.toArray 28)) w.heap.size 28 m.cells) := D.blk_new w _ 28
  have B0 : Hid (Below w.heap.size w (w.alloc (Obj.cells m.cells.toArray 28))) := room1 w _
  have HC : Hid (m.cells[14]? = some (.string (strOfNums m.path))) := m.c14 ho.2.2.1
  have hd : decide ((2000 : Int) < ((strOfNums m.path).size : Int)) = false := decide_eq_false (by rw [strOfNums_size]; omega)
  have hd2 : decide (2000 < (strOfNums m.path).size) = false := decide_eq_false (by rw [strOfNums_size]; exact h0)
  have he : decide ((500 : Int) < (len : Int)) = false := decide_eq_false (by omega)
  have he2 : decide (500 < len) = false := decide_eq_false h1
  have hc : decide (cut < 0) = false := decide_eq_false (by omega)
  have HZ : Hid ((Try.prog.info? 28).map (·.size) = some m.cells.toArray.size) := m.size ho.2.2.1
  have HP : Hid (∀ W : World, Calls Try.prog 9 #[.agg m.cells.toArray] W fun e w' => Below W.heap.size W w' ∧ ∃ v, e = .returned (.tuple #[v, .int .i64 (encE m)]) ∧ w'.ownsRow W.heap.size 5 1 v (encL m).length (K.cellsB (encL m))) := fun W => encode_any m W ho
  rw [(encE_one hE).1, (encE_one hE).2] at HP
  unfold Mg.vl
  clear ho h0 h1 h2 hE
  generalize m.cells = R at *
  generalize strOfNums m.path = s at *
  go_enter Try.func6, Try.ntmps6
  go_wp2_with (first | (go_at_call 8; refine (awake_any _).mono ?_; rintro e w1 ⟨rfl, b1⟩; have z1 := Z0.out.over b1; have c14 := (z1.cell 14).trans HC.out; have B1 : Hid (Below w.heap.size w w1) := B0.out.trans (b1.mono B0.out.size)) | (refine at_op (.load 28 (.tmp 3)) rfl ?_; refine wpList_load_row rfl 28 (.tmp 3) rfl w.heap.size rfl 28 R.toArray (0, 0) _ z1 Try.underlying28 rfl HZ.out ?_))
  refine (HP.out _).mono ?_
  rintro e w2 ⟨b2, v2, rfl, o2⟩
  have B2 : Hid (Below w.heap.size w w2) := B1.out.trans (b2.mono B1.out.size)
  obtain ⟨a2, k2, rfl, s2, _⟩ := K.owns_bs o2 (fun z hz => by cases hz)
  clear b2 o2 c14 z1 B1 s2 b1
  go_wp2
  go_ret
  exact ⟨rfl, B2.out⟩

set_option maxRecDepth 8000 in
set_option maxHeartbeats 6000000 in
theorem cut_more (m : Mg) (cut : Int) (a : Option Addr) (len cap : Nat) (l : List Int) (w : World) (ho : m.ok) (hb : K.Bs w a len l) (hao : a = none → cap = 0) (h0 : ¬ 2000 < m.path.length) (h1 : ¬ 500 < len) (h2 : ¬ cut < 0) (hE : encE m = 0) (hm : len ≠ 0) : Calls Try.prog 6 #[m.vl, .int .i64 cut, .slice a len cap] w fun e w' => e = .returned (.bool true) ∧ Below w.heap.size w w' := by
  have Z0 : Hid (Blk (w.alloc (Obj.cells m.cells.toArray 28)) w.heap.size 28 m.cells) := D.blk_new w _ 28
  have B0 : Hid (Below w.heap.size w (w.alloc (Obj.cells m.cells.toArray 28))) := room1 w _
  have HC : Hid (m.cells[14]? = some (.string (strOfNums m.path))) := m.c14 ho.2.2.1
  have hd : decide ((2000 : Int) < ((strOfNums m.path).size : Int)) = false := decide_eq_false (by rw [strOfNums_size]; omega)
  have hd2 : decide (2000 < (strOfNums m.path).size) = false := decide_eq_false (by rw [strOfNums_size]; exact h0)
  have he : decide ((500 : Int) < (len : Int)) = false := decide_eq_false (by omega)
  have he2 : decide (500 < len) = false := decide_eq_false h1
  have hc : decide (cut < 0) = false := decide_eq_false (by omega)
  have HZ : Hid ((Try.prog.info? 28).map (·.size) = some m.cells.toArray.size) := m.size ho.2.2.1
  have HP : Hid (∀ W : World, Calls Try.prog 9 #[.agg m.cells.toArray] W fun e w' => Below W.heap.size W w' ∧ ∃ v, e = .returned (.tuple #[v, .int .i64 (encE m)]) ∧ w'.ownsRow W.heap.size 5 1 v (encL m).length (K.cellsB (encL m))) := fun W => encode_any m W ho
  obtain ⟨hr, hle⟩ := encE_right hE
  rw [hE, hle] at HP
  have hlm := enc_most hr ho
  have hlp := enc_pos m
  have HY : Hid (D.Byt (encM m)) := enc_byt hr ho
  obtain ⟨n, hn⟩ : ∃ n, (encM m).length = n := ⟨_, rfl⟩
  obtain ⟨c, hcc⟩ : ∃ c : Nat, cut.tmod (n : Int) = (c : Int) := ⟨(cut.tmod (n : Int)).toNat, by rw [Int.tmod_eq_emod_of_nonneg (by omega)]; have := Int.emod_nonneg cut (show (n : Int) ≠ 0 by omega); omega⟩
  have hcn : c < n := by have h3 := Int.emod_lt_of_pos cut (show (0 : Int) < (n : Int) by omega); rw [Int.tmod_eq_emod_of_nonneg (by omega)] at hcc; omega
  have hwc : IntKind.i64.wrap (c : Int) = (c : Int) := by rw [IntKind.wrap_i64]; omega
  have hn0 : ((n : Int) == 0) = false := beq_false_of_ne (by omega)
  have hn1 : (n == 0) = false := beq_false_of_ne (by omega)
  have hn2 : ¬ n = 0 := by omega
  have hn3 : ¬ (n : Int) = 0 := by omega
  have hdc : decM ((encM m).take c) = (Mg.zero, 2) := dec_cut c (by omega) hr ho
  have hBt : Hid (∀ (W : World) (x y : Nat), K.Bs W (some ⟨x, y, none⟩) n (encM m) → K.Bs W (some ⟨x, y + 0, none⟩) c ((encM m).take c)) := fun W x y h => h.sub 0 c (by omega)
  have HX : Hid (∀ (W : World) (q : Option Addr) (k : Nat), K.Bs W q c ((encM m).take c) → Calls Try.prog 13 #[.slice q c k] W fun e w' => e = .returned (.tuple #[.agg Mg.zero.cells.toArray, .int .i64 2]) ∧ Below W.heap.size W w') := fun W q k h => by have := decode_any q c k _ W (by omega) h; rw [hdc] at this; exact this
  have hll := hb.1
  have hdm : decM (encM m ++ l) = (Mg.zero, 3) := dec_more l (by omega) hr ho
  have HW : Hid (∀ (W : World) (q : Option Addr) (k : Nat), K.Bs W q (n + len) (encM m ++ l) → Calls Try.prog 13 #[.slice q (n + len) k] W fun e w' => e = .returned (.tuple #[.agg Mg.zero.cells.toArray, .int .i64 3]) ∧ Below W.heap.size W w') := fun W q k h => by have := decode_any q (n + len) k _ W (by omega) h; rw [hdm] at this; exact this
  have HYm : Hid (D.Byt (encM m ++ l)) := fun z hz => by rcases List.mem_append.1 hz with h | h; exact enc_byt hr ho z h; exact hb.2.1 z h
  have Hn1 : Hid (0 + n ≤ 1000000000) := by unfold Hid; omega
  have Hn2 : Hid (0 + n + len ≤ 1000000000) := by unfold Hid; omega
  have Hcn : Hid (c < n) := hcn
  have Hln : Hid ((encM m).length = n) := hn
  have HAO : Hid (a = none → cap = 0) := hao
  have hzo : Mg.zero.ok := ⟨⟨by decide, by decide⟩, ⟨by decide, by decide⟩, D.zero_ok, fun z hz => by cases hz⟩
  have HQz : Hid (∀ W : World, (binOp .eql 28 (.agg Mg.zero.cells.toArray) (.agg #[.int .i64 0, .int .u64 0, .int .u64 0, .int .i64 0, .int .i64 0, .int .u32 0, .int .u32 0, .int .u64 0, .int .u64 0, .int .u64 0, .int .u64 0, .int .u64 0, .int .u64 0, .int .u64 0, .string ⟨#[]⟩])).run Try.prog W = .ok (.bool true) W) := fun W => (same_op Mg.zero hzo W).1
  have HGz : Hid (∀ (W : World) (p q : Operand), (eqGuard .eql 28 p q (.agg Mg.zero.cells.toArray) (.agg #[.int .i64 0, .int .u64 0, .int .u64 0, .int .i64 0, .int .i64 0, .int .u32 0, .int .u32 0, .int .u64 0, .int .u64 0, .int .u64 0, .int .u64 0, .int .u64 0, .int .u64 0, .int .u64 0, .string ⟨#[]⟩])).run Try.prog W = .ok () W) := fun W p q => guard_mg .eql p q Mg.zero Mg.zero W (.inl rfl)
  have H1 : Hid (m.cells.toArray.all (·.oneCell') = true) := m.cells_one
  have HS : Hid (zero15.toArray.size = m.cells.toArray.size) := by unfold Hid; rw [List.size_toArray, List.size_toArray, m.cells_len ho.2.2.1]; rfl
  have H1z : Hid (Mg.zero.cells.toArray.all (·.oneCell') = true) := Mg.zero.cells_one
  have HZz : Hid ((Try.prog.info? 28).map (·.size) = some Mg.zero.cells.toArray.size) := Try.size28
  have HSz : Hid (zero15.toArray.size = Mg.zero.cells.toArray.size) := rfl
  have HN : Hid (∀ W : World, Blk (W.alloc (Obj.cells zero15.toArray 28)) W.heap.size 28 zero15) := fun W => D.blk_new W _ 28
  have hm0 : ((len : Int) == 0) = false := beq_false_of_ne (by omega)
  have hm1 : (len == 0) = false := beq_false_of_ne hm
  have hm2 : decide ((0 : Int) < (len : Int)) = true := decide_eq_true (by omega)
  have hm3 : decide (0 < len) = true := decide_eq_true (by omega)
  unfold Mg.vl
  rw [hn] at HP
  clear ho h0 h1 h2 hE hr hle hlm hlp hdc hdm hn hcn hao hm hll hzo
  generalize m.cells = R at *
  generalize strOfNums m.path = s at *
  generalize (encM m).take c = TL at *
  generalize encM m = L at *
  generalize Mg.zero.cells = ZC at *
  unfold zero15 at *
  go_enter Try.func6, Try.ntmps6
  go_wp2_with (first | (go_at_call 8; refine (awake_any _).mono ?_; rintro e w1 ⟨rfl, b1⟩; have z1 := Z0.out.over b1; have c14 := (z1.cell 14).trans HC.out; have B1 : Hid (Below w.heap.size w w1) := B0.out.trans (b1.mono B0.out.size); have hb1 := hb.below B1.out; clear b1) | (refine at_op (.load 28 (.tmp 3)) rfl ?_; refine wpList_load_row rfl 28 (.tmp 3) rfl w.heap.size rfl 28 R.toArray (0, 0) _ z1 Try.underlying28 rfl HZ.out ?_))
  refine (HP.out _).mono ?_
  rintro e w2 ⟨b2, v2, rfl, o2⟩
  have z2 := z1.over b2
  have hb2 := hb1.below b2
  have B2 : Hid (Below w.heap.size w w2) := B1.out.trans (b2.mono B1.out.size)
  obtain ⟨a2, k2, rfl, s2, hk2, _⟩ := K.owns_bs o2 HY.out
  obtain ⟨xb, xo, rfl, _⟩ := s2.2.2 (by have := Hcn.out; omega)
  have hcut : ∀ W : World, (Instr.sliceAt 30 (.slice (some ⟨xb, xo, none⟩) n k2) none (some (.int .i64 c)) none).run Try.prog W = .ok (.slice (some ⟨xb, xo + 0, none⟩) c k2) W := fun W => (cut_front xb xo n k2 c (by have := Hcn.out; omega) W).resolve_right (by have := Hcn.out; omega)
  have st := hBt.out w2 xb xo s2
  clear b2 o2 c14 z1 B1 hb1 hk2
  go_wp2_with fail
  refine (HX.out _ _ k2 st).mono ?_
  rintro e w3 ⟨rfl, b3⟩
  have z3 := z2.over b3; have hb3 := hb2.below b3; have s3 := s2.below b3
  have B3 : Hid (Below w.heap.size w w3) := B2.out.trans (b3.mono B2.out.size)
  clear b3 z2 hb2 s2 st B2
  have Y3 := HN.out w3
  go_wp2_with (first | (refine at_op (.store 28 (.tmp 10) (.tmp 55)) rfl ?_; refine wpList_store_r rfl 28 (.tmp 10) (.tmp 55) rfl w3.heap.size ZC.toArray rfl rfl 28 _ Y3 HZz.out HSz.out H1z.out ?_; intro X4 hX; have k4 : Below w3.heap.size w3 X4 := hX ▸ below_setRow (room1 w3 _) (Nat.le_refl _) _; have y4 : Blk X4 w3.heap.size 28 ZC := hX ▸ Blk.row Y3 _; have z4 := z3.over k4; have hb4 := hb3.below k4; have s4 := s3.below k4; have B4 : Hid (Below w.heap.size w X4) := B3.out.trans (k4.mono B3.out.size); have e4 := K.owns_empty X4; have m4 : Hid (Below X4.heap.size X4 (X4.alloc (Obj.cells #[] 5))) := room1 X4 _; have s5 := s4.below m4.out; have hb5 := hb4.below m4.out; clear hX k4 Y3 z3 hb3 s3) | (at_builtin; refine K.append_bytes rfl (.tmp 58) (.tmp 59) rfl X4.heap.size _ 0 [] rfl e4 (some ⟨xb, xo, none⟩) n k2 L rfl (fun h => by cases h) s5 Hn1.out m4.out.size ?_; intro v6 X6 o6 g6; have m6 : Hid (Below X4.heap.size X4 X6) := m4.out.grown g6 m4.out.size (K.owns_block e4); have hb6 := hb4.below m6.out; clear g6 e4 s5 hb5) | (at_builtin; refine K.append_bytes rfl (.tmp 60) (.tmp 61) rfl X4.heap.size _ (0 + n) ([] ++ L) rfl o6 a len cap l rfl HAO.out hb6 Hn2.out m6.out.size ?_; intro v7 X7 o7 g7; have m7 : Hid (Below X4.heap.size X4 X7) := m6.out.grown g7 m6.out.size (K.owns_block o6); clear g7 o6 hb6))
  rw [List.nil_append, Nat.zero_add] at o7
  obtain ⟨a7, k7, rfl, s7, _⟩ := K.owns_bs o7 HYm.out
  try rw [Nat.zero_add]
  refine (HW.out _ _ k7 s7).mono ?_
  rintro e w8 ⟨rfl, b8⟩
  have n8 : Below X4.heap.size X4 w8 := m7.out.trans (b8.mono m7.out.size)
  have y8 := y4.over n8; have z8 := z4.over n8
  have B8 : Hid (Below w.heap.size w w8) := B4.out.trans (n8.mono B4.out.size)
  clear b8 n8 o7 s7 m7 m6 m4 y4 z4 hb4 s4 B4
  have Y8 := HN.out w8
  go_upto_region 9 with (refine at_op (.store 28 (.tmp 12) (.tmp 64)) rfl ?_; refine wpList_store_r rfl 28 (.tmp 12) (.tmp 64) rfl w8.heap.size ZC.toArray rfl rfl 28 _ Y8 HZz.out HSz.out H1z.out ?_; intro X9 hX; have k9 : Below w8.heap.size w8 X9 := hX ▸ below_setRow (room1 w8 _) (Nat.le_refl _) _; have x9 : Blk X9 w8.heap.size 28 ZC := hX ▸ Blk.row Y8 _; have y9 := y8.over k9; have z9 := z8.over k9; have B9 : Hid (Below w.heap.size w X9) := B8.out.trans (k9.mono B8.out.size); clear hX k9 Y8 y8 z8)
  have q1 := HQz.out; have q2 := HGz.out
  clear hcut hcc hwc hn0 hn1 hn2 hn3 hb Hn1 Hn2
  go_wp2_with (first | (refine at_op (.load 28 (.tmp 10)) rfl ?_; refine wpList_load_rowG rfl 28 (.tmp 10) rfl w3.heap.size rfl 28 ZC.toArray (0, 0) _ y9 Try.underlying28 rfl HZz.out ?_) | (refine at_op (.load 28 (.tmp 12)) rfl ?_; refine wpList_load_rowG rfl 28 (.tmp 12) rfl w8.heap.size rfl 28 ZC.toArray (0, 0) _ x9 Try.underlying28 rfl HZz.out ?_) | (refine at_op (.load 28 (.tmp 3)) rfl ?_; refine wpList_load_rowG rfl 28 (.tmp 3) rfl w.heap.size rfl 28 R.toArray (0, 0) _ z9 Try.underlying28 rfl HZ.out ?_))
  go_ret
  exact ⟨rfl, B9.out⟩

set_option maxRecDepth 8000 in
set_option maxHeartbeats 6000000 in
theorem cut_none (m : Mg) (cut : Int) (a : Option Addr) (len cap : Nat) (l : List Int) (w : World) (ho : m.ok) (hb : K.Bs w a len l) (hao : a = none → cap = 0) (h0 : ¬ 2000 < m.path.length) (h1 : ¬ 500 < len) (h2 : ¬ cut < 0) (hE : encE m = 0) (hm : len = 0) : Calls Try.prog 6 #[m.vl, .int .i64 cut, .slice a len cap] w fun e w' => e = .returned (.bool true) ∧ Below w.heap.size w w' := by
  have Z0 : Hid (Blk (w.alloc (Obj.cells m.cells.toArray 28)) w.heap.size 28 m.cells) := D.blk_new w _ 28
  have B0 : Hid (Below w.heap.size w (w.alloc (Obj.cells m.cells.toArray 28))) := room1 w _
  have HC : Hid (m.cells[14]? = some (.string (strOfNums m.path))) := m.c14 ho.2.2.1
  have hd : decide ((2000 : Int) < ((strOfNums m.path).size : Int)) = false := decide_eq_false (by rw [strOfNums_size]; omega)
  have hd2 : decide (2000 < (strOfNums m.path).size) = false := decide_eq_false (by rw [strOfNums_size]; exact h0)
  have he : decide ((500 : Int) < (len : Int)) = false := decide_eq_false (by omega)
  have he2 : decide (500 < len) = false := decide_eq_false h1
  have hc : decide (cut < 0) = false := decide_eq_false (by omega)
  have HZ : Hid ((Try.prog.info? 28).map (·.size) = some m.cells.toArray.size) := m.size ho.2.2.1
  have HP : Hid (∀ W : World, Calls Try.prog 9 #[.agg m.cells.toArray] W fun e w' => Below W.heap.size W w' ∧ ∃ v, e = .returned (.tuple #[v, .int .i64 (encE m)]) ∧ w'.ownsRow W.heap.size 5 1 v (encL m).length (K.cellsB (encL m))) := fun W => encode_any m W ho
  obtain ⟨hr, hle⟩ := encE_right hE
  rw [hE, hle] at HP
  have hlm := enc_most hr ho
  have hlp := enc_pos m
  have HY : Hid (D.Byt (encM m)) := enc_byt hr ho
  obtain ⟨n, hn⟩ : ∃ n, (encM m).length = n := ⟨_, rfl⟩
  obtain ⟨c, hcc⟩ : ∃ c : Nat, cut.tmod (n : Int) = (c : Int) := ⟨(cut.tmod (n : Int)).toNat, by rw [Int.tmod_eq_emod_of_nonneg (by omega)]; have := Int.emod_nonneg cut (show (n : Int) ≠ 0 by omega); omega⟩
  have hcn : c < n := by have h3 := Int.emod_lt_of_pos cut (show (0 : Int) < (n : Int) by omega); rw [Int.tmod_eq_emod_of_nonneg (by omega)] at hcc; omega
  have hwc : IntKind.i64.wrap (c : Int) = (c : Int) := by rw [IntKind.wrap_i64]; omega
  have hn0 : ((n : Int) == 0) = false := beq_false_of_ne (by omega)
  have hn1 : (n == 0) = false := beq_false_of_ne (by omega)
  have hn2 : ¬ n = 0 := by omega
  have hn3 : ¬ (n : Int) = 0 := by omega
  have hdc : decM ((encM m).take c) = (Mg.zero, 2) := dec_cut c (by omega) hr ho
  have hBt : Hid (∀ (W : World) (x y : Nat), K.Bs W (some ⟨x, y, none⟩) n (encM m) → K.Bs W (some ⟨x, y + 0, none⟩) c ((encM m).take c)) := fun W x y h => h.sub 0 c (by omega)
  have HX : Hid (∀ (W : World) (q : Option Addr) (k : Nat), K.Bs W q c ((encM m).take c) → Calls Try.prog 13 #[.slice q c k] W fun e w' => e = .returned (.tuple #[.agg Mg.zero.cells.toArray, .int .i64 2]) ∧ Below W.heap.size W w') := fun W q k h => by have := decode_any q c k _ W (by omega) h; rw [hdc] at this; exact this
  have hll := hb.1
  have hdm : decM (encM m ++ l) = (m, 0) := by rw [List.eq_nil_of_length_eq_zero (by omega : l.length = 0), List.append_nil]; exact dec_enc hr ho
  have HW : Hid (∀ (W : World) (q : Option Addr) (k : Nat), K.Bs W q (n + len) (encM m ++ l) → Calls Try.prog 13 #[.slice q (n + len) k] W fun e w' => e = .returned (.tuple #[.agg m.cells.toArray, .int .i64 0]) ∧ Below W.heap.size W w') := fun W q k h => by have := decode_any q (n + len) k _ W (by omega) h; rw [hdm] at this; exact this
  have HYm : Hid (D.Byt (encM m ++ l)) := fun z hz => by rcases List.mem_append.1 hz with h | h; exact enc_byt hr ho z h; exact hb.2.1 z h
  have Hn1 : Hid (0 + n ≤ 1000000000) := by unfold Hid; omega
  have Hn2 : Hid (0 + n + len ≤ 1000000000) := by unfold Hid; omega
  have Hcn : Hid (c < n) := hcn
  have Hln : Hid ((encM m).length = n) := hn
  have HAO : Hid (a = none → cap = 0) := hao
  have hzo : Mg.zero.ok := ⟨⟨by decide, by decide⟩, ⟨by decide, by decide⟩, D.zero_ok, fun z hz => by cases hz⟩
  have HQz : Hid (∀ W : World, (binOp .eql 28 (.agg Mg.zero.cells.toArray) (.agg #[.int .i64 0, .int .u64 0, .int .u64 0, .int .i64 0, .int .i64 0, .int .u32 0, .int .u32 0, .int .u64 0, .int .u64 0, .int .u64 0, .int .u64 0, .int .u64 0, .int .u64 0, .int .u64 0, .string ⟨#[]⟩])).run Try.prog W = .ok (.bool true) W) := fun W => (same_op Mg.zero hzo W).1
  have HGz : Hid (∀ (W : World) (p q : Operand), (eqGuard .eql 28 p q (.agg Mg.zero.cells.toArray) (.agg #[.int .i64 0, .int .u64 0, .int .u64 0, .int .i64 0, .int .i64 0, .int .u32 0, .int .u32 0, .int .u64 0, .int .u64 0, .int .u64 0, .int .u64 0, .int .u64 0, .int .u64 0, .int .u64 0, .string ⟨#[]⟩])).run Try.prog W = .ok () W) := fun W p q => guard_mg .eql p q Mg.zero Mg.zero W (.inl rfl)
  have HQm : Hid (∀ W : World, (binOp .eql 28 (.agg m.cells.toArray) (.agg m.cells.toArray)).run Try.prog W = .ok (.bool true) W) := fun W => (same_op m ho W).1
  have HGm : Hid (∀ (W : World) (p q : Operand), (eqGuard .eql 28 p q (.agg m.cells.toArray) (.agg m.cells.toArray)).run Try.prog W = .ok () W) := fun W p q => guard_mg .eql p q m m W (.inl rfl)
  have H1 : Hid (m.cells.toArray.all (·.oneCell') = true) := m.cells_one
  have HS : Hid (zero15.toArray.size = m.cells.toArray.size) := by unfold Hid; rw [List.size_toArray, List.size_toArray, m.cells_len ho.2.2.1]; rfl
  have H1z : Hid (Mg.zero.cells.toArray.all (·.oneCell') = true) := Mg.zero.cells_one
  have HZz : Hid ((Try.prog.info? 28).map (·.size) = some Mg.zero.cells.toArray.size) := Try.size28
  have HSz : Hid (zero15.toArray.size = Mg.zero.cells.toArray.size) := rfl
  have HN : Hid (∀ W : World, Blk (W.alloc (Obj.cells zero15.toArray 28)) W.heap.size 28 zero15) := fun W => D.blk_new W _ 28
  have hm0 : ((len : Int) == 0) = true := by simp [hm]
  have hm1 : (len == 0) = true := by simp [hm]
  unfold Mg.vl
  rw [hn] at HP
  clear ho h0 h1 h2 hE hr hle hlm hlp hdc hdm hn hcn hao hm hll hzo
  generalize m.cells = R at *
  generalize strOfNums m.path = s at *
  generalize (encM m).take c = TL at *
  generalize encM m = L at *
  generalize Mg.zero.cells = ZC at *
  unfold zero15 at *
  go_enter Try.func6, Try.ntmps6
  go_wp2_with (first | (go_at_call 8; refine (awake_any _).mono ?_; rintro e w1 ⟨rfl, b1⟩; have z1 := Z0.out.over b1; have c14 := (z1.cell 14).trans HC.out; have B1 : Hid (Below w.heap.size w w1) := B0.out.trans (b1.mono B0.out.size); have hb1 := hb.below B1.out; clear b1) | (refine at_op (.load 28 (.tmp 3)) rfl ?_; refine wpList_load_row rfl 28 (.tmp 3) rfl w.heap.size rfl 28 R.toArray (0, 0) _ z1 Try.underlying28 rfl HZ.out ?_))
  refine (HP.out _).mono ?_
  rintro e w2 ⟨b2, v2, rfl, o2⟩
  have z2 := z1.over b2
  have hb2 := hb1.below b2
  have B2 : Hid (Below w.heap.size w w2) := B1.out.trans (b2.mono B1.out.size)
  obtain ⟨a2, k2, rfl, s2, hk2, _⟩ := K.owns_bs o2 HY.out
  obtain ⟨xb, xo, rfl, _⟩ := s2.2.2 (by have := Hcn.out; omega)
  have hcut : ∀ W : World, (Instr.sliceAt 30 (.slice (some ⟨xb, xo, none⟩) n k2) none (some (.int .i64 c)) none).run Try.prog W = .ok (.slice (some ⟨xb, xo + 0, none⟩) c k2) W := fun W => (cut_front xb xo n k2 c (by have := Hcn.out; omega) W).resolve_right (by have := Hcn.out; omega)
  have st := hBt.out w2 xb xo s2
  clear b2 o2 c14 z1 B1 hb1 hk2
  go_wp2_with fail
  refine (HX.out _ _ k2 st).mono ?_
  rintro e w3 ⟨rfl, b3⟩
  have z3 := z2.over b3; have hb3 := hb2.below b3; have s3 := s2.below b3
  have B3 : Hid (Below w.heap.size w w3) := B2.out.trans (b3.mono B2.out.size)
  clear b3 z2 hb2 s2 st B2
  have Y3 := HN.out w3
  go_wp2_with (first | (refine at_op (.store 28 (.tmp 10) (.tmp 55)) rfl ?_; refine wpList_store_r rfl 28 (.tmp 10) (.tmp 55) rfl w3.heap.size ZC.toArray rfl rfl 28 _ Y3 HZz.out HSz.out H1z.out ?_; intro X4 hX; have k4 : Below w3.heap.size w3 X4 := hX ▸ below_setRow (room1 w3 _) (Nat.le_refl _) _; have y4 : Blk X4 w3.heap.size 28 ZC := hX ▸ Blk.row Y3 _; have z4 := z3.over k4; have hb4 := hb3.below k4; have s4 := s3.below k4; have B4 : Hid (Below w.heap.size w X4) := B3.out.trans (k4.mono B3.out.size); have e4 := K.owns_empty X4; have m4 : Hid (Below X4.heap.size X4 (X4.alloc (Obj.cells #[] 5))) := room1 X4 _; have s5 := s4.below m4.out; have hb5 := hb4.below m4.out; clear hX k4 Y3 z3 hb3 s3) | (at_builtin; refine K.append_bytes rfl (.tmp 58) (.tmp 59) rfl X4.heap.size _ 0 [] rfl e4 (some ⟨xb, xo, none⟩) n k2 L rfl (fun h => by cases h) s5 Hn1.out m4.out.size ?_; intro v6 X6 o6 g6; have m6 : Hid (Below X4.heap.size X4 X6) := m4.out.grown g6 m4.out.size (K.owns_block e4); have hb6 := hb4.below m6.out; clear g6 e4 s5 hb5) | (at_builtin; refine K.append_bytes rfl (.tmp 60) (.tmp 61) rfl X4.heap.size _ (0 + n) ([] ++ L) rfl o6 a len cap l rfl HAO.out hb6 Hn2.out m6.out.size ?_; intro v7 X7 o7 g7; have m7 : Hid (Below X4.heap.size X4 X7) := m6.out.grown g7 m6.out.size (K.owns_block o6); clear g7 o6 hb6))
  rw [List.nil_append, Nat.zero_add] at o7
  obtain ⟨a7, k7, rfl, s7, _⟩ := K.owns_bs o7 HYm.out
  try rw [Nat.zero_add]
  refine (HW.out _ _ k7 s7).mono ?_
  rintro e w8 ⟨rfl, b8⟩
  have n8 : Below X4.heap.size X4 w8 := m7.out.trans (b8.mono m7.out.size)
  have y8 := y4.over n8; have z8 := z4.over n8
  have B8 : Hid (Below w.heap.size w w8) := B4.out.trans (n8.mono B4.out.size)
  clear b8 n8 o7 s7 m7 m6 m4 y4 z4 hb4 s4 B4
  have Y8 := HN.out w8
  go_upto_region 9 with (refine at_op (.store 28 (.tmp 12) (.tmp 64)) rfl ?_; refine wpList_store_r rfl 28 (.tmp 12) (.tmp 64) rfl w8.heap.size R.toArray rfl rfl 28 _ Y8 HZ.out HS.out H1.out ?_; intro X9 hX; have k9 : Below w8.heap.size w8 X9 := hX ▸ below_setRow (room1 w8 _) (Nat.le_refl _) _; have x9 : Blk X9 w8.heap.size 28 R := hX ▸ Blk.row Y8 _; have y9 := y8.over k9; have z9 := z8.over k9; have B9 : Hid (Below w.heap.size w X9) := B8.out.trans (k9.mono B8.out.size); clear hX k9 Y8 y8 z8)
  have q1 := HQz.out; have q2 := HGz.out
  have q3 := HQm.out; have q4 := HGm.out
  clear hcut hcc hwc hn0 hn1 hn2 hn3 hb Hn1 Hn2
  go_wp2_with (first | (refine at_op (.load 28 (.tmp 10)) rfl ?_; refine wpList_load_rowG rfl 28 (.tmp 10) rfl w3.heap.size rfl 28 ZC.toArray (0, 0) _ y9 Try.underlying28 rfl HZz.out ?_) | (refine at_op (.load 28 (.tmp 12)) rfl ?_; refine wpList_load_rowG rfl 28 (.tmp 12) rfl w8.heap.size rfl 28 R.toArray (0, 0) _ x9 Try.underlying28 rfl HZ.out ?_) | (refine at_op (.load 28 (.tmp 3)) rfl ?_; refine wpList_load_rowG rfl 28 (.tmp 3) rfl w.heap.size rfl 28 R.toArray (0, 0) _ z9 Try.underlying28 rfl HZ.out ?_))
  go_ret
  exact ⟨rfl, B9.out⟩

theorem cut_walk (m : Mg) (cut : Int) (a : Option Addr) (len cap : Nat) (l : List Int) (w : World) (ho : m.ok) (_hw : (Lit.int .i64 cut).wf = true) (_hcap : len ≤ cap) (hb : K.Bs w a len l) (hao : a = none → cap = 0) : Calls Try.prog 6 #[m.vl, .int .i64 cut, .slice a len cap] w fun e w' => e = .returned (.bool true) ∧ Below w.heap.size w w' := by
  by_cases h0 : 2000 < m.path.length
  · exact cut_longa m cut a len cap w ho h0
  by_cases h1 : 500 < len
  · exact cut_longb m cut a len cap w ho h0 h1
  by_cases h2 : cut < 0
  · exact cut_longc m cut a len cap w ho h0 h1 h2
  by_cases hE : encE m = 0
  · by_cases hm : len = 0
    · exact cut_none m cut a len cap l w ho hb hao h0 h1 h2 hE hm
    · exact cut_more m cut a len cap l w ho hb hao h0 h1 h2 hE hm
  · exact cut_wrong m cut a len cap w ho h0 h1 h2 hE

end Go.Proofs.Ytpdndcmaaghnjaa
