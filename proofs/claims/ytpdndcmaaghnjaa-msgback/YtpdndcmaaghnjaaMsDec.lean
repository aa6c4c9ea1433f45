/-
  Decode, by package msg: proved of all bytes.
-/
import Derived.Test.YtpdndcmaaghnjaaMsRead
namespace Go.Proofs.Ytpdndcmaaghnjaa
open Go.RowKit
open D (Da Blk)

theorem at_op {P : Program} {ops : Array Oper} {Q : Exit → Act → World → Prop} {rest : List Oper} {o : Oper} {a : Act} {w : World} (op : Op) (_ho : o.op = op) (h : wpList P ops Q (o :: rest) a w) : wpList P ops Q (o :: rest) a w := h
/-- a whole load behind a guard that holds. -/
theorem wpList_load_rowG {P : Program} {ops : Array Oper} {rest : List Oper} {o : Oper} {a : Act} {w : World} {Q : Exit → Act → World → Prop} (hw : Region.wanted o (yielded ops a.tmps) = true) (ty : TypeId) (x : Operand) (ho : o.op = .load ty x)
    (g : Nat) (hx : a.eval x = .pointer (some ⟨g, 0, none⟩)) (t : TypeId) (cs : Array Value) (fr : Nat × Nat) (d : TypeDesc) (hg : w.heap[g]? = some (.cells cs t fr))
    (hu : P.underlying ty = some d) (hd : (match d with | .struct _ | .array _ _ => true | _ => false) = true) (hi : (P.info? ty).map (·.size) = some cs.size)
    (h : wpList P ops Q rest (a.put o.dst (.agg cs)) w) : wpList P ops Q (o :: rest) a w :=
  wpList_step fun K hK => by
    simp only [hw, if_true]
    exact wp_load_row ty x ho g hx t cs fr d hg hu hd hi (hK _ _ h)

theorem one15 : (zero15.toArray).all (·.oneCell') = true := by simp [zero15, Value.oneCell']
theorem size15 : (Try.prog.info? 28).map (·.size) = some zero15.toArray.size := Try.size28
theorem room1 (w : World) (o : Obj) : Below w.heap.size w (w.alloc o) := (Below.refl _ _).alloc (Nat.le_refl _) _
theorem zero_vl : Mg.zero.vl = .agg #[.int .i64 0, .int .u64 0, .int .u64 0, .int .i64 0, .int .i64 0, .int .u32 0, .int .u32 0, .int .u64 0, .int .u64 0, .int .u64 0, .int .u64 0, .int .u64 0, .int .u64 0, .int .u64 0, .string ⟨#[]⟩] := rfl

section
variable {a : Option Addr} {len cap : Nat} {l : List Int} {w : World}
set_option maxHeartbeats 1600000 in
theorem decode_nil (hb : K.Bs w a len []) : Calls Try.prog 13 #[.slice a len cap] w fun e w' => e = .returned (.tuple #[Mg.zero.vl, .int .i64 2]) ∧ Below w.heap.size w w' := by
  have hl : len = 0 := hb.1.symm
  subst hl
  have HB : Hid (∀ o, Below w.heap.size w (w.alloc o)) := room1 w
  have hf : Hid (Blk (w.alloc (Obj.cells zero15.toArray 28)) w.heap.size 28 zero15) := D.blk_new w _ 28
  rw [zero_vl]
  clear hb
  unfold zero15 at *
  go_enter Try.func13, Try.ntmps13
  go_wp2_with (refine at_op (.store 28 (.tmp 2) (.tmp 9)) rfl ?_; refine wpList_store_row rfl 28 (.tmp 2) (.tmp 9) rfl w.heap.size #[.int .i64 0, .int .u64 0, .int .u64 0, .int .i64 0, .int .i64 0, .int .u32 0, .int .u32 0, .int .u64 0, .int .u64 0, .int .u64 0, .int .u64 0, .int .u64 0, .int .u64 0, .int .u64 0, .string ⟨#[]⟩] rfl rfl 28 _ hf.out size15 rfl one15 ?_)
  exact bodyPost_ret (results_mg Try.results13 _ _ w.heap.size zero15 _ rfl (hf.out.row zero15.toArray) size15 rfl) rfl ⟨rfl, below_setRow (HB.out _) (Nat.le_refl _) _⟩

set_option maxHeartbeats 1600000 in
theorem decode_kind (b off : Nat) (k : Int) (hlen : 0 < len) (hc : w.cell? ⟨b, off, none⟩ = some (.int .u8 k)) (k0 : 0 ≤ k) (k1 : k ≤ 255) (hk : kiQ k = false) : Calls Try.prog 13 #[.slice (some ⟨b, off, none⟩) len cap] w fun e w' => e = .returned (.tuple #[Mg.zero.vl, .int .i64 3]) ∧ Below w.heap.size w w' := by
  have HB : Hid (∀ o, Below w.heap.size w (w.alloc o)) := room1 w
  have hc1 : ∀ o, (w.alloc o).cell? ⟨b, off, none⟩ = some (.int .u8 k) := fun o => by rw [(room1 w o).cell (p := ⟨b, off, none⟩) (World.block_lt_of_cell? w _ hc)]; exact hc
  have hc2 := hc1 (Obj.cells #[.int .i64 0, .int .u64 0, .int .u64 0, .int .i64 0, .int .i64 0, .int .u32 0, .int .u32 0, .int .u64 0, .int .u64 0, .int .u64 0, .int .u64 0, .int .u64 0, .int .u64 0, .int .u64 0, .string ⟨#[]⟩] 28)
  have h0 : ((len : Int) == 0) = false := beq_false_of_ne (by omega)
  have hw : IntKind.i64.wrap k = k := by rw [IntKind.wrap_i64]; omega
  have hf : Hid (Blk (w.alloc (Obj.cells zero15.toArray 28)) w.heap.size 28 zero15) := D.blk_new w _ 28
  rw [zero_vl]
  clear hc hc1 k0 k1
  unfold zero15 at *
  go_enter Try.func13, Try.ntmps13
  go_wp2_with (first | (go_at_call 20; refine (isKind_any _ _).mono ?_; rintro e w1 ⟨rfl, hw1⟩; subst hw1; rw [hk]) | (refine at_op (.store 28 (.tmp 2) (.tmp 16)) rfl ?_; refine wpList_store_row rfl 28 (.tmp 2) (.tmp 16) rfl w.heap.size #[.int .i64 0, .int .u64 0, .int .u64 0, .int .i64 0, .int .i64 0, .int .u32 0, .int .u32 0, .int .u64 0, .int .u64 0, .int .u64 0, .int .u64 0, .int .u64 0, .int .u64 0, .int .u64 0, .string ⟨#[]⟩] rfl rfl 28 _ hf.out size15 rfl one15 ?_))
  exact bodyPost_ret (results_mg Try.results13 _ _ w.heap.size zero15 _ rfl (hf.out.row zero15.toArray) size15 rfl) rfl ⟨rfl, below_setRow (HB.out _) (Nat.le_refl _) _⟩
end

set_option maxHeartbeats 1600000 in
theorem decode_known (len cap b off : Nat) (l : List Int) (w : World) (k : Int) (hlen : len ≤ 900000000) (hl0 : 0 < len) (hb : K.Bs w (some ⟨b, off, none⟩) len l) (hc : w.cell? ⟨b, off, none⟩ = some (.int .u8 k)) (hh : l.head? = some k) (hk : 1 ≤ k ∧ k ≤ 7) :
    Calls Try.prog 13 #[.slice (some ⟨b, off, none⟩) len cap] w fun e w' => e = .returned (.tuple #[(decM l).1.vl, .int .i64 (decM l).2]) ∧ Below w.heap.size w w' := by
  have hkq : kiQ k = true := decide_eq_true hk
  have E1 := room1 w (Obj.cells zero15.toArray 28)
  have hb1 : Hid (K.Bs (w.alloc (Obj.cells zero15.toArray 28)) (some ⟨b, off, none⟩) len l) := hb.below E1
  have hc1 : (w.alloc (Obj.cells zero15.toArray 28)).cell? ⟨b, off, none⟩ = some (.int .u8 k) := by rw [E1.cell (p := ⟨b, off, none⟩) (World.block_lt_of_cell? w _ hc)]; exact hc
  have hf : Hid (Blk (w.alloc (Obj.cells zero15.toArray 28)) w.heap.size 28 zero15) := D.blk_new w _ 28
  have HE1 : Hid (Below w.heap.size w (w.alloc (Obj.cells zero15.toArray 28))) := E1
  have HR : Hid (∀ W : World, K.Bs W (some ⟨b, off, none⟩) len l → Calls Try.prog 23 #[.slice (some ⟨b, off, none⟩) len cap] W (fun e w' => ∃ m : Mg, m.ok ∧ e = .returned (.tuple #[m.vl, .int .i64 (endM k l)]) ∧ decM l = tellM m (endM k l) ∧ Below W.heap.size W w')) := fun W hW => read_all (by simp) hlen hW hh hk
  have HN : Hid (∀ W : World, Blk (W.alloc (Obj.cells zero15.toArray 28)) W.heap.size 28 zero15) := fun W => D.blk_new W _ 28
  have h0 : ((len : Int) == 0) = false := beq_false_of_ne (by omega)
  have hw : IntKind.i64.wrap k = k := by rw [IntKind.wrap_i64]; omega
  clear hb E1 hk hc hh
  generalize endM k l = en at *
  generalize decM l = dm at *
  unfold zero15 at *
  go_enter Try.func13, Try.ntmps13
  go_wp2_with (first | (go_at_call 20; refine (isKind_any _ _).mono ?_; rintro e w1 ⟨rfl, hw1⟩; subst hw1; rw [hkq]))
  refine (HR.out _ hb1.out).mono ?_
  rintro e w2 ⟨m, ho, rfl, hdm, b2⟩
  have HO : Hid m.ok := ho
  have HZ : Hid ((Try.prog.info? 28).map (·.size) = some m.cells.toArray.size) := m.size ho.2.2.1
  have H1 : Hid (m.cells.toArray.all (·.oneCell') = true) := m.cells_one
  have HS : Hid ((zero15.toArray).size = m.cells.toArray.size) := by
    unfold Hid
    rw [List.size_toArray, List.size_toArray, m.cells_len ho.2.2.1]
    rfl
  have HB2 : Hid (Below w.heap.size w w2) := HE1.out.trans (b2.mono HE1.out.size)
  have Z2 : Hid (Blk (w2.alloc (Obj.cells zero15.toArray 28)) w2.heap.size 28 zero15) := HN.out w2
  have F2 : Hid (Blk (w2.alloc (Obj.cells zero15.toArray 28)) w.heap.size 28 zero15) := (hf.out.over b2).alloc _
  have L2 : Hid (w.heap.size < w2.heap.size) := (hf.out.over b2).lt
  have HRt : Hid (∀ W : World, Calls Try.prog 11 #[.agg m.cells.toArray] W fun e w' => e = .returned (.bool (rightB m)) ∧ Below W.heap.size W w') := fun W => right_any m W ho.2.2.1 ho.2.2.2
  have HM : Hid (m.vl = .agg m.cells.toArray) := rfl
  have HD : Hid (dm = tellM m en) := hdm
  clear hc1 hb1 HR HN hf b2 HE1 ho hdm
  unfold Mg.vl
  generalize hR : m.cells = R at *
  generalize hrb : rightB m = rb at *
  unfold zero15 at *
  by_cases he : en = 0
  · subst he
    cases rb
    · have HDz : Hid (dm = (Mg.zero, 1)) := HD.out.trans ((if_neg (by decide)).trans (if_neg (by rw [hrb]; decide)))
      clear HD hrb hR
      go_wp2_with (first | (refine at_op (.store 28 (.tmp 4) (.tmp 20)) rfl ?_; refine wpList_store_row rfl 28 (.tmp 4) (.tmp 20) rfl w2.heap.size R.toArray rfl rfl 28 _ Z2.out HZ.out HS.out H1.out ?_; have F3 := F2.out.row_other w2.heap.size R.toArray (Nat.ne_of_lt L2.out); have Z3 := Z2.out.row R.toArray; have HB3 := below_setRow (HB2.out.trans ((room1 w2 (Obj.cells zero15.toArray 28)).mono (Nat.le_of_lt L2.out))) (Nat.le_of_lt L2.out) R.toArray) | (refine at_op (.load 28 (.tmp 4)) rfl ?_; refine wpList_load_rowG rfl 28 (.tmp 4) rfl w2.heap.size rfl 28 R.toArray (0, 0) _ Z3 Try.underlying28 rfl HZ.out ?_) | (go_at_call 11; refine (HRt.out _).mono ?_; rintro e w4 ⟨rfl, b4⟩; have F4 := F3.over b4; have Z4 := Z3.over b4; have HB4 := HB3.trans (b4.mono HB3.size); clear F3 Z3 HB3) | (refine at_op (.store 28 (.tmp 2) (.tmp 31)) rfl ?_; refine wpList_store_row rfl 28 (.tmp 2) (.tmp 31) rfl w.heap.size #[.int .i64 0, .int .u64 0, .int .u64 0, .int .i64 0, .int .i64 0, .int .u32 0, .int .u32 0, .int .u64 0, .int .u64 0, .int .u64 0, .int .u64 0, .int .u64 0, .int .u64 0, .int .u64 0, .string ⟨#[]⟩] rfl rfl 28 _ F4 size15 rfl one15 ?_))
      exact bodyPost_ret (results_mg Try.results13 _ _ w.heap.size zero15 _ rfl (F4.row zero15.toArray) size15 rfl) rfl ⟨by rw [HDz.out]; rfl, below_setRow HB4 (Nat.le_refl _) _⟩
    · have HDz : Hid (dm = (m, 0)) := HD.out.trans ((if_neg (by decide)).trans (if_pos hrb))
      have HRv : Hid (m.cells = R) := hR
      clear HD hrb hR
      go_wp2_with (first | (refine at_op (.store 28 (.tmp 4) (.tmp 20)) rfl ?_; refine wpList_store_row rfl 28 (.tmp 4) (.tmp 20) rfl w2.heap.size R.toArray rfl rfl 28 _ Z2.out HZ.out HS.out H1.out ?_; have F3 := F2.out.row_other w2.heap.size R.toArray (Nat.ne_of_lt L2.out); have Z3 := Z2.out.row R.toArray; have HB3 := below_setRow (HB2.out.trans ((room1 w2 (Obj.cells zero15.toArray 28)).mono (Nat.le_of_lt L2.out))) (Nat.le_of_lt L2.out) R.toArray) | (refine at_op (.load 28 (.tmp 4)) rfl ?_; refine wpList_load_rowG rfl 28 (.tmp 4) rfl w2.heap.size rfl 28 R.toArray (0, 0) _ Z3 Try.underlying28 rfl HZ.out ?_) | (go_at_call 11; refine (HRt.out _).mono ?_; rintro e w4 ⟨rfl, b4⟩; have F4 := F3.over b4; have Z4 := Z3.over b4; have HB4 := HB3.trans (b4.mono HB3.size); clear F3 Z3 HB3) | (refine at_op (.load 28 (.tmp 4)) rfl ?_; refine wpList_load_row rfl 28 (.tmp 4) rfl w2.heap.size rfl 28 R.toArray (0, 0) _ Z4 Try.underlying28 rfl HZ.out ?_) | (refine at_op (.store 28 (.tmp 2) (.tmp 33)) rfl ?_; refine wpList_store_row rfl 28 (.tmp 2) (.tmp 33) rfl w.heap.size R.toArray rfl rfl 28 _ F4 HZ.out HS.out H1.out ?_))
      exact bodyPost_ret (results_mg Try.results13 _ _ w.heap.size R _ rfl (F4.row R.toArray) HZ.out rfl) rfl ⟨by rw [HDz.out, ← HRv.out]; rfl, below_setRow HB4 (Nat.le_refl _) _⟩
  · have hq : (en == 0) = false := beq_false_of_ne he
    have hq2 : (en != 0) = true := by simp [he]
    have HDz : Hid (dm = (Mg.zero, en)) := HD.out.trans (if_pos he)
    clear HD hrb hR
    go_wp2_with (first | (refine at_op (.store 28 (.tmp 4) (.tmp 20)) rfl ?_; refine wpList_store_row rfl 28 (.tmp 4) (.tmp 20) rfl w2.heap.size R.toArray rfl rfl 28 _ Z2.out HZ.out HS.out H1.out ?_; have F3 := F2.out.row_other w2.heap.size R.toArray (Nat.ne_of_lt L2.out); have Z3 := Z2.out.row R.toArray; have HB3 := below_setRow (HB2.out.trans ((room1 w2 (Obj.cells zero15.toArray 28)).mono (Nat.le_of_lt L2.out))) (Nat.le_of_lt L2.out) R.toArray) | (refine at_op (.store 28 (.tmp 2) (.tmp 31)) rfl ?_; refine wpList_store_row rfl 28 (.tmp 2) (.tmp 31) rfl w.heap.size #[.int .i64 0, .int .u64 0, .int .u64 0, .int .i64 0, .int .i64 0, .int .u32 0, .int .u32 0, .int .u64 0, .int .u64 0, .int .u64 0, .int .u64 0, .int .u64 0, .int .u64 0, .int .u64 0, .string ⟨#[]⟩] rfl rfl 28 _ F3 size15 rfl one15 ?_))
    exact bodyPost_ret (results_mg Try.results13 _ _ w.heap.size zero15 _ rfl (F3.row zero15.toArray) size15 rfl) rfl ⟨by rw [HDz.out]; rfl, below_setRow HB3 (Nat.le_refl _) _⟩

theorem decode_any (a : Option Addr) (len cap : Nat) (l : List Int) (w : World) (hlen : len ≤ 900000000) (hb : K.Bs w a len l) :
    Calls Try.prog 13 #[.slice a len cap] w fun e w' => e = .returned (.tuple #[(decM l).1.vl, .int .i64 (decM l).2]) ∧ Below w.heap.size w w' := by
  cases l with
  | nil => exact decode_nil hb
  | cons k r =>
    have hl := hb.1
    have hl0 : 0 < len := by rw [← hl]; exact Nat.succ_pos _
    obtain ⟨b, off, rfl, hc⟩ := hb.2.2 hl0
    have hc0 := hc 0 hl0
    have hk := hb.2.1 k List.mem_cons_self
    by_cases h : 1 ≤ k ∧ k ≤ 7
    · exact decode_known len cap b off (k :: r) w k hlen hl0 hb hc0 rfl h
    · have e : decM (k :: r) = (Mg.zero, 3) := by rw [dec_at (k := k) rfl, if_pos h]
      rw [e]
      exact decode_kind b off k hl0 hc0 hk.1 hk.2 (decide_eq_false h)

end Go.Proofs.Ytpdndcmaaghnjaa
