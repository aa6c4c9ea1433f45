/-
  All numbers of a message, handed on to a writer: proved of every message that may be and has no call.
-/
import Derived.Test.YtpdndcmaaghnjaaMsWtr
import Derived.Test.YtpdndcmaaghnjaaMsRight
namespace Go.Proofs.Ytpdndcmaaghnjaa
open Go.RowKit
open D (Da Blk)
open K (numW digs pow256 layW textW bytesOf)

theorem numW_ok (l : List Int) (n : Int) (s : Nat) (h1 : 1 ≤ s) (h8 : s ≤ 8) (hn : n < pow256 s) : numW (l, 0) n (s : Int) = (l ++ digs s n, 0) := by
  unfold numW layW
  rw [if_pos ⟨by omega, by omega, by rw [Int.toNat_natCast]; exact hn⟩, if_pos rfl, Int.toNat_natCast]
theorem numW_1 (l : List Int) (n : Int) (h0 : 0 ≤ n) (hn : n ≤ 255) : numW (l, 0) n 1 = (l ++ [n], 0) := by
  have := numW_ok l n 1 (by decide) (by decide) (by show n < 256; omega)
  rw [show digs 1 n = [n] from by show [n % 256] = [n]; rw [Int.emod_eq_of_lt h0 (by omega)]] at this
  exact this
theorem numW_2 (l : List Int) (n : Int) (hn : n ≤ 65535) : numW (l, 0) n 2 = (l ++ digs 2 n, 0) := numW_ok l n 2 (by decide) (by decide) (by show n < 65536; omega)
theorem numW_8 (l : List Int) (n : Int) (hn : n ≤ 18446744073709551615) : numW (l, 0) n 8 = (l ++ digs 8 n, 0) := numW_ok l n 8 (by decide) (by decide) (by rw [K.pow256_8]; omega)
theorem FY.blk {Y : Nat → Prop} {w w' : World} {g : Nat} {t : TypeId} {R : List Value} (h : FY Y w w') (hB : Blk w g t R) (hg : Y g) : Blk w' g t R := by
  unfold D.Blk at *
  rw [h.block g hg]
  exact hB
/-- one block more is minded. -/
def And1 (Y : Nat → Prop) (g : Nat) (k : Nat) : Prop := Y k ∨ k = g
theorem WY.one {Y : Nat → Prop} {w : World} {b : Nat} {st : List Int × Int} (h : WY Y w b st) (o : Obj) : WY (And1 Y w.heap.size) (w.alloc o) b st :=
  h.below ((Below.refl _ _).alloc (Nat.le_refl _) _) fun k hk => hk.imp id fun e => ⟨Nat.le_of_eq e.symm, by rw [D.size_alloc']; omega⟩
theorem FY.one {Y : Nat → Prop} {w w' : World} {g : Nat} (h : FY (And1 Y g) w w') : FY Y w w' := h.mono fun _ hk => .inl hk

set_option linter.unusedSimpArgs false in
set_option maxHeartbeats 1600000 in
theorem nums_none (Y : Nat → Prop) (w : World) (b : Nat) (l : List Int) (k ep id t v : Int) (R : List Value) (h : WY Y w b (l, 0)) (hl : l.length ≤ 1000) (r0 : R[0]? = some (.int .i64 k)) (r1 : R[1]? = some (.int .u64 ep)) (r2 : R[2]? = some (.int .u64 id)) (r3 : R[3]? = some (.int .i64 t)) (r4 : R[4]? = some (.int .i64 v)) (k0 : 1 ≤ k) (k7 : k ≤ 7) (he : D.U64 ep) (hi : D.U64 id) (q1 : idQ k = false) (q2 : caQ k = false) (q3 : vaQ k = false) :
    Calls Try.prog 27 #[.agg R.toArray, .func (Fn.func 28) #[.pointer (some ⟨b, 0, none⟩)] #[]] w fun e w' => e = .returned (.tuple #[]) ∧ WY Y w' b (l ++ (k :: digs 8 ep), 0) ∧ FY Y w w' := by
  have HC0 : Hid (R[0]? = some (.int .i64 k)) := r0
  have HC1 : Hid (R[1]? = some (.int .u64 ep)) := r1
  have HC2 : Hid (R[2]? = some (.int .u64 id)) := r2
  have HC3 : Hid (R[3]? = some (.int .i64 t)) := r3
  have HC4 : Hid (R[4]? = some (.int .i64 v)) := r4
  have hk : IntKind.u64.wrap k = k := by rw [IntKind.wrap_u64]; omega
  obtain ⟨e0, e1⟩ := he
  obtain ⟨i0, i1⟩ := hi
  have h0 := h.one (Obj.cells R.toArray 28)
  have Z0 : Blk (w.alloc (Obj.cells R.toArray 28)) w.heap.size 28 R := D.blk_new w R.toArray 28
  have F0 : Hid (FY Y w (w.alloc (Obj.cells R.toArray 28))) := fy_below h.lt ((Below.refl _ _).alloc (Nat.le_refl _) _)
  have c0 := (Z0.cell 0).trans HC0.out
  have c1 := (Z0.cell 1).trans HC1.out
  have c2 := (Z0.cell 2).trans HC2.out
  have c3 := (Z0.cell 3).trans HC3.out
  have c4 := (Z0.cell 4).trans HC4.out
  clear r0 r1 r2 r3 r4 h
  go_enter Try.func27, Try.ntmps27
  go_wp2_with fail
  generalize w.alloc (Obj.cells R.toArray 28) = w0 at *
  generalize w.heap.size = g at *
  refine (wnum_y (And1 Y g) _ b _ k 1 h0 (by omega) (by omega) (by simp only [List.length_append, K.digs_length, List.length_cons, List.length_nil]; omega)).mono ?_
  rintro e w1 ⟨rfl, h1, f1⟩
  rw [numW_1 _ _ (by omega) (by omega)] at h1
  have Z1 := f1.blk Z0 (.inr rfl)
  clear c0 c1 c2 c3 c4
  have c0 := (Z1.cell 0).trans HC0.out
  have c1 := (Z1.cell 1).trans HC1.out
  have c2 := (Z1.cell 2).trans HC2.out
  have c3 := (Z1.cell 3).trans HC3.out
  have c4 := (Z1.cell 4).trans HC4.out
  have F1 : Hid (FY Y w w1) := F0.out.trans f1.one
  clear Z0 h0 f1 F0
  go_wp2_with (first | (go_at_call 33; refine (hasID_any _ _).mono ?_; rintro e w1' ⟨rfl, hw'⟩; subst hw'; rw [q1]) | (go_at_call 29; refine (hasCall_any _ _).mono ?_; rintro e w1' ⟨rfl, hw'⟩; subst hw'; rw [q2]) | (go_at_call 34; refine (hasVal_any _ _).mono ?_; rintro e w1' ⟨rfl, hw'⟩; subst hw'; rw [q3]))
  refine (wnum_y (And1 Y g) _ b _ ep 8 h1 e0 e1 (by simp only [List.length_append, K.digs_length, List.length_cons, List.length_nil]; omega)).mono ?_
  rintro e w2 ⟨rfl, h2, f2⟩
  rw [numW_8 _ _ e1] at h2
  have Z2 := f2.blk Z1 (.inr rfl)
  clear c0 c1 c2 c3 c4
  have c0 := (Z2.cell 0).trans HC0.out
  have c1 := (Z2.cell 1).trans HC1.out
  have c2 := (Z2.cell 2).trans HC2.out
  have c3 := (Z2.cell 3).trans HC3.out
  have c4 := (Z2.cell 4).trans HC4.out
  have F2 : Hid (FY Y w w2) := F1.out.trans f2.one
  clear Z1 h1 f2 F1
  go_wp2_with (first | (go_at_call 33; refine (hasID_any _ _).mono ?_; rintro e w2' ⟨rfl, hw'⟩; subst hw'; rw [q1]) | (go_at_call 29; refine (hasCall_any _ _).mono ?_; rintro e w2' ⟨rfl, hw'⟩; subst hw'; rw [q2]) | (go_at_call 34; refine (hasVal_any _ _).mono ?_; rintro e w2' ⟨rfl, hw'⟩; subst hw'; rw [q3]))
  go_end0
  refine ⟨rfl, ?_, F2.out⟩
  have h := h2.mono (Z := Y) fun _ hk => .inl hk
  simpa only [List.append_assoc, List.cons_append, List.nil_append] using h

set_option linter.unusedSimpArgs false in
set_option maxHeartbeats 1600000 in
theorem nums_id (Y : Nat → Prop) (w : World) (b : Nat) (l : List Int) (k ep id t v : Int) (R : List Value) (h : WY Y w b (l, 0)) (hl : l.length ≤ 1000) (r0 : R[0]? = some (.int .i64 k)) (r1 : R[1]? = some (.int .u64 ep)) (r2 : R[2]? = some (.int .u64 id)) (r3 : R[3]? = some (.int .i64 t)) (r4 : R[4]? = some (.int .i64 v)) (k0 : 1 ≤ k) (k7 : k ≤ 7) (he : D.U64 ep) (hi : D.U64 id) (q1 : idQ k = true) (q2 : caQ k = false) (q3 : vaQ k = false) :
    Calls Try.prog 27 #[.agg R.toArray, .func (Fn.func 28) #[.pointer (some ⟨b, 0, none⟩)] #[]] w fun e w' => e = .returned (.tuple #[]) ∧ WY Y w' b (l ++ (k :: (digs 8 ep ++ digs 8 id)), 0) ∧ FY Y w w' := by
  have HC0 : Hid (R[0]? = some (.int .i64 k)) := r0
  have HC1 : Hid (R[1]? = some (.int .u64 ep)) := r1
  have HC2 : Hid (R[2]? = some (.int .u64 id)) := r2
  have HC3 : Hid (R[3]? = some (.int .i64 t)) := r3
  have HC4 : Hid (R[4]? = some (.int .i64 v)) := r4
  have hk : IntKind.u64.wrap k = k := by rw [IntKind.wrap_u64]; omega
  obtain ⟨e0, e1⟩ := he
  obtain ⟨i0, i1⟩ := hi
  have h0 := h.one (Obj.cells R.toArray 28)
  have Z0 : Blk (w.alloc (Obj.cells R.toArray 28)) w.heap.size 28 R := D.blk_new w R.toArray 28
  have F0 : Hid (FY Y w (w.alloc (Obj.cells R.toArray 28))) := fy_below h.lt ((Below.refl _ _).alloc (Nat.le_refl _) _)
  have c0 := (Z0.cell 0).trans HC0.out
  have c1 := (Z0.cell 1).trans HC1.out
  have c2 := (Z0.cell 2).trans HC2.out
  have c3 := (Z0.cell 3).trans HC3.out
  have c4 := (Z0.cell 4).trans HC4.out
  clear r0 r1 r2 r3 r4 h
  go_enter Try.func27, Try.ntmps27
  go_wp2_with fail
  generalize w.alloc (Obj.cells R.toArray 28) = w0 at *
  generalize w.heap.size = g at *
  refine (wnum_y (And1 Y g) _ b _ k 1 h0 (by omega) (by omega) (by simp only [List.length_append, K.digs_length, List.length_cons, List.length_nil]; omega)).mono ?_
  rintro e w1 ⟨rfl, h1, f1⟩
  rw [numW_1 _ _ (by omega) (by omega)] at h1
  have Z1 := f1.blk Z0 (.inr rfl)
  clear c0 c1 c2 c3 c4
  have c0 := (Z1.cell 0).trans HC0.out
  have c1 := (Z1.cell 1).trans HC1.out
  have c2 := (Z1.cell 2).trans HC2.out
  have c3 := (Z1.cell 3).trans HC3.out
  have c4 := (Z1.cell 4).trans HC4.out
  have F1 : Hid (FY Y w w1) := F0.out.trans f1.one
  clear Z0 h0 f1 F0
  go_wp2_with (first | (go_at_call 33; refine (hasID_any _ _).mono ?_; rintro e w1' ⟨rfl, hw'⟩; subst hw'; rw [q1]) | (go_at_call 29; refine (hasCall_any _ _).mono ?_; rintro e w1' ⟨rfl, hw'⟩; subst hw'; rw [q2]) | (go_at_call 34; refine (hasVal_any _ _).mono ?_; rintro e w1' ⟨rfl, hw'⟩; subst hw'; rw [q3]))
  refine (wnum_y (And1 Y g) _ b _ ep 8 h1 e0 e1 (by simp only [List.length_append, K.digs_length, List.length_cons, List.length_nil]; omega)).mono ?_
  rintro e w2 ⟨rfl, h2, f2⟩
  rw [numW_8 _ _ e1] at h2
  have Z2 := f2.blk Z1 (.inr rfl)
  clear c0 c1 c2 c3 c4
  have c0 := (Z2.cell 0).trans HC0.out
  have c1 := (Z2.cell 1).trans HC1.out
  have c2 := (Z2.cell 2).trans HC2.out
  have c3 := (Z2.cell 3).trans HC3.out
  have c4 := (Z2.cell 4).trans HC4.out
  have F2 : Hid (FY Y w w2) := F1.out.trans f2.one
  clear Z1 h1 f2 F1
  go_wp2_with (first | (go_at_call 33; refine (hasID_any _ _).mono ?_; rintro e w2' ⟨rfl, hw'⟩; subst hw'; rw [q1]) | (go_at_call 29; refine (hasCall_any _ _).mono ?_; rintro e w2' ⟨rfl, hw'⟩; subst hw'; rw [q2]) | (go_at_call 34; refine (hasVal_any _ _).mono ?_; rintro e w2' ⟨rfl, hw'⟩; subst hw'; rw [q3]))
  refine (wnum_y (And1 Y g) _ b _ id 8 h2 i0 i1 (by simp only [List.length_append, K.digs_length, List.length_cons, List.length_nil]; omega)).mono ?_
  rintro e w3 ⟨rfl, h3, f3⟩
  rw [numW_8 _ _ i1] at h3
  have Z3 := f3.blk Z2 (.inr rfl)
  clear c0 c1 c2 c3 c4
  have c0 := (Z3.cell 0).trans HC0.out
  have c1 := (Z3.cell 1).trans HC1.out
  have c2 := (Z3.cell 2).trans HC2.out
  have c3 := (Z3.cell 3).trans HC3.out
  have c4 := (Z3.cell 4).trans HC4.out
  have F3 : Hid (FY Y w w3) := F2.out.trans f3.one
  clear Z2 h2 f3 F2
  go_wp2_with (first | (go_at_call 33; refine (hasID_any _ _).mono ?_; rintro e w3' ⟨rfl, hw'⟩; subst hw'; rw [q1]) | (go_at_call 29; refine (hasCall_any _ _).mono ?_; rintro e w3' ⟨rfl, hw'⟩; subst hw'; rw [q2]) | (go_at_call 34; refine (hasVal_any _ _).mono ?_; rintro e w3' ⟨rfl, hw'⟩; subst hw'; rw [q3]))
  go_end0
  refine ⟨rfl, ?_, F3.out⟩
  have h := h3.mono (Z := Y) fun _ hk => .inl hk
  simpa only [List.append_assoc, List.cons_append, List.nil_append] using h

set_option linter.unusedSimpArgs false in
set_option maxHeartbeats 1600000 in
theorem nums_val (Y : Nat → Prop) (w : World) (b : Nat) (l : List Int) (k ep id t v : Int) (R : List Value) (h : WY Y w b (l, 0)) (hl : l.length ≤ 1000) (r0 : R[0]? = some (.int .i64 k)) (r1 : R[1]? = some (.int .u64 ep)) (r2 : R[2]? = some (.int .u64 id)) (r3 : R[3]? = some (.int .i64 t)) (r4 : R[4]? = some (.int .i64 v)) (k0 : 1 ≤ k) (k7 : k ≤ 7) (he : D.U64 ep) (hi : D.U64 id) (q1 : idQ k = true) (q2 : caQ k = false) (q3 : vaQ k = true) (v0 : 0 ≤ v) (v1 : v ≤ 65535) :
    Calls Try.prog 27 #[.agg R.toArray, .func (Fn.func 28) #[.pointer (some ⟨b, 0, none⟩)] #[]] w fun e w' => e = .returned (.tuple #[]) ∧ WY Y w' b (l ++ (k :: (digs 8 ep ++ (digs 8 id ++ digs 2 v))), 0) ∧ FY Y w w' := by
  have HC0 : Hid (R[0]? = some (.int .i64 k)) := r0
  have HC1 : Hid (R[1]? = some (.int .u64 ep)) := r1
  have HC2 : Hid (R[2]? = some (.int .u64 id)) := r2
  have HC3 : Hid (R[3]? = some (.int .i64 t)) := r3
  have HC4 : Hid (R[4]? = some (.int .i64 v)) := r4
  have hk : IntKind.u64.wrap k = k := by rw [IntKind.wrap_u64]; omega
  obtain ⟨e0, e1⟩ := he
  obtain ⟨i0, i1⟩ := hi
  have hv : IntKind.u64.wrap v = v := by rw [IntKind.wrap_u64]; omega
  have h0 := h.one (Obj.cells R.toArray 28)
  have Z0 : Blk (w.alloc (Obj.cells R.toArray 28)) w.heap.size 28 R := D.blk_new w R.toArray 28
  have F0 : Hid (FY Y w (w.alloc (Obj.cells R.toArray 28))) := fy_below h.lt ((Below.refl _ _).alloc (Nat.le_refl _) _)
  have c0 := (Z0.cell 0).trans HC0.out
  have c1 := (Z0.cell 1).trans HC1.out
  have c2 := (Z0.cell 2).trans HC2.out
  have c3 := (Z0.cell 3).trans HC3.out
  have c4 := (Z0.cell 4).trans HC4.out
  clear r0 r1 r2 r3 r4 h
  go_enter Try.func27, Try.ntmps27
  go_wp2_with fail
  generalize w.alloc (Obj.cells R.toArray 28) = w0 at *
  generalize w.heap.size = g at *
  refine (wnum_y (And1 Y g) _ b _ k 1 h0 (by omega) (by omega) (by simp only [List.length_append, K.digs_length, List.length_cons, List.length_nil]; omega)).mono ?_
  rintro e w1 ⟨rfl, h1, f1⟩
  rw [numW_1 _ _ (by omega) (by omega)] at h1
  have Z1 := f1.blk Z0 (.inr rfl)
  clear c0 c1 c2 c3 c4
  have c0 := (Z1.cell 0).trans HC0.out
  have c1 := (Z1.cell 1).trans HC1.out
  have c2 := (Z1.cell 2).trans HC2.out
  have c3 := (Z1.cell 3).trans HC3.out
  have c4 := (Z1.cell 4).trans HC4.out
  have F1 : Hid (FY Y w w1) := F0.out.trans f1.one
  clear Z0 h0 f1 F0
  go_wp2_with (first | (go_at_call 33; refine (hasID_any _ _).mono ?_; rintro e w1' ⟨rfl, hw'⟩; subst hw'; rw [q1]) | (go_at_call 29; refine (hasCall_any _ _).mono ?_; rintro e w1' ⟨rfl, hw'⟩; subst hw'; rw [q2]) | (go_at_call 34; refine (hasVal_any _ _).mono ?_; rintro e w1' ⟨rfl, hw'⟩; subst hw'; rw [q3]))
  refine (wnum_y (And1 Y g) _ b _ ep 8 h1 e0 e1 (by simp only [List.length_append, K.digs_length, List.length_cons, List.length_nil]; omega)).mono ?_
  rintro e w2 ⟨rfl, h2, f2⟩
  rw [numW_8 _ _ e1] at h2
  have Z2 := f2.blk Z1 (.inr rfl)
  clear c0 c1 c2 c3 c4
  have c0 := (Z2.cell 0).trans HC0.out
  have c1 := (Z2.cell 1).trans HC1.out
  have c2 := (Z2.cell 2).trans HC2.out
  have c3 := (Z2.cell 3).trans HC3.out
  have c4 := (Z2.cell 4).trans HC4.out
  have F2 : Hid (FY Y w w2) := F1.out.trans f2.one
  clear Z1 h1 f2 F1
  go_wp2_with (first | (go_at_call 33; refine (hasID_any _ _).mono ?_; rintro e w2' ⟨rfl, hw'⟩; subst hw'; rw [q1]) | (go_at_call 29; refine (hasCall_any _ _).mono ?_; rintro e w2' ⟨rfl, hw'⟩; subst hw'; rw [q2]) | (go_at_call 34; refine (hasVal_any _ _).mono ?_; rintro e w2' ⟨rfl, hw'⟩; subst hw'; rw [q3]))
  refine (wnum_y (And1 Y g) _ b _ id 8 h2 i0 i1 (by simp only [List.length_append, K.digs_length, List.length_cons, List.length_nil]; omega)).mono ?_
  rintro e w3 ⟨rfl, h3, f3⟩
  rw [numW_8 _ _ i1] at h3
  have Z3 := f3.blk Z2 (.inr rfl)
  clear c0 c1 c2 c3 c4
  have c0 := (Z3.cell 0).trans HC0.out
  have c1 := (Z3.cell 1).trans HC1.out
  have c2 := (Z3.cell 2).trans HC2.out
  have c3 := (Z3.cell 3).trans HC3.out
  have c4 := (Z3.cell 4).trans HC4.out
  have F3 : Hid (FY Y w w3) := F2.out.trans f3.one
  clear Z2 h2 f3 F2
  go_wp2_with (first | (go_at_call 33; refine (hasID_any _ _).mono ?_; rintro e w3' ⟨rfl, hw'⟩; subst hw'; rw [q1]) | (go_at_call 29; refine (hasCall_any _ _).mono ?_; rintro e w3' ⟨rfl, hw'⟩; subst hw'; rw [q2]) | (go_at_call 34; refine (hasVal_any _ _).mono ?_; rintro e w3' ⟨rfl, hw'⟩; subst hw'; rw [q3]))
  refine (wnum_y (And1 Y g) _ b _ v 2 h3 v0 (by omega) (by simp only [List.length_append, K.digs_length, List.length_cons, List.length_nil]; omega)).mono ?_
  rintro e w4 ⟨rfl, h4, f4⟩
  rw [numW_2 _ _ v1] at h4
  have Z4 := f4.blk Z3 (.inr rfl)
  clear c0 c1 c2 c3 c4
  have c0 := (Z4.cell 0).trans HC0.out
  have c1 := (Z4.cell 1).trans HC1.out
  have c2 := (Z4.cell 2).trans HC2.out
  have c3 := (Z4.cell 3).trans HC3.out
  have c4 := (Z4.cell 4).trans HC4.out
  have F4 : Hid (FY Y w w4) := F3.out.trans f4.one
  clear Z3 h3 f4 F3
  go_wp2_with (first | (go_at_call 33; refine (hasID_any _ _).mono ?_; rintro e w4' ⟨rfl, hw'⟩; subst hw'; rw [q1]) | (go_at_call 29; refine (hasCall_any _ _).mono ?_; rintro e w4' ⟨rfl, hw'⟩; subst hw'; rw [q2]) | (go_at_call 34; refine (hasVal_any _ _).mono ?_; rintro e w4' ⟨rfl, hw'⟩; subst hw'; rw [q3]))
  go_end0
  refine ⟨rfl, ?_, F4.out⟩
  have h := h4.mono (Z := Y) fun _ hk => .inl hk
  simpa only [List.append_assoc, List.cons_append, List.nil_append] using h

end Go.Proofs.Ytpdndcmaaghnjaa
