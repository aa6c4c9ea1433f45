/-
  All numbers of a message, handed on to a writer: proved of every message that may be and has a call.
-/
import Derived.Test.YtpdndcmaaghnjaaMsNums
import Derived.Test.YtpdndcmaaghnjaaDBytes
import Derived.Test.YtpdndcmaaghnjaaKRdr
namespace Go.Proofs.Ytpdndcmaaghnjaa
open Go.RowKit
open D (Da Blk)
open K (numW digs pow256 layW textW bytesOf)

set_option linter.unusedSimpArgs false in
set_option maxRecDepth 8000 in
set_option maxHeartbeats 1600000 in
theorem nums_call (Y : Nat → Prop) (w : World) (b : Nat) (l : List Int) (k ep id t v : Int) (R : List Value) (h : WY Y w b (l, 0)) (hl : l.length ≤ 1000) (r0 : R[0]? = some (.int .i64 k)) (r1 : R[1]? = some (.int .u64 ep)) (r2 : R[2]? = some (.int .u64 id)) (r3 : R[3]? = some (.int .i64 t)) (r4 : R[4]? = some (.int .i64 v)) (k0 : 1 ≤ k) (k7 : k ≤ 7) (he : D.U64 ep) (hi : D.U64 id) (q1 : idQ k = true) (q2 : caQ k = true) (q3 : vaQ k = false) (t0 : 1 ≤ t) (t4 : t ≤ 4) (d : Da) (hd : d.ok) (r5 : ∀ j, j < 9 → R[5 + j]? = d.cells[j]?) :
    Calls Try.prog 27 #[.agg R.toArray, .func (Fn.func 28) #[.pointer (some ⟨b, 0, none⟩)] #[]] w fun e w' => e = .returned (.tuple #[]) ∧ WY Y w' b (l ++ (k :: (digs 8 ep ++ (digs 8 id ++ (t :: d.enc)))), 0) ∧ FY Y w w' := by
  obtain ⟨dn, da, dp, dg⟩ := d
  have hg6 := hd.2.2.2.1
  simp only at hg6
  obtain ⟨x0, x1, x2, x3, x4, x5, rfl⟩ := D.six hg6
  have HD0 : Hid (R[5]? = some (.int .u32 dn)) := r5 0 (by decide)
  have HD1 : Hid (R[6]? = some (.int .u32 da)) := r5 1 (by decide)
  have HD2 : Hid (R[7]? = some (.int .u64 dp)) := r5 2 (by decide)
  have HD3 : Hid (R[8]? = some (.int .u64 x0)) := r5 3 (by decide)
  have HD4 : Hid (R[9]? = some (.int .u64 x1)) := r5 4 (by decide)
  have HD5 : Hid (R[10]? = some (.int .u64 x2)) := r5 5 (by decide)
  have HD6 : Hid (R[11]? = some (.int .u64 x3)) := r5 6 (by decide)
  have HD7 : Hid (R[12]? = some (.int .u64 x4)) := r5 7 (by decide)
  have HD8 : Hid (R[13]? = some (.int .u64 x5)) := r5 8 (by decide)
  have HB : Hid (∀ W : World, Calls Try.prog 41 #[.agg #[.int .u32 dn, .int .u32 da, .int .u64 dp, .int .u64 x0, .int .u64 x1, .int .u64 x2, .int .u64 x3, .int .u64 x4, .int .u64 x5]] W fun e w' => Below W.heap.size W w' ∧ ∃ v, e = .returned v ∧ w'.ownsRow W.heap.size 5 1 v 64 (K.cellsB (Da.mk dn da dp [x0, x1, x2, x3, x4, x5]).enc)) := fun W => D.bytes_any (Da.mk dn da dp [x0, x1, x2, x3, x4, x5]) W hd
  have HY : Hid (∀ z ∈ (Da.mk dn da dp [x0, x1, x2, x3, x4, x5]).enc, 0 ≤ z ∧ z ≤ 255) := D.enc_byt _ hd
  have HN : Hid ((Da.mk dn da dp [x0, x1, x2, x3, x4, x5]).enc.length = 64) := D.enc_len _ hd
  generalize (Da.mk dn da dp [x0, x1, x2, x3, x4, x5]).enc = E at *
  clear r5 hd hg6
  have HC0 : Hid (R[0]? = some (.int .i64 k)) := r0
  have HC1 : Hid (R[1]? = some (.int .u64 ep)) := r1
  have HC2 : Hid (R[2]? = some (.int .u64 id)) := r2
  have HC3 : Hid (R[3]? = some (.int .i64 t)) := r3
  have HC4 : Hid (R[4]? = some (.int .i64 v)) := r4
  have hk : IntKind.u64.wrap k = k := by rw [IntKind.wrap_u64]; omega
  obtain ⟨e0, e1⟩ := he
  obtain ⟨i0, i1⟩ := hi
  have ht : IntKind.u64.wrap t = t := by rw [IntKind.wrap_u64]; omega
  have h0 := h.one (Obj.cells R.toArray 28)
  have Z0 : Blk (w.alloc (Obj.cells R.toArray 28)) w.heap.size 28 R := D.blk_new w R.toArray 28
  have F0 : Hid (FY Y w (w.alloc (Obj.cells R.toArray 28))) := fy_below h.lt ((Below.refl _ _).alloc (Nat.le_refl _) _)
  have c0 := (Z0.cell 0).trans HC0.out
  have c1 := (Z0.cell 1).trans HC1.out
  have c2 := (Z0.cell 2).trans HC2.out
  have c3 := (Z0.cell 3).trans HC3.out
  have c4 := (Z0.cell 4).trans HC4.out
  clear r0 r1 r2 r3 r4 h
  go_enter Try.func27, Try.ntmps27
  go_wp2_with fail
  generalize w.alloc (Obj.cells R.toArray 28) = w0 at *
  generalize w.heap.size = g at *
  refine (wnum_y (And1 Y g) _ b _ k 1 h0 (by omega) (by omega) (by simp only [List.length_append, K.digs_length, List.length_cons, List.length_nil]; omega)).mono ?_
  rintro e w1 ⟨rfl, h1, f1⟩
  rw [numW_1 _ _ (by omega) (by omega)] at h1
  have Z1 := f1.blk Z0 (.inr rfl)
  clear c0 c1 c2 c3 c4
  have c0 := (Z1.cell 0).trans HC0.out
  have c1 := (Z1.cell 1).trans HC1.out
  have c2 := (Z1.cell 2).trans HC2.out
  have c3 := (Z1.cell 3).trans HC3.out
  have c4 := (Z1.cell 4).trans HC4.out
  have F1 : Hid (FY Y w w1) := F0.out.trans f1.one
  clear Z0 h0 f1 F0
  go_wp2_with (first | (go_at_call 33; refine (hasID_any _ _).mono ?_; rintro e w1' ⟨rfl, hw'⟩; subst hw'; rw [q1]) | (go_at_call 29; refine (hasCall_any _ _).mono ?_; rintro e w1' ⟨rfl, hw'⟩; subst hw'; rw [q2]) | (go_at_call 34; refine (hasVal_any _ _).mono ?_; rintro e w1' ⟨rfl, hw'⟩; subst hw'; rw [q3]))
  refine (wnum_y (And1 Y g) _ b _ ep 8 h1 e0 e1 (by simp only [List.length_append, K.digs_length, List.length_cons, List.length_nil]; omega)).mono ?_
  rintro e w2 ⟨rfl, h2, f2⟩
  rw [numW_8 _ _ e1] at h2
  have Z2 := f2.blk Z1 (.inr rfl)
  clear c0 c1 c2 c3 c4
  have c0 := (Z2.cell 0).trans HC0.out
  have c1 := (Z2.cell 1).trans HC1.out
  have c2 := (Z2.cell 2).trans HC2.out
  have c3 := (Z2.cell 3).trans HC3.out
  have c4 := (Z2.cell 4).trans HC4.out
  have F2 : Hid (FY Y w w2) := F1.out.trans f2.one
  clear Z1 h1 f2 F1
  go_wp2_with (first | (go_at_call 33; refine (hasID_any _ _).mono ?_; rintro e w2' ⟨rfl, hw'⟩; subst hw'; rw [q1]) | (go_at_call 29; refine (hasCall_any _ _).mono ?_; rintro e w2' ⟨rfl, hw'⟩; subst hw'; rw [q2]) | (go_at_call 34; refine (hasVal_any _ _).mono ?_; rintro e w2' ⟨rfl, hw'⟩; subst hw'; rw [q3]))
  refine (wnum_y (And1 Y g) _ b _ id 8 h2 i0 i1 (by simp only [List.length_append, K.digs_length, List.length_cons, List.length_nil]; omega)).mono ?_
  rintro e w3 ⟨rfl, h3, f3⟩
  rw [numW_8 _ _ i1] at h3
  have Z3 := f3.blk Z2 (.inr rfl)
  clear c0 c1 c2 c3 c4
  have c0 := (Z3.cell 0).trans HC0.out
  have c1 := (Z3.cell 1).trans HC1.out
  have c2 := (Z3.cell 2).trans HC2.out
  have c3 := (Z3.cell 3).trans HC3.out
  have c4 := (Z3.cell 4).trans HC4.out
  have F3 : Hid (FY Y w w3) := F2.out.trans f3.one
  clear Z2 h2 f3 F2
  go_wp2_with (first | (go_at_call 33; refine (hasID_any _ _).mono ?_; rintro e w3' ⟨rfl, hw'⟩; subst hw'; rw [q1]) | (go_at_call 29; refine (hasCall_any _ _).mono ?_; rintro e w3' ⟨rfl, hw'⟩; subst hw'; rw [q2]) | (go_at_call 34; refine (hasVal_any _ _).mono ?_; rintro e w3' ⟨rfl, hw'⟩; subst hw'; rw [q3]))
  refine (wnum_y (And1 Y g) _ b _ t 1 h3 (by omega) (by omega) (by simp only [List.length_append, K.digs_length, List.length_cons, List.length_nil]; omega)).mono ?_
  rintro e w4 ⟨rfl, h4, f4⟩
  rw [numW_1 _ _ (by omega) (by omega)] at h4
  have Z4 := f4.blk Z3 (.inr rfl)
  clear c0 c1 c2 c3 c4
  have c0 := (Z4.cell 0).trans HC0.out
  have c1 := (Z4.cell 1).trans HC1.out
  have c2 := (Z4.cell 2).trans HC2.out
  have c3 := (Z4.cell 3).trans HC3.out
  have c4 := (Z4.cell 4).trans HC4.out
  have F4 : Hid (FY Y w w4) := F3.out.trans f4.one
  clear Z3 h3 f4 F3
  obtain ⟨l4, hl4⟩ : ∃ x, l ++ [k] ++ digs 8 ep ++ digs 8 id ++ [t] = x := ⟨_, rfl⟩
  rw [hl4] at h4
  have HL4 : Hid (l4.length ≤ 2000) := by unfold Hid; rw [← hl4]; simp only [List.length_append, K.digs_length, List.length_cons, List.length_nil]; omega
  have c5 := (Z4.cell 5).trans HD0.out
  have c6 := (Z4.cell 6).trans HD1.out
  have c7 := (Z4.cell 7).trans HD2.out
  have c8 := (Z4.cell 8).trans HD3.out
  have c9 := (Z4.cell 9).trans HD4.out
  have c10 := (Z4.cell 10).trans HD5.out
  have c11 := (Z4.cell 11).trans HD6.out
  have c12 := (Z4.cell 12).trans HD7.out
  have c13 := (Z4.cell 13).trans HD8.out
  go_wp2_with fail
  refine (HB.out _).mono ?_
  rintro e w5 ⟨b5, v5, rfl, o5⟩
  obtain ⟨a5, cap5, rfl, s5, _, _, y5⟩ := K.owns_bs o5 HY.out
  obtain ⟨rb, off, rfl, s5c⟩ := s5.2.2 (by decide)
  have lt5 : rb < w5.heap.size := World.block_lt_of_cell? w5 _ (s5c 0 (by decide))
  have ge5 : w4.heap.size ≤ rb := y5 _ rfl
  have h5 : WY (And1 (And1 Y g) rb) w5 b (l4, 0) := h4.below b5 fun k hk => hk.imp (fun h => h) fun e => by subst e; exact ⟨ge5, lt5⟩
  have F5 : Hid (FY Y w w5) := F4.out.trans ((fy_below h4.lt b5).one)
  have Z5 : Hid (Blk w5 g 28 R) := (fy_below h4.lt b5).blk Z4 (.inr rfl)
  have S5 : Hid (K.Bs w5 (some ⟨rb, off, none⟩) 64 E) := s5
  clear c0 c1 c2 c3 c4 c5 c6 c7 c8 c9 c10 c11 c12 c13 Z4 h4 F4 s5c s5 o5 y5 lt5 ge5 b5
  go_wp2_with fail
  go_loopw [34] (fun i wr => ∃ n : Nat, n ≤ 64 ∧ i = .int .i64 n ∧ WY (And1 (And1 Y g) rb) wr b (l4 ++ E.take n, 0) ∧ FY Y w wr ∧ Blk wr g 28 R ∧ K.Bs wr (some ⟨rb, off, none⟩) 64 E) (fun i _ => 64 - (intOf i).toNat)
  case atStart => exact ⟨0, Nat.zero_le _, rfl, by rw [List.take_zero, List.append_nil]; exact h5, F5.out, Z5.out, S5.out⟩
  case round =>
    obtain ⟨n, hn, rfl, h6, F6, Z6, S6⟩ := hrel
    clear h5 F5 Z5 S5
    have F6' : Hid (FY Y w wr) := F6
    have Z6' : Hid (Blk wr g 28 R) := Z6
    have S6' : Hid (K.Bs wr (some ⟨rb, off, none⟩) 64 E) := S6
    have d0 := (Z6.cell 0).trans HC0.out
    by_cases hlt : n < 64
    · obtain ⟨_, _, ea, hc⟩ := S6.2.2 (by decide)
      cases ea
      have cz := hc n hlt
      obtain ⟨z0, z1⟩ := S6.byte n
      have HT : Hid (E.take (n + 1) = E.take n ++ [E.getD n 0]) := K.take_snoc E n (by rw [HN.out]; exact hlt)
      have HM : Hid ((l4 ++ E.take n).length ≤ 900000000) := by
        unfold Hid
        rw [List.length_append, List.length_take]
        have := HL4.out
        omega
      clear hc F6 Z6 S6
      generalize E.getD n 0 = z at *
      have hz : IntKind.u64.wrap z = z := by rw [IntKind.wrap_u64]; omega
      go_wp2_with fail
      refine (wnum_y (And1 (And1 Y g) rb) _ b _ z 1 h6 z0 (by omega) HM.out).mono ?_
      rintro e w7 ⟨rfl, h7, f7⟩
      rw [numW_1 _ _ z0 z1] at h7
      have F7 : Hid (FY Y w w7) := F6'.out.trans f7.one.one
      have Z7 : Hid (Blk w7 g 28 R) := f7.one.blk Z6'.out (.inr rfl)
      have S7 : Hid (K.Bs w7 (some ⟨rb, off, none⟩) 64 E) := K.Bs.same S6'.out fun x hx => by cases hx; exact f7.block rb (.inr rfl)
      clear h6 F6' Z6' S6' f7 d0 cz
      go_wp2
      go_roundw
      case rel => exact ⟨n + 1, by omega, by go_num, by rw [HT.out, ← List.append_assoc]; exact h7, F7.out, Z7.out, S7.out⟩
      case measure => simp [intOf]; omega
    · obtain rfl : n = 64 := by omega
      have HE : Hid (E.take 64 = E) := List.take_of_length_le (Nat.le_of_eq HN.out)
      clear F6 Z6 S6
      go_wp2_with (first | (go_at_call 33; refine (hasID_any _ _).mono ?_; rintro e w6' ⟨rfl, hw'⟩; subst hw'; rw [q1]) | (go_at_call 29; refine (hasCall_any _ _).mono ?_; rintro e w6' ⟨rfl, hw'⟩; subst hw'; rw [q2]) | (go_at_call 34; refine (hasVal_any _ _).mono ?_; rintro e w6' ⟨rfl, hw'⟩; subst hw'; rw [q3]))
      go_end0
      rw [HE.out] at h6
      refine ⟨rfl, ?_, F6'.out⟩
      have h := h6.mono (Z := Y) fun _ hk => .inl (.inl hk)
      subst hl4
      simpa only [List.append_assoc, List.cons_append, List.nil_append] using h

end Go.Proofs.Ytpdndcmaaghnjaa
