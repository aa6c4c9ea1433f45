/-
  PErr PWorth PSmall PSize PFirst PWay.
-/
import Derived.Test.YtcckipimfgmmdaaGreatDoorGs9
import Derived.Lib.IfaceEq
set_option maxHeartbeats 2000000
namespace Go.Proofs.YtcckipimfgmmdaaGreatDoor.P
open Go.RowKit
def IsPtr (e : Ending) : Prop := ∃ p, e = .returned (.pointer p)
def Kept (w : World) (g : Nat) (v : Value) (X : World) : Prop := X.cell? ⟨g, 0, none⟩ = some v /\ Below w.heap.size w X
theorem lite_kept (s : ByteArray) (hs : s.size <= 100000000) (w : World) (g : Nat) (v : Value) (hg : g < w.heap.size) (W : World) (h : Kept w g v W) :
  Calls Tryz.prog 117 #[.string s] W fun e w' => e = .returned (.string s) /\ Kept w g v w' := by
 refine (lite_any s W hs).mono ?_
 rintro e w' ⟨rfl, hb⟩
 have hb2 : Below w.heap.size w w' := h.2.trans (hb.mono h.2.size)
 refine ⟨rfl, ?_, hb2⟩
 rw [hb.cell (p := ⟨g, 0, none⟩) (Nat.lt_of_lt_of_le hg h.2.size)]
 exact h.1
theorem kept_alloc {w : World} {g : Nat} {v : Value} (hg : g < w.heap.size) (X : World) (o : Obj) (h : X.cell? ⟨g, 0, none⟩ = some v /\ Kept w g v X) : (X.alloc o).cell? ⟨g, 0, none⟩ = some v /\ Kept w g v (X.alloc o) := by
 have hb : Below w.heap.size w (X.alloc o) := h.2.2.alloc h.2.2.size o
 have hc : (X.alloc o).cell? ⟨g, 0, none⟩ = some v := by
  have hb2 : Below X.heap.size X (X.alloc o) := (Below.refl _ _).alloc (Nat.le_refl _) _
  rw [hb2.cell (p := ⟨g, 0, none⟩) (Nat.lt_of_lt_of_le hg h.2.2.size)]
  exact h.1
 exact ⟨hc, hc, hb⟩
theorem syntax_any (f s : ByteArray) (w : World) (hs : s.size <= 100000000) (hv : Vars w) :
  Calls Tryz.prog 179 #[.string f, .string s] w fun e w' => IsPtr e /\ Below w.heap.size w w' := by
 obtain ⟨t0, v0, t1, v1, h0, h1⟩ := hv
 clear h1
 have HQ : Hid (∀ W, (W.cell? ⟨1, 0, none⟩ = some (.iface t0 v0) /\ Kept w 1 (.iface t0 v0) W) -> Calls Tryz.prog 117 #[.string s] W fun e w' => e = .returned (.string s) /\ (w'.cell? ⟨1, 0, none⟩ = some (.iface t0 v0) /\ Kept w 1 (.iface t0 v0) w')) := by
  intro W h
  refine (lite_kept s hs w 1 _ (World.block_lt_of_cell? w _ h0) W h.2).mono ?_
  rintro e w' ⟨rfl, hk⟩
  exact ⟨rfl, hk.1, hk⟩
 have HA : Hid (∀ X o, (X.cell? ⟨1, 0, none⟩ = some (.iface t0 v0) /\ Kept w 1 (.iface t0 v0) X) -> ((X.alloc o).cell? ⟨1, 0, none⟩ = some (.iface t0 v0) /\ Kept w 1 (.iface t0 v0) (X.alloc o))) := fun X o => kept_alloc (World.block_lt_of_cell? w _ h0) X o
 have hS0 : w.drew.cell? ⟨1, 0, none⟩ = some (.iface t0 v0) /\ Kept w 1 (.iface t0 v0) w.drew := ⟨h0, h0, (Below.refl _ _).drew⟩
 go_enter Tryz.func179, Tryz.ntmps179
 go_wp2
 go_region_held3 (fun X => X.cell? ⟨1, 0, none⟩ = some (.iface t0 v0) /\ Kept w 1 (.iface t0 v0) X) (first | assumption | exact HA.out _ _ (by assumption) | go_keep) (first | (go_at_call 117; refine (HQ.out _ (by assumption)).mono ?_; rintro e w5 ⟨rfl, hS5⟩))
 all_goals
  go_wp2
  go_ret
  exact ⟨⟨_, rfl⟩, hS5.2.2.alloc hS5.2.2.size _⟩
theorem range_any (f s : ByteArray) (w : World) (hs : s.size <= 100000000) (hv : Vars w) :
  Calls Tryz.prog 180 #[.string f, .string s] w fun e w' => IsPtr e /\ Below w.heap.size w w' := by
 obtain ⟨t0, v0, t1, v1, h1, h0⟩ := hv
 clear h1
 have HQ : Hid (∀ W, (W.cell? ⟨2, 0, none⟩ = some (.iface t1 v1) /\ Kept w 2 (.iface t1 v1) W) -> Calls Tryz.prog 117 #[.string s] W fun e w' => e = .returned (.string s) /\ (w'.cell? ⟨2, 0, none⟩ = some (.iface t1 v1) /\ Kept w 2 (.iface t1 v1) w')) := by
  intro W h
  refine (lite_kept s hs w 2 _ (World.block_lt_of_cell? w _ h0) W h.2).mono ?_
  rintro e w' ⟨rfl, hk⟩
  exact ⟨rfl, hk.1, hk⟩
 have HA : Hid (∀ X o, (X.cell? ⟨2, 0, none⟩ = some (.iface t1 v1) /\ Kept w 2 (.iface t1 v1) X) -> ((X.alloc o).cell? ⟨2, 0, none⟩ = some (.iface t1 v1) /\ Kept w 2 (.iface t1 v1) (X.alloc o))) := fun X o => kept_alloc (World.block_lt_of_cell? w _ h0) X o
 have hS0 : w.drew.cell? ⟨2, 0, none⟩ = some (.iface t1 v1) /\ Kept w 2 (.iface t1 v1) w.drew := ⟨h0, h0, (Below.refl _ _).drew⟩
 go_enter Tryz.func180, Tryz.ntmps180
 go_wp2
 go_region_held3 (fun X => X.cell? ⟨2, 0, none⟩ = some (.iface t1 v1) /\ Kept w 2 (.iface t1 v1) X) (first | assumption | exact HA.out _ _ (by assumption) | go_keep) (first | (go_at_call 117; refine (HQ.out _ (by assumption)).mono ?_; rintro e w5 ⟨rfl, hS5⟩))
 all_goals
  go_wp2
  go_ret
  exact ⟨⟨_, rfl⟩, hS5.2.2.alloc hS5.2.2.size _⟩
theorem toErr_any (f s : ByteArray) (b c : Int) (w : World) (hs : s.size <= 100000000) (hv : Vars w) (hc : c = 1 \/ c = 2) :
  Calls Tryz.prog 160 #[.string f, .string s, .int .i64 b, .int .i64 64, .iface 246 (.int .i64 c)] w fun e w' => (∃ p, e = .returned (.iface 248 p)) /\ Below w.heap.size w w' := by
 have h58 : (Tryz.prog.info? 246).map (·.comparable) = some true := by kernel_rfl
 have q22 : ∀ W, (binOp .eql 92 (.iface 246 (.int .i64 2)) (.iface 246 (.int .i64 2))).run Tryz.prog W = .ok (.bool true) W := fun W => Lib.run_eql_iface_int W 2 2 Tryz.underlying92 h58 Tryz.underlying246
 have q12 : ∀ W, (binOp .eql 92 (.iface 246 (.int .i64 1)) (.iface 246 (.int .i64 2))).run Tryz.prog W = .ok (.bool false) W := fun W => Lib.run_eql_iface_int W 1 2 Tryz.underlying92 h58 Tryz.underlying246
 have q11 : ∀ W, (binOp .eql 92 (.iface 246 (.int .i64 1)) (.iface 246 (.int .i64 1))).run Tryz.prog W = .ok (.bool true) W := fun W => Lib.run_eql_iface_int W 1 1 Tryz.underlying92 h58 Tryz.underlying246
 clear h58
 rcases hc with rfl | rfl
 ·go_enter Tryz.func160, Tryz.ntmps160
  go_wp2_with (go_at_call 180; refine (range_any f s _ hs hv).mono ?_; rintro e w' ⟨⟨p, rfl⟩, hb⟩)
  go_ret
  exact ⟨⟨_, rfl⟩, hb⟩
 ·go_enter Tryz.func160, Tryz.ntmps160
  go_wp2_with (go_at_call 179; refine (syntax_any f s _ hs hv).mono ?_; rintro e w' ⟨⟨p, rfl⟩, hb⟩)
  go_ret
  exact ⟨⟨_, rfl⟩, hb⟩
def Read (r : Option Nat) (e : Ending) : Prop :=
 match r with
 | some n => e = .returned (.tuple #[.int .u64 n, .nilIface])
 | none => ∃ m t x, e = .returned (.tuple #[.int .u64 m, .iface t x])
theorem read10_any (s : ByteArray) (w : World) (hw : ∀ c ∈ lst s, wN c.toNat = true) (hs : s.size <= 100000000) (hv : Vars w) :
  Calls Tryz.prog 138 #[.string s, .int .i64 10, .int .i64 64] w fun e w' => Below w.heap.size w w' /\ Read (if s.size = 0 then none else parse 10 0 (lst s)) e := by
 have HP := parse10_any s w hw hs
 generalize (if s.size = 0 then none else parse 10 0 (lst s)) = r at *
 cases r with
 | some n =>
  go_enter Tryz.func138, Tryz.ntmps138
  go_wp2_with (go_at_call 159; refine HP.mono ?_; rintro e w1 ⟨hb, rfl⟩)
  go_ret2
  exact ⟨hb, rfl⟩
 | none =>
  go_enter Tryz.func138, Tryz.ntmps138
  go_wp2_with (first | (go_at_call 159; refine HP.mono ?_; rintro e w1 ⟨hb, m, c, hc, rfl⟩; have hv1 := hv.below hb) | (go_at_call 160; refine (toErr_any _ s 10 c _ hs hv1 hc).mono ?_; rintro e w2 ⟨⟨p, rfl⟩, hb2⟩))
  go_ret2
  exact ⟨hb.trans (hb2.mono hb.size), _, _, _, rfl⟩
theorem read16_any (s : ByteArray) (w : World) (hw : ∀ c ∈ lst s, wN c.toNat = true) (hs : s.size <= 100000000) (hv : Vars w) :
  Calls Tryz.prog 138 #[.string s, .int .i64 16, .int .i64 64] w fun e w' => Below w.heap.size w w' /\ Read (if s.size = 0 then none else parse 16 0 (lst s)) e := by
 have HP := parse16_any s w hw hs
 generalize (if s.size = 0 then none else parse 16 0 (lst s)) = r at *
 cases r with
 | some n =>
  go_enter Tryz.func138, Tryz.ntmps138
  go_wp2_with (go_at_call 159; refine HP.mono ?_; rintro e w1 ⟨hb, rfl⟩)
  go_ret2
  exact ⟨hb, rfl⟩
 | none =>
  go_enter Tryz.func138, Tryz.ntmps138
  go_wp2_with (first | (go_at_call 159; refine HP.mono ?_; rintro e w1 ⟨hb, m, c, hc, rfl⟩; have hv1 := hv.below hb) | (go_at_call 160; refine (toErr_any _ s 16 c _ hs hv1 hc).mono ?_; rintro e w2 ⟨⟨p, rfl⟩, hb2⟩))
  go_ret2
  exact ⟨hb.trans (hb2.mono hb.size), _, _, _, rfl⟩
def Worth (r : Option Nat) (e : Ending) : Prop :=
 match r with
 | some n => e = .returned (.tuple #[.int .u64 n, .bool true])
 | none => ∃ m, e = .returned (.tuple #[.int .u64 m, .bool false])
theorem pre_0x (s : ByteArray) : pre s ⟨#[48, 120]⟩ = decide ((lst s).take 2 = [48, 120]) := by
 unfold pre
 rw [Bool.eq_iff_iff, List.isPrefixOf_iff_prefix, List.prefix_iff_eq_take, decide_eq_true_iff]
 exact eq_comm
theorem drop2 (s : ByteArray) : lst (s.extract 2 s.size) = (lst s).drop 2 := by
 rw [lst_extract]
 exact List.take_of_length_le (by rw [List.length_drop, lst_length]; exact Nat.le_refl _)
theorem numV_hex {l : (List UInt8)} (h : l.take 2 = [48, 120]) : numV l = if l.length = 2 then none else (if l.length <= 18 then parse 16 0 (l.drop 2) else none) := by
 have hl : 2 <= l.length := by
  have := congrArg List.length h
  rw [List.length_take] at this
  simp at this
  omega
 unfold numV
 rw [if_pos h]
 by_cases h2 : l.length = 2
 ·rw [if_pos h2, if_neg (by omega)]
 ·rw [if_neg h2]
  by_cases h3 : l.length <= 18
  ·rw [if_pos h3, if_pos ⟨by omega, h3⟩]
  ·rw [if_neg h3, if_neg (by omega)]
theorem numV_zero {l : (List UInt8)} (h : ¬ l.take 2 = [48, 120]) (h0 : l.take 1 = [48]) : numV l = if l = [48] then some 0 else none := by
 unfold numV
 rw [if_neg h, if_pos h0]
theorem numV_ten {l : (List UInt8)} (h0 : ¬ l.take 1 = [48]) : numV l = parse 10 0 l := by
 unfold numV
 rw [if_neg, if_neg h0]
 intro h
 apply h0
 match l, h with
 | [a, b], h => simp at h ⊢; exact h.1
 | a :: b :: c :: r, h => simp at h ⊢; exact h.1
theorem take1 (s : ByteArray) (h : 0 < s.size) : (lst s).take 1 = [s[0]'h] := by
 have := drop_cons s 0 h
 rw [List.drop_zero] at this
 rw [this]
 rfl
theorem size2 (s : ByteArray) : (s.extract 2 s.size).size = s.size - 2 := by
 rw [<- lst_length, drop2, List.length_drop, lst_length]
theorem worth_any (s : ByteArray) (w : World) (h0 : 0 < s.size) (hw : ∀ c ∈ lst s, wN c.toNat = true) (hs : s.size <= 100000000) (hv : Vars w) :
  Calls Tryz.prog 118 #[.string s] w fun e w' => Below w.heap.size w w' /\ Worth (numV (lst s)) e := by
 have HC := cut_any s ⟨#[48, 120]⟩ w
 rw [pre_0x] at HC
 by_cases h : (lst s).take 2 = [48, 120]
 ·rw [decide_eq_true h, if_pos rfl, show (ByteArray.mk #[48, 120]).size = 2 from rfl] at HC
  have HQ := read16_any (s.extract 2 s.size) w (fun c hc => hw c (by rw [drop2] at hc; exact List.mem_of_mem_drop hc)) (by rw [size2]; omega) hv
  rw [drop2, size2] at HQ
  rw [numV_hex h, lst_length]
  have hl : 2 <= s.size := by
   have := congrArg List.length h
   rw [List.length_take, lst_length] at this
   simp at this
   omega
  have hsz := size2 s
  generalize s.extract 2 s.size = d at *
  by_cases h2 : s.size = 2
  ·rw [if_pos (by omega)] at HQ
   rw [if_pos h2]
   clear h hw hv h2 hsz
   go_enter Tryz.func118, Tryz.ntmps118
   go_wp2_with (first | (go_at_call 137; refine HC.mono ?_; rintro e w1 ⟨rfl, rfl⟩) | (go_at_call 138; refine HQ.mono ?_; rintro e w1 ⟨hb, m, t, x, rfl⟩))
   go_ret2
   exact ⟨hb, _, rfl⟩
  ·rw [if_neg (by omega)] at HQ
   rw [if_neg h2]
   generalize parse 16 0 ((lst s).drop 2) = r at *
   cases r with
   | none =>
    rw [ite_self]
    clear h hw hv h2 hsz
    go_enter Tryz.func118, Tryz.ntmps118
    go_wp2_with (first | (go_at_call 137; refine HC.mono ?_; rintro e w1 ⟨rfl, rfl⟩) | (go_at_call 138; refine HQ.mono ?_; rintro e w1 ⟨hb, m, t, x, rfl⟩))
    go_ret2
    exact ⟨hb, _, rfl⟩
   | some n =>
    have HN : Hid (∀ e, e = .returned (.tuple #[.int .u64 n, .bool (decide ((d.size : Int) <= 16))]) -> Worth (if s.size <= 18 then some n else none) e) := by
     rintro e rfl
     by_cases h3 : s.size <= 18
     ·rw [if_pos h3]
      show _ = _
      rw [show decide ((d.size : Int) <= 16) = true from by simp; omega]
     ·rw [if_neg h3]
      refine ⟨n, ?_⟩
      rw [show decide ((d.size : Int) <= 16) = false from by simp; omega]
    generalize (if s.size <= 18 then some n else none) = R at *
    clear h hw hv h2 hsz hl h0
    go_enter Tryz.func118, Tryz.ntmps118
    go_wp2_with (first | (go_at_call 137; refine HC.mono ?_; rintro e w1 ⟨rfl, rfl⟩) | (go_at_call 138; refine HQ.mono ?_; rintro e w1 ⟨hb, rfl⟩))
    go_ret2
    exact ⟨hb, HN.out _ rfl⟩
 ·rw [decide_eq_false h, if_neg (by decide)] at HC
  have ht := take1 s h0
  by_cases hz : (lst s).take 1 = [48]
  ·rw [numV_zero h hz]
   have hc : (s[0]'h0).toNat = 48 := by
    rw [hz] at ht
    injection ht with ht _
    rw [<- ht]
    rfl
   have HN : Hid (∀ e, e = .returned (.tuple #[.int .u64 0, .bool (s.toList == [48])]) -> Worth (if lst s = [48] then some 0 else none) e) := by
    rintro e rfl
    rw [show s.toList = lst s from ByteArray.toList_eq s]
    by_cases h3 : lst s = [48]
    ·rw [if_pos h3, h3]
     show _ = _
     rfl
    ·rw [if_neg h3]
     refine ⟨0, ?_⟩
     rw [show (lst s == [48]) = false from by
      rw [beq_eq_false_iff_ne]
      exact h3]
   have hix : ((s[0]'h0).toNat : Int) = 48 := by omega
   generalize (if lst s = [48] then some 0 else none) = R at *
   clear h hw hv hz ht hc
   go_enter Tryz.func118, Tryz.ntmps118
   go_wp2_with (first | (go_at_call 137; refine HC.mono ?_; rintro e w1 ⟨rfl, rfl⟩))
   go_ret2
   exact ⟨Below.refl _ _, HN.out _ rfl⟩
  ·rw [numV_ten hz]
   have HQ := read10_any s w hw hs hv
   rw [if_neg (by omega)] at HQ
   have hix : (((s[0]'h0).toNat : Int) == 48) = false := by
    rw [beq_eq_false_iff_ne]
    intro e
    apply hz
    rw [ht]
    have : s[0]'h0 = 48 := UInt8.toNat_inj.1 (by show _ = 48; omega)
    rw [this]
   generalize parse 10 0 (lst s) = r at *
   clear h hw hv hz ht
   cases r with
   | none =>
    go_enter Tryz.func118, Tryz.ntmps118
    go_wp2_with (first | (go_at_call 137; refine HC.mono ?_; rintro e w1 ⟨rfl, rfl⟩) | (go_at_call 138; refine HQ.mono ?_; rintro e w1 ⟨hb, m, t, x, rfl⟩))
    go_quiet (fail)
    go_wp2
    go_ret2
    exact ⟨hb.trans ((below_drewN _ _).mono hb.size), _, rfl⟩
   | some n =>
    go_enter Tryz.func118, Tryz.ntmps118
    go_wp2_with (first | (go_at_call 137; refine HC.mono ?_; rintro e w1 ⟨rfl, rfl⟩) | (go_at_call 138; refine HQ.mono ?_; rintro e w1 ⟨hb, rfl⟩))
    go_quiet (fail)
    go_wp2
    go_ret2
    exact ⟨hb.trans ((below_drewN _ _).mono hb.size), rfl⟩
theorem lo_any (n : Nat) (w : World) : Calls Tryz.prog 69 #[.int .i32 n] w fun e w' => e = .returned (.bool (loN n)) /\ w' = w := by
 rcases Bool.eq_false_or_eq_true (decide (97 <= (n : Int))) with h1 | h1
 ·go_enter Tryz.func69, Tryz.ntmps69
  go_wp2
  go_ret
  exact ⟨ret_bool (by unfold loN; rw [show decide (97 <= n) = true from by simp at h1 ⊢; omega]; simp; omega), rfl⟩
 ·go_enter Tryz.func69, Tryz.ntmps69
  go_wp2
  go_ret
  exact ⟨ret_bool (by unfold loN; rw [show decide (97 <= n) = false from by simp at h1 ⊢; omega]; rfl), rfl⟩
theorem dg_any (n : Nat) (w : World) : Calls Tryz.prog 72 #[.int .i32 n] w fun e w' => e = .returned (.bool (dgN n)) /\ w' = w := by
 rcases Bool.eq_false_or_eq_true (decide (48 <= (n : Int))) with h1 | h1
 ·go_enter Tryz.func72, Tryz.ntmps72
  go_wp2
  go_ret
  exact ⟨ret_bool (by unfold dgN; rw [show decide (48 <= n) = true from by simp at h1 ⊢; omega]; simp; omega), rfl⟩
 ·go_enter Tryz.func72, Tryz.ntmps72
  go_wp2
  go_ret
  exact ⟨ret_bool (by unfold dgN; rw [show decide (48 <= n) = false from by simp at h1 ⊢; omega]; rfl), rfl⟩
theorem w_any (n : Nat) (w : World) : Calls Tryz.prog 71 #[.int .i32 n] w fun e w' => e = .returned (.bool (wN n)) /\ w' = w := by
 rcases Bool.eq_false_or_eq_true (loN n) with h1 | h1
 ·go_enter Tryz.func71, Tryz.ntmps71
  go_wp2_with (first | (go_at_call 69; refine (lo_any n _).mono ?_; rintro e w' ⟨rfl, rfl⟩; rw [h1]) | (go_at_call 72; refine (dg_any n _).mono ?_; rintro e w' ⟨rfl, rfl⟩))
  go_ret
  exact ⟨ret_bool (by unfold wN; rw [h1]; rfl), rfl⟩
 ·rcases Bool.eq_false_or_eq_true (dgN n) with h2 | h2
  ·go_enter Tryz.func71, Tryz.ntmps71
   go_wp2_with (first | (go_at_call 69; refine (lo_any n _).mono ?_; rintro e w' ⟨rfl, rfl⟩; rw [h1]) | (go_at_call 72; refine (dg_any n _).mono ?_; rintro e w' ⟨rfl, rfl⟩; rw [h2]))
   go_ret
   exact ⟨ret_bool (by unfold wN; rw [h1, h2]; rfl), rfl⟩
  ·go_enter Tryz.func71, Tryz.ntmps71
   go_wp2_with (first | (go_at_call 69; refine (lo_any n _).mono ?_; rintro e w' ⟨rfl, rfl⟩; rw [h1]) | (go_at_call 72; refine (dg_any n _).mono ?_; rintro e w' ⟨rfl, rfl⟩; rw [h2]))
   go_ret
   refine ⟨ret_bool ?_, rfl⟩
   unfold wN
   rw [h1, h2]
   rcases Bool.eq_false_or_eq_true (n == 95) with h3 | h3 <;> rw [h3] <;> simp at h3 ⊢ <;> omega
theorem no_any (n : Nat) (w : World) : Calls Tryz.prog 42 #[.int .i32 n] w fun e w' => e = .returned (.bool (noN n)) /\ w' = w := by
 go_enter Tryz.func42, Tryz.ntmps42
 go_wp2
 go_ret
 refine ⟨ret_bool ?_, rfl⟩
 unfold noN
 rcases Bool.eq_false_or_eq_true (n == 10) with h3 | h3 <;> rw [h3] <;> simp at h3 ⊢ <;> omega
theorem ib {n : Nat} {k : Int} {m : Nat} (h : k = m) : ((n : Int) == k) = (n == m) := by
 subst h
 rcases Bool.eq_false_or_eq_true (n == m) with h3 | h3 <;> rw [h3] <;> simp at h3 ⊢ <;> omega
theorem bl_any (n : Nat) (w : World) : Calls Tryz.prog 40 #[.int .i32 n] w fun e w' => e = .returned (.bool (blN n)) /\ w' = w := by
 have e9 : ((n : Int) == 9) = (n == 9) := ib rfl
 have e10 : ((n : Int) == 10) = (n == 10) := ib rfl
 have e13 : ((n : Int) == 13) = (n == 13) := ib rfl
 have e32 : ((n : Int) == 32) = (n == 32) := ib rfl
 rcases Bool.eq_false_or_eq_true (n == 9) with h1 | h1 <;> rw [h1] at e9
 ·go_enter Tryz.func40, Tryz.ntmps40
  go_wp2
  go_ret
  exact ⟨ret_bool (by unfold blN; rw [h1]; rfl), rfl⟩
 ·rcases Bool.eq_false_or_eq_true (n == 10) with h2 | h2 <;> rw [h2] at e10
  ·go_enter Tryz.func40, Tryz.ntmps40
   go_wp2
   go_ret
   exact ⟨ret_bool (by unfold blN; rw [h1, h2]; rfl), rfl⟩
  ·rcases Bool.eq_false_or_eq_true (n == 13) with h3 | h3 <;> rw [h3] at e13
   ·go_enter Tryz.func40, Tryz.ntmps40
    go_wp2
    go_ret
    exact ⟨ret_bool (by unfold blN; rw [h1, h2, h3]; rfl), rfl⟩
   ·rcases Bool.eq_false_or_eq_true (n == 32) with h4 | h4 <;> rw [h4] at e32
    ·go_enter Tryz.func40, Tryz.ntmps40
     go_wp2
     go_ret
     exact ⟨ret_bool (by unfold blN; rw [h1, h2, h3, h4]; rfl), rfl⟩
    ·go_enter Tryz.func40, Tryz.ntmps40
     go_wp2
     go_ret
     exact ⟨ret_bool (by unfold blN; rw [h1, h2, h3, h4]; rfl), rfl⟩
def Run (p : UInt8 -> Bool) (l : (List UInt8)) (pos : Nat) : Prop := pos <= l.length /\ ∀ i c, i < pos -> l[i]? = some c -> p c = true
theorem Run.last {p : UInt8 -> Bool} {s : ByteArray} {pos : Nat} (h : Run p (lst s) pos) (hp : ¬ pos < s.size) : ((lst s).takeWhile p).length = s.size := by
 have h1 := h.1
 rw [lst_length] at h1
 obtain rfl : pos = s.size := by omega
 exact take_while_eq p _ _ h.1 h.2 (fun c hc => by have := (List.getElem?_eq_some_iff.1 hc).1; rw [lst_length] at this; omega)
theorem Run.stop {p : UInt8 -> Bool} {s : ByteArray} {pos : Nat} (h : Run p (lst s) pos) (hp : pos < s.size) (hn : p (s[pos]'hp) = false) : ((lst s).takeWhile p).length = pos :=
 take_while_eq p _ _ h.1 h.2 (fun c hc => by rw [lst_at s pos hp] at hc; cases hc; exact hn)
structure Kind (q : Nat -> Bool) (b : Bool) : Prop where
 high : ∀ n, 128 <= n -> q n = b
theorem Kind.rune {q : Nat -> Bool} {b : Bool} (h : Kind q b) (s : ByteArray) (pos : Nat) (hp : pos < s.size) : q (Utf8.decode s pos).1 = q (s[pos]'hp).toNat := by
 rcases Nat.lt_or_ge (s[pos]'hp).toNat 128 with ha | ha
 ·rw [decode_ascii s pos hp ha]
 ·rw [h.high _ ha, h.high _ (decode_high s pos hp ha).1]
theorem Kind.step {q : Nat -> Bool} {b : Bool} (h : Kind q b) {s : ByteArray} {pos : Nat} (hr : Run (fun c => q c.toNat) (lst s) pos) (hp : pos < s.size) (hq : q (Utf8.decode s pos).1 = true) : Run (fun c => q c.toNat) (lst s) (pos + (Utf8.decode s pos).2) := by
 refine ⟨by rw [lst_length]; exact width_le s pos hp, fun i c hi hc => ?_⟩
 rcases Nat.lt_trichotomy i pos with h1 | h1 | h1
 ·exact hr.2 i c h1 hc
 ·subst h1
  rw [lst_at s i hp] at hc
  cases hc
  show q _ = true
  rw [<- h.rune s i hp]
  exact hq
 ·obtain ⟨d, hd, hd1⟩ := decode_tail s pos hp (i - pos) (by omega) (by omega)
  rw [show pos + (i - pos) = i from by omega, hc] at hd
  cases hd
  show q _ = true
  rw [h.high _ hd1]
  rcases Nat.lt_or_ge (s[pos]'hp).toNat 128 with ha | ha
  ·rw [decode_ascii s pos hp ha] at hi
   simp at hi
   omega
  ·rw [h.high _ (decode_high s pos hp ha).1] at hq
   exact hq
theorem kindW : Kind wN false := ⟨fun _ h => wN_high h⟩
theorem kindN : Kind noN true := ⟨fun _ h => noN_high h⟩
theorem sizeW_any (s : ByteArray) (w : World) :
  Calls Tryz.prog 41 #[.string s, .func (.func 71) #[] #[]] w fun e w' => e = .returned (.int .i64 ((lst s).takeWhile ofW).length) /\ Below w.heap.size w w' := by
 go_enter Tryz.func41, Tryz.ntmps41
 go_wp2
 go_loopw [4] (fun n w' => n = .int .i64 0 /\ ∃ pos, w' = w.iter s pos /\ Run ofW (lst s) pos) (fun _ w' => s.size - w'.iterPos w.heap.size)
 case atStart => exact ⟨rfl, 0, rfl, Nat.zero_le _, fun i c h => by omega⟩
 case round =>
  obtain ⟨rfl, pos, rfl, hr⟩ := hrel
  have hbe : Below w.heap.size w (w.iter s pos) := (Below.refl _ _).alloc (Nat.le_refl _) _
  by_cases hp : pos < s.size
  ·have hnx : ∀ ty, (Instr.next (.pointer (some ⟨w.heap.size, 0, none⟩)) true ty).run Tryz.prog (w.iter s pos) = _ := fun ty => run_next_any w s pos ty hp
   have hwd := width_pos s pos hp
   rcases Bool.eq_false_or_eq_true (wN (Utf8.decode s pos).1) with hq | hq
   ·go_wp2_with (go_at_call 71; refine (w_any _ _).mono ?_; rintro e w' ⟨rfl, rfl⟩; rw [hq])
    go_roundw
    case rel => exact ⟨rfl, _, rfl, kindW.step hr hp hq⟩
    case measure => simp; omega
   ·go_wp2_with (go_at_call 71; refine (w_any _ _).mono ?_; rintro e w' ⟨rfl, rfl⟩; rw [hq])
    go_ret
    exact ⟨ret_int (by rw [hr.stop hp (by rw [kindW.rune s pos hp] at hq; exact hq)]), (Below.refl _ _).alloc (Nat.le_refl _) _⟩
  ·have hnx : ∀ ty, (Instr.next (.pointer (some ⟨w.heap.size, 0, none⟩)) true ty).run Tryz.prog (w.iter s pos) = _ := fun ty => run_next_end w s pos ty hp
   go_wp2
   go_ret
   exact ⟨ret_int (by rw [hr.last hp]), hbe⟩
theorem sizeN_any (s : ByteArray) (w : World) :
  Calls Tryz.prog 41 #[.string s, .func (.func 42) #[] #[]] w fun e w' => e = .returned (.int .i64 ((lst s).takeWhile ofN).length) /\ Below w.heap.size w w' := by
 go_enter Tryz.func41, Tryz.ntmps41
 go_wp2
 go_loopw [4] (fun n w' => n = .int .i64 0 /\ ∃ pos, w' = w.iter s pos /\ Run ofN (lst s) pos) (fun _ w' => s.size - w'.iterPos w.heap.size)
 case atStart => exact ⟨rfl, 0, rfl, Nat.zero_le _, fun i c h => by omega⟩
 case round =>
  obtain ⟨rfl, pos, rfl, hr⟩ := hrel
  have hbe : Below w.heap.size w (w.iter s pos) := (Below.refl _ _).alloc (Nat.le_refl _) _
  by_cases hp : pos < s.size
  ·have hnx : ∀ ty, (Instr.next (.pointer (some ⟨w.heap.size, 0, none⟩)) true ty).run Tryz.prog (w.iter s pos) = _ := fun ty => run_next_any w s pos ty hp
   have hwd := width_pos s pos hp
   rcases Bool.eq_false_or_eq_true (noN (Utf8.decode s pos).1) with hq | hq
   ·go_wp2_with (go_at_call 42; refine (no_any _ _).mono ?_; rintro e w' ⟨rfl, rfl⟩; rw [hq])
    go_roundw
    case rel => exact ⟨rfl, _, rfl, kindN.step hr hp hq⟩
    case measure => simp; omega
   ·go_wp2_with (go_at_call 42; refine (no_any _ _).mono ?_; rintro e w' ⟨rfl, rfl⟩; rw [hq])
    go_ret
    exact ⟨ret_int (by rw [hr.stop hp (by rw [kindN.rune s pos hp] at hq; exact hq)]), (Below.refl _ _).alloc (Nat.le_refl _) _⟩
  ·have hnx : ∀ ty, (Instr.next (.pointer (some ⟨w.heap.size, 0, none⟩)) true ty).run Tryz.prog (w.iter s pos) = _ := fun ty => run_next_end w s pos ty hp
   go_wp2
   go_ret
   exact ⟨ret_int (by rw [hr.last hp]), hbe⟩
theorem at_op {P : Program} {ops : Array Oper} {Q : Exit -> Act -> World -> Prop} {rest : List Oper} {o : Oper} {a : Act} {w : World} (op : Op) (_ho : o.op = op) (h : wpList P ops Q (o :: rest) a w) : wpList P ops Q (o :: rest) a w := h
theorem below_setRow {B : Nat} {a w : World} (h : Below B a w) {g : Nat} (hg : B <= g) (cs : Array Value) : Below B a (w.setRow g cs) :=
 h.trans ⟨rfl, rfl, rfl, by simp, fun k hk => setRow_other _ _ _ _ (by omega)⟩
theorem results_row2 {fn : Func} {p u : Tmp} (h : fn.results = #[.cell p 108, .tmp u]) (tmps : Array Value) (w : World) (g : Nat) (l : List Value) (y : Value)
  (hp : tmps.getD p undef = .pointer (some ⟨g, 0, none⟩)) (hg : Blk w g 108 l) (hl : (Tryz.prog.info? 108).map (·.size) = some l.toArray.size) (hy : tmps.getD u undef = y) :
  (results fn tmps).run Tryz.prog w = .ok (.tuple #[.agg l.toArray, y]) w := by
 rw [results_cell_tmp h, hp, hy]
 simp [asAddr, run_loadVar_row w g 108 108 l.toArray (0, 0) _ hg Tryz.underlying108 rfl hl]
def tc (k p : Int) (s : ByteArray) (n : Int) : List Value := [.int .i64 k, .int .i64 p, .string s, .int .u64 n]
def tz : List Value := tc 0 0 ⟨#[]⟩ 0
theorem tc_size (k p : Int) (s : ByteArray) (n : Int) : (Tryz.prog.info? 108).map (·.size) = some (tc k p s n).toArray.size := Tryz.size108
theorem tc_one (k p : Int) (s : ByteArray) (n : Int) : (tc k p s n).toArray.all (·.oneCell') = true := by simp [tc, Value.oneCell']
def Kt (w : World) (l : List Value) (X : World) : Prop := Blk X w.heap.size 108 l /\ Below w.heap.size w X
theorem kt_new (w : World) : Kt w tz (w.alloc (Obj.cells #[.int .i64 0, .int .i64 0, .string ⟨#[]⟩, .int .u64 0] 108)) := ⟨blk_new w _ 108, (Below.refl _ _).alloc (Nat.le_refl _) _⟩
theorem Kt.over {w X Y : World} {l : List Value} (h : Kt w l X) (hb : Below X.heap.size X Y) : Kt w l Y := ⟨h.1.over hb, h.2.trans (hb.mono h.2.size)⟩
theorem Kt.row {w X : World} {l : List Value} (h : Kt w l X) (m : List Value) : Kt w m (X.setRow w.heap.size m.toArray) := ⟨h.1.row _, below_setRow h.2 (Nat.le_refl _) _⟩
def One (r : Except Nat (Nat × (List UInt8) × Nat)) (p : Int) (e : Ending) : Prop :=
 match r with
 | .ok (k, t, n) => e = .returned (.tuple #[.agg (tc k p (bar t) n).toArray, .int .i64 0])
 | .error c => e = .returned (.tuple #[.agg tz.toArray, .int .i64 c])
theorem number_any (s : ByteArray) (w : World) (h0 : 0 < s.size) (hw : ∀ c ∈ lst s, wN c.toNat = true) (hs : s.size <= 100000000) (hv : Vars w) :
  Calls Tryz.prog 73 #[.string s] w fun e w' => Below w.heap.size w w' /\ One (numR (lst s)) 0 e := by
 have K0 : Hid (Kt w tz _) := kt_new w
 have HQ := worth_any s _ h0 hw hs (hv.below K0.out.2)
 unfold numR
 generalize numV (lst s) = r at *
 cases r with
 | none =>
  go_enter Tryz.func73, Tryz.ntmps73
  go_wp2_with (first | (go_at_call 118; refine HQ.mono ?_; rintro e w1 ⟨hb, m, rfl⟩; have K1 : Hid (Kt w tz w1) := K0.out.over hb) | (refine at_op (.store 108 (.tmp 2) (.tmp 13)) rfl ?_; refine wpList_store_row rfl 108 (.tmp 2) (.tmp 13) rfl w.heap.size tz.toArray rfl rfl 108 _ K1.out.1 (tc_size _ _ _ _) rfl (tc_one _ _ _ _) ?_))
  refine bodyPost_ret (v := .tuple #[.agg tz.toArray, .int .i64 6]) ?_ rfl ⟨(K1.out.row tz).2, rfl⟩
  exact results_row2 Tryz.results73 _ _ w.heap.size tz _ rfl (K1.out.row tz).1 (tc_size _ _ _ _) rfl
 | some n =>
  go_enter Tryz.func73, Tryz.ntmps73
  go_wp2_with (first | (go_at_call 118; refine HQ.mono ?_; rintro e w1 ⟨hb, rfl⟩; have K1 : Hid (Kt w tz w1) := K0.out.over hb) | (refine at_op (.store 108 (.tmp 2) (.tmp 16)) rfl ?_; refine wpList_store_row rfl 108 (.tmp 2) (.tmp 16) rfl w.heap.size (tc 2 0 s n).toArray rfl rfl 108 _ K1.out.1 (tc_size _ _ _ _) rfl (tc_one _ _ _ _) ?_))
  refine bodyPost_ret (v := .tuple #[.agg (tc 2 0 s n).toArray, .int .i64 0]) ?_ rfl ⟨(K1.out.row (tc 2 0 s n)).2, ?_⟩
  ·exact results_row2 Tryz.results73 _ _ w.heap.size (tc 2 0 s n) _ rfl (K1.out.row _).1 (tc_size _ _ _ _) rfl
  ·show _ = _
   rw [bar_lst]
   rfl
theorem find_at {q : (List UInt8) -> Bool} : ∀ (L : List (List UInt8)) (k : Nat) (p : (List UInt8)), (∀ (i : Nat) x, i < k -> L[i]? = some x -> q x = false) -> L[k]? = some p -> q p = true -> L.find? q = some p := by
 intro L
 induction L with
 | nil => intro k p _ h; simp at h
 | cons y L ih =>
  intro k p h hk hp
  cases k with
  | zero =>
   simp at hk
   subst hk
   rw [List.find?_cons, hp]
  | succ k =>
   rw [List.find?_cons, h 0 y (by omega) rfl]
   exact ih k p (fun i x hi hx => h (i + 1) x (by omega) (by simpa using hx)) (by simpa using hk) hp
theorem find_none {q : (List UInt8) -> Bool} (L : List (List UInt8)) (h : ∀ (i : Nat) x, L[i]? = some x -> q x = false) : L.find? q = none := by
 rw [List.find?_eq_none]
 intro x hx
 obtain ⟨i, hi, rfl⟩ := List.mem_iff_getElem.1 hx
 rw [h i L[i] (List.getElem?_eq_getElem hi)]
 decide
def Sg (w : World) (b : Nat) : Prop := ∀ i p, signs[i]? = some p -> w.cell? ⟨b, i, none⟩ = some (.string (bar p))
theorem signs_any (w : World) : Calls Tryz.prog 74 #[] w fun e w' => (∃ b, e = .returned (.slice (some ⟨b, 0, none⟩) 9 9) /\ Sg w' b) /\ Below w.heap.size w w' := by
 go_enter Tryz.func74, Tryz.ntmps74
 go_wp2
 go_ret
 refine ⟨⟨_, rfl, fun i p h => ?_⟩, (Below.refl _ _).alloc (Nat.le_refl _) _⟩
 match i, h with
 | 0, h => cases h; simp; rfl
 | 1, h => cases h; simp; rfl
 | 2, h => cases h; simp; rfl
 | 3, h => cases h; simp; rfl
 | 4, h => cases h; simp; rfl
 | 5, h => cases h; simp; rfl
 | 6, h => cases h; simp; rfl
 | 7, h => cases h; simp; rfl
 | 8, h => cases h; simp; rfl
theorem one_lo {c : UInt8} {r : (List UInt8)} (h : loN c.toNat = true) : one (c :: r) = .ok (1, (c :: r).takeWhile ofW, 0) := by
 unfold one
 simp only
 rw [if_pos h]
theorem one_dg {c : UInt8} {r : (List UInt8)} (h : loN c.toNat = false) (h2 : dgN c.toNat = true) : one (c :: r) = numR ((c :: r).takeWhile ofW) := by
 unfold one
 simp only
 rw [if_neg (by rw [h]; decide), if_pos h2]
theorem one_sg {c : UInt8} {r : (List UInt8)} (h : loN c.toNat = false) (h2 : dgN c.toNat = false) : one (c :: r) = sgR (sign (c :: r)) := by
 unfold one
 simp only
 rw [if_neg (by rw [h]; decide), if_neg (by rw [h2]; decide)]
theorem extract_while (s : ByteArray) (p : UInt8 -> Bool) : s.extract 0 ((lst s).takeWhile p).length = bar ((lst s).takeWhile p) := by
 rw [extract_bar, List.drop_zero, Nat.sub_zero, take_while_take]
theorem kindLo : Kind loN false := ⟨fun n h => by have : ¬ n <= 122 := by omega
                                                  simp [loN, this]⟩
theorem kindDg : Kind dgN false := ⟨fun n h => by have : ¬ n <= 57 := by omega
                                                  simp [dgN, this]⟩
theorem first_any (s : ByteArray) (n : Nat) (w : World) (h0 : 0 < s.size) (h1 : loN n = loN (s[0]'h0).toNat) (h2 : dgN n = dgN (s[0]'h0).toNat) (hs : s.size <= 100000000) (hv : Vars w) :
  Calls Tryz.prog 43 #[.string s, .int .i32 n] w fun e w' => Below w.heap.size w w' /\ One (one (lst s)) 0 e := by
 have K0 : Hid (Kt w tz _) := kt_new w
 have HV0 : Hid (Vars _) := hv.below K0.out.2
 have hc := drop_cons s 0 h0
 rw [List.drop_zero] at hc
 have hle : ((lst s).takeWhile ofW).length <= s.size := by have := take_while_le ofW (lst s); rw [lst_length] at this; exact this
 have hex := extract_while s ofW
 have hsz : (bar ((lst s).takeWhile ofW)).size <= 100000000 := by rw [bar_size]; omega
 rcases Bool.eq_false_or_eq_true (loN n) with hl | hl
 ·have HO : Hid (∀ e, e = .returned (.tuple #[.agg (tc 1 0 (bar ((lst s).takeWhile ofW)) 0).toArray, .int .i64 0]) -> One (one (lst s)) 0 e) := by
   rw [hc, one_lo (by rw [<- h1]; exact hl), <- hc]
   intro e he
   exact he
  have HW : Hid (∀ W : World, Calls Tryz.prog 41 #[.string s, .func (.func 71) #[] #[]] W fun e w' => e = .returned (.int .i64 ((lst s).takeWhile ofW).length) /\ Below W.heap.size W w') := sizeW_any s
  generalize ((lst s).takeWhile ofW).length = L at *
  generalize bar ((lst s).takeWhile ofW) = t at *
  clear hc h1 h2 hv
  go_enter Tryz.func43, Tryz.ntmps43
  go_wp2_with (first | (go_at_call 69; refine (lo_any n _).mono ?_; rintro e w1 ⟨rfl, rfl⟩; rw [hl]) | (go_at_call 41; refine (HW.out _).mono ?_; rintro e w1 ⟨rfl, b1⟩; have K1 : Hid (Kt w tz w1) := K0.out.over b1) | (go_at_call 70; refine (clone_any t _ hsz).mono ?_; rintro e w2 ⟨rfl, b2⟩; have K2 : Hid (Kt w tz w2) := K1.out.over b2) | (refine at_op (.store 108 (.tmp 4) (.tmp 16)) rfl ?_; refine wpList_store_row rfl 108 (.tmp 4) (.tmp 16) rfl w.heap.size (tc 1 0 t 0).toArray rfl rfl 108 _ K2.out.1 (tc_size _ _ _ _) rfl (tc_one _ _ _ _) ?_))
  refine bodyPost_ret (v := .tuple #[.agg (tc 1 0 t 0).toArray, .int .i64 0]) ?_ rfl ⟨(K2.out.row (tc 1 0 t 0)).2, HO.out _ rfl⟩
  exact results_row2 Tryz.results43 _ _ w.heap.size (tc 1 0 t 0) _ rfl (K2.out.row _).1 (tc_size _ _ _ _) rfl
 ·rcases Bool.eq_false_or_eq_true (dgN n) with hd | hd
  ·have hwd : wN (s[0]'h0).toNat = true := by unfold wN; rw [<- h1, hl, <- h2, hd]; rfl
   have hpos : 0 < (bar ((lst s).takeWhile ofW)).size := by
    rw [bar_size, hc, List.takeWhile_cons, if_pos (show ofW _ = true from hwd)]
    simp
   have HN : Hid (∀ W, Vars W -> Calls Tryz.prog 73 #[.string (bar ((lst s).takeWhile ofW))] W fun e w' => Below W.heap.size W w' /\ One (one (lst s)) 0 e) := by
    intro W hW
    have := number_any (bar ((lst s).takeWhile ofW)) W hpos (by rw [lst_bar]; exact take_while_all ofW (lst s)) hsz hW
    rw [lst_bar] at this
    rw [hc] at this ⊢
    rw [one_dg (by rw [<- h1]; exact hl) (by rw [<- h2]; exact hd)]
    exact this
   have HW : Hid (∀ W : World, Calls Tryz.prog 41 #[.string s, .func (.func 71) #[] #[]] W fun e w' => e = .returned (.int .i64 ((lst s).takeWhile ofW).length) /\ Below W.heap.size W w') := sizeW_any s
   generalize ((lst s).takeWhile ofW).length = L at *
   generalize bar ((lst s).takeWhile ofW) = t at *
   clear hc h1 h2 hv hwd hpos
   generalize one (lst s) = R at *
   obtain c | ⟨k, t', m⟩ := R
   ·go_enter Tryz.func43, Tryz.ntmps43
    go_wp2_with (first | (go_at_call 69; refine (lo_any n _).mono ?_; rintro e w1 ⟨rfl, rfl⟩; rw [hl]) | (go_at_call 72; refine (dg_any n _).mono ?_; rintro e w1 ⟨rfl, rfl⟩; rw [hd]) | (go_at_call 41; refine (HW.out _).mono ?_; rintro e w1 ⟨rfl, b1⟩; have K1 : Hid (Kt w tz w1) := K0.out.over b1; have V1 : Hid (Vars w1) := HV0.out.below b1) | (go_at_call 70; refine (clone_any t _ hsz).mono ?_; rintro e w2 ⟨rfl, b2⟩; have K2 : Hid (Kt w tz w2) := K1.out.over b2; have V2 : Hid (Vars w2) := V1.out.below b2) | (go_at_call 73; refine (HN.out _ V2.out).mono ?_; rintro e w3 ⟨b3, rfl⟩; have K3 : Hid (Kt w tz w3) := K2.out.over b3) | (refine at_op (.store 108 (.tmp 4) (.tmp 26)) rfl ?_; refine wpList_store_row rfl 108 (.tmp 4) (.tmp 26) rfl w.heap.size tz.toArray rfl rfl 108 _ K3.out.1 (tc_size _ _ _ _) rfl (tc_one _ _ _ _) ?_))
    refine bodyPost_ret (v := .tuple #[.agg tz.toArray, .int .i64 c]) ?_ rfl ⟨(K3.out.row tz).2, rfl⟩
    exact results_row2 Tryz.results43 _ _ w.heap.size tz _ rfl (K3.out.row _).1 (tc_size _ _ _ _) rfl
   ·go_enter Tryz.func43, Tryz.ntmps43
    go_wp2_with (first | (go_at_call 69; refine (lo_any n _).mono ?_; rintro e w1 ⟨rfl, rfl⟩; rw [hl]) | (go_at_call 72; refine (dg_any n _).mono ?_; rintro e w1 ⟨rfl, rfl⟩; rw [hd]) | (go_at_call 41; refine (HW.out _).mono ?_; rintro e w1 ⟨rfl, b1⟩; have K1 : Hid (Kt w tz w1) := K0.out.over b1; have V1 : Hid (Vars w1) := HV0.out.below b1) | (go_at_call 70; refine (clone_any t _ hsz).mono ?_; rintro e w2 ⟨rfl, b2⟩; have K2 : Hid (Kt w tz w2) := K1.out.over b2; have V2 : Hid (Vars w2) := V1.out.below b2) | (go_at_call 73; refine (HN.out _ V2.out).mono ?_; rintro e w3 ⟨b3, rfl⟩; have K3 : Hid (Kt w tz w3) := K2.out.over b3) | (refine at_op (.store 108 (.tmp 4) (.tmp 26)) rfl ?_; refine wpList_store_row rfl 108 (.tmp 4) (.tmp 26) rfl w.heap.size (tc k 0 (bar t') m).toArray rfl rfl 108 _ K3.out.1 (tc_size _ _ _ _) rfl (tc_one _ _ _ _) ?_))
    refine bodyPost_ret (v := .tuple #[.agg (tc k 0 (bar t') m).toArray, .int .i64 0]) ?_ rfl ⟨(K3.out.row (tc k 0 (bar t') m)).2, rfl⟩
    exact results_row2 Tryz.results43 _ _ w.heap.size (tc k 0 (bar t') m) _ rfl (K3.out.row _).1 (tc_size _ _ _ _) rfl
  ·have HO : Hid (one (lst s) = sgR (sign (lst s))) := by
    show _ = _
    rw [hc, one_sg (by rw [<- h1]; exact hl) (by rw [<- h2]; exact hd)]
   clear hc h1 h2 hv hle hex hsz
   go_enter Tryz.func43, Tryz.ntmps43
   go_wp2_with (first | (go_at_call 69; refine (lo_any n _).mono ?_; rintro e w1 ⟨rfl, rfl⟩; rw [hl]) | (go_at_call 72; refine (dg_any n _).mono ?_; rintro e w1 ⟨rfl, rfl⟩; rw [hd]) | (go_at_call 74; refine (signs_any _).mono ?_; rintro e w1 ⟨⟨sb, rfl, hsg⟩, b1⟩; have K1 : Hid (Kt w tz w1) := K0.out.over b1; have SG : Hid (Sg w1 sb) := hsg; clear hsg b1))
   go_loop [30] (fun i => ∃ k : Nat, k <= 9 /\ i = .int .i64 k /\ Hid (∀ i x, i < k -> signs[i]? = some x -> x.isPrefixOf (lst s) = false)) (fun i => 9 - (intOf i).toNat)
   case atStart => exact ⟨0, by omega, rfl, fun i x h => by omega⟩
   case round =>
    obtain ⟨k, hk, rfl, HF⟩ := hrel
    by_cases hk9 : k < 9
    ·obtain ⟨p, hp⟩ : ∃ p, signs[k]? = some p := ⟨_, List.getElem?_eq_getElem (show k < signs.length from hk9)⟩
     have hcell := SG.out k p hp
     have HP : Hid (signs[k]? = some p) := hp
     have HQ : Hid (∀ W, Calls Tryz.prog 75 #[.string s, .string (bar p)] W fun e w' => e = .returned (.bool (p.isPrefixOf (lst s))) /\ w' = W) := by
      intro W
      have := hasPrefix_any s (bar p) W
      unfold pre at this
      rw [lst_bar] at this
      exact this
     clear hp
     rcases Bool.eq_false_or_eq_true (p.isPrefixOf (lst s)) with hq | hq
     ·have HE : Hid (one (lst s) = .ok (3, p, 0)) := by
       have : sign (lst s) = some p := find_at signs k p HF.out HP.out hq
       show _ = _
       rw [HO.out, this]
       rfl
      go_wp2_with (first | (go_at_call 75; refine (HQ.out _).mono ?_; rintro e w3 ⟨rfl, rfl⟩; rw [hq]) | (refine at_op (.store 108 (.tmp 4) (.tmp 38)) rfl ?_; refine wpList_store_row rfl 108 (.tmp 4) (.tmp 38) rfl w.heap.size (tc 3 0 (bar p) 0).toArray rfl rfl 108 _ K1.out.1 (tc_size _ _ _ _) rfl (tc_one _ _ _ _) ?_))
      refine bodyPost_ret (v := .tuple #[.agg (tc 3 0 (bar p) 0).toArray, .int .i64 0]) ?_ rfl ⟨(K1.out.row (tc 3 0 (bar p) 0)).2, by rw [HE.out]; rfl⟩
      exact results_row2 Tryz.results43 _ _ w.heap.size (tc 3 0 (bar p) 0) _ rfl (K1.out.row _).1 (tc_size _ _ _ _) rfl
     ·go_wp2_with (first | (go_at_call 75; refine (HQ.out _).mono ?_; rintro e w3 ⟨rfl, rfl⟩; rw [hq]))
      go_round
      case rel =>
       refine ⟨k + 1, by omega, by go_num, fun i x hi hx => ?_⟩
       rcases Nat.lt_or_ge i k with h | h
       ·exact HF.out i x h hx
       ·obtain rfl : i = k := by omega
        rw [HP.out] at hx
        cases hx
        exact hq
      case measure => simp [intOf]; omega
    ·have hk10 : ¬ (k : Int) < 9 := by omega
     have HE : Hid (one (lst s) = .error 5) := by
      have : sign (lst s) = none := find_none signs (fun i x hx => HF.out i x (by have := (List.getElem?_eq_some_iff.1 hx).1; have : signs.length = 9 := rfl; omega) hx)
      show _ = _
      rw [HO.out, this]
      rfl
     go_wp2_with (refine at_op (.store 108 (.tmp 4) (.tmp 40)) rfl ?_; refine wpList_store_row rfl 108 (.tmp 4) (.tmp 40) rfl w.heap.size tz.toArray rfl rfl 108 _ K1.out.1 (tc_size _ _ _ _) rfl (tc_one _ _ _ _) ?_)
     refine bodyPost_ret (v := .tuple #[.agg tz.toArray, .int .i64 5]) ?_ rfl ⟨(K1.out.row tz).2, by rw [HE.out]; rfl⟩
     exact results_row2 Tryz.results43 _ _ w.heap.size tz _ rfl (K1.out.row _).1 (tc_size _ _ _ _) rfl
def Told (base : Nat) (r : (Except (Nat × Nat) (List Tok))) (e : Ending) (w' : World) : Prop :=
 match r with
 | .error (c, p) => e = .returned (.tuple #[.slice none 0 0, .int .i64 c, .int .i64 p])
 | .ok ts => ∃ v, e = .returned (.tuple #[v, .int .i64 0, .int .i64 (-1)]) /\ w'.ownsRow base 108 4 v ts.length (cellsT ts)
structure Ho (w : World) (s : ByteArray) (wr : World) (pos : Nat) (acc : List Tok) (v : Value) : Prop where
 it : wr.heap[w.heap.size]? = some (.stringIter s pos)
 own : wr.ownsRow w.heap.size 108 4 v acc.length (cellsT acc)
 be : Below w.heap.size w wr
section
variable {w wr : World} {s : ByteArray} {pos : Nat} {acc : List Tok} {v : Value}
theorem Ho.lt (h : Ho w s wr pos acc v) : w.heap.size < wr.heap.size := (Array.getElem?_eq_some_iff.1 h.it).1
theorem Ho.move (h : Ho w s wr pos acc v) (pos' : Nat) : Ho w s (iterTo wr w.heap.size s pos') pos' acc v :=
 ⟨iterTo_at h.it, iterTo_owns h.own h.it, iterTo_below h.be (Nat.le_refl _) _ _⟩
theorem Ho.over {X : World} (h : Ho w s wr pos acc v) (hb : Below wr.heap.size wr X) : Ho w s X pos acc v :=
 ⟨by rw [hb.block _ h.lt]; exact h.it, owns_below h.own hb (Nat.le_refl _), h.be.trans (hb.mono h.be.size)⟩
theorem Ho.alloc (h : Ho w s wr pos acc v) (o : Obj) : Ho w s (wr.alloc o) pos acc v := h.over ((Below.refl _ _).alloc (Nat.le_refl _) _)
theorem Ho.ne (h : Ho w s wr pos acc v) : v.ownBlock ≠ some w.heap.size := by
 intro e
 rcases h.own.2 with ⟨rfl, _⟩ | ⟨g, cap, cur, rfl, hb, hg, _⟩
 ·cases e
 ·have e2 : g = w.heap.size := Option.some.inj e
  subst e2
  rw [h.it] at hg
  cases hg
theorem Ho.app {X : World} {v' : Value} {x : Tok} (h : Ho w s wr pos acc v) (ho : X.ownsRow w.heap.size 108 4 v' (acc.length + 1) (cellsT (acc ++ [x]))) (hg : wr.grownBy X v.ownBlock) : Ho w s X pos (acc ++ [x]) v' :=
 ⟨by rw [hg.block _ h.lt (fun e => h.ne e.symm)]; exact h.it, by rw [List.length_append]; exact ho, h.be.grown hg h.be.size (owns_block h.own)⟩
theorem Ho.apart (h : Ho w s wr pos acc v) {b : Nat} (hb : wr.heap.size <= b) : v.ownBlock ≠ some b := by
 intro e
 rcases h.own.2 with ⟨rfl, _⟩ | ⟨g, cap, cur, rfl, _, hg, _⟩
 ·cases e
 ·have e2 : g = b := Option.some.inj e
  have := lt_of_block hg
  omega
end
theorem ho_new (w : World) (s : ByteArray) : Ho w s (w.iter s 0) 0 [] (.slice none 0 0) :=
 ⟨World.iter_heap w s 0, ⟨rfl, .inl ⟨rfl, rfl⟩⟩, (Below.refl _ _).alloc (Nat.le_refl _) _⟩
structure Pl (s : ByteArray) (pos next : Nat) (acc : List Tok) : Prop where
 eq : glue acc (go (next - pos) pos ((lst s).drop pos)) = go 0 0 (lst s)
 le : pos <= s.size
 st : pos <= next -> Stop (lst s) pos next
 len : acc.length <= pos
 nx : next <= s.size
theorem pl_new (s : ByteArray) : Pl s 0 0 [] :=
 ⟨by rw [glue_nil]; rfl, Nat.zero_le _, fun _ => ⟨Nat.zero_le _, .inl fun i c _ h => by omega⟩, Nat.zero_le _, Nat.zero_le _⟩
section
variable {s : ByteArray} {pos next : Nat} {acc : List Tok}
theorem Pl.skip (h : Pl s pos next acc) (hp : pos < next) : Pl s (pos + (Utf8.decode s pos).2) next acc := by
 obtain ⟨h1, h2⟩ := (h.st (by omega)).step hp
 have hl := h2.1
 rw [lst_length] at hl
 refine ⟨?_, by omega, fun _ => h2, by have := h.len; omega, h.nx⟩
 have he := h.eq
 rw [show next - pos = (Utf8.decode s pos).2 + (next - (pos + (Utf8.decode s pos).2)) from by omega] at he
 rw [go_skip _ _ _ _ (by rw [List.length_drop, lst_length]; omega), List.drop_drop] at he
 exact he
theorem Pl.blank (h : Pl s pos next acc) (hp : ¬ pos < next) (hs : pos < s.size) (hb : blN (Utf8.decode s pos).1 = true) : Pl s (pos + (Utf8.decode s pos).2) next acc := by
 have ha : (s[pos]'hs).toNat < 128 := by
  rcases Nat.lt_or_ge (s[pos]'hs).toNat 128 with h | h
  ·exact h
  ·rw [blN_high (decode_high s pos hs h).1] at hb; cases hb
 rw [decode_ascii s pos hs ha] at hb ⊢
 refine ⟨?_, by omega, fun h => by simp at h; omega, by have := h.len; omega, h.nx⟩
 have he := h.eq
 rw [show next - pos = 0 from by omega, drop_cons s pos hs, go_blank hb] at he
 rw [show next - (pos + 1) = 0 from by omega]
 exact he
theorem Pl.note (h : Pl s pos next acc) (hp : ¬ pos < next) (hs : pos < s.size) (hb : (Utf8.decode s pos).1 = 35) : Pl s (pos + (Utf8.decode s pos).2) (pos + (((lst s).drop pos).takeWhile ofN).length) acc := by
 have ha : (s[pos]'hs).toNat < 128 := by
  rcases Nat.lt_or_ge (s[pos]'hs).toNat 128 with h | h
  ·exact h
  ·have := (decode_high s pos hs h).1; omega
 rw [decode_ascii s pos hs ha] at hb ⊢
 have hle := take_while_le ofN ((lst s).drop pos)
 rw [List.length_drop, lst_length] at hle
 have hn : (((lst s).drop pos).takeWhile ofN).length = (((lst s).drop (pos + 1)).takeWhile ofN).length + 1 := by
  rw [drop_cons s pos hs]
  exact note_len hb
 refine ⟨?_, by omega, fun _ => ⟨by rw [lst_length]; omega, ?_⟩, by have := h.len; omega, by omega⟩
 ·have he := h.eq
  rw [show next - pos = 0 from by omega, drop_cons s pos hs, go_note hb, note_len hb, go_over (Nat.succ_pos _)] at he
  rw [hn]
  rw [show pos + ((((lst s).drop (pos + 1)).takeWhile ofN).length + 1) - (pos + 1) = (((lst s).drop (pos + 1)).takeWhile ofN).length from by omega]
  exact he
 ·right
  rcases Nat.lt_or_ge (pos + (((lst s).drop pos).takeWhile ofN).length) s.size with hlt | hge
  ·right
   have hc := lst_at s _ hlt
   refine ⟨_, hc, ?_⟩
   have := take_while_next ofN ((lst s).drop pos) _ (by rw [List.getElem?_drop]; exact hc)
   simp [ofN, noN] at this
   omega
  ·left
   rw [lst_length]
   omega
theorem Pl.bad (h : Pl s pos next acc) (hp : ¬ pos < next) (hs : pos < s.size) (hb : blN (Utf8.decode s pos).1 = false) (hn : ¬ (Utf8.decode s pos).1 = 35) {c : Nat} (ho : one ((lst s).drop pos) = .error c) : go 0 0 (lst s) = .error (c, pos) := by
 have he := h.eq
 have h1 : blN (s[pos]'hs).toNat = false := by rw [<- (Kind.mk (fun _ h => blN_high h) : Kind blN false).rune s pos hs]; exact hb
 have h2 : ¬ (s[pos]'hs).toNat = 35 := by
  intro e
  rw [decode_ascii s pos hs (by omega)] at hn
  exact hn e
 rw [drop_cons s pos hs] at ho he
 rw [show next - pos = 0 from by omega, go_one h1 h2, ho] at he
 exact he.symm
theorem Pl.tok (h : Pl s pos next acc) (hp : ¬ pos < next) (hs : pos < s.size) (hb : blN (Utf8.decode s pos).1 = false) (hn : ¬ (Utf8.decode s pos).1 = 35) {k m : Nat} {t : (List UInt8)} (ho : one ((lst s).drop pos) = .ok (k, t, m)) :
  Pl s (pos + (Utf8.decode s pos).2) (pos + t.length) (acc ++ [⟨k, pos, t, m⟩]) := by
 have he := h.eq
 have h1 : blN (s[pos]'hs).toNat = false := by rw [<- (Kind.mk (fun _ h => blN_high h) : Kind blN false).rune s pos hs]; exact hb
 have h2 : ¬ (s[pos]'hs).toNat = 35 := by
  intro e
  rw [decode_ascii s pos hs (by omega)] at hn
  exact hn e
 obtain ⟨t1, t2, t3⟩ := one_take ho
 have tl := one_le ho
 rw [List.length_drop, lst_length] at tl
 have ha : (s[pos]'hs).toNat < 128 := by
  apply t3
  rw [<- t1, drop_cons s pos hs]
  match t, t2 with
  | d :: t', _ => simp
 rw [decode_ascii s pos hs ha]
 rw [drop_cons s pos hs] at ho he
 rw [show next - pos = 0 from by omega, go_one h1 h2, ho] at he
 refine ⟨?_, by simp; omega, fun _ => ⟨by rw [lst_length]; omega, .inl fun i c hi1 hi2 hc => ?_⟩, by have := h.len; simp; omega, by omega⟩
 ·simp only at he
  rw [glue_glue] at he
  rw [show pos + t.length - (pos + 1) = t.length - 1 from by omega]
  exact he
 ·apply t3
  rw [<- t1]
  have : ((lst s).drop pos)[i - pos]? = some c := by rw [List.getElem?_drop, show pos + (i - pos) = i from by omega]; exact hc
  exact List.mem_of_getElem? (i := i - pos) (by rw [List.getElem?_take_of_lt (by omega)]; exact this)
theorem Pl.fin (h : Pl s pos next acc) (hs : ¬ pos < s.size) : go 0 0 (lst s) = .ok (acc ++ [⟨4, s.size, [], 0⟩]) := by
 have he := h.eq
 have hl := h.le
 obtain rfl : pos = s.size := by omega
 rw [List.drop_eq_nil_of_le (by rw [lst_length]; exact Nat.le_refl _)] at he
 exact he.symm
end
end Go.Proofs.YtcckipimfgmmdaaGreatDoor.P
