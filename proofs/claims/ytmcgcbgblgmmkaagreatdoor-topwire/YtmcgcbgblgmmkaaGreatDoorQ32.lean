/-
  AMath AMem ASmall AValue AMostMath AKind AOf AMost AMostAll.
-/
import Derived.Test.YtmcgcbgblgmmkaaGreatDoorQ26
set_option maxHeartbeats 800000
namespace Go.Proofs.YtmcgcbgblgmmkaaGreatDoor.A
open V (U32)
def hasB (k : Int) : Bool := k == 3 || k == 4 || k == 6
def tblL : List Int := [0, 2147483648, 0, 196608, 327680, 2143289344, 2146435072, 2147221504, 2147418112]
def numK (k : Int) : Int := tblL.getD k.toNat 0
def kiH (n : Int) : Int :=
 if n = 2147483648 then 1 else if n = 0 then 2 else if n = 196608 then 3 else if n = 327680 then 4
 else if n = 2143289344 then 5 else if n = 2146435072 then 6 else if n = 2147221504 then 7 else if n = 2147418112 then 8 else 1
def top (v : Int) : Int := v / 65536 * 65536
def ki (v : Int) : Int := kiH (top v)
def ar (v : Int) : Int := if hasB (ki v) = true then v % 65536 else 0
def rightB (k a : Int) : Bool := decide (1 <= k) && decide (k <= 8) && (a == 0 || hasB k && decide (0 <= a) && decide (a <= 65535))
def valZ (k a : Int) : Int := if rightB k a = true then numK k + a else 0
def errZ (k a : Int) : Int := if rightB k a = true then 0 else 1
theorem kiH_found (n : Int) (k : Nat) (h1 : 1 <= k) (h8 : k <= 8) (hno : ∀ j, 1 <= j -> j < k -> tblL.getD j 0 ≠ n) (h : tblL.getD k 0 = n) : kiH n = k := by
 have q1 := hno 1
 have q2 := hno 2
 have q3 := hno 3
 have q4 := hno 4
 have q5 := hno 5
 have q6 := hno 6
 have q7 := hno 7
 clear hno
 simp only [tblL, List.getD_cons_succ, List.getD_cons_zero] at q1 q2 q3 q4 q5 q6 q7
 obtain rfl | rfl | rfl | rfl | rfl | rfl | rfl | rfl : k = 1 \/ k = 2 \/ k = 3 \/ k = 4 \/ k = 5 \/ k = 6 \/ k = 7 \/ k = 8 := by omega
 all_goals (simp only [tblL, List.getD_cons_succ, List.getD_cons_zero] at h; subst h; rfl)
theorem kiH_none (n : Int) (hno : ∀ j, 1 <= j -> j < 9 -> tblL.getD j 0 ≠ n) : kiH n = 1 := by
 have q1 := hno 1 (by omega) (by omega)
 have q2 := hno 2 (by omega) (by omega)
 have q3 := hno 3 (by omega) (by omega)
 have q4 := hno 4 (by omega) (by omega)
 have q5 := hno 5 (by omega) (by omega)
 have q6 := hno 6 (by omega) (by omega)
 have q7 := hno 7 (by omega) (by omega)
 have q8 := hno 8 (by omega) (by omega)
 simp only [tblL, List.getD_cons_succ, List.getD_cons_zero] at q1 q2 q3 q4 q5 q6 q7 q8
 unfold kiH
 rw [if_neg (fun e => q1 e.symm), if_neg (fun e => q2 e.symm), if_neg (fun e => q3 e.symm), if_neg (fun e => q4 e.symm), if_neg (fun e => q5 e.symm), if_neg (fun e => q6 e.symm), if_neg (fun e => q7 e.symm), if_neg (fun e => q8 e.symm)]
theorem right_bd {k a : Int} (h : rightB k a = true) : 1 <= k /\ k <= 8 /\ 0 <= a /\ a <= 65535 /\ (hasB k = false -> a = 0) := by
 unfold rightB at h
 simp only [Bool.and_eq_true, Bool.or_eq_true, decide_eq_true_eq, beq_iff_eq] at h
 obtain ⟨⟨h1, h2⟩, h3⟩ := h
 rcases h3 with h3 | ⟨⟨h3, h4⟩, h5⟩
 ·exact ⟨h1, h2, by omega, by omega, fun _ => h3⟩
 ·exact ⟨h1, h2, h4, h5, fun e => by rw [e] at h3; cases h3⟩
theorem eight {k : Int} (h1 : 1 <= k) (h8 : k <= 8) : k = 1 \/ k = 2 \/ k = 3 \/ k = 4 \/ k = 5 \/ k = 6 \/ k = 7 \/ k = 8 := by omega
theorem numK_top {k : Int} (h1 : 1 <= k) (h8 : k <= 8) : 0 <= numK k /\ numK k <= 2147483648 /\ numK k % 65536 = 0 /\ kiH (numK k) = k := by
 rcases eight h1 h8 with rfl | rfl | rfl | rfl | rfl | rfl | rfl | rfl <;> decide
theorem low_bits (v : Int) (h : U32 v) : bits BinOp.and IntKind.u32 v 65535 = v % 65536 := by
 obtain ⟨h0, h1⟩ := h
 obtain ⟨n, rfl⟩ := Int.eq_ofNat_of_zero_le h0
 have := u32_and_nat n 65535 (by omega) (by decide)
 rw [nat_mask16] at this
 rw [show (65535 : Int) = ((65535 : Nat) : Int) from rfl, this]
 omega
theorem top_bits (v : Int) (h : U32 v) : bits BinOp.andNot IntKind.u32 v 65535 = top v := by
 obtain ⟨h0, h1⟩ := h
 obtain ⟨n, rfl⟩ := Int.eq_ofNat_of_zero_le h0
 have := u32_andNot_nat n 65535 (by omega) (by decide)
 rw [show (65535 : Int) = ((65535 : Nat) : Int) from rfl, this]
 have e : n &&& (4294967295 - 65535) = n / 65536 * 65536 := by
  apply Nat.eq_of_testBit_eq
  intro i
  have e1 : (4294967295 - 65535 : Nat) = (2 ^ 16 - 1) <<< 16 := by decide
  rw [e1, show n / 65536 * 65536 = (n >>> 16) <<< 16 by rw [Nat.shiftRight_eq_div_pow, Nat.shiftLeft_eq]]
  rw [Nat.testBit_and, Nat.testBit_shiftLeft, Nat.testBit_shiftLeft, Nat.testBit_shiftRight, Nat.testBit_two_pow_sub_one]
  by_cases hi : 16 <= i
  ·rw [show 16 + (i - 16) = i by omega]
   by_cases hj : i - 16 < 16
   ·simp [hi, hj]
   ·have : n.testBit i = false := Nat.testBit_lt_two_pow (Nat.lt_of_lt_of_le (show n < 2 ^ 32 by omega) (Nat.pow_le_pow_right (by omega) (by omega)))
    simp [this]
  ·simp [hi]
 rw [e]
 unfold top
 omega
theorem or_bits (x a : Int) (h0 : 0 <= x) (h1 : x <= 2147483648) (h2 : x % 65536 = 0) (a0 : 0 <= a) (a1 : a <= 65535) : bits BinOp.or IntKind.u32 x a = x + a := by
 obtain ⟨n, rfl⟩ := Int.eq_ofNat_of_zero_le h0
 obtain ⟨m, rfl⟩ := Int.eq_ofNat_of_zero_le a0
 rw [u32_or_nat n m (by omega) (by omega)]
 obtain ⟨q, rfl⟩ : ∃ q, n = q * 2 ^ 16 := ⟨n / 65536, by omega⟩
 rw [<- Nat.shiftLeft_eq, <- Nat.shiftLeft_add_eq_or_of_lt (by omega), Nat.shiftLeft_eq]
 omega
open V (Ns)
open Go.RowKit
theorem Tryz.size211 : (Tryz.prog.info? 211).map (·.size) = some 9 := by kernel_rfl
theorem below_drewN (w : World) (n : Nat) : Below w.heap.size w (w.drewN n) := by
 induction n with
 | zero => exact Below.refl _ _
 | succ n ih => exact ih.drew
section
variable {w : World} {b : Nat} {t : TypeId} {l : List Value}
end
theorem index_row (t e : TypeId) (n : Nat) (ik k : IntKind) (ht : Tryz.prog.underlying t = some (.array n e)) (he : Tryz.prog.underlying e = some (.int k)) (hsz : ∀ w, (sizeOf e).run Tryz.prog w = .ok 1 w)
  (A : Array Value) (i : Nat) (x : Int) (hi : i < n) (hA : A[i]? = some (.int k x)) (W : World) : (Instr.index t (.agg A) (.int ik i)).run Tryz.prog W = .ok (.int k x) W := by
 have hc : (0 : Int) <= (i : Int) /\ (i : Int) < (n : Int) := by omega
 simp [Instr.index, asIntOf, run_underlying ht, hsz, part, isAgg, run_underlying he, hc, hA]
 intro h
 omega
end Go.Proofs.YtmcgcbgblgmmkaaGreatDoor.A
namespace Go.Proofs.YtmcgcbgblgmmkaaGreatDoor.V
open Go.RowKit
theorem Ns.below {k : IntKind} {w w' : World} {a : Option Addr} {len : Nat} {l : List Int} (h : Ns k w a len l) (hb : Below w.heap.size w w') : Ns k w' a len l := by
 refine ⟨h.1, fun h0 => ?_⟩
 obtain ⟨b, off, ha, hc⟩ := h.2 h0
 refine ⟨b, off, ha, fun i hi => ?_⟩
 rw [hb.cell (p := ⟨b, off + i, none⟩) (World.block_lt_of_cell? w _ (hc i hi))]
 exact hc i hi
end Go.Proofs.YtmcgcbgblgmmkaaGreatDoor.V
namespace Go.Proofs.YtmcgcbgblgmmkaaGreatDoor.A
open V (Ns)
open Go.RowKit
open V (Ns.below)
def cellsU (l : List Int) : List Value := l.map (Value.int .u32)
theorem cellsU_one (l : List Int) : (cellsU l).toArray.all (·.oneCell') = true := by simp [cellsU, Value.oneCell']
end Go.Proofs.YtmcgcbgblgmmkaaGreatDoor.A
namespace Go.Proofs.YtmcgcbgblgmmkaaGreatDoor.V
open Go.RowKit
theorem Ns.drop {k : IntKind} {w : World} {b off len : Nat} {l : List Int} (h : Ns k w (some ⟨b, off, none⟩) len l) (i : Nat) (hi : i <= len) : Ns k w (some ⟨b, off + i, none⟩) (len - i) (l.drop i) := by
 refine ⟨by rw [List.length_drop, h.1], fun h0 => ⟨b, off + i, rfl, fun j hj => ?_⟩⟩
 obtain ⟨_, _, e, hc⟩ := h.2 (by omega)
 cases e
 rw [Nat.add_assoc, hc (i + j) (by omega)]
 simp
end Go.Proofs.YtmcgcbgblgmmkaaGreatDoor.V
namespace Go.Proofs.YtmcgcbgblgmmkaaGreatDoor.A
open V (Ns)
open Go.RowKit
open V (Ns.below)
open V (Ns.drop)
theorem field_act (k a : Int) (w : World) : (Instr.field 55 (.agg #[.int .i64 k, .int .i64 a]) 0).run Tryz.prog w = .ok (.int .i64 k) w := by kernel_rfl
open F.D (ret_bool)
theorem has_any (k : Int) (w : World) :
  Calls Tryz.prog 141 #[.int .i64 k] w fun e w' => e = .returned (.bool (hasB k)) /\ w' = w := by
 go_enter Tryz.func141, Tryz.ntmps141
 go_wp2
 all_goals (go_ret; exact ⟨ret_bool (by simp [hasB, *]), rfl⟩)
theorem numbers_any (w : World) :
  Calls Tryz.prog 131 #[] w fun e w' => e = .returned (.agg (cellsU tblL).toArray) /\ Below w.heap.size w w' := by
 have e1 : ∀ o, Below w.heap.size w (w.alloc o) := fun o => (Below.refl _ _).alloc (Nat.le_refl _) _
 go_enter Tryz.func131, Tryz.ntmps131
 go_wp2
 refine bodyPost_ret (v := .agg (cellsU tblL).toArray) (by simp [results, Tryz.results131, go_sem, cellsU, tblL]) rfl ⟨rfl, ?_⟩
 exact e1 _
theorem tbl_at (k : Nat) (h : k < 9) : (cellsU tblL)[k]? = some (.int .u32 (tblL.getD k 0)) := by
 match k, h with
 | 0, _ | 1, _ | 2, _ | 3, _ | 4, _ | 5, _ | 6, _ | 7, _ | 8, _ => rfl
theorem right_any (k a : Int) (w : World) :
  Calls Tryz.prog 110 #[.agg #[.int .i64 k, .int .i64 a]] w fun e w' => e = .returned (.bool (rightB k a)) /\ Below w.heap.size w w' := by
 have e1 : ∀ o, Below w.heap.size w (w.alloc o) := fun o => (Below.refl _ _).alloc (Nat.le_refl _) _
 have HH : Hid (∀ W : World, Calls Tryz.prog 141 #[.int .i64 k] W fun e w' => e = .returned (.bool (hasB k)) /\ w' = W) := fun W => has_any k W
 by_cases h1 : k < 1
 ·have er : rightB k a = false := by
   unfold rightB
   have : decide (1 <= k) = false := by simp; omega
   rw [this]
   rfl
  rw [er]
  clear HH er
  go_enter Tryz.func110, Tryz.ntmps110
  go_wp2
  go_ret
  exact ⟨rfl, e1 _⟩
 ·by_cases h8 : 8 < k
  ·have er : rightB k a = false := by
    unfold rightB
    have : decide (k <= 8) = false := by simp; omega
    rw [this]
    simp
   rw [er]
   clear HH er
   go_enter Tryz.func110, Tryz.ntmps110
   go_wp2
   go_ret
   exact ⟨rfl, e1 _⟩
  ·have er : Hid (rightB k a = (a == 0 || hasB k && decide (0 <= a) && decide (a <= 65535))) := by
    unfold Hid rightB
    have d1 : decide (1 <= k) = true := by simp; omega
    have d2 : decide (k <= 8) = true := by simp; omega
    rw [d1, d2]
    rfl
   rw [er.out]
   have hg : hasB k = true \/ hasB k = false := by cases hasB k <;> simp
   rcases hg with hg | hg
   ·rw [hg] at HH ⊢
    clear hg
    have HZ : Hid ((a == 0 || true && decide (0 <= a) && decide (a <= 65535)) = (decide (0 <= a) && decide (a <= 65535))) := by
     unfold Hid
     by_cases h0 : a = 0
     ·subst h0; rfl
     ·simp [h0]
    rw [HZ.out]
    go_enter Tryz.func110, Tryz.ntmps110
    go_wp2_with (go_at_call 141; refine (HH.out _).mono ?_; rintro e w2 ⟨rfl, rfl⟩)
    all_goals (go_ret; exact ⟨ret_bool (by simp <;> omega), e1 _⟩)
   ·rw [hg] at HH ⊢
    clear hg
    rw [Bool.false_and, Bool.false_and, Bool.or_false]
    go_enter Tryz.func110, Tryz.ntmps110
    go_wp2_with (go_at_call 141; refine (HH.out _).mono ?_; rintro e w2 ⟨rfl, rfl⟩)
    all_goals (go_ret; exact ⟨ret_bool (by simp), e1 _⟩)
open F.D (Blk blk_new)
theorem value_wrong (k a : Int) (w : World) (h : rightB k a = false) :
  Calls Tryz.prog 82 #[.agg #[.int .i64 k, .int .i64 a]] w fun e w' => e = .returned (.tuple #[.int .u32 0, .int .i64 1]) /\ Below w.heap.size w w' := by
 have HR : Hid (∀ W : World, Calls Tryz.prog 110 #[.agg #[.int .i64 k, .int .i64 a]] W fun e w' => e = .returned (.bool false) /\ Below W.heap.size W w') := fun W => h ▸ right_any k a W
 have HB : Hid (∀ o, Below w.heap.size w (w.alloc o)) := fun o => (Below.refl _ _).alloc (Nat.le_refl _) _
 clear h
 go_enter Tryz.func82, Tryz.ntmps82
 go_wp2_with (go_at_call 110; refine (HR.out _).mono ?_; rintro e w2 ⟨rfl, b2⟩)
 go_ret2
 exact ⟨rfl, (HB.out _).trans (b2.mono (HB.out _).size)⟩
theorem value_right (k a : Int) (w : World) (h : rightB k a = true) :
  Calls Tryz.prog 82 #[.agg #[.int .i64 k, .int .i64 a]] w fun e w' => e = .returned (.tuple #[.int .u32 (numK k + a), .int .i64 0]) /\ Below w.heap.size w w' := by
 have HR : Hid (∀ W : World, Calls Tryz.prog 110 #[.agg #[.int .i64 k, .int .i64 a]] W fun e w' => e = .returned (.bool true) /\ Below W.heap.size W w') := fun W => h ▸ right_any k a W
 have HB : Hid (∀ o, Below w.heap.size w (w.alloc o)) := fun o => (Below.refl _ _).alloc (Nat.le_refl _) _
 have HN : Hid (∀ W : World, Calls Tryz.prog 131 #[] W fun e w' => e = .returned (.agg (cellsU tblL).toArray) /\ Below W.heap.size W w') := numbers_any
 obtain ⟨h1, h8, a0, a1, -⟩ := right_bd h
 obtain ⟨n0, n1, n2, -⟩ := numK_top h1 h8
 have ho : bits BinOp.or IntKind.u32 (numK k) a = numK k + a := or_bits _ a n0 n1 n2 a0 a1
 have hw : IntKind.u32.wrap a = a := by rw [IntKind.wrap_u32]; omega
 have hix : ∀ W : World, (Instr.index 211 (.agg (cellsU tblL).toArray) (.int .i64 k)).run Tryz.prog W = .ok (.int .u32 (numK k)) W := by
  obtain ⟨m, rfl⟩ := Int.eq_ofNat_of_zero_le (show 0 <= k by omega)
  intro W
  refine index_row 211 31 9 .i64 .u32 Tryz.underlying211 Tryz.underlying31 Tryz.sizeOf31 _ m _ (by omega) ?_ W
  rw [List.getElem?_toArray, tbl_at m (by omega)]
  unfold numK
  rw [Int.toNat_natCast]
 generalize (cellsU tblL).toArray = R at *
 generalize numK k = z at *
 have HK : Hid (Blk (w.alloc (Obj.cells #[.int .i64 k, .int .i64 a] 55)) w.heap.size 55 [.int .i64 k, .int .i64 a]) := blk_new w _ 55
 clear h h1 h8 n0 n1 n2
 go_enter Tryz.func82, Tryz.ntmps82
 go_wp2_with (go_at_call 110; refine (HR.out _).mono ?_; rintro e w2 ⟨rfl, b2⟩)
 have B2 : Hid (Below w.heap.size w w2) := (HB.out _).trans (b2.mono (HB.out _).size)
 have D2 : Hid (Blk w2 w.heap.size 55 [.int .i64 k, .int .i64 a]) := HK.out.over b2
 have c0 : w2.cell? ⟨w.heap.size, 0, none⟩ = some (.int .i64 k) := D2.out.cell 0
 have c1 : w2.cell? ⟨w.heap.size, 1, none⟩ = some (.int .i64 a) := D2.out.cell 1
 have HQ : Hid (Calls Tryz.prog 131 #[] w2.drew fun e w' => e = .returned (.agg R) /\ ((fun X => X.cell? ⟨w.heap.size, 0, none⟩ = some (.int .i64 k) /\ X.cell? ⟨w.heap.size, 1, none⟩ = some (.int .i64 a)) w' /\ Hid (Below w.heap.size w w'))) := by
  refine (HN.out w2.drew).mono ?_
  rintro e w' ⟨rfl, hb⟩
  have D3 : Blk w' w.heap.size 55 [.int .i64 k, .int .i64 a] := D2.out.drew.over hb
  exact ⟨rfl, ⟨D3.cell 0, D3.cell 1⟩, B2.out.drew.trans (hb.mono B2.out.size)⟩
 clear b2
 go_region_held3 (fun X => X.cell? ⟨w.heap.size, 0, none⟩ = some (.int .i64 k) /\ X.cell? ⟨w.heap.size, 1, none⟩ = some (.int .i64 a)) (first | assumption | go_keep) (first | (go_at_call 131; refine (HQ.out).mono ?_; rintro e w5 ⟨rfl, hS5, G5⟩))
 all_goals
  go_wp2
  go_ret2
  exact ⟨rfl, G5.out⟩
theorem value_any (k a : Int) (w : World) :
  Calls Tryz.prog 82 #[.agg #[.int .i64 k, .int .i64 a]] w fun e w' => e = .returned (.tuple #[.int .u32 (valZ k a), .int .i64 (errZ k a)]) /\ Below w.heap.size w w' := by
 unfold valZ errZ
 by_cases h : rightB k a = true
 ·rw [if_pos h, if_pos h]
  exact value_right k a w h
 ·rw [if_neg h, if_neg h]
  exact value_wrong k a w (by simpa using h)
def pick (m v : Int) : Int := if ki v < ki m then v else m
def fom (m : Int) (l : List Int) : Int := l.foldl pick m
def most : List Int -> Int
 | [] => 2147418112
 | m :: l => fom m l
theorem fom_app (m : Int) (l k : List Int) : fom m (l ++ k) = fom (fom m l) k := by
 unfold fom
 rw [List.foldl_append]
theorem fom_take (m : Int) (l : List Int) (k : Nat) (hk : k < l.length) : fom m (l.take (k + 1)) = pick (fom m (l.take k)) (l.getD k 0) := by
 have e1 : l.take (k + 1) = l.take k ++ [l[k]] := by rw [List.take_add_one, List.getElem?_eq_getElem hk]; rfl
 have e2 : l.getD k 0 = l[k] := by simp [hk]
 rw [e1, e2, fom_app]
 rfl
open F (ret_int)
theorem kindOf_any (n : Int) (w : World) :
  Calls Tryz.prog 163 #[.int .u32 n] w fun e w' => e = .returned (.int .i64 (kiH n)) /\ Below w.heap.size w w' := by
 have HN : Hid (∀ W : World, Calls Tryz.prog 131 #[] W fun e w' => e = .returned (.agg (cellsU tblL).toArray) /\ Below W.heap.size W w') := numbers_any
 have HT : Hid (∀ k, k < 9 -> (cellsU tblL)[k]? = some (.int .u32 (tblL.getD k 0))) := tbl_at
 have HSz : Hid ((Tryz.prog.info? 211).map (·.size) = some (cellsU tblL).toArray.size) := by unfold Hid; rw [Tryz.size211]; rfl
 have HSs : Hid ((List.replicate 9 (Value.int .u32 0)).toArray.size = (cellsU tblL).toArray.size) := rfl
 have H1 : Hid ((cellsU tblL).toArray.all (·.oneCell') = true) := cellsU_one _
 generalize hR : cellsU tblL = R at *
 clear hR
 go_enter Tryz.func163, Tryz.ntmps163
 go_wp2_with (first | (go_at_call 131; refine (HN.out _).mono ?_; rintro e w1 ⟨rfl, b1⟩; have hz : Hid (Blk (w1.alloc (Obj.cells (List.replicate 9 (Value.int .u32 0)).toArray 211)) w1.heap.size 211 (List.replicate 9 (Value.int .u32 0))) := blk_new w1 _ 211; have hB : Hid (Below w.heap.size w (w1.alloc (Obj.cells (List.replicate 9 (Value.int .u32 0)).toArray 211))) := b1.alloc b1.size _) | (refine wpList_store_row rfl 211 (.tmp 3) (.tmp 5) rfl w1.heap.size R.toArray rfl rfl 211 _ hz.out HSz.out HSs.out H1.out ?_))
 go_loopw [4] (fun i wr => ∃ k : Nat, 1 <= k /\ k <= 9 /\ i = .int .i64 k /\ (∀ j, 1 <= j -> j < k -> tblL.getD j 0 ≠ n) /\ Blk wr w1.heap.size 211 R /\ Below w.heap.size w wr) (fun i _ => 9 - (intOf i).toNat)
 case atStart =>
  exact ⟨1, by omega, by omega, rfl, fun j _ _ => absurd ‹j < 1› (by omega), hz.out.row R.toArray, below_setRow hB.out b1.size _⟩
 case round =>
  obtain ⟨k, hk1, hk, rfl, hno, hb, hbr⟩ := hrel
  have HNo : Hid (∀ j, 1 <= j -> j < k -> tblL.getD j 0 ≠ n) := hno
  clear hno
  by_cases hlt : k < 9
  ·have q := hb.cell k
   rw [HT.out k hlt] at q
   have HF : Hid (tblL.getD k 0 = n -> kiH n = k) := fun h => kiH_found n k hk1 (by omega) HNo.out h
   have HZ : Hid (∀ z, tblL.getD k 0 = z -> z ≠ n -> ∀ j, 1 <= j -> j < k + 1 -> tblL.getD j 0 ≠ n) := by
    intro z hz hzn j h1 hj
    by_cases e : j = k
    ·subst e; rw [hz]; exact hzn
    ·exact HNo.out j h1 (by omega)
   have HB : Hid (Blk wr w1.heap.size 211 R) := hb
   clear hb HNo
   generalize tblL.getD k 0 = z at *
   have h8 : (k : Int) <= 8 := by omega
   by_cases hz : z = n
   ·have HE : Hid (kiH n = k) := HF.out hz
    clear HF HZ
    subst hz
    go_wp2
    go_ret
    exact ⟨ret_int HE.out.symm, hbr⟩
   ·have hzb : (z == n) = false := beq_eq_false_iff_ne.2 hz
    go_wp2
    go_roundw
    case rel => exact ⟨k + 1, by omega, by omega, by go_num, HZ.out z rfl hz, HB.out, hbr⟩
    case measure => simp [intOf]; omega
  ·have h9 : ¬ (k : Int) <= 8 := by omega
   have ek : Hid (kiH n = 1) := kiH_none n (fun j h1 h2 => HNo.out j h1 (by omega))
   clear HNo hb
   go_wp2
   go_ret
   exact ⟨ret_int ek.out.symm, hbr⟩
open V (U32)
theorem of_any (v : Int) (w : World) (hv : U32 v) :
  Calls Tryz.prog 132 #[.int .u32 v] w fun e w' => e = .returned (.agg #[.int .i64 (ki v), .int .i64 (ar v)]) /\ Below w.heap.size w w' := by
 have HK : Hid (∀ W : World, Calls Tryz.prog 163 #[.int .u32 (top v)] W fun e w' => e = .returned (.int .i64 (ki v)) /\ Below W.heap.size W w') := fun W => kindOf_any (top v) W
 have HH : Hid (∀ W : World, Calls Tryz.prog 141 #[.int .i64 (ki v)] W fun e w' => e = .returned (.bool (hasB (ki v))) /\ w' = W) := fun W => has_any (ki v) W
 have HB : Hid (∀ o, Below w.heap.size w (w.alloc o)) := fun o => (Below.refl _ _).alloc (Nat.le_refl _) _
 have HZ : Hid (Blk (w.alloc (Obj.cells #[.int .i64 0, .int .i64 0] 55)) w.heap.size 55 [.int .i64 0, .int .i64 0]) := blk_new w _ 55
 have et : bits BinOp.andNot IntKind.u32 v 65535 = top v := top_bits v hv
 have el : bits BinOp.and IntKind.u32 v 65535 = v % 65536 := low_bits v hv
 have ew : IntKind.i64.wrap (v % 65536) = v % 65536 := by rw [IntKind.wrap_i64]; omega
 have HA : Hid (ar v = if hasB (ki v) = true then v % 65536 else 0) := rfl
 clear hv
 generalize ar v = A at *
 generalize hki : ki v = k at *
 clear hki
 generalize v % 65536 = lw at *
 generalize top v = tv at *
 generalize hasB k = p at *
 cases p with
 | true =>
  obtain rfl : A = lw := HA.out
  go_enter Tryz.func132, Tryz.ntmps132
  go_wp2_with (first | (go_at_call 163; refine (HK.out _).mono ?_; rintro e w1 ⟨rfl, b1⟩; have d1 := HZ.out.over b1; have s0 : w1.cell? ⟨w.heap.size, 0, none⟩ = some (.int .i64 0) := d1.cell 0; have s1 : w1.cell? ⟨w.heap.size, 1, none⟩ = some (.int .i64 0) := d1.cell 1; have f0 := d1.f 0; have f1 := d1.f 1; have hlt := d1.lt; have B1 : Hid (Below w.heap.size w w1) := (HB.out _).trans (b1.mono (HB.out _).size); clear d1 b1) | (go_at_call 141; refine (HH.out _).mono ?_; rintro e w2 ⟨rfl, rfl⟩))
  refine bodyPost_ret (v := .agg #[.int .i64 k, .int .i64 A]) (by simp [results, Tryz.results132, go_sem, s0, s1, hlt]) rfl ⟨rfl, ?_⟩
  have q := (B1.out.setCell (p := ⟨w.heap.size, 0, none⟩) (Nat.le_refl _) (.int .i64 k)).setCell (p := ⟨w.heap.size, 1, none⟩) (Nat.le_refl _) (.int .i64 A)
  exact q.alloc q.size _
 | false =>
  obtain rfl : A = 0 := HA.out
  go_enter Tryz.func132, Tryz.ntmps132
  go_wp2_with (first | (go_at_call 163; refine (HK.out _).mono ?_; rintro e w1 ⟨rfl, b1⟩; have d1 := HZ.out.over b1; have s0 : w1.cell? ⟨w.heap.size, 0, none⟩ = some (.int .i64 0) := d1.cell 0; have s1 : w1.cell? ⟨w.heap.size, 1, none⟩ = some (.int .i64 0) := d1.cell 1; have f0 := d1.f 0; have f1 := d1.f 1; have hlt := d1.lt; have B1 : Hid (Below w.heap.size w w1) := (HB.out _).trans (b1.mono (HB.out _).size); clear d1 b1) | (go_at_call 141; refine (HH.out _).mono ?_; rintro e w2 ⟨rfl, rfl⟩))
  refine bodyPost_ret (v := .agg #[.int .i64 k, .int .i64 0]) (by simp [results, Tryz.results132, go_sem, s0, s1, hlt]) rfl ⟨rfl, ?_⟩
  have q := (B1.out.setCell (p := ⟨w.heap.size, 0, none⟩) (Nat.le_refl _) (.int .i64 k)).setCell (p := ⟨w.heap.size, 1, none⟩) (Nat.le_refl _) (.int .i64 0)
  exact q.alloc q.size _
theorem getD_u {l : List Int} (hl : ∀ z ∈ l, U32 z) (k : Nat) (hk : k < l.length) : U32 (l.getD k 0) := by
 rw [show l.getD k 0 = l[k] by simp [hk]]
 exact hl _ (List.getElem_mem hk)
theorem fom_any (m : Int) (a : Option Addr) (len cap : Nat) (l : List Int) (w : World) (hm : U32 m) (hl : ∀ z ∈ l, U32 z) (hlen : len <= maxLen) (h : Ns .u32 w a len l) :
  Calls Tryz.prog 83 #[.int .u32 m, .slice a len cap] w fun e w' => e = .returned (.int .u32 (fom m l)) /\ Below w.heap.size w w' := by
 unfold maxLen at hlen
 have HO : Hid (∀ (v : Int) (W : World), U32 v -> Calls Tryz.prog 132 #[.int .u32 v] W fun e w' => e = .returned (.agg #[.int .i64 (ki v), .int .i64 (ar v)]) /\ Below W.heap.size W w') := fun v W h => of_any v W h
 have HL : Hid (∀ z ∈ l, U32 z) := hl
 have HM : Hid (U32 m) := hm
 have hll := h.1
 have hfd : ∀ (k a : Int) (W : World), (Instr.field 55 (.agg #[.int .i64 k, .int .i64 a]) 0).run Tryz.prog W = .ok (.int .i64 k) W := field_act
 clear hl hm
 go_enter Tryz.func83, Tryz.ntmps83
 go_wp2_with (go_at_call 132; refine (HO.out _ _ HM.out).mono ?_; rintro e w1 ⟨rfl, b1⟩)
 go_loopw [0, 5, 14] (fun x lst i wr => ∃ k : Nat, k <= len /\ i = .int .i64 k /\ x = .int .u32 (fom m (l.take k)) /\ lst = .int .i64 (ki (fom m (l.take k))) /\ Below w.heap.size w wr) (fun _ _ i _ => len - (intOf i).toNat)
 case atStart => exact ⟨0, Nat.zero_le _, rfl, rfl, rfl, b1⟩
 case round =>
  obtain ⟨k, hk, rfl, rfl, rfl, hbr⟩ := hrel
  clear b1
  by_cases hlt : k < len
  ·obtain ⟨b, off, rfl, hc⟩ := (h.below hbr).2 (by omega)
   have q := hc k hlt
   have HT : Hid (fom m (l.take (k + 1)) = pick (fom m (l.take k)) (l.getD k 0)) := fom_take m l k (by omega)
   have HU : Hid (U32 (l.getD k 0)) := getD_u HL.out k (by omega)
   have hi1 : (k : Int) < (len : Int) := by omega
   clear hc
   generalize l.getD k 0 = z at *
   generalize fom m (l.take k) = x at *
   by_cases hz : ki z < ki x
   ·have HE : Hid (fom m (l.take (k + 1)) = z) := by unfold Hid; rw [HT.out]; unfold pick; rw [if_pos hz]
    clear HT
    go_wp2_with (go_at_call 132; refine (HO.out _ _ HU.out).mono ?_; rintro e w2 ⟨rfl, b2⟩)
    go_roundw
    case rel => exact ⟨k + 1, by omega, by go_num, by rw [HE.out], by rw [HE.out], hbr.trans (b2.mono hbr.size)⟩
    case measure => simp [intOf]; omega
   ·have HE : Hid (fom m (l.take (k + 1)) = x) := by unfold Hid; rw [HT.out]; unfold pick; rw [if_neg hz]
    clear HT
    go_wp2_with (go_at_call 132; refine (HO.out _ _ HU.out).mono ?_; rintro e w2 ⟨rfl, b2⟩)
    go_roundw
    case rel => exact ⟨k + 1, by omega, by go_num, by rw [HE.out], by rw [HE.out], hbr.trans (b2.mono hbr.size)⟩
    case measure => simp [intOf]; omega
  ·have hi1 : ¬ (k : Int) < (len : Int) := by omega
   have HE : Hid (l.take k = l) := List.take_of_length_le (by omega)
   go_wp2
   go_ret
   exact ⟨ret_int (by rw [HE.out]), hbr⟩
theorem val_allow : valZ 8 0 = 2147418112 /\ errZ 8 0 = 0 := by decide
theorem most_nil (a : Option Addr) (cap : Nat) (w : World) :
  Calls Tryz.prog 42 #[.slice a 0 cap] w fun e w' => e = .returned (.int .u32 2147418112) /\ Below w.heap.size w w' := by
 have HV : Hid (∀ W : World, Calls Tryz.prog 82 #[.agg #[.int .i64 8, .int .i64 0]] W fun e w' => e = .returned (.tuple #[.int .u32 2147418112, .int .i64 0]) /\ Below W.heap.size W w') := by
  intro W
  have := value_any 8 0 W
  rw [val_allow.1, val_allow.2] at this
  exact this
 go_enter Tryz.func42, Tryz.ntmps42
 go_wp2_with (go_at_call 82; refine (HV.out _).mono ?_; rintro e w1 ⟨rfl, b1⟩)
 go_ret
 exact ⟨rfl, b1⟩
theorem most_cons (b off len cap : Nat) (m : Int) (l : List Int) (w : World) (hl : ∀ z ∈ m :: l, U32 z) (hlen : len <= maxLen) (hcap : len <= cap) (h : Ns .u32 w (some ⟨b, off, none⟩) len (m :: l)) :
  Calls Tryz.prog 42 #[.slice (some ⟨b, off, none⟩) len cap] w fun e w' => e = .returned (.int .u32 (fom m l)) /\ Below w.heap.size w w' := by
 have hll : l.length + 1 = len := h.1
 have c0 : w.cell? ⟨b, off, none⟩ = some (.int .u32 m) := by
  obtain ⟨_, _, e, hc⟩ := h.2 (by omega)
  cases e
  exact hc 0 (by omega)
 have hb0 := World.block_lt_of_cell? w _ c0
 have HD : Hid (Ns .u32 w (some ⟨b, off + 1, none⟩) (len - 1) l) := h.drop 1 (by omega)
 have HL : Hid (∀ z ∈ l, U32 z) := fun z hz => hl z (by simp [hz])
 have HM : Hid (U32 m) := hl m (by simp)
 have h1 : (1 : Int) <= (len : Int) := by omega
 have h2 : 1 <= len := by omega
 have h0 : 0 < len := by omega
 have h3 : 1 <= cap := by omega
 have h4 : (1 : Int) <= (cap : Int) := by omega
 have hz0 : ((len : Int) == 0) = false := by rw [beq_eq_false_iff_ne]; omega
 have hz1 : ¬ (len : Int) = 0 := by omega
 have HLen : Hid (len <= maxLen) := hlen
 clear hl h hlen
 by_cases h5 : cap = 1
 ·obtain rfl : len = 1 := by omega
  obtain rfl : l = [] := List.eq_nil_of_length_eq_zero (by omega)
  subst h5
  have HQ : Hid (∀ a' c, Calls Tryz.prog 83 #[.int .u32 m, .slice a' 0 c] w.drew fun e w' => e = .returned (.int .u32 m) /\ ((fun X => X.cell? ⟨b, off, none⟩ = some (.int .u32 m)) w' /\ Hid (Below w.heap.size w w'))) := by
   intro a' c
   refine (fom_any m a' 0 c [] w.drew HM.out HL.out (Nat.zero_le _) ⟨rfl, fun h => absurd h (by omega)⟩).mono ?_
   rintro e w' ⟨rfl, hb⟩
   exact ⟨rfl, (hb.cell (p := ⟨b, off, none⟩) hb0).trans c0, (Below.refl _ _).drew.trans hb⟩
  go_enter Tryz.func42, Tryz.ntmps42
  go_wp2_with fail
  go_region_held3 (fun X => X.cell? ⟨b, off, none⟩ = some (.int .u32 m)) (first | assumption | go_keep) (first | (go_at_call 83; refine (HQ.out _ _).mono ?_; rintro e w5 ⟨rfl, hS5, G5⟩))
  all_goals
   go_wp2
   go_ret
   exact ⟨rfl, G5.out⟩
 ·have h6 : ¬ (cap : Int) = 1 := by omega
  have HQ : Hid (∀ c, Calls Tryz.prog 83 #[.int .u32 m, .slice (some ⟨b, off + 1, none⟩) (len - 1) c] w.drew fun e w' => e = .returned (.int .u32 (fom m l)) /\ ((fun X => X.cell? ⟨b, off, none⟩ = some (.int .u32 m)) w' /\ Hid (Below w.heap.size w w'))) := by
   intro c
   refine (fom_any m _ (len - 1) c l w.drew HM.out HL.out (Nat.le_trans (Nat.sub_le _ _) HLen.out) (HD.out.below (Below.refl _ _).drew)).mono ?_
   rintro e w' ⟨rfl, hb⟩
   exact ⟨rfl, (hb.cell (p := ⟨b, off, none⟩) hb0).trans c0, (Below.refl _ _).drew.trans hb⟩
  go_enter Tryz.func42, Tryz.ntmps42
  go_wp2_with fail
  go_region_held3 (fun X => X.cell? ⟨b, off, none⟩ = some (.int .u32 m)) (first | assumption | go_keep) (first | (go_at_call 83; refine (HQ.out _).mono ?_; rintro e w5 ⟨rfl, hS5, G5⟩))
  all_goals
   go_wp2
   go_ret
   exact ⟨rfl, G5.out⟩
theorem most_any (a : Option Addr) (len cap : Nat) (l : List Int) (w : World) (hl : ∀ z ∈ l, U32 z) (hlen : len <= maxLen) (hcap : len <= cap) (h : Ns .u32 w a len l) :
  Calls Tryz.prog 42 #[.slice a len cap] w fun e w' => e = .returned (.int .u32 (most l)) /\ Below w.heap.size w w' := by
 match l, hl, h with
 | [], _, h =>
  obtain rfl : len = 0 := h.1.symm
  exact most_nil a cap w
 | m :: l, hl, h =>
  obtain ⟨b, off, rfl, -⟩ := h.2 (by have := h.1; simp at this; omega)
  exact most_cons b off len cap m l w hl hlen hcap h
end Go.Proofs.YtmcgcbgblgmmkaaGreatDoor.A
