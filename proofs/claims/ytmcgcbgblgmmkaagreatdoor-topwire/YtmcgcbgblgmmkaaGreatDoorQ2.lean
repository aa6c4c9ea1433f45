/-
  FFrFront FFrRefF FFrRdr FFrNext.
-/
import Derived.Test.YtmcgcbgblgmmkaaGreatDoorQ1
import Derived.Laws.StructEq
import Derived.Lib.SliceRun
import Derived.Deep.LoopGhost
set_option maxRecDepth 100000
set_option maxHeartbeats 4000000
namespace Go.Proofs.YtmcgcbgblgmmkaaGreatDoor.F
open Go.RowKit D
def sameH (x y n s x' y' n' s' : Int) : Bool := x == x' && y == y' && n == n' && s == s'
theorem equalIn_hd (x y n s x' y' n' s' : Int) (w : World) : (Op.equalIn 10000 80 (hdV x y n s) (hdV x' y' n' s')).run Tryz.prog w = .ok (sameH x y n s x' y' n' s') w := by
 have u5 := Tryz.underlying5
 have a5 := Tryz.isAgg5
 have z5 := Tryz.sizeOf5
 have u3 := Tryz.underlying3
 have a3 := Tryz.isAgg3
 have z3 := Tryz.sizeOf3
 have u25 := Tryz.underlying31
 have a25 := Tryz.isAgg31
 have z25 := Tryz.sizeOf31
 have hS : Tryz.prog.underlying 80 = some (.struct (Tryz.prog.fieldsOf 80)) := by kernel_rfl
 have hp : Tryz.prog.stoodInHeld 80 = false := by kernel_rfl
 unfold hdV
 rw [show (10000 : Nat) = 9999 + 1 from rfl, run_equalIn_agg w 9999 80 _ _ hS hp]
 simp only [Program.fieldsOf, Tryz.underlying80]
 go_simp
 unfold sameH
 by_cases h1 : x = x' <;> by_cases h2 : y = y' <;> by_cases h3 : n = n' <;> by_cases h4 : s = s' <;> simp [h1, h2, h3, h4]
theorem neq_hd (x y n s x' y' n' s' : Int) (w : World) : (binOp .neq 80 (hdV x y n s) (hdV x' y' n' s')).run Tryz.prog w = .ok (.bool (!sameH x y n s x' y' n' s')) w := by
 have := equalIn_hd x y n s x' y' n' s' w
 unfold hdV at this ⊢
 rw [run_neq_struct, this]
 rfl
def big4 (l : List Int) : Int := l.getD 4 0 * 16777216 + l.getD 5 0 * 65536 + l.getD 6 0 * 256 + l.getD 7 0
theorem or4 (x y z t : Int) (x0 : 0 <= x) (x1 : x <= 255) (y0 : 0 <= y) (y1 : y <= 255) (z0 : 0 <= z) (z1 : z <= 255) (t0 : 0 <= t) (t1 : t <= 255) :
  bits BinOp.or IntKind.u32 (bits BinOp.or IntKind.u32 (bits BinOp.or IntKind.u32 (x * 16777216) (y * 65536)) (z * 256)) t = x * 16777216 + y * 65536 + z * 256 + t := by
 rw [or32 x (y * 65536) 24 16777216 rfl x0 (by omega) (by omega) (by omega) (by decide), show x * 16777216 + y * 65536 = (x * 256 + y) * 65536 by omega,
  or32 (x * 256 + y) (z * 256) 16 65536 rfl (by omega) (by omega) (by omega) (by omega) (by decide), show (x * 256 + y) * 65536 + z * 256 = (x * 65536 + y * 256 + z) * 256 by omega,
  or32 (x * 65536 + y * 256 + z) t 8 256 rfl (by omega) (by omega) (by omega) (by omega) (by decide)]
theorem head_box (w : World) (cs : Array Value) : Below w.heap.size w (w.alloc (.cells cs 80)) /\ Blk (w.alloc (.cells cs 80)) w.heap.size 80 cs.toList := ⟨(Below.refl _ _).alloc (Nat.le_refl _) _, blk_new w cs _⟩
structure Four (w : World) (b : Nat) (x y n s : Value) : Prop where
 c0 : w.cell? ⟨b, 0, none⟩ = some x
 c1 : w.cell? ⟨b, 1, none⟩ = some y
 c2 : w.cell? ⟨b, 2, none⟩ = some n
 c3 : w.cell? ⟨b, 3, none⟩ = some s
 f0 : w.frozen? ⟨b, 0, none⟩ = false
 f1 : w.frozen? ⟨b, 1, none⟩ = false
 f2 : w.frozen? ⟨b, 2, none⟩ = false
 f3 : w.frozen? ⟨b, 3, none⟩ = false
theorem four_of {w : World} {b : Nat} {t : TypeId} {x y n s : Value} (h : Blk w b t [x, y, n, s]) : Four w b x y n s := ⟨h.cell 0, h.cell 1, h.cell 2, h.cell 3, h.f 0, h.f 1, h.f 2, h.f 3⟩
theorem headAt_any (a : Option Addr) (len cap : Nat) (l : List Int) (w : World) (h8 : 8 <= len) (hb : Bs w a len l) :
  Calls Tryz.prog 56 #[.slice a len cap] w fun e w' => e = .returned (hdV (l.getD 0 0) (l.getD 1 0) (told l) (big4 l)) /\ Below w.heap.size w w' := by
 have hbb := hb.byte
 have HBs : Hid (Bs w a len l) := hb
 have HL : Hid (∀ W, Below w.heap.size w W -> Calls Tryz.prog 55 #[.slice a len cap] W fun e w' => e = .returned (.int .i64 (told l)) /\ Below W.heap.size W w') := fun W hW => length_any a len cap l W (by omega) (HBs.out.below hW)
 obtain ⟨b, off, rfl, hc⟩ := hb.2.2 (by omega)
 have q0 := hc 0 (by omega)
 rw [Nat.add_zero] at q0
 have q1 := hc 1 (by omega)
 have q4 := hc 4 (by omega)
 have q5 := hc 5 (by omega)
 have q6 := hc 6 (by omega)
 have q7 := hc 7 (by omega)
 obtain ⟨x0, x1⟩ := hbb 4
 obtain ⟨y0, y1⟩ := hbb 5
 obtain ⟨z0, z1⟩ := hbb 6
 obtain ⟨t0, t1⟩ := hbb 7
 unfold hdV big4
 clear hc hb hbb HBs
 generalize l.getD 0 0 = p at *
 generalize l.getD 1 0 = q at *
 generalize l.getD 4 0 = x at *
 generalize l.getD 5 0 = y at *
 generalize l.getD 6 0 = z at *
 generalize l.getD 7 0 = t at *
 generalize told l = n at *
 have V : Hid (bits BinOp.or IntKind.u32 (bits BinOp.or IntKind.u32 (bits BinOp.or IntKind.u32 (x * 16777216) (y * 65536)) (z * 256)) t = x * 16777216 + y * 65536 + z * 256 + t) := or4 x y z t x0 x1 y0 y1 z0 z1 t0 t1
 have i0 : 0 < len := by omega
 have i1 : (1 : Int) < (len : Int) := by omega
 have i4 : (4 : Int) < (len : Int) := by omega
 have i5 : (5 : Int) < (len : Int) := by omega
 have i6 : (6 : Int) < (len : Int) := by omega
 have i7 : (7 : Int) < (len : Int) := by omega
 have hne : w.heap.size ≠ b := World.new_ne w _ q0
 go_enter Tryz.func56, Tryz.ntmps56
 go_upto_region 1 with fail
 obtain ⟨hbl, hbk⟩ := head_box w #[.int .u8 0, .int .u8 0, .int .i64 0, .int .u32 0]
 generalize w.alloc (Obj.cells #[Value.int IntKind.u8 0, Value.int IntKind.u8 0, Value.int IntKind.i64 0, Value.int IntKind.u32 0] 80) = W at *
 replace q0 := (hbl.cell (World.block_lt_of_cell? w _ q0)).trans q0
 replace q1 := (hbl.cell (World.block_lt_of_cell? w _ q1)).trans q1
 replace q4 := (hbl.cell (World.block_lt_of_cell? w _ q4)).trans q4
 replace q5 := (hbl.cell (World.block_lt_of_cell? w _ q5)).trans q5
 replace q6 := (hbl.cell (World.block_lt_of_cell? w _ q6)).trans q6
 replace q7 := (hbl.cell (World.block_lt_of_cell? w _ q7)).trans q7
 have HB : Hid (Below w.heap.size w W) := hbl
 have HK : Hid (Blk W w.heap.size 80 [.int .u8 0, .int .u8 0, .int .i64 0, .int .u32 0]) := hbk
 clear hbl hbk
 go_quiet (fail)
 go_upto_region 2 with fail
 rw [V.out]
 have hb1 := below_drewN W nq
 have HB2 : Hid (Below w.heap.size w (W.drewN nq)) := HB.out.trans (hb1.mono HB.out.size)
 have HK2 : Hid (Blk (W.drewN nq) w.heap.size 80 [.int .u8 0, .int .u8 0, .int .i64 0, .int .u32 0]) := HK.out.over hb1
 replace q0 := (hb1.cell (World.block_lt_of_cell? W _ q0)).trans q0
 replace q1 := (hb1.cell (World.block_lt_of_cell? W _ q1)).trans q1
 clear hb1 q4 q5 q6 q7 HB HK V
 generalize W.drewN nq = X at *
 have hS0 : (fun X : World => X.cell? ⟨b, off, none⟩ = some (.int .u8 p) /\ X.cell? ⟨b, off + 1, none⟩ = some (.int .u8 q)) X := ⟨q0, q1⟩
 have HQ : Hid (Calls Tryz.prog 55 #[.slice (some ⟨b, off, none⟩) len cap] X.drew fun e w' => e = .returned (.int .i64 n) /\ ((fun X : World => X.cell? ⟨b, off, none⟩ = some (.int .u8 p) /\ X.cell? ⟨b, off + 1, none⟩ = some (.int .u8 q)) w' /\ Four w' w.heap.size (.int .u8 0) (.int .u8 0) (.int .i64 0) (.int .u32 0) /\ Hid (Below w.heap.size w w' /\ Blk w' w.heap.size 80 [.int .u8 0, .int .u8 0, .int .i64 0, .int .u32 0]))) := by
  refine (HL.out X.drew HB2.out.drew).mono ?_
  rintro e w' ⟨rfl, hb⟩
  have hk := HK2.out.drew.over hb
  exact ⟨rfl, ⟨(hb.cell (World.block_lt_of_cell? X _ q0)).trans q0, (hb.cell (World.block_lt_of_cell? X _ q1)).trans q1⟩, four_of hk, HB2.out.drew.trans (hb.mono HB2.out.size), hk⟩
 go_region_held3 (fun X => X.cell? ⟨b, off, none⟩ = some (.int .u8 p) /\ X.cell? ⟨b, off + 1, none⟩ = some (.int .u8 q)) (first | assumption | go_keep) (first | (go_at_call 55; refine (HQ.out).mono ?_; rintro e w5 ⟨rfl, hS5, ⟨c0, c1, c2, c3, f0, f1, f2, f3⟩, G5⟩))
 all_goals
  go_wp2
  obtain ⟨g1, g2⟩ := G5.out
  have k := four_of ((((g2.set 0 (.int .u8 p)).set 1 (.int .u8 q)).set 2 (.int .i64 n)).set 3 (.int .u32 (x * 16777216 + y * 65536 + z * 256 + t)))
  obtain ⟨k0, k1, k2, k3, _, _, _, _⟩ := k
  refine bodyPost_ret (v := .agg #[.int .u8 p, .int .u8 q, .int .i64 n, .int .u32 (x * 16777216 + y * 65536 + z * 256 + t)]) (by simp [results, Tryz.results56, go_sem, k0, k1, k2, k3]) rfl ⟨rfl, ?_⟩
  exact (((g1.setCell (Nat.le_refl _) _).setCell (Nat.le_refl _) _).setCell (Nat.le_refl _) _).setCell (Nat.le_refl _) _
theorem mgt_bgn {l : List Int} (h : Mgt l) : Bgn l := ⟨h.1, h.2.1, fun e => h.2.2.1 (by omega), fun e => ⟨(h.2.2.2 (by omega)).1, (h.2.2.2 (by omega)).2.1⟩⟩
theorem bgn_mgt {l : List Int} (hb : ∀ i, 0 <= l.getD i 0 /\ l.getD i 0 <= 255) (h : Bgn l) (hl : l.length < told l + 8) : Mgt l := by
 refine ⟨h.1, h.2.1, fun e => ?_, fun e => ⟨(h.2.2.2 (by omega)).1, (h.2.2.2 (by omega)).2, hl⟩⟩
 rcases Nat.lt_or_ge l.length 4 with h4 | h4
 ·exact h.2.2.1 (by omega)
 ·have := (h.2.2.2 (by omega)).2
  have ht := told_at hb
  have := hb 3
  omega
theorem std_bgn {l : List Int} {f : List Int -> Int} (h : Std f l) : Bgn l := by
 obtain ⟨a, b, c⟩ := std_head h
 exact ⟨fun _ => a, fun _ => b, fun _ => c, fun _ => ⟨h.1, h.2.1⟩⟩
theorem take_eight : ∀ {l : List Int}, 8 <= l.length -> l.take 8 = [l.getD 0 0, l.getD 1 0, l.getD 2 0, l.getD 3 0, l.getD 4 0, l.getD 5 0, l.getD 6 0, l.getD 7 0]
 | _ :: _ :: _ :: _ :: _ :: _ :: _ :: _ :: _, _ => rfl
theorem bgn_std {l : List Int} (hb : ∀ i, 0 <= l.getD i 0 /\ l.getD i 0 <= 255) (h : Bgn l) (hl : told l + 8 <= l.length) : Std sm l ↔ big4 l = sm (two (told l) ++ body l) := by
 have h3 : 3 < l.length := by omega
 have h0 := h.1 (by omega)
 have h1 := h.2.1 (by omega)
 have h2 := h.2.2.2 h3
 have hbl : (body l).length = told l := by
  unfold body
  rw [List.length_take, List.length_drop]
  omega
 have ht := told_at hb
 have e8 : l.take (told l + 8) = l.take 8 ++ body l := by rw [Nat.add_comm, List.take_add]; rfl
 have hs := sm_bd (two (told l) ++ body l)
 have b2 := hb 2
 have b3 := hb 3
 have b4 := hb 4
 have b5 := hb 5
 have b6 := hb 6
 have b7 := hb 7
 have et : l.take 8 = [l.getD 0 0, l.getD 1 0, l.getD 2 0, l.getD 3 0, l.getD 4 0, l.getD 5 0, l.getD 6 0, l.getD 7 0] := take_eight (by omega)
 have ef : frm sm (body l) = [102, 76, (told l : Int) / 256, (told l : Int) % 256] ++ (four (sm (two (told l) ++ body l)) ++ body l) := by
  unfold frm
  rw [hbl]
  rfl
 unfold Std
 rw [e8, ef, et, h0, h1]
 generalize sm (two (told l) ++ body l) = s at *
 generalize body l = bd at *
 unfold big4
 generalize l.getD 2 0 = x2 at *
 generalize l.getD 3 0 = x3 at *
 generalize l.getD 4 0 = x4 at *
 generalize l.getD 5 0 = x5 at *
 generalize l.getD 6 0 = x6 at *
 generalize l.getD 7 0 = x7 at *
 constructor
 ·rintro ⟨_, _, _, k⟩
  simp only [List.cons_append, List.nil_append, four, List.cons.injEq, true_and] at k
  omega
 ·intro k
  refine ⟨h2.1, h2.2, hl, ?_⟩
  simp only [List.cons_append, List.nil_append, four, List.cons.injEq, true_and, and_true]
  omega
def fr (l : List Int) : Int := if stdB sm l = true then 2 else if mgtB l = true then 1 else 0
theorem fr_std {l : List Int} (h : Std sm l) : fr l = 2 := if_pos (stdB_iff.2 h)
theorem fr_mgt {l : List Int} (h1 : ¬ Std sm l) (h : Mgt l) : fr l = 1 := by
 unfold fr
 rw [if_neg fun k => h1 (stdB_iff.1 k), if_pos (mgtB_iff.2 h)]
theorem fr_no {l : List Int} (h1 : ¬ Std sm l) (h : ¬ Mgt l) : fr l = 0 := by
 unfold fr
 rw [if_neg fun k => h1 (stdB_iff.1 k), if_neg fun k => h (mgtB_iff.1 k)]
theorem sizeOf_b (W : World) : (sizeOf (Tryz.prog.elem 37)).run Tryz.prog W = .ok 1 W := by
 have e : Tryz.prog.elem 37 = 5 := by kernel_rfl
 rw [e]
 exact Tryz.sizeOf5 W
theorem under_B : Tryz.prog.underlying 37 = some (.slice (Tryz.prog.elem 37)) := by kernel_rfl
theorem cut_mid (b off len cap n : Nat) (h1 : n + 8 <= cap) (h0 : 1 <= n) (W : World) : (Instr.sliceAt 37 (.slice (some ⟨b, off, none⟩) len cap) (some (.int .i64 8)) (some (.int .i64 (8 + n))) none).run Tryz.prog W = .ok (.slice (some ⟨b, off + 8, none⟩) n (cap - 8)) W := by
 have e1 : (8 + (n : Int)).toNat - (8 : Int).toNat = n := by omega
 rw [run_sliceAt_slice W 37 _ _ _ _ under_B, run_slice_lh W 37 _ _ _ under_B .i64 .i64 8 (8 + n) (by decide) (by omega) (by omega), sizeOf_b]
 simp only [Result.andThen_ok, sliced, e1]
 rw [if_neg (by show cap ≠ 8; omega)]
 rfl
theorem frontOf_any (a : Option Addr) (len cap : Nat) (l : List Int) (w : World) (h0 : 0 < len) (hcap : len <= cap) (hb : Bs w a len l) :
  Calls Tryz.prog 29 #[.slice a len cap] w fun e w' => e = .returned (.int .i64 (fr l)) /\ Below w.heap.size w w' := by
 have hbb := hb.byte
 have hll := hb.1
 by_cases hg : Bgn l
 case neg =>
  have e : fr l = 0 := fr_no (fun h => hg (std_bgn h)) (fun h => hg (mgt_bgn h))
  have eg := bg_no hg
  rw [e]
  clear hbb
  go_enter Tryz.func29, Tryz.ntmps29
  go_wp2_with (go_at_call 54; refine (begins_any a len cap l _ hb).mono ?_; rintro e w1 ⟨rfl, hb1⟩; rw [eg])
  go_ret
  exact ⟨rfl, hb1⟩
 have eg := bg_yes hg
 rcases Nat.lt_or_ge len 8 with h8 | h8
 ·have e : fr l = 1 := by
   have hm : l.length < told l + 8 := by omega
   exact fr_mgt (fun h => absurd h.2.2.1 (by omega)) (bgn_mgt hbb hg hm)
  rw [e]
  clear hbb
  go_enter Tryz.func29, Tryz.ntmps29
  go_wp2_with (go_at_call 54; refine (begins_any a len cap l _ hb).mono ?_; rintro e w1 ⟨rfl, hb1⟩; rw [eg])
  go_ret
  exact ⟨rfl, hb1⟩
 have ht := hg.2.2.2 (by omega)
 rcases Nat.lt_or_ge len (told l + 8) with h9 | h9
 ·have e : fr l = 1 := by
   have hm : l.length < told l + 8 := by omega
   exact fr_mgt (fun h => absurd h.2.2.1 (by omega)) (bgn_mgt hbb hg hm)
  rw [e]
  clear hbb
  have HL : Hid (∀ W, Bs W a len l -> Calls Tryz.prog 55 #[.slice a len cap] W fun e w' => e = .returned (.int .i64 (told l)) /\ Below W.heap.size W w') := fun W hW => length_any a len cap l W (by omega) hW
  generalize told l = n at *
  go_enter Tryz.func29, Tryz.ntmps29
  go_wp2_with (first
   | (go_at_call 54; refine (begins_any a len cap l _ hb).mono ?_; rintro e w1 ⟨rfl, hb1⟩; rw [eg])
   | (go_at_call 55; refine (HL.out _ (hb.below hb1)).mono ?_; rintro e w2 ⟨rfl, hb2⟩))
  go_ret
  exact ⟨rfl, hb1.trans (hb2.mono hb1.size)⟩
 have hns := bgn_std hbb hg (by omega)
 have hnm : ¬ Mgt l := fun h => absurd (h.2.2.2 (by omega)).2.2 (by omega)
 obtain ⟨b, off, rfl, hc⟩ := hb.2.2 h0
 have HL : Hid (∀ W, Bs W (some ⟨b, off, none⟩) len l -> Calls Tryz.prog 55 #[.slice (some ⟨b, off, none⟩) len cap] W fun e w' => e = .returned (.int .i64 (told l)) /\ Below W.heap.size W w') := fun W hW => length_any _ len cap l W (by omega) hW
 have HH : Hid (∀ W, Bs W (some ⟨b, off, none⟩) len l -> Calls Tryz.prog 56 #[.slice (some ⟨b, off, none⟩) len cap] W fun e w' => e = .returned (hdV 102 76 (told l) (big4 l)) /\ Below W.heap.size W w') := fun W hW => by
  have := headAt_any _ len cap l W h8 hW
  rw [hg.1 (by omega), hg.2.1 (by omega)] at this
  exact this
 have HO : Hid (∀ W, Bs W (some ⟨b, off, none⟩) len l -> Calls Tryz.prog 22 #[.slice (some ⟨b, off + 8, none⟩) (told l) (cap - 8)] W fun e w' => e = .returned (hdV 102 76 (told l) (sm (two (told l) ++ body l))) /\ Below W.heap.size W w') := fun W hW =>
  headOf_any _ (told l) _ (body l) W ht.2 (Bs.sub (l := l) hW 8 (told l) (by omega))
 have hcut := cut_mid b off len cap (told l) (by omega) ht.1
 have hcmp := neq_hd 102 76 (told l) (big4 l) 102 76 (told l) (sm (two (told l) ++ body l))
 have hgd : ∀ W, (eqGuard BinOp.neq 80 (Operand.tmp 18) (Operand.tmp 24) (hdV 102 76 (told l) (big4 l)) (hdV 102 76 (told l) (sm (two (told l) ++ body l)))).run Tryz.prog W = .ok () W := fun W => by
  unfold hdV
  go_simp
 have hsame : sameH 102 76 (told l) (big4 l) 102 76 (told l) (sm (two (told l) ++ body l)) = decide (big4 l = sm (two (told l) ++ body l)) := by
  unfold sameH
  rw [beq_self_eq_true, beq_self_eq_true, beq_self_eq_true]
  rfl
 rw [hsame] at hcmp
 have hr1 : Hid (big4 l = sm (two (told l) ++ body l) -> fr l = 2) := fun h => fr_std (hns.2 h)
 have hr2 : Hid (¬ big4 l = sm (two (told l) ++ body l) -> fr l = 0) := fun h => fr_no (fun k => h (hns.1 k)) hnm
 have HBs : Hid (Bs w (some ⟨b, off, none⟩) len l) := hb
 clear hbb hns hnm hc hsame hll hg
 generalize sm (two (told l) ++ body l) = s at *
 generalize big4 l = s' at *
 generalize told l = n at *
 obtain ⟨hn0, hn1⟩ := ht
 have hq : (n : Int) + 8 <= len := by omega
 by_cases hs : s' = s
 ·have e := hr1.out hs
  have hd : decide (s' = s) = true := decide_eq_true hs
  rw [hd] at hcmp
  rw [e]
  clear hr1 hr2 hs hd e
  go_enter Tryz.func29, Tryz.ntmps29
  go_upto_region 5 with (first
   | (go_at_call 54; refine (begins_any _ len cap l _ hb).mono ?_; rintro e w1 ⟨rfl, hb1⟩; rw [eg])
   | (go_at_call 55; refine (HL.out _ (hb.below hb1)).mono ?_; rintro e w2 ⟨rfl, hb2⟩))
  have hb3 := hb1.trans (hb2.mono hb1.size)
  go_wp2_with (first
   | (go_at_call 56; refine (HH.out _ (HBs.out.below hb3)).mono ?_; rintro e w4 ⟨rfl, hb4⟩; have hb5 := hb3.trans (hb4.mono hb3.size))
   | (go_at_call 55; refine (HL.out _ (HBs.out.below hb5)).mono ?_; rintro e w6 ⟨rfl, hb6⟩; have hb7 := hb5.trans (hb6.mono hb5.size))
   | (go_at_call 22; refine (HO.out _ (HBs.out.below hb7)).mono ?_; rintro e w8 ⟨rfl, hb8⟩; have hb9 := hb7.trans (hb8.mono hb7.size)))
  go_ret
  exact ⟨rfl, hb9⟩
 ·have e := hr2.out hs
  have hd : decide (s' = s) = false := decide_eq_false hs
  rw [hd] at hcmp
  rw [e]
  clear hr1 hr2 hs hd e
  go_enter Tryz.func29, Tryz.ntmps29
  go_upto_region 5 with (first
   | (go_at_call 54; refine (begins_any _ len cap l _ hb).mono ?_; rintro e w1 ⟨rfl, hb1⟩; rw [eg])
   | (go_at_call 55; refine (HL.out _ (hb.below hb1)).mono ?_; rintro e w2 ⟨rfl, hb2⟩))
  have hb3 := hb1.trans (hb2.mono hb1.size)
  go_wp2_with (first
   | (go_at_call 56; refine (HH.out _ (HBs.out.below hb3)).mono ?_; rintro e w4 ⟨rfl, hb4⟩; have hb5 := hb3.trans (hb4.mono hb3.size))
   | (go_at_call 55; refine (HL.out _ (HBs.out.below hb5)).mono ?_; rintro e w6 ⟨rfl, hb6⟩; have hb7 := hb5.trans (hb6.mono hb5.size))
   | (go_at_call 22; refine (HO.out _ (HBs.out.below hb7)).mono ?_; rintro e w8 ⟨rfl, hb8⟩; have hb9 := hb7.trans (hb8.mono hb7.size)))
  go_ret
  exact ⟨rfl, hb9⟩
theorem Wt.over {w w' : World} {v : Value} {l : List Int} (h : Wt w v l) (hb : Below w.heap.size w w') : Wt w' v l := h.kept hb.size fun k hk => hb.block k (h.lt k hk)
theorem wt_empty (w : World) : Wt (w.alloc (.cells #[] 5)) (.slice (some ⟨w.heap.size, 0, none⟩) 0 0) [] := wt_made w [] (fun _ h => by cases h) (by decide)
def Own (B : Nat) (v : Value) : Prop := ∀ k, v.ownBlock = some k -> B <= k
theorem Own.mono {B B' : Nat} {v : Value} (h : Own B v) (hB : B' <= B) : Own B' v := fun k hk => Nat.le_trans hB (h k hk)
theorem own_at (B g off m c : Nat) (h : B <= g) : Own B (.slice (some ⟨g, off, none⟩) m c) := fun k hk => by cases hk; exact h
theorem Own.next {B n : Nat} {v v' : Value} (h : Own B v) (hn : B <= n) (ho : v'.ownBlock = v.ownBlock \/ v'.ownBlock = some n) : Own B v' := fun k hk => by
 rcases ho with e | e
 ·exact h k (by rw [<- e]; exact hk)
 ·rw [e] at hk; cases hk; exact hn
structure Kp (X : Nat -> Prop) (w w' : World) : Prop where
 os : w'.os = w.os
 tape : w'.tape = w.tape
 output : w'.output = w.output
 size : w.heap.size <= w'.heap.size
 block : ∀ k, k < w.heap.size -> ¬ X k -> w'.heap[k]? = w.heap[k]?
theorem Kp.refl (X : Nat -> Prop) (w : World) : Kp X w w := ⟨rfl, rfl, rfl, Nat.le_refl _, fun _ _ _ => rfl⟩
theorem Kp.trans {X : Nat -> Prop} {u w w' : World} (h : Kp X u w) (k : Kp X w w') : Kp X u w' :=
 ⟨k.os.trans h.os, k.tape.trans h.tape, k.output.trans h.output, Nat.le_trans h.size k.size, fun i hi hx => (k.block i (Nat.lt_of_lt_of_le hi h.size) hx).trans (h.block i hi hx)⟩
theorem Kp.mono {X Y : Nat -> Prop} {w w' : World} (h : Kp X w w') (hX : ∀ k, k < w.heap.size -> X k -> Y k) : Kp Y w w' := ⟨h.os, h.tape, h.output, h.size, fun i hi hy => h.block i hi fun hx => hy (hX i hi hx)⟩
theorem kp_below {X : Nat -> Prop} {w w' : World} (h : Below w.heap.size w w') : Kp X w w' := ⟨h.os, h.tape, h.output, h.size, fun i hi _ => h.block i hi⟩
theorem Kp.below {X : Nat -> Prop} {w w' : World} {B : Nat} (h : Kp X w w') (hB : B <= w.heap.size) (hX : ∀ k, k < B -> ¬ X k) : Below B w w' := ⟨h.os, h.tape, h.output, h.size, fun i hi => h.block i (Nat.lt_of_lt_of_le hi hB) (hX i hi)⟩
theorem kp_grown {X : Nat -> Prop} {w w' : World} {r : Option Nat} (h : w.grownBy w' r) (hr : ∀ k, r = some k -> X k) : Kp X w w' := ⟨h.os, h.tape, h.output, h.size, fun i hi hx => h.block i hi fun e => hx (hr i e.symm)⟩
theorem kp_set (w : World) (b i : Nat) (v : Value) : Kp (· = b) w (w.setCell ⟨b, i, none⟩ v) :=
 ⟨by simp [World.setCell], by simp [World.setCell], by simp [World.setCell], by simp, fun k _ hx => heap_setCell_other w ⟨b, i, none⟩ k v hx⟩
theorem Wt.kp {X : Nat -> Prop} {w w' : World} {v : Value} {l : List Int} (h : Wt w v l) (hk : Kp X w w') (hX : ∀ k, v.ownBlock = some k -> ¬ X k) : Wt w' v l := h.kept hk.size fun k e => hk.block k (h.lt k e) (hX k e)
theorem blk_kp {X : Nat -> Prop} {w w' : World} {b : Nat} {t : TypeId} {l : List Value} (h : Blk w b t l) (hk : Kp X w w') (hX : ¬ X b) : Blk w' b t l := by
 unfold Blk
 rw [hk.block b h.lt hX]
 exact h
structure Rdr (w : World) (b : Nat) (v : Value) (l : List Int) (n : Nat) : Prop where
 blk : Blk w b 45 [v, .int .i64 n]
 wt : Wt w v l
 ap : v.ownBlock ≠ some b
theorem Rdr.kp {X : Nat -> Prop} {w w' : World} {b n : Nat} {v : Value} {l : List Int} (h : Rdr w b v l n) (hk : Kp X w w') (hb : ¬ X b) (hX : ∀ k, v.ownBlock = some k -> ¬ X k) : Rdr w' b v l n := ⟨blk_kp h.blk hk hb, h.wt.kp hk hX, h.ap⟩
theorem Rdr.over {w w' : World} {b n : Nat} {v : Value} {l : List Int} (h : Rdr w b v l n) (hb : Below w.heap.size w w') : Rdr w' b v l n := h.kp (X := fun _ => False) (kp_below hb) id fun _ _ => id
structure Cl (w : World) (b : Nat) (v : Value) (n : Int) : Prop where
 c0 : w.cell? ⟨b, 0, none⟩ = some v
 c1 : w.cell? ⟨b, 1, none⟩ = some (.int .i64 n)
 f0 : w.frozen? ⟨b, 0, none⟩ = false
 f1 : w.frozen? ⟨b, 1, none⟩ = false
theorem Rdr.cl {w : World} {b n : Nat} {v : Value} {l : List Int} (h : Rdr w b v l n) : Cl w b v n := ⟨h.blk.cell 0, h.blk.cell 1, h.blk.f 0, h.blk.f 1⟩
theorem cut_wt {w : World} {v : Value} {l : List Int} (h : Wt w v l) (n : Nat) (h0 : 0 < l.length) (hn : n <= l.length) : ∃ v', Wt w v' (l.drop n) /\ v'.ownBlock = v.ownBlock /\ ∀ W, (Instr.sliceAt 37 v (some (.int .i64 n)) none none).run Tryz.prog W = .ok v' W := by
 obtain ⟨hl, ⟨rfl, rfl⟩ | ⟨g, off, cap, rfl, h1, h2, h3⟩⟩ := id h
 ·cases h0
 ·have hr : ∀ W, (Instr.sliceAt 37 (.slice (some ⟨g, off, none⟩) l.length cap) (some (.int .i64 n)) none none).run Tryz.prog W = .ok (sliced (some ⟨g, off, none⟩) n l.length cap 1) W := fun W => by
   rw [run_sliceAt_slice W 37 _ _ _ _ under_B, run_slice_l W 37 _ _ _ under_B .i64 n (by omega) (by omega), sizeOf_b]
   rfl
  by_cases hc : cap = n
  ·subst hc
   obtain rfl : l.length = cap := by omega
   refine ⟨_, ?_, ?_, hr⟩
   ·unfold sliced
    rw [if_pos rfl, Nat.sub_self, List.drop_length]
    exact h.done
   ·unfold sliced
    rw [if_pos rfl]
    rfl
  ·refine ⟨_, ?_, ?_, hr⟩
   ·unfold sliced
    rw [if_neg hc]
    rw [Option.map_some, Nat.mul_one, Addr.add_mid]
    exact h.drop n hn
   ·unfold sliced
    rw [if_neg hc, Option.map_some, Nat.mul_one, Addr.add_mid]
    rfl
theorem lost_any (b n : Nat) (v : Value) (l : List Int) (w : World) (h : Rdr w b v l n) : Calls Tryz.prog 13 #[.pointer (some ⟨b, 0, none⟩)] w fun e w' => e = .returned (.int .i64 n) /\ w' = w := by
 obtain ⟨c0, c1, f0, f1⟩ := h.cl
 clear h
 go_enter Tryz.func13, Tryz.ntmps13
 go_wp2
 go_ret
 exact ⟨rfl, rfl⟩
theorem feed_any (b n : Nat) (v : Value) (l : List Int) (w : World) (h : Rdr w b v l n) (a : Option Addr) (m c : Nat) (k : List Int) (hb : Bs w a m k) (hao : a = none -> c = 0) (hn : l.length + m <= 100000) :
  Calls Tryz.prog 10 #[.pointer (some ⟨b, 0, none⟩), .slice a m c] w fun e w' => e = .returned (.tuple #[]) /\ ∃ v', Rdr w' b v' (l ++ k) n /\ (v'.ownBlock = v.ownBlock \/ v'.ownBlock = some w.heap.size) /\ Kp (fun i => i = b \/ v.ownBlock = some i) w w' := by
 obtain ⟨c0, c1, f0, f1⟩ := h.cl
 have HR : Hid (Rdr w b v l n) := h
 have hw := h.wt
 clear h
 go_enter Tryz.func10, Tryz.ntmps10
 go_wp2_with (refine append_wt rfl (.tmp 8) (.tmp 9) rfl v l rfl hw a m c k rfl hao hb hn ?_; intro v' w1 hw1 hg1 ho1; have HK : Hid (Kp (fun i => i = b \/ v.ownBlock = some i) w w1) := kp_grown hg1 fun k hk => .inr hk; have HB : Hid (Blk w1 b 45 [v, .int .i64 n]) := blk_kp HR.out.blk (kp_grown (X := fun i => v.ownBlock = some i) hg1 fun k hk => hk) HR.out.ap; have d0 : w1.cell? ⟨b, 0, none⟩ = some v := HB.out.cell 0; have d1 : w1.frozen? ⟨b, 0, none⟩ = false := HB.out.f 0; have HW : Hid (Wt w1 v' (l ++ k)) := hw1; obtain ⟨a', c', rfl, _⟩ := hw1.slice)
 go_end0
 refine ⟨rfl, .slice a' (l ++ k).length c', ⟨?_, ?_, ?_⟩, ho1, HK.out.trans ((kp_set w1 b 0 _).mono fun i _ h => .inl h)⟩
 ·rw [List.length_append]
  exact HB.out.set 0 _
 ·rw [List.length_append]
  refine (show Wt w1 (.slice a' (l.length + k.length) c') (l ++ k) by rw [<- List.length_append]; exact HW.out).kp (kp_set w1 b 0 _) fun j hj e => ?_
  rw [<- List.length_append] at hj
  subst e
  rcases ho1 with h | h
  ·exact HR.out.ap (by rw [<- h]; exact hj)
  ·rw [h] at hj
   cases hj
   exact absurd HR.out.blk.lt (Nat.lt_irrefl _)
 ·intro hj
  rcases ho1 with h | h
  ·exact HR.out.ap (by rw [<- h]; exact hj)
  ·rw [h] at hj
   cases hj
   exact absurd HR.out.blk.lt (Nat.lt_irrefl _)
theorem clone_any (b off m c : Nat) (k : List Int) (w : World) (hb : Bs w (some ⟨b, off, none⟩) m k) (hn : m <= 100000) :
  Calls Tryz.prog 57 #[.slice (some ⟨b, off, none⟩) m c] w fun e w' => ∃ v, e = .returned v /\ Wt w' v k /\ Own w.heap.size v /\ Below w.heap.size w w' := by
 have we := wt_empty w
 have hbe : Bs (w.alloc (.cells #[] 5)) (some ⟨b, off, none⟩) m k := hb.below ((Below.refl _ _).alloc (Nat.le_refl _) _)
 have hnil := Lib.run_eql_slice_nil (P := Tryz.prog) w 37 5 (some ⟨b, off, none⟩) m c 0 0 Tryz.underlying37
 go_enter Tryz.func57, Tryz.ntmps57
 go_wp2_with (refine append_wt rfl (.tmp 5) (.tmp 6) rfl (.slice (some ⟨w.heap.size, 0, none⟩) 0 0) [] rfl we (some ⟨b, off, none⟩) m c k rfl (fun h => by cases h) hbe (by rw [List.length_nil]; omega) ?_; intro v3 w3 hw3 hg3 ho3)
 go_ret
 refine ⟨v3, rfl, hw3, (own_at _ _ _ _ _ (Nat.le_refl _)).next (by simp) ho3, ((Below.refl _ _).alloc (Nat.le_refl _) _).grown hg3 (by simp) (fun k hk => by cases hk; exact Nat.le_refl _)⟩
theorem take_any (b n : Nat) (v : Value) (l : List Int) (w : World) (h : Rdr w b v l n) (hs : Std sm l) (hn : l.length <= 100000) :
  Calls Tryz.prog 30 #[.pointer (some ⟨b, 0, none⟩)] w fun e w' => ∃ u v', e = .returned u /\ Wt w' u (body l) /\ Own w.heap.size u /\ Rdr w' b v' (l.drop (told l + 8)) n /\ v'.ownBlock = v.ownBlock /\ Kp (· = b) w w' := by
 have HR : Hid (Rdr w b v l n) := h
 obtain ⟨c0, c1, f0, f1⟩ := h.cl
 have hl3 := hs.2.2.1
 obtain ⟨v', hv', ho', hcut⟩ := cut_wt h.wt (told l + 8) (by omega) hl3
 rw [show ((told l + 8 : Nat) : Int) = 8 + (told l : Int) by omega] at hcut
 obtain ⟨a, cap, rfl, hbs, h1, h2, h3⟩ := h.wt.slice
 obtain ⟨g, off, rfl, _⟩ := hbs.2.2 (by omega)
 have hmid := cut_mid g off l.length cap (told l) (by omega) hs.1
 have HL : Hid (Calls Tryz.prog 55 #[.slice (some ⟨g, off, none⟩) l.length cap] w fun e w' => e = .returned (.int .i64 (told l)) /\ Below w.heap.size w w') := length_any _ l.length cap l w (by omega) hbs
 have HC : Hid (∀ W, Bs W (some ⟨g, off, none⟩) l.length l -> Calls Tryz.prog 57 #[.slice (some ⟨g, off + 8, none⟩) (told l) (cap - 8)] W fun e w' => ∃ u, e = .returned u /\ Wt w' u (body l) /\ Own W.heap.size u /\ Below W.heap.size W w') := fun W hW =>
  clone_any g (off + 8) (told l) (cap - 8) (body l) W (Bs.sub (l := l) hW 8 (told l) (by omega)) (by omega)
 have hd0 : Hid (∃ a cap, v' = .slice a (l.drop (told l + 8)).length cap) := by
  obtain ⟨a, c, e, _⟩ := hv'.slice
  exact ⟨a, c, e⟩
 have HV : Hid (Wt w v' (l.drop (told l + 8))) := hv'
 have HO : Hid (v'.ownBlock = (Value.slice (some ⟨g, off, none⟩) l.length cap).ownBlock) := ho'
 have HN : Hid ((told l + 8 : Nat) <= l.length /\ l.length <= 100000) := ⟨hl3, hn⟩
 have HBs : Hid (Bs w (some ⟨g, off, none⟩) l.length l) := hbs
 clear h hs hl3 hn h1 h2 h3 hbs hv' ho'
 have hq : (8 : Int) + (told l : Int) <= 100000 := by have := HN.out; omega
 generalize l.length = len at *
 generalize body l = bd at *
 generalize l.drop (told l + 8) = tl at *
 generalize told l = t at *
 obtain ⟨va, vc, rfl⟩ := hd0.out
 generalize tl.length = tn at *
 go_enter Tryz.func30, Tryz.ntmps30
 go_upto_region 2 with (go_at_call 55; refine HL.out.mono ?_; rintro e w1 ⟨rfl, hb1⟩)
 have HR1 : Hid (Rdr w1 b (.slice (some ⟨g, off, none⟩) len cap) l n) := HR.out.over hb1
 obtain ⟨d0, d1, e0, e1⟩ := HR1.out.cl
 go_upto_region 3 with (go_at_call 57; refine (HC.out _ (HBs.out.below hb1)).mono ?_; rintro e w2 ⟨u, rfl, hu, hou, hb2⟩)
 have HR2 : Hid (Rdr w2 b (.slice (some ⟨g, off, none⟩) len cap) l n) := HR1.out.over hb2
 obtain ⟨k0, k1, m0, m1⟩ := HR2.out.cl
 go_wp2
 go_ret
 have hb3 := hb1.trans (hb2.mono hb1.size)
 refine ⟨u, _, rfl, hu.kp (kp_set w2 b 0 _) fun k hk e => ?_, hou.mono hb1.size, ⟨HR2.out.blk.set 0 _, (HV.out.over hb3).kp (kp_set w2 b 0 _) fun k hk e => ?_, ?_⟩, HO.out, (kp_below hb3).trans (kp_set w2 b 0 _)⟩
 ·subst e
  exact absurd (hou k hk) (Nat.not_le.2 HR1.out.blk.lt)
 ·subst e
  exact HR.out.ap (by rw [<- HO.out]; exact hk)
 ·intro e
  exact HR.out.ap (by rw [<- HO.out]; exact e)
def NxR (B : Nat) (e : Ending) (w' : World) : Option (List Int) -> Prop
 | none => e = .returned (.tuple #[.slice none 0 0, .bool false])
 | some bd => ∃ u, e = .returned (.tuple #[u, .bool true]) /\ Wt w' u bd /\ Own B u
structure Ng (w : World) (b n : Nat) (v : Value) (l : List Int) (wr : World) (v' : Value) (l' : List Int) (j : Nat) : Prop where
 r : Rdr wr b v' l' (n + j)
 o : v'.ownBlock = v.ownBlock
 k : Kp (· = b) w wr
 e : nxt sm l = ((nxt sm l').1 + j, (nxt sm l').2)
 s : j + l'.length = l.length
def NxT (b n : Nat) (v : Value) (l : List Int) (w : World) (e : Ending) (w' : World) : Prop :=
 NxR w.heap.size e w' (nxt sm l).2.1 /\ ∃ v', Rdr w' b v' (nxt sm l).2.2 (n + (nxt sm l).1) /\ v'.ownBlock = v.ownBlock /\ Kp (· = b) w w'
theorem ng_none {w wr : World} {b n j : Nat} {v v' : Value} {l l' : List Int} (h : Ng w b n v l wr v' l' j) (hl : nxt sm l' = (0, none, l')) : NxT b n v l w (.returned (.tuple #[.slice none 0 0, .bool false])) wr := by
 have e := h.e
 rw [hl] at e
 unfold NxT
 rw [e]
 exact ⟨rfl, v', by rw [Nat.zero_add]; exact h.r, h.o, h.k⟩
theorem Ng.over {w wr w' : World} {b n j : Nat} {v v' : Value} {l l' : List Int} (h : Ng w b n v l wr v' l' j) (hb : Below wr.heap.size wr w') : Ng w b n v l w' v' l' j := ⟨h.r.over hb, h.o, h.k.trans (kp_below hb), h.e, h.s⟩
theorem Ng.pass {w wr : World} {b n j : Nat} {v v' v2 : Value} {x : Int} {r : List Int} {l : List Int} (h : Ng w b n v l wr v' (x :: r) j) (h1 : ¬ Std sm (x :: r)) (h2 : ¬ Mgt (x :: r)) (hw : Wt wr v2 r) (ho : v2.ownBlock = v'.ownBlock) :
  Ng w b n v l ((wr.setCell ⟨b, 0, none⟩ v2).setCell ⟨b, 1, none⟩ (.int .i64 (n + j + 1 : Nat))) v2 r (j + 1) := by
 have hk : Kp (· = b) wr ((wr.setCell ⟨b, 0, none⟩ v2).setCell ⟨b, 1, none⟩ (.int .i64 (n + j + 1 : Nat))) := (kp_set wr b 0 _).trans (kp_set _ b 1 _)
 have hap : v2.ownBlock ≠ some b := by rw [ho]; exact h.r.ap
 refine ⟨⟨(h.r.blk.set 0 v2).set 1 _, hw.kp hk fun k e1 e2 => hap (by rw [<- e2]; exact e1), hap⟩, ho.trans h.o, h.k.trans hk, ?_, ?_⟩
 ·have e := h.e
  rw [nxt_lose h1 h2] at e
  rw [e]
  dsimp only
  rw [Nat.add_assoc, Nat.add_comm 1 j]
 ·have := h.s
  rw [List.length_cons] at this
  omega
theorem next_any (b n : Nat) (v : Value) (l : List Int) (w : World) (h : Rdr w b v l n) (hn : l.length <= 100000) (hn2 : n + l.length <= 1000000) :
  Calls Tryz.prog 11 #[.pointer (some ⟨b, 0, none⟩)] w (NxT b n v l w) := by
 have H0 : Hid (Ng w b n v l w v l 0) := ⟨h, rfl, Kp.refl _ _, rfl, Nat.zero_add _⟩
 clear h
 go_enter Tryz.func11, Tryz.ntmps11
 go_wp2
 go_step3
 go_wp2
 go_step3
 go_wp2
 go_loopg [] l.length (fun k wr => ∃ v' l' j, l'.length = k /\ Hid (Ng w b n v l wr v' l' j))
 case atStart => exact ⟨v, l, 0, rfl, H0⟩
 case round =>
  obtain ⟨v', l', j, rfl, hg⟩ := hrel
  clear H0
  have hs := hg.out.s
  have hrd := hg.out.r
  obtain ⟨c0, c1, f0, f1⟩ := hrd.cl
  obtain ⟨a, cap, rfl, hbs, h1, h2, h3⟩ := hrd.wt.slice
  cases l' with
  | nil =>
   clear hrd hbs h1 h2 h3 hs
   go_wp2
   rw [Exit.noGoto_ret]
   go_ret2
   exact ng_none hg.out rfl
  | cons x r =>
   have HF : Hid (Calls Tryz.prog 29 #[.slice a (x :: r).length cap] wr fun e w' => e = .returned (.int .i64 (fr (x :: r))) /\ Below wr.heap.size wr w') := frontOf_any a _ cap (x :: r) wr (by simp) h1 hbs
   by_cases e1 : Std sm (x :: r)
   ·rw [fr_std e1] at HF
    have HS : Hid (Std sm (x :: r)) := e1
    have hlen : (x :: r).length <= 100000 := by omega
    clear hrd hbs h2 h3 h1 e1
    generalize hll : (x :: r).length = len at *
    have hlp : 0 < len := by rw [<- hll]; simp
    have HLL : Hid ((x :: r).length = len) := hll
    clear hll
    go_wp2_with (first
     | (go_at_call 29; refine HF.out.mono ?_; rintro e w1 ⟨rfl, hb1⟩)
     | (go_at_call 30; refine (take_any b (n + j) (.slice a len cap) (x :: r) _ (hg.out.over hb1).r HS.out (by rw [HLL.out]; exact hlen)).mono ?_; rintro e w2 ⟨u, v2, rfl, hu, hou, hr2, ho2, hk2⟩))
    rw [Exit.noGoto_ret]
    go_ret2
    have he := hg.out.e
    rw [nxt_std HS.out] at he
    unfold NxT
    rw [he]
    refine ⟨⟨u, rfl, hu, hou.mono (Nat.le_trans hg.out.k.size hb1.size)⟩, v2, ?_, ho2.trans hg.out.o, (hg.out.over hb1).k.trans hk2⟩
    rw [Nat.zero_add]
    exact hr2
   ·by_cases e2 : Mgt (x :: r)
    ·rw [fr_mgt e1 e2] at HF
     have HS : Hid (nxt sm (x :: r) = (0, none, x :: r)) := nxt_mgt e1 e2
     clear hrd hbs h2 h3 h1 e1 e2
     generalize hll : (x :: r).length = len at *
     have hlp : 0 < len := by rw [<- hll]; simp
     clear hll
     go_wp2_with (go_at_call 29; refine HF.out.mono ?_; rintro e w1 ⟨rfl, hb1⟩)
     rw [Exit.noGoto_ret]
     go_ret2
     exact ng_none (hg.out.over hb1) HS.out
    ·rw [fr_no e1 e2] at HF
     have HS : Hid (¬ Std sm (x :: r) /\ ¬ Mgt (x :: r)) := ⟨e1, e2⟩
     obtain ⟨v2, hw2, ho2, hcut⟩ := cut_wt hrd.wt 1 (by simp) (by simp)
     replace hw2 : Wt wr v2 r := hw2
     have HW : Hid (Wt wr v2 r) := hw2
     have HO : Hid (v2.ownBlock = (Value.slice a (x :: r).length cap).ownBlock) := ho2
     obtain ⟨va, vc, rfl, _⟩ := hw2.slice
     have hq : (n : Int) + (j : Int) + 1 <= 1000001 := by omega
     clear hrd hbs h2 h3 h1 e1 e2 hw2 ho2 hs
     have hcut2 : ∀ W, (Instr.sliceAt 37 (.slice a (x :: r).length cap) (some (.int .i64 1)) none none).run Tryz.prog W = .ok (.slice va r.length vc) W := hcut
     clear hcut
     have hlp : 0 < (x :: r).length := by simp
     have HLL : Hid (r.length < (x :: r).length) := Nat.lt_succ_self _
     generalize (x :: r).length = len at *
     generalize hrn : r.length = rn at *
     have HRN : Hid (r.length = rn) := hrn
     clear hrn
     go_upto_region 3 with (go_at_call 29; refine HF.out.mono ?_; rintro e w1 ⟨rfl, hb1⟩)
     have HG : Hid (Ng w b n v l w1 (.slice a len cap) (x :: r) j) := hg.out.over hb1
     have HW1 : Hid (Wt w1 (.slice va rn vc) r) := HW.out.over hb1
     obtain ⟨d0, d1, g0, g1⟩ := HG.out.r.cl
     clear c0 c1 f0 f1
     go_wp2
     go_roundg rn
     case measure => exact HLL.out
     case rel =>
      refine ⟨.slice va rn vc, r, j + 1, HRN.out, ?_⟩
      exact HG.out.pass HS.out.1 HS.out.2 HW1.out HO.out
end Go.Proofs.YtmcgcbgblgmmkaaGreatDoor.F
