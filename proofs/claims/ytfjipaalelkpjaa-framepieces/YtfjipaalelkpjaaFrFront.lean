/-
  The head at the front of bytes, and what stands at the front, by package frame.
-/
import Derived.Test.YtfjipaalelkpjaaFrHead
import Derived.Laws.StructEq
namespace Go.Proofs.Ytfjipaalelkpjaa
open Go.RowKit D

/-- are two heads the same? -/
def sameH (x y n s x' y' n' s' : Int) : Bool := x == x' && y == y' && n == n' && s == s'

set_option maxHeartbeats 1000000 in
theorem equalIn_hd (x y n s x' y' n' s' : Int) (w : World) : (Op.equalIn 10000 49 (hdV x y n s) (hdV x' y' n' s')).run Try.prog w = .ok (sameH x y n s x' y' n' s') w := by
  have u5 := Try.underlying5
  have a5 := Try.isAgg5
  have z5 := Try.sizeOf5
  have u3 := Try.underlying3
  have a3 := Try.isAgg3
  have z3 := Try.sizeOf3
  have u25 := Try.underlying47
  have a25 := Try.isAgg47
  have z25 := Try.sizeOf47
  have hS : Try.prog.underlying 49 = some (.struct (Try.prog.fieldsOf 49)) := by kernel_rfl
  have hp : Try.prog.stoodInHeld 49 = false := by kernel_rfl
  unfold hdV
  rw [show (10000 : Nat) = 9999 + 1 from rfl, run_equalIn_agg w 9999 49 _ _ hS hp]
  simp only [Program.fieldsOf, Try.underlying49]
  go_simp
  unfold sameH
  by_cases h1 : x = x' <;> by_cases h2 : y = y' <;> by_cases h3 : n = n' <;> by_cases h4 : s = s' <;> simp [h1, h2, h3, h4]
theorem neq_hd (x y n s x' y' n' s' : Int) (w : World) : (binOp .neq 49 (hdV x y n s) (hdV x' y' n' s')).run Try.prog w = .ok (.bool (!sameH x y n s x' y' n' s')) w := by
  have := equalIn_hd x y n s x' y' n' s' w
  unfold hdV at this ⊢
  rw [run_neq_struct, this]
  rfl

/-- the sum that is told. -/
def big4 (l : List Int) : Int := l.getD 4 0 * 16777216 + l.getD 5 0 * 65536 + l.getD 6 0 * 256 + l.getD 7 0
theorem or4 (x y z t : Int) (x0 : 0 ≤ x) (x1 : x ≤ 255) (y0 : 0 ≤ y) (y1 : y ≤ 255) (z0 : 0 ≤ z) (z1 : z ≤ 255) (t0 : 0 ≤ t) (t1 : t ≤ 255) :
    bits BinOp.or IntKind.u32 (bits BinOp.or IntKind.u32 (bits BinOp.or IntKind.u32 (x * 16777216) (y * 65536)) (z * 256)) t = x * 16777216 + y * 65536 + z * 256 + t := by
  rw [or32 x (y * 65536) 24 16777216 rfl x0 (by omega) (by omega) (by omega) (by decide), show x * 16777216 + y * 65536 = (x * 256 + y) * 65536 by omega,
    or32 (x * 256 + y) (z * 256) 16 65536 rfl (by omega) (by omega) (by omega) (by omega) (by decide), show (x * 256 + y) * 65536 + z * 256 = (x * 65536 + y * 256 + z) * 256 by omega,
    or32 (x * 65536 + y * 256 + z) t 8 256 rfl (by omega) (by omega) (by omega) (by omega) (by decide)]

/-- a head's own box. -/
theorem head_box (w : World) (cs : Array Value) : Below w.heap.size w (w.alloc (.cells cs 49)) ∧ Blk (w.alloc (.cells cs 49)) w.heap.size 49 cs.toList := ⟨(Below.refl _ _).alloc (Nat.le_refl _) _, blk_new w cs _⟩
/-- its four cells may be written. -/
structure Four (w : World) (b : Nat) (x y n s : Value) : Prop where
  c0 : w.cell? ⟨b, 0, none⟩ = some x
  c1 : w.cell? ⟨b, 1, none⟩ = some y
  c2 : w.cell? ⟨b, 2, none⟩ = some n
  c3 : w.cell? ⟨b, 3, none⟩ = some s
  f0 : w.frozen? ⟨b, 0, none⟩ = false
  f1 : w.frozen? ⟨b, 1, none⟩ = false
  f2 : w.frozen? ⟨b, 2, none⟩ = false
  f3 : w.frozen? ⟨b, 3, none⟩ = false
theorem four_of {w : World} {b : Nat} {t : TypeId} {x y n s : Value} (h : Blk w b t [x, y, n, s]) : Four w b x y n s := ⟨h.cell 0, h.cell 1, h.cell 2, h.cell 3, h.f 0, h.f 1, h.f 2, h.f 3⟩

set_option maxHeartbeats 4000000 in
theorem headAt_any (a : Option Addr) (len cap : Nat) (l : List Int) (w : World) (h8 : 8 ≤ len) (hb : Bs w a len l) :
    Calls Try.prog 33 #[.slice a len cap] w fun e w' => e = .returned (hdV (l.getD 0 0) (l.getD 1 0) (told l) (big4 l)) ∧ Below w.heap.size w w' := by
  have hbb := hb.byte
  have HBs : Hid (Bs w a len l) := hb
  have HL : Hid (∀ W, Below w.heap.size w W → Calls Try.prog 32 #[.slice a len cap] W fun e w' => e = .returned (.int .i64 (told l)) ∧ Below W.heap.size W w') := fun W hW => length_any a len cap l W (by omega) (HBs.out.below hW)
  obtain ⟨b, off, rfl, hc⟩ := hb.2.2 (by omega)
  have q0 := hc 0 (by omega)
  rw [Nat.add_zero] at q0
  have q1 := hc 1 (by omega)
  have q4 := hc 4 (by omega)
  have q5 := hc 5 (by omega)
  have q6 := hc 6 (by omega)
  have q7 := hc 7 (by omega)
  obtain ⟨x0, x1⟩ := hbb 4
  obtain ⟨y0, y1⟩ := hbb 5
  obtain ⟨z0, z1⟩ := hbb 6
  obtain ⟨t0, t1⟩ := hbb 7
  unfold hdV big4
  clear hc hb hbb HBs
  generalize l.getD 0 0 = p at *
  generalize l.getD 1 0 = q at *
  generalize l.getD 4 0 = x at *
  generalize l.getD 5 0 = y at *
  generalize l.getD 6 0 = z at *
  generalize l.getD 7 0 = t at *
  generalize told l = n at *
  have V : Hid (bits BinOp.or IntKind.u32 (bits BinOp.or IntKind.u32 (bits BinOp.or IntKind.u32 (x * 16777216) (y * 65536)) (z * 256)) t = x * 16777216 + y * 65536 + z * 256 + t) := or4 x y z t x0 x1 y0 y1 z0 z1 t0 t1
  have i0 : 0 < len := by omega
  have i1 : (1 : Int) < (len : Int) := by omega
  have i4 : (4 : Int) < (len : Int) := by omega
  have i5 : (5 : Int) < (len : Int) := by omega
  have i6 : (6 : Int) < (len : Int) := by omega
  have i7 : (7 : Int) < (len : Int) := by omega
  have hne : w.heap.size ≠ b := World.new_ne w _ q0
  go_enter Try.func33, Try.ntmps33
  go_upto_region 1 with fail
  obtain ⟨hbl, hbk⟩ := head_box w #[.int .u8 0, .int .u8 0, .int .i64 0, .int .u32 0]
  generalize w.alloc (Obj.cells #[Value.int IntKind.u8 0, Value.int IntKind.u8 0, Value.int IntKind.i64 0, Value.int IntKind.u32 0] 49) = W at *
  replace q0 := (hbl.cell (World.block_lt_of_cell? w _ q0)).trans q0
  replace q1 := (hbl.cell (World.block_lt_of_cell? w _ q1)).trans q1
  replace q4 := (hbl.cell (World.block_lt_of_cell? w _ q4)).trans q4
  replace q5 := (hbl.cell (World.block_lt_of_cell? w _ q5)).trans q5
  replace q6 := (hbl.cell (World.block_lt_of_cell? w _ q6)).trans q6
  replace q7 := (hbl.cell (World.block_lt_of_cell? w _ q7)).trans q7
  have HB : Hid (Below w.heap.size w W) := hbl
  have HK : Hid (Blk W w.heap.size 49 [.int .u8 0, .int .u8 0, .int .i64 0, .int .u32 0]) := hbk
  clear hbl hbk
  go_quiet (fail)
  go_upto_region 2 with fail
  rw [V.out]
  have hb1 := below_drewN W nq
  have HB2 : Hid (Below w.heap.size w (W.drewN nq)) := HB.out.trans (hb1.mono HB.out.size)
  have HK2 : Hid (Blk (W.drewN nq) w.heap.size 49 [.int .u8 0, .int .u8 0, .int .i64 0, .int .u32 0]) := HK.out.over hb1
  replace q0 := (hb1.cell (World.block_lt_of_cell? W _ q0)).trans q0
  replace q1 := (hb1.cell (World.block_lt_of_cell? W _ q1)).trans q1
  clear hb1 q4 q5 q6 q7 HB HK V
  generalize W.drewN nq = X at *
  have hS0 : (fun X : World => X.cell? ⟨b, off, none⟩ = some (.int .u8 p) ∧ X.cell? ⟨b, off + 1, none⟩ = some (.int .u8 q)) X := ⟨q0, q1⟩
  have HQ : Hid (Calls Try.prog 32 #[.slice (some ⟨b, off, none⟩) len cap] X.drew fun e w' => e = .returned (.int .i64 n) ∧ ((fun X : World => X.cell? ⟨b, off, none⟩ = some (.int .u8 p) ∧ X.cell? ⟨b, off + 1, none⟩ = some (.int .u8 q)) w' ∧ Four w' w.heap.size (.int .u8 0) (.int .u8 0) (.int .i64 0) (.int .u32 0) ∧ Hid (Below w.heap.size w w' ∧ Blk w' w.heap.size 49 [.int .u8 0, .int .u8 0, .int .i64 0, .int .u32 0]))) := by
    refine (HL.out X.drew HB2.out.drew).mono ?_
    rintro e w' ⟨rfl, hb⟩
    have hk := HK2.out.drew.over hb
    exact ⟨rfl, ⟨(hb.cell (World.block_lt_of_cell? X _ q0)).trans q0, (hb.cell (World.block_lt_of_cell? X _ q1)).trans q1⟩, four_of hk, HB2.out.drew.trans (hb.mono HB2.out.size), hk⟩
  go_region_held3 (fun X => X.cell? ⟨b, off, none⟩ = some (.int .u8 p) ∧ X.cell? ⟨b, off + 1, none⟩ = some (.int .u8 q)) (first | assumption | go_keep) (first | (go_at_call 32; refine (HQ.out).mono ?_; rintro e w5 ⟨rfl, hS5, ⟨c0, c1, c2, c3, f0, f1, f2, f3⟩, G5⟩))
  all_goals
    go_wp2
    obtain ⟨g1, g2⟩ := G5.out
    have k := four_of ((((g2.set 0 (.int .u8 p)).set 1 (.int .u8 q)).set 2 (.int .i64 n)).set 3 (.int .u32 (x * 16777216 + y * 65536 + z * 256 + t)))
    obtain ⟨k0, k1, k2, k3, _, _, _, _⟩ := k
    refine bodyPost_ret (v := .agg #[.int .u8 p, .int .u8 q, .int .i64 n, .int .u32 (x * 16777216 + y * 65536 + z * 256 + t)]) (by simp [results, Try.results33, go_sem, k0, k1, k2, k3]) rfl ⟨rfl, ?_⟩
    exact (((g1.setCell (Nat.le_refl _) _).setCell (Nat.le_refl _) _).setCell (Nat.le_refl _) _).setCell (Nat.le_refl _) _

theorem mgt_bgn {l : List Int} (h : Mgt l) : Bgn l := ⟨h.1, h.2.1, fun e => h.2.2.1 (by omega), fun e => ⟨(h.2.2.2 (by omega)).1, (h.2.2.2 (by omega)).2.1⟩⟩
theorem bgn_mgt {l : List Int} (hb : ∀ i, 0 ≤ l.getD i 0 ∧ l.getD i 0 ≤ 255) (h : Bgn l) (hl : l.length < told l + 8) : Mgt l := by
  refine ⟨h.1, h.2.1, fun e => ?_, fun e => ⟨(h.2.2.2 (by omega)).1, (h.2.2.2 (by omega)).2, hl⟩⟩
  rcases Nat.lt_or_ge l.length 4 with h4 | h4
  · exact h.2.2.1 (by omega)
  · have := (h.2.2.2 (by omega)).2
    have ht := told_at hb
    have := hb 3
    omega
theorem std_bgn {l : List Int} {f : List Int → Int} (h : Std f l) : Bgn l := by
  obtain ⟨a, b, c⟩ := std_head h
  exact ⟨fun _ => a, fun _ => b, fun _ => c, fun _ => ⟨h.1, h.2.1⟩⟩
theorem take_eight : ∀ {l : List Int}, 8 ≤ l.length → l.take 8 = [l.getD 0 0, l.getD 1 0, l.getD 2 0, l.getD 3 0, l.getD 4 0, l.getD 5 0, l.getD 6 0, l.getD 7 0]
  | _ :: _ :: _ :: _ :: _ :: _ :: _ :: _ :: _, _ => rfl
theorem bgn_std {l : List Int} (hb : ∀ i, 0 ≤ l.getD i 0 ∧ l.getD i 0 ≤ 255) (h : Bgn l) (hl : told l + 8 ≤ l.length) : Std sm l ↔ big4 l = sm (two (told l) ++ body l) := by
  have h3 : 3 < l.length := by omega
  have h0 := h.1 (by omega)
  have h1 := h.2.1 (by omega)
  have h2 := h.2.2.2 h3
  have hbl : (body l).length = told l := by
    unfold body
    rw [List.length_take, List.length_drop]
    omega
  have ht := told_at hb
  have e8 : l.take (told l + 8) = l.take 8 ++ body l := by rw [Nat.add_comm, List.take_add]; rfl
  have hs := sm_bd (two (told l) ++ body l)
  have b2 := hb 2
  have b3 := hb 3
  have b4 := hb 4
  have b5 := hb 5
  have b6 := hb 6
  have b7 := hb 7
  have et : l.take 8 = [l.getD 0 0, l.getD 1 0, l.getD 2 0, l.getD 3 0, l.getD 4 0, l.getD 5 0, l.getD 6 0, l.getD 7 0] := take_eight (by omega)
  have ef : frm sm (body l) = [102, 76, (told l : Int) / 256, (told l : Int) % 256] ++ (four (sm (two (told l) ++ body l)) ++ body l) := by
    unfold frm
    rw [hbl]
    rfl
  unfold Std
  rw [e8, ef, et, h0, h1]
  generalize sm (two (told l) ++ body l) = s at *
  generalize body l = bd at *
  unfold big4
  generalize l.getD 2 0 = x2 at *
  generalize l.getD 3 0 = x3 at *
  generalize l.getD 4 0 = x4 at *
  generalize l.getD 5 0 = x5 at *
  generalize l.getD 6 0 = x6 at *
  generalize l.getD 7 0 = x7 at *
  constructor
  · rintro ⟨_, _, _, k⟩
    simp only [List.cons_append, List.nil_append, four, List.cons.injEq, true_and] at k
    omega
  · intro k
    refine ⟨h2.1, h2.2, hl, ?_⟩
    simp only [List.cons_append, List.nil_append, four, List.cons.injEq, true_and, and_true]
    omega

/-- what stands at the front. -/
def fr (l : List Int) : Int := if stdB sm l = true then 2 else if mgtB l = true then 1 else 0
theorem fr_std {l : List Int} (h : Std sm l) : fr l = 2 := if_pos (stdB_iff.2 h)
theorem fr_mgt {l : List Int} (h1 : ¬ Std sm l) (h : Mgt l) : fr l = 1 := by
  unfold fr
  rw [if_neg fun k => h1 (stdB_iff.1 k), if_pos (mgtB_iff.2 h)]
theorem fr_no {l : List Int} (h1 : ¬ Std sm l) (h : ¬ Mgt l) : fr l = 0 := by
  unfold fr
  rw [if_neg fun k => h1 (stdB_iff.1 k), if_neg fun k => h (mgtB_iff.1 k)]

theorem sizeOf_b (W : World) : (sizeOf (Try.prog.elem 22)).run Try.prog W = .ok 1 W := by
  have e : Try.prog.elem 22 = 5 := by kernel_rfl
  rw [e]
  exact Try.sizeOf5 W
theorem under_B : Try.prog.underlying 22 = some (.slice (Try.prog.elem 22)) := by kernel_rfl
theorem cut_mid (b off len cap n : Nat) (h1 : n + 8 ≤ cap) (h0 : 1 ≤ n) (W : World) : (Instr.sliceAt 22 (.slice (some ⟨b, off, none⟩) len cap) (some (.int .i64 8)) (some (.int .i64 (8 + n))) none).run Try.prog W = .ok (.slice (some ⟨b, off + 8, none⟩) n (cap - 8)) W := by
  have e1 : (8 + (n : Int)).toNat - (8 : Int).toNat = n := by omega
  rw [run_sliceAt_slice W 22 _ _ _ _ under_B, run_slice_lh W 22 _ _ _ under_B .i64 .i64 8 (8 + n) (by decide) (by omega) (by omega), sizeOf_b]
  simp only [Result.andThen_ok, sliced, e1]
  rw [if_neg (by show cap ≠ 8; omega)]
  rfl

set_option maxHeartbeats 2000000 in
theorem frontOf_any (a : Option Addr) (len cap : Nat) (l : List Int) (w : World) (h0 : 0 < len) (hcap : len ≤ cap) (hb : Bs w a len l) :
    Calls Try.prog 24 #[.slice a len cap] w fun e w' => e = .returned (.int .i64 (fr l)) ∧ Below w.heap.size w w' := by
  have hbb := hb.byte
  have hll := hb.1
  by_cases hg : Bgn l
  case neg =>
    have e : fr l = 0 := fr_no (fun h => hg (std_bgn h)) (fun h => hg (mgt_bgn h))
    have eg := bg_no hg
    rw [e]
    clear hbb
    go_enter Try.func24, Try.ntmps24
    go_wp2_with (go_at_call 31; refine (begins_any a len cap l _ hb).mono ?_; rintro e w1 ⟨rfl, hb1⟩; rw [eg])
    go_ret
    exact ⟨rfl, hb1⟩
  have eg := bg_yes hg
  rcases Nat.lt_or_ge len 8 with h8 | h8
  · have e : fr l = 1 := by
      have hm : l.length < told l + 8 := by omega
      exact fr_mgt (fun h => absurd h.2.2.1 (by omega)) (bgn_mgt hbb hg hm)
    rw [e]
    clear hbb
    go_enter Try.func24, Try.ntmps24
    go_wp2_with (go_at_call 31; refine (begins_any a len cap l _ hb).mono ?_; rintro e w1 ⟨rfl, hb1⟩; rw [eg])
    go_ret
    exact ⟨rfl, hb1⟩
  have ht := hg.2.2.2 (by omega)
  rcases Nat.lt_or_ge len (told l + 8) with h9 | h9
  · have e : fr l = 1 := by
      have hm : l.length < told l + 8 := by omega
      exact fr_mgt (fun h => absurd h.2.2.1 (by omega)) (bgn_mgt hbb hg hm)
    rw [e]
    clear hbb
    have HL : Hid (∀ W, Bs W a len l → Calls Try.prog 32 #[.slice a len cap] W fun e w' => e = .returned (.int .i64 (told l)) ∧ Below W.heap.size W w') := fun W hW => length_any a len cap l W (by omega) hW
    generalize told l = n at *
    go_enter Try.func24, Try.ntmps24
    go_wp2_with (first
      | (go_at_call 31; refine (begins_any a len cap l _ hb).mono ?_; rintro e w1 ⟨rfl, hb1⟩; rw [eg])
      | (go_at_call 32; refine (HL.out _ (hb.below hb1)).mono ?_; rintro e w2 ⟨rfl, hb2⟩))
    go_ret
    exact ⟨rfl, hb1.trans (hb2.mono hb1.size)⟩
  have hns := bgn_std hbb hg (by omega)
  have hnm : ¬ Mgt l := fun h => absurd (h.2.2.2 (by omega)).2.2 (by omega)
  obtain ⟨b, off, rfl, hc⟩ := hb.2.2 h0
  have HL : Hid (∀ W, Bs W (some ⟨b, off, none⟩) len l → Calls Try.prog 32 #[.slice (some ⟨b, off, none⟩) len cap] W fun e w' => e = .returned (.int .i64 (told l)) ∧ Below W.heap.size W w') := fun W hW => length_any _ len cap l W (by omega) hW
  have HH : Hid (∀ W, Bs W (some ⟨b, off, none⟩) len l → Calls Try.prog 33 #[.slice (some ⟨b, off, none⟩) len cap] W fun e w' => e = .returned (hdV 102 76 (told l) (big4 l)) ∧ Below W.heap.size W w') := fun W hW => by
    have := headAt_any _ len cap l W h8 hW
    rw [hg.1 (by omega), hg.2.1 (by omega)] at this
    exact this
  have HO : Hid (∀ W, Bs W (some ⟨b, off, none⟩) len l → Calls Try.prog 21 #[.slice (some ⟨b, off + 8, none⟩) (told l) (cap - 8)] W fun e w' => e = .returned (hdV 102 76 (told l) (sm (two (told l) ++ body l))) ∧ Below W.heap.size W w') := fun W hW =>
    headOf_any _ (told l) _ (body l) W ht.2 (Bs.sub (l := l) hW 8 (told l) (by omega))
  have hcut := cut_mid b off len cap (told l) (by omega) ht.1
  have hcmp := neq_hd 102 76 (told l) (big4 l) 102 76 (told l) (sm (two (told l) ++ body l))
  have hgd : ∀ W, (eqGuard BinOp.neq 49 (Operand.tmp 18) (Operand.tmp 24) (hdV 102 76 (told l) (big4 l)) (hdV 102 76 (told l) (sm (two (told l) ++ body l)))).run Try.prog W = .ok () W := fun W => by
    unfold hdV
    go_simp
  have hsame : sameH 102 76 (told l) (big4 l) 102 76 (told l) (sm (two (told l) ++ body l)) = decide (big4 l = sm (two (told l) ++ body l)) := by
    unfold sameH
    rw [beq_self_eq_true, beq_self_eq_true, beq_self_eq_true]
    rfl
  rw [hsame] at hcmp
  have hr1 : Hid (big4 l = sm (two (told l) ++ body l) → fr l = 2) := fun h => fr_std (hns.2 h)
  have hr2 : Hid (¬ big4 l = sm (two (told l) ++ body l) → fr l = 0) := fun h => fr_no (fun k => h (hns.1 k)) hnm
  have HBs : Hid (Bs w (some ⟨b, off, none⟩) len l) := hb
  clear hbb hns hnm hc hsame hll hg
  generalize sm (two (told l) ++ body l) = s at *
  generalize big4 l = s' at *
  generalize told l = n at *
  obtain ⟨hn0, hn1⟩ := ht
  have hq : (n : Int) + 8 ≤ len := by omega
  by_cases hs : s' = s
  · have e := hr1.out hs
    have hd : decide (s' = s) = true := decide_eq_true hs
    rw [hd] at hcmp
    rw [e]
    clear hr1 hr2 hs hd e
    go_enter Try.func24, Try.ntmps24
    go_upto_region 5 with (first
      | (go_at_call 31; refine (begins_any _ len cap l _ hb).mono ?_; rintro e w1 ⟨rfl, hb1⟩; rw [eg])
      | (go_at_call 32; refine (HL.out _ (hb.below hb1)).mono ?_; rintro e w2 ⟨rfl, hb2⟩))
    have hb3 := hb1.trans (hb2.mono hb1.size)
    go_wp2_with (first
      | (go_at_call 33; refine (HH.out _ (HBs.out.below hb3)).mono ?_; rintro e w4 ⟨rfl, hb4⟩; have hb5 := hb3.trans (hb4.mono hb3.size))
      | (go_at_call 32; refine (HL.out _ (HBs.out.below hb5)).mono ?_; rintro e w6 ⟨rfl, hb6⟩; have hb7 := hb5.trans (hb6.mono hb5.size))
      | (go_at_call 21; refine (HO.out _ (HBs.out.below hb7)).mono ?_; rintro e w8 ⟨rfl, hb8⟩; have hb9 := hb7.trans (hb8.mono hb7.size)))
    go_ret
    exact ⟨rfl, hb9⟩
  · have e := hr2.out hs
    have hd : decide (s' = s) = false := decide_eq_false hs
    rw [hd] at hcmp
    rw [e]
    clear hr1 hr2 hs hd e
    go_enter Try.func24, Try.ntmps24
    go_upto_region 5 with (first
      | (go_at_call 31; refine (begins_any _ len cap l _ hb).mono ?_; rintro e w1 ⟨rfl, hb1⟩; rw [eg])
      | (go_at_call 32; refine (HL.out _ (hb.below hb1)).mono ?_; rintro e w2 ⟨rfl, hb2⟩))
    have hb3 := hb1.trans (hb2.mono hb1.size)
    go_wp2_with (first
      | (go_at_call 33; refine (HH.out _ (HBs.out.below hb3)).mono ?_; rintro e w4 ⟨rfl, hb4⟩; have hb5 := hb3.trans (hb4.mono hb3.size))
      | (go_at_call 32; refine (HL.out _ (HBs.out.below hb5)).mono ?_; rintro e w6 ⟨rfl, hb6⟩; have hb7 := hb5.trans (hb6.mono hb5.size))
      | (go_at_call 21; refine (HO.out _ (HBs.out.below hb7)).mono ?_; rintro e w8 ⟨rfl, hb8⟩; have hb9 := hb7.trans (hb8.mono hb7.size)))
    go_ret
    exact ⟨rfl, hb9⟩

end Go.Proofs.Ytfjipaalelkpjaa
