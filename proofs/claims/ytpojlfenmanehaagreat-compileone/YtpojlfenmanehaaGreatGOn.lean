/-
  The walk of a law.
-/
import Derived.Test.YtpojlfenmanehaaGreatGK7
import Derived.Test.YtpojlfenmanehaaGreatGOp
namespace Go.Proofs.YtpojlfenmanehaaGreat
open Go.RowKit

/-- the name, the rule. -/
def wr : ByteArray := ⟨#[119, 114, 105, 116, 101]⟩
def oneX (c : M.Xc) : M.Xl := ⟨8, 0, [wr], [c]⟩
theorem wr_known : M.wrongN [wr] = 0 := by decide +kernel
theorem wr_word : M.isWd (M.lst wr) = true := by decide +kernel
theorem wr_named : M.namedB 1 [wr] = true := by decide +kernel
theorem one_nr : M.isNr 1 = true := by decide +kernel
theorem check_one (c : M.Xc) (h : M.condB c = true) : (M.checkP 7 0 [oneX c]).1 = 0 := by
  have h1 : M.rulesB 7 0 [oneX c] = true := by
    have h2 : M.ruleB (oneX c) = true := by
      unfold M.ruleB oneX
      simp [wr_word, h, M.actB, M.hasN]
    unfold M.rulesB
    simp [h2, M.actB, M.hasN]
  unfold M.checkP
  rw [if_pos h1]
  show (M.wrongFrom 0 [oneX c]).1 = 0
  unfold M.wrongFrom
  rw [if_pos (show M.wrongN (oneX c).names = 0 from wr_known)]
  rfl

/-- the call, with an argument in its place. -/
def dOne (n : Nat) (v : Int) : M.Da := ⟨1, 3221225534, 0, [0, 0, 0, 0, 0, 0].set n v⟩
theorem dOne_ok (n : Nat) (v : Int) (hv : V.U64 v) : (dOne n v).ok := by
  refine ⟨(by decide : (0 : Int) ≤ 1 ∧ (1 : Int) ≤ 4294967295), (by decide : (0 : Int) ≤ 3221225534 ∧ (3221225534 : Int) ≤ 4294967295), (by decide : (0 : Int) ≤ 0 ∧ (0 : Int) ≤ 18446744073709551615), by simp [dOne], fun z hz => ?_⟩
  rcases List.mem_or_eq_of_mem_set hz with h | h
  · simp at h
    subst h
    exact ⟨by decide, by decide⟩
  · subst h
    exact hv
theorem dOne_arg (n : Nat) (v : Int) (hn : n < 6) : (dOne n v).g.getD n 0 = v := by
  unfold dOne
  dsimp only
  rw [List.getD_eq_getElem?_getD, List.getElem?_set_self (by simpa using hn)]
  rfl
def dCells : List Value := [.int .u32 1, .int .u32 3221225534, .int .u64 0, .int .u64 0, .int .u64 0, .int .u64 0, .int .u64 0, .int .u64 0, .int .u64 0]
theorem dOne_cells (n : Nat) (v : Int) (hn : n < 6) : dCells.set (3 + n) (.int .u64 v) = (dOne n v).cells := by
  match n, hn with
  | 0, _ => rfl
  | 1, _ => rfl
  | 2, _ => rfl
  | 3, _ => rfl
  | 4, _ => rfl
  | 5, _ => rfl
theorem dCells_at (n : Nat) (hn : n < 6) : dCells[3 + n]? = some (.int .u64 0) := by
  match n, hn with
  | 0, _ => rfl
  | 1, _ => rfl
  | 2, _ => rfl
  | 3, _ => rfl
  | 4, _ => rfl
  | 5, _ => rfl
/-- what the one rule says. -/
theorem one_mean (c : M.Xc) (v : Int) (h : M.condB c = true) : meanZ (dOne c.arg.toNat v) 7 0 [oneX c] = if C.heldB c.op (C.an v c.mask) c.val = true then 2147418112 else 2147221504 := by
  obtain ⟨hr, h0, h6⟩ := condB_right c h
  have hm : M.meetB (dOne c.arg.toNat v) (oneX c) = C.heldB c.op (C.an v c.mask) c.val := by
    unfold M.meetB
    have e1 : M.namedB (dOne c.arg.toNat v).n (oneX c).names = true := wr_named
    rw [e1, Bool.true_and]
    show ([c].all (M.hB (dOne c.arg.toNat v))) = _
    rw [List.all_cons, List.all_nil, Bool.and_true]
    unfold M.hB M.holdN
    rw [dOne_arg _ _ (by omega)]
    have : M.rightB c.arg c.op = true := hr
    rw [this, Bool.true_and]
    rfl
  have hv : M.verdP (dOne c.arg.toNat v) 7 0 [oneX c] = if C.heldB c.op (C.an v c.mask) c.val = true then (8, 0) else (7, 0) := by
    unfold M.verdP
    rw [if_pos (show M.isNr (dOne c.arg.toNat v).n = true from one_nr)]
    unfold M.verdF
    rw [hm]
    rfl
  unfold meanZ
  rw [if_pos (show (dOne c.arg.toNat v).a = 3221225534 from rfl), hv]
  split <;> rfl

/-- the seven answers. -/
def bo (x y : Int) : List Value := [.bool false, .bool (x == y), .bool (!(x == y)), .bool (decide (x < y)), .bool (decide (x ≤ y)), .bool (decide (y < x)), .bool (decide (y ≤ x))]
theorem bo_at (x y : Int) (n : Nat) (h1 : 1 ≤ n) (h6 : n ≤ 6) : (bo x y)[n]? = some (.bool (C.heldB (n : Int) x y)) := by
  match n, h1, h6 with
  | 1, _, _ => rfl
  | 2, _, _ => rfl
  | 3, _, _ => rfl
  | 4, _, _ => rfl
  | 5, _, _ => rfl
  | 6, _, _ =>
    show some (Value.bool (decide (y ≤ x))) = _
    exact congrArg (fun b => some (Value.bool b)) (held6 x y).symm

set_option maxRecDepth 8000 in
set_option maxHeartbeats 4000000 in
theorem one_out (w : World) (c : M.Xc) (v : Int) (h : M.condB c = false) :
    Calls Tryz.prog 8 #[Cv c, .int .u64 v] w fun e w' => e = .returned (.bool true) ∧ Below w.heap.size w w' := by
  obtain ⟨ca, co, cm, cv⟩ := c
  have HA : Hid (∀ W, Calls Tryz.prog 9 #[] W fun e w' => e = .returned (.bool true) ∧ Below W.heap.size W w') := awake_any
  have HB : Hid (Below w.heap.size w (w.alloc (Obj.cells #[.int .i64 ca, .int .i64 co, .int .u64 cm, .int .u64 cv] 54))) := below_new w _
  have HK : Hid (V.Blk (w.alloc (Obj.cells #[.int .i64 ca, .int .i64 co, .int .u64 cm, .int .u64 cv] 54)) w.heap.size 54 [.int .i64 ca, .int .i64 co, .int .u64 cm, .int .u64 cv]) := V.blk_new w _ _
  have h' : ca < 0 ∨ (¬ ca < 0 ∧ 5 < ca) ∨ (¬ ca < 0 ∧ ¬ 5 < ca ∧ co < 1) ∨ (¬ ca < 0 ∧ ¬ 5 < ca ∧ ¬ co < 1 ∧ 6 < co) := by
    unfold M.condB at h
    simp only [Bool.and_eq_false_iff, decide_eq_false_iff_not] at h
    omega
  unfold Cv
  dsimp only
  clear h
  rcases h' with h1 | ⟨h1, h2⟩ | ⟨h1, h2, h3⟩ | ⟨h1, h2, h3, h4⟩
  all_goals
    go_enter Tryz.func8, Tryz.ntmps8
    go_wp2_with (first | (go_at_call 9; refine (HA.out _).mono ?_; rintro e w1 ⟨rfl, b1⟩; have c0 := (HK.out.over b1).cell 0; have c1 := (HK.out.over b1).cell 1))
    go_ret
    exact ⟨rfl, HB.out.trans (b1.mono HB.out.size)⟩

/-- the rule, as it was built. -/
def oN : Obj := Obj.cells #[.string wr] 9
def oC (c : M.Xc) : Obj := Obj.cells #[.int .i64 c.arg, .int .i64 c.op, .int .u64 c.mask, .int .u64 c.val] 54
def oR (g : Nat) : Obj := Obj.cells #[.int .i64 8, .int .i64 0, .slice (some ⟨g, 0, none⟩) 1 1, .slice (some ⟨g + 1, 0, none⟩) 1 1] 58
theorem one_rl (w1 : World) (c : M.Xc) : M.RlR (((w1.alloc oN).alloc (oC c)).alloc (oR w1.heap.size)) (.slice (some ⟨w1.heap.size + 1 + 1, 0, none⟩) 1 1) [⟨oneX c, .slice (some ⟨w1.heap.size, 0, none⟩) 1 1, .slice (some ⟨w1.heap.size + 1, 0, none⟩) 1 1⟩] := by
  have k1 : V.Blk (((w1.alloc oN).alloc (oC c)).alloc (oR w1.heap.size)) w1.heap.size 9 [.string wr] := ((V.blk_new w1 _ _).alloc _).alloc _
  have k2 : V.Blk (((w1.alloc oN).alloc (oC c)).alloc (oR w1.heap.size)) (w1.heap.size + 1) 54 [.int .i64 c.arg, .int .i64 c.op, .int .u64 c.mask, .int .u64 c.val] := (V.blk_new' w1 _ _ _).alloc _
  have k3 : V.Blk (((w1.alloc oN).alloc (oC c)).alloc (oR w1.heap.size)) (w1.heap.size + 1 + 1) 58 [.int .i64 8, .int .i64 0, .slice (some ⟨w1.heap.size, 0, none⟩) 1 1, .slice (some ⟨w1.heap.size + 1, 0, none⟩) 1 1] := by
    have := V.blk_new' (w1.alloc oN) (oC c) #[.int .i64 8, .int .i64 0, .slice (some ⟨w1.heap.size, 0, none⟩) 1 1, .slice (some ⟨w1.heap.size + 1, 0, none⟩) 1 1] 58
    rw [V.size_alloc'] at this
    exact this
  refine ⟨_, 1, rfl, Nat.le_refl _, by decide, fun _ => ⟨_, 0, rfl, fun i x hi => ?_⟩, fun x hx => ?_⟩
  · match i, hi with
    | 0, hi =>
      cases hi
      exact ⟨k3.cell 0, k3.cell 1, k3.cell 2, k3.cell 3⟩
  · rw [List.mem_singleton] at hx
    subst hx
    refine ⟨⟨_, 1, rfl, Nat.le_refl _, by decide, fun _ => ⟨_, 0, rfl, fun i s hi => ?_⟩⟩, ⟨_, 1, rfl, Nat.le_refl _, by decide, fun _ => ⟨_, 0, rfl, fun i y hi => ?_⟩⟩⟩
    · match i, hi with
      | 0, hi =>
        cases hi
        exact k1.cell 0
    · match i, hi with
      | 0, hi =>
        cases hi
        exact ⟨k2.cell 0, k2.cell 1, k2.cell 2, k2.cell 3⟩

set_option maxRecDepth 8000 in
set_option maxHeartbeats 600000 in
theorem one_in (w : World) (c : M.Xc) (v : Int) (h : M.condB c = true) (hm : V.U64 c.mask) (hvl : V.U64 c.val) (hv : V.U64 v) :
    Calls Tryz.prog 8 #[Cv c, .int .u64 v] w fun e w' => e = .returned (.bool true) ∧ Below w.heap.size w w' := by
  obtain ⟨hr, h0, h6⟩ := condB_right c h
  have hro := C.right_bd hr
  have HA : Hid (∀ W, Calls Tryz.prog 9 #[] W fun e w' => e = .returned (.bool true) ∧ Below W.heap.size W w') := awake_any
  have HC : Hid (∀ W : World, Calls Tryz.prog 11 #[.agg #[.int .i64 7, .int .i64 0, .slice (some ⟨W.heap.size + 1 + 1, 0, none⟩) 1 1]] ((((W.alloc oN).alloc (oC c)).alloc (oR W.heap.size)).alloc (Obj.cells #[.int .i64 7, .int .i64 0, .slice (some ⟨W.heap.size + 1 + 1, 0, none⟩) 1 1] 26)) fun e w' => ∃ u, e = .returned (.tuple #[u, .int .i64 0]) ∧ Below ((((W.alloc oN).alloc (oC c)).alloc (oR W.heap.size)).alloc (Obj.cells #[.int .i64 7, .int .i64 0, .slice (some ⟨W.heap.size + 1 + 1, 0, none⟩) 1 1] 26)).heap.size ((((W.alloc oN).alloc (oC c)).alloc (oR W.heap.size)).alloc (Obj.cells #[.int .i64 7, .int .i64 0, .slice (some ⟨W.heap.size + 1 + 1, 0, none⟩) 1 1] 26)) w' ∧
      ∀ Z, Below w'.heap.size w' Z → Calls Tryz.prog 18 #[u, .agg (dOne c.arg.toNat v).cells.toArray] Z fun e z' => ∃ n : Nat, e = .returned (.tuple #[.int .u32 (if C.heldB c.op (C.an v c.mask) c.val = true then 2147418112 else 2147221504), .int .i64 n, .int .i64 0]) ∧ Below Z.heap.size Z z') := fun W => by
    have hx1 : M.Lt [(⟨oneX c, .slice (some ⟨W.heap.size, 0, none⟩) 1 1, .slice (some ⟨W.heap.size + 1, 0, none⟩) 1 1⟩ : M.Xr)] := ⟨by simp, fun x hx => by
      rw [List.mem_singleton] at hx
      subst hx
      refine ⟨by show (1 : Nat) ≤ 40; decide, by show (1 : Nat) ≤ 40; decide, fun s hs => ?_⟩
      have hs' : s ∈ [wr] := hs
      rw [List.mem_singleton] at hs'
      subst hs'
      decide⟩
    have hx2 : Fits [(⟨oneX c, .slice (some ⟨W.heap.size, 0, none⟩) 1 1, .slice (some ⟨W.heap.size + 1, 0, none⟩) 1 1⟩ : M.Xr)] := fun x hx y hy => by
      rw [List.mem_singleton] at hx
      subst hx
      have hy' : y ∈ [c] := hy
      rw [List.mem_singleton] at hy'
      subst hy'
      exact ⟨hm, hvl⟩
    refine (compile_any _ 7 0 _ _ ((one_rl W c).below (below_new _ _)) hx1 hx2).mono ?_
    rintro e w' ⟨u, er, rfl, hb, hcase⟩
    rcases hcase with ⟨q1, _⟩ | ⟨_, hR, ns, hn, ⟨q1, _⟩ | ⟨hl, rfl, ho⟩⟩
    · exact absurd (check_one c h) q1
    · have q2 := (prog_len ns 7 0 _ hn).2
      have q3 : M.wgt [(⟨oneX c, .slice (some ⟨W.heap.size, 0, none⟩) 1 1, .slice (some ⟨W.heap.size + 1, 0, none⟩) 1 1⟩ : M.Xr)] = 24 := rfl
      omega
    · refine ⟨u, rfl, hb, fun Z hZ => ?_⟩
      refine (run_prog (dOne c.arg.toNat v) (dOne_ok _ v hv) ns 7 0 _ hn hR hl Z u _ (own_over ho hZ)).mono ?_
      rintro e z' ⟨n, _, he, hb'⟩
      have hmm := one_mean c v h
      refine ⟨n, ?_, hb'⟩
      rw [he]
      show Ending.returned (.tuple #[.int .u32 (meanZ (dOne c.arg.toNat v) 7 0 [oneX c]), _, _]) = _
      rw [hmm]
  obtain ⟨ca, co, cm, cv⟩ := c
  dsimp only at *
  obtain ⟨na, rfl⟩ := Int.eq_ofNat_of_zero_le h0
  obtain ⟨no, rfl⟩ := Int.eq_ofNat_of_zero_le (show 0 ≤ co by omega)
  have hna : na < 6 := by omega
  have hno : 1 ≤ no ∧ no ≤ 6 := by omega
  have HD : Hid (dCells.set (3 + na) (.int .u64 v) = (dOne na v).cells) := dOne_cells na v hna
  have HBo : Hid ((bo (C.an v cm) cv)[no]? = some (.bool (C.heldB (no : Int) (C.an v cm) cv))) := bo_at _ _ no hno.1 hno.2
  have HB : Hid (Below w.heap.size w (w.alloc (Obj.cells #[.int .i64 (na : Int), .int .i64 (no : Int), .int .u64 cm, .int .u64 cv] 54))) := below_new w _
  have HK : Hid (V.Blk (w.alloc (Obj.cells #[.int .i64 (na : Int), .int .i64 (no : Int), .int .u64 cm, .int .u64 cv] 54)) w.heap.size 54 [.int .i64 (na : Int), .int .i64 (no : Int), .int .u64 cm, .int .u64 cv]) := V.blk_new w _ _
  unfold oN oC oR wr at HC
  rw [Int.toNat_natCast] at HC
  dsimp only at HC
  unfold Cv
  dsimp only
  have l1 : decide ((na : Int) < 0) = false := decide_eq_false (by omega)
  have l2 : decide (5 < (na : Int)) = false := decide_eq_false (by omega)
  have l3 : decide ((no : Int) < 1) = false := decide_eq_false (by omega)
  have l4 : decide (6 < (no : Int)) = false := decide_eq_false (by omega)
  have hsz : Hid ((Tryz.prog.info? 41).map (·.size) = some (dOne na v).cells.toArray.size) := (dOne na v).size (dOne_ok na v hv)
  clear h hr h0 h6 hro hm hvl hv
  go_enter Tryz.func8, Tryz.ntmps8
  go_upto_region 5 with (first | (go_at_call 9; refine (HA.out _).mono ?_; rintro e w1 ⟨rfl, b1⟩; have c0 := (HK.out.over b1).cell 0; have c1 := (HK.out.over b1).cell 1; have c2 := (HK.out.over b1).cell 2; have c3 := (HK.out.over b1).cell 3; have BN := b1.alloc b1.size (Obj.cells #[.string ⟨#[119, 114, 105, 116, 101]⟩] 9); have d0 := (HK.out.over BN).cell 0; have d1 := (HK.out.over BN).cell 1; have d2 := (HK.out.over BN).cell 2; have d3 := (HK.out.over BN).cell 3))
  have BX5 := ((BN.alloc BN.size (Obj.cells #[.int .i64 (na : Int), .int .i64 (no : Int), .int .u64 cm, .int .u64 cv] 54)).alloc (BN.alloc BN.size _).size (Obj.cells #[.int .i64 8, .int .i64 0, .slice (some ⟨w1.heap.size, 0, none⟩) 1 1, .slice (some ⟨w1.heap.size + 1, 0, none⟩) 1 1] 58))
  have BX6 := BX5.alloc BX5.size (Obj.cells #[.int .i64 7, .int .i64 0, .slice (some ⟨w1.heap.size + 1 + 1, 0, none⟩) 1 1] 26)
  clear c0 c1 c2 c3 d0 d1 d2 d3 BN BX5 b1 l1 l2 l3 l4
  go_upto_region 6 with (first | (go_at_call 11; refine (HC.out w1).mono ?_; rintro e w2 ⟨u2, rfl, b2, hrun⟩))
  have BX7 := BX6.trans (b2.mono BX6.size)
  have BX8 := BX7.alloc BX7.size (Obj.cells #[.int .u32 1, .int .u32 3221225534, .int .u64 0, .int .u64 0, .int .u64 0, .int .u64 0, .int .u64 0, .int .u64 0, .int .u64 0] 41)
  have e0 := (HK.out.over BX8).cell 0
  have kD : V.Blk (w2.alloc (Obj.cells #[.int .u32 1, .int .u32 3221225534, .int .u64 0, .int .u64 0, .int .u64 0, .int .u64 0, .int .u64 0, .int .u64 0, .int .u64 0] 41)) w2.heap.size 41 dCells := V.blk_new w2 _ _
  have hz := dCells_at na hna
  have kc := (kD.cell (3 + na)).trans hz
  have kf := kD.f (3 + na)
  have KD : Hid (V.Blk (w2.alloc (Obj.cells #[.int .u32 1, .int .u32 3221225534, .int .u64 0, .int .u64 0, .int .u64 0, .int .u64 0, .int .u64 0, .int .u64 0, .int .u64 0] 41)) w2.heap.size 41 dCells) := kD
  have HRn : Hid _ := hrun
  have hn1 : (na : Int) < 6 := by omega
  clear hz kD BX6 b2 hrun HC
  go_upto_region 8 with fail
  have hd := HD.out
  unfold dCells at hd
  rw [hd]
  clear hd kc kf e0 BX8 KD
  have kE : V.Blk (w2.alloc (Obj.cells (dOne na v).cells.toArray 41)) w2.heap.size 41 (dOne na v).cells := V.blk_new w2 _ _
  have BX8 := BX7.alloc BX7.size (Obj.cells (dOne na v).cells.toArray 41)
  have BW : Below w2.heap.size w2 (w2.alloc (Obj.cells (dOne na v).cells.toArray 41)) := below_new w2 _
  have HRz := HRn.out _ BW
  generalize (dOne na v).cells = dc at *
  clear HRn BW
  go_upto_region 9 with (first
    | (refine at_op (.load 41 (.tmp 9)) rfl ?_; refine wpList_load_row rfl 41 (.tmp 9) rfl w2.heap.size rfl 41 dc.toArray (0, 0) _ kE Tryz.underlying41 rfl hsz.out ?_)
    | (go_at_call 18; refine HRz.mono ?_; rintro e w9 ⟨n9, rfl, b9⟩))
  have BX9 := BX8.trans (b9.mono BX8.size)
  have g1 := (HK.out.over BX9).cell 1
  have g2 := (HK.out.over BX9).cell 2
  have g3 := (HK.out.over BX9).cell 3
  clear kE BX7 BX8 b9 HRz
  go_upto_region 12 with fail
  have kI : (w9.alloc (Obj.cells #[.bool false, .bool (bits BinOp.and IntKind.u64 v cm == cv), .bool (bits BinOp.and IntKind.u64 v cm != cv), .bool (decide (bits BinOp.and IntKind.u64 v cm < cv)), .bool (decide (bits BinOp.and IntKind.u64 v cm ≤ cv)), .bool (decide (cv < bits BinOp.and IntKind.u64 v cm)), .bool (decide (cv ≤ bits BinOp.and IntKind.u64 v cm))] 4)).cell? ⟨w9.heap.size, no, none⟩ = some (.bool (C.heldB (no : Int) (C.an v cm) cv)) := ((V.blk_new w9 (bo (C.an v cm) cv).toArray 4).cell no).trans HBo.out
  have B10 := BX9.alloc BX9.size (Obj.cells #[.bool false, .bool (bits BinOp.and IntKind.u64 v cm == cv), .bool (bits BinOp.and IntKind.u64 v cm != cv), .bool (decide (bits BinOp.and IntKind.u64 v cm < cv)), .bool (decide (bits BinOp.and IntKind.u64 v cm ≤ cv)), .bool (decide (cv < bits BinOp.and IntKind.u64 v cm)), .bool (decide (cv ≤ bits BinOp.and IntKind.u64 v cm))] 4)
  have gi := (HK.out.over B10).cell 1
  have BZ : Hid (Below w.heap.size w (w9.alloc (Obj.cells #[.bool false, .bool (bits BinOp.and IntKind.u64 v cm == cv), .bool (bits BinOp.and IntKind.u64 v cm != cv), .bool (decide (bits BinOp.and IntKind.u64 v cm < cv)), .bool (decide (bits BinOp.and IntKind.u64 v cm ≤ cv)), .bool (decide (cv < bits BinOp.and IntKind.u64 v cm)), .bool (decide (cv ≤ bits BinOp.and IntKind.u64 v cm))] 4))) := HB.out.trans (B10.mono HB.out.size)
  have hn7 : (no : Int) < 7 := by omega
  clear g1 g2 g3 BX9 B10 HBo HK HB
  generalize (w9.alloc (Obj.cells #[.bool false, .bool (bits BinOp.and IntKind.u64 v cm == cv), .bool (bits BinOp.and IntKind.u64 v cm != cv), .bool (decide (bits BinOp.and IntKind.u64 v cm < cv)), .bool (decide (bits BinOp.and IntKind.u64 v cm ≤ cv)), .bool (decide (cv < bits BinOp.and IntKind.u64 v cm)), .bool (decide (cv ≤ bits BinOp.and IntKind.u64 v cm))] 4)) = X10 at *
  generalize C.heldB (no : Int) (C.an v cm) cv = hb at *
  cases hb with
  | true =>
    go_wp2_with fail
    go_ret
    exact ⟨rfl, BZ.out⟩
  | false =>
    go_wp2_with fail
    go_ret
    exact ⟨rfl, BZ.out⟩

theorem one_walk (w : World) (c : M.Xc) (v : Int) (hc : V.U64 c.mask ∧ V.U64 c.val) (hv : V.U64 v) :
    Calls Tryz.prog 8 #[Cv c, .int .u64 v] w fun e w' => e = .returned (.bool true) ∧ Below w.heap.size w w' := by
  cases h : M.condB c with
  | true => exact one_in w c v h hc.1 hc.2 hv
  | false => exact one_out w c v h

end Go.Proofs.YtpojlfenmanehaaGreat

