/-
  What Decide tells of any rules and call.
-/
import Derived.Test.YtcckipimfgmmdaaGreatDoorMDec
namespace Go.Proofs.YtcckipimfgmmdaaGreatDoor.M
open Go.RowKit

/-- what rules say of a call: the act, and the error. -/
def decA (d : Da) (k a : Int) (l : List Xl) : Int × Int := if (checkP k a l).1 = 0 then (if d.a = 3221225534 then verdP d k a l else (1, 0)) else (0, 0)
def decE (k a : Int) (l : List Xl) : Int := (checkP k a l).1

theorem results_row2 {fn : Func} {p u : Tmp} (h : fn.results = #[.cell p 36, .tmp u]) (tmps : Array Value) (w : World) (g : Nat) (l : List Value) (y : Value)
    (hp : tmps.getD p undef = .pointer (some ⟨g, 0, none⟩)) (hg : Blk w g 36 l) (hl : (Tryz.prog.info? 36).map (·.size) = some l.toArray.size) (hy : tmps.getD u undef = y) :
    (results fn tmps).run Tryz.prog w = .ok (.tuple #[.agg l.toArray, y]) w := by
  rw [results_cell_tmp h, hp, hy]
  simp [asAddr, run_loadVar_row w g 36 36 l.toArray (0, 0) _ hg Tryz.underlying36 rfl hl]

/-- a call of Decide, as a value. -/
def decV (p : Int × Int) (e : Int) : Value := .tuple #[.agg (actV p), .int .i64 e]

set_option maxRecDepth 8000 in
set_option maxHeartbeats 2000000 in
theorem decide_any (w : World) (k a : Int) (v : Value) (l : List Xr) (d : Da) (h : RlR w v l) (hl : l.length ≤ 1000) (hs : ∀ x ∈ l, x.r.names.length ≤ 9000000 ∧ x.r.conds.length ≤ 9000000) (hd : d.ok) :
    Calls Tryz.prog 10 #[.agg #[.int .i64 k, .int .i64 a, v], .agg d.cells.toArray] w fun e w' => e = .returned (decV (decA d k a (l.map Xr.r)) (decE k a (l.map Xr.r))) ∧ Below w.heap.size w w' := by
  obtain ⟨p1, c1, rfl⟩ : ∃ p c, v = .slice p l.length c := by obtain ⟨p, c, e, _⟩ := h; exact ⟨p, c, e⟩
  have hsz : (Tryz.prog.info? 27).map (·.size) = some d.cells.toArray.size := d.size hd
  have hA1 : d.cells[1]? = some (.int .u32 d.a) := rfl
  have HC : Hid (∀ W, RlR W (.slice p1 l.length c1) l → Calls Tryz.prog 24 #[.agg #[.int .i64 k, .int .i64 a, .slice p1 l.length c1]] W fun e w' => e = .returned (.tuple #[.int .i64 (checkP k a (l.map Xr.r)).1, .int .i64 (checkP k a (l.map Xr.r)).2]) ∧ Below W.heap.size W w') := fun W h => check_any W k a _ l h hl hs
  have HV : Hid (∀ W, RlR W (.slice p1 l.length c1) l → Calls Tryz.prog 26 #[.agg #[.int .i64 k, .int .i64 a, .slice p1 l.length c1], .agg d.cells.toArray] W fun e w' => e = .returned (.agg (actV (verdP d k a (l.map Xr.r)))) ∧ Below W.heap.size W w') := fun W h => verdict_any W k a _ l d h hl hs hd
  have HA : Hid (decA d k a (l.map Xr.r) = if (checkP k a (l.map Xr.r)).1 = 0 then (if d.a = 3221225534 then verdP d k a (l.map Xr.r) else (1, 0)) else (0, 0)) := rfl
  have HE : Hid (decE k a (l.map Xr.r) = (checkP k a (l.map Xr.r)).1) := rfl
  have h3 := three_new w (Obj.cells #[.int .i64 k, .int .i64 a, .slice p1 l.length c1] 39) d.cells #[.int .i64 0, .int .i64 0]
  have h4 := three_first w d.cells #[.int .i64 0, .int .i64 0] #[.int .i64 k, .int .i64 a, .slice p1 l.length c1] 39
  generalize hAA : d.cells = A at *
  have BE : Hid (Below w.heap.size w (((w.alloc (Obj.cells #[.int .i64 k, .int .i64 a, .slice p1 l.length c1] 39)).alloc (Obj.cells A.toArray 27)).alloc (Obj.cells #[.int .i64 0, .int .i64 0] 36))) := h3.2.2
  have KD : Hid (Blk (((w.alloc (Obj.cells #[.int .i64 k, .int .i64 a, .slice p1 l.length c1] 39)).alloc (Obj.cells A.toArray 27)).alloc (Obj.cells #[.int .i64 0, .int .i64 0] 36)) (w.heap.size + 1) 27 A) := h3.1
  have KA : Hid (Blk (((w.alloc (Obj.cells #[.int .i64 k, .int .i64 a, .slice p1 l.length c1] 39)).alloc (Obj.cells A.toArray 27)).alloc (Obj.cells #[.int .i64 0, .int .i64 0] 36)) (w.heap.size + 1 + 1) 36 [.int .i64 0, .int .i64 0]) := h3.2.1
  have KR : Hid (Blk (((w.alloc (Obj.cells #[.int .i64 k, .int .i64 a, .slice p1 l.length c1] 39)).alloc (Obj.cells A.toArray 27)).alloc (Obj.cells #[.int .i64 0, .int .i64 0] 36)) w.heap.size 39 [.int .i64 k, .int .i64 a, .slice p1 l.length c1]) := h4
  have SN : Hid (RlR (((w.alloc (Obj.cells #[.int .i64 k, .int .i64 a, .slice p1 l.length c1] 39)).alloc (Obj.cells A.toArray 27)).alloc (Obj.cells #[.int .i64 0, .int .i64 0] 36)) (.slice p1 l.length c1) l) := h.below h3.2.2
  clear h hs hd h3 h4 hAA
  generalize decA d k a (l.map Xr.r) = RA at *
  generalize decE k a (l.map Xr.r) = RE at *
  generalize checkP k a (l.map Xr.r) = RC at *
  generalize hVV : verdP d k a (l.map Xr.r) = V at *
  obtain ⟨V1, V2⟩ := V
  clear hVV
  obtain ⟨c, cn⟩ := RC
  dsimp only at HC HA HE
  generalize d.a = ar at *
  rcases Bool.eq_false_or_eq_true (c == 0) with hq | hq
  · obtain rfl : c = 0 := by simpa using hq
    clear hq
    have HA2 : Hid (RA = if ar = 3221225534 then (V1, V2) else (1, 0)) := HA.out.trans (if_pos rfl)
    clear HA
    rcases Bool.eq_false_or_eq_true (ar == 3221225534) with hr | hr
    · obtain rfl : ar = 3221225534 := by simpa using hr
      have HA3 : Hid (RA = (V1, V2)) := HA2.out.trans (if_pos rfl)
      clear hr HA2
      go_enter Tryz.func10, Tryz.ntmps10
      go_wp2_with fail
      generalize (((w.alloc (Obj.cells #[.int .i64 k, .int .i64 a, .slice p1 l.length c1] 39)).alloc (Obj.cells A.toArray 27)).alloc (Obj.cells #[.int .i64 0, .int .i64 0] 36)) = X at *
      refine (HC.out _ SN.out).mono ?_
      rintro e w1 ⟨rfl, b1⟩
      have t0 : w1.cell? ⟨w.heap.size, 0, none⟩ = some (.int .i64 k) := (KR.out.over b1).cell 0
      have t1 : w1.cell? ⟨w.heap.size, 1, none⟩ = some (.int .i64 a) := (KR.out.over b1).cell 1
      have t2 : w1.cell? ⟨w.heap.size, 2, none⟩ = some (.slice p1 l.length c1) := (KR.out.over b1).cell 2
      have t3 : w1.cell? ⟨w.heap.size + 1, 1, none⟩ = some (.int .u32 3221225534) := ((KD.out.over b1).cell 1).trans hA1
      have KD1 : Hid (Blk w1 (w.heap.size + 1) 27 A) := KD.out.over b1
      have KA1 : Hid (Blk w1 (w.heap.size + 1 + 1) 36 [.int .i64 0, .int .i64 0]) := KA.out.over b1
      have S1 : Hid (RlR w1 (.slice p1 l.length c1) l) := SN.out.below b1
      have B1 : Hid (Below w.heap.size w w1) := BE.out.trans (b1.mono BE.out.size)
      clear b1 BE KA KR KD SN HC hA1
      go_wp2_with (first | (go_at_call 26; refine (HV.out _ S1.out).mono ?_; rintro e w2 ⟨rfl, b2⟩; have KA2 : Hid (Blk w2 (w.heap.size + 1 + 1) 36 [.int .i64 0, .int .i64 0]) := KA1.out.over b2; have B2 : Hid (Below w.heap.size w w2) := B1.out.trans (b2.mono B1.out.size); clear b2) | (refine at_op (.load 27 (.tmp 3)) rfl ?_; refine wpList_load_row rfl 27 (.tmp 3) rfl (w.heap.size + 1) rfl 27 A.toArray (0, 0) _ KD1.out Tryz.underlying27 rfl hsz ?_) | (refine at_op (.store 36 (.tmp 4) (.tmp 23)) rfl ?_; refine wpList_store_row rfl 36 (.tmp 4) (.tmp 23) rfl (w.heap.size + 1 + 1) (actV (V1, V2)) rfl rfl 36 _ KA2.out (Tryz.sizeA _) rfl (actV_one _) ?_))
      refine bodyPost_ret (v := decV (V1, V2) 0) ?_ rfl ⟨by rw [HA3.out, HE.out], ?_⟩
      · exact results_row2 Tryz.results10 _ _ (w.heap.size + 1 + 1) (actV (V1, V2)).toList _ rfl (Blk.row KA2.out _) (Tryz.sizeA _) rfl
      · exact below_setRow B2.out (by omega) _
    · have hn : ¬ ar = 3221225534 := by simpa using hr
      have hn' : (ar != 3221225534) = true := by simpa using hn
      have HA3 : Hid (RA = (1, 0)) := HA2.out.trans (if_neg hn)
      clear HA2
      go_enter Tryz.func10, Tryz.ntmps10
      go_wp2_with fail
      generalize (((w.alloc (Obj.cells #[.int .i64 k, .int .i64 a, .slice p1 l.length c1] 39)).alloc (Obj.cells A.toArray 27)).alloc (Obj.cells #[.int .i64 0, .int .i64 0] 36)) = X at *
      refine (HC.out _ SN.out).mono ?_
      rintro e w1 ⟨rfl, b1⟩
      have t3 : w1.cell? ⟨w.heap.size + 1, 1, none⟩ = some (.int .u32 ar) := ((KD.out.over b1).cell 1).trans hA1
      have KA1 : Hid (Blk w1 (w.heap.size + 1 + 1) 36 [.int .i64 0, .int .i64 0]) := KA.out.over b1
      have B1 : Hid (Below w.heap.size w w1) := BE.out.trans (b1.mono BE.out.size)
      clear b1 BE KA KR KD SN HC hA1 HV
      go_wp2_with (refine at_op (.store 36 (.tmp 4) (.tmp 20)) rfl ?_; refine wpList_store_row rfl 36 (.tmp 4) (.tmp 20) rfl (w.heap.size + 1 + 1) (actV (1, 0)) rfl rfl 36 _ KA1.out (Tryz.sizeA _) rfl (actV_one _) ?_)
      refine bodyPost_ret (v := decV (1, 0) 0) ?_ rfl ⟨by rw [HA3.out, HE.out], ?_⟩
      · exact results_row2 Tryz.results10 _ _ (w.heap.size + 1 + 1) (actV (1, 0)).toList _ rfl (Blk.row KA1.out _) (Tryz.sizeA _) rfl
      · exact below_setRow B1.out (by omega) _
  · have hn : ¬ c = 0 := by simpa using hq
    have hn' : (c != 0) = true := by simpa using hn
    have HA2 : Hid (RA = (0, 0)) := HA.out.trans (if_neg hn)
    clear HA
    go_enter Tryz.func10, Tryz.ntmps10
    go_wp2_with fail
    generalize (((w.alloc (Obj.cells #[.int .i64 k, .int .i64 a, .slice p1 l.length c1] 39)).alloc (Obj.cells A.toArray 27)).alloc (Obj.cells #[.int .i64 0, .int .i64 0] 36)) = X at *
    refine (HC.out _ SN.out).mono ?_
    rintro e w1 ⟨rfl, b1⟩
    have KA1 : Hid (Blk w1 (w.heap.size + 1 + 1) 36 [.int .i64 0, .int .i64 0]) := KA.out.over b1
    have B1 : Hid (Below w.heap.size w w1) := BE.out.trans (b1.mono BE.out.size)
    clear b1 BE KA KR KD SN HC hA1 HV
    go_wp2_with (refine at_op (.store 36 (.tmp 4) (.tmp 15)) rfl ?_; refine wpList_store_row rfl 36 (.tmp 4) (.tmp 15) rfl (w.heap.size + 1 + 1) (actV (0, 0)) rfl rfl 36 _ KA1.out (Tryz.sizeA _) rfl (actV_one _) ?_)
    refine bodyPost_ret (v := decV (0, 0) c) ?_ rfl ⟨by rw [HA2.out, HE.out], ?_⟩
    · exact results_row2 Tryz.results10 _ _ (w.heap.size + 1 + 1) (actV (0, 0)).toList _ rfl (Blk.row KA1.out _) (Tryz.sizeA _) rfl
    · exact below_setRow B1.out (by omega) _

end Go.Proofs.YtcckipimfgmmdaaGreatDoor.M
