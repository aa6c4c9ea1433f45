/-
  Texts of this seat, joined: MDecide, MRDecide, MGath, MSrt0, MSrt1.
-/
import Derived.Test.YtcckipimfgmmdaaGreatDoorGv25
import Derived.Test.YtcckipimfgmmdaaGreatDoorGv24
import Derived.BigQuiet
import Derived.Test.YtcckipimfgmmdaaGreatDoorGv22
import Derived.Maps.OwnSet
import Derived.Sort.LotA
import Derived.Sort.LotB
import Derived.Sort.LotC
import Derived.BigRegion
import Derived.CellFam

namespace Go.Proofs.YtcckipimfgmmdaaGreatDoor.M
open Go.RowKit

def decA (d : Da) (k a : Int) (l : List Xl) : Int × Int := if (checkP k a l).1 = 0 then (if d.a = 3221225534 then verdP d k a l else (1, 0)) else (0, 0)
def decE (k a : Int) (l : List Xl) : Int := (checkP k a l).1

theorem results_row2 {fn : Func} {p u : Tmp} (h : fn.results = #[.cell p 36, .tmp u]) (tmps : Array Value) (w : World) (g : Nat) (l : List Value) (y : Value)
    (hp : tmps.getD p undef = .pointer (some ⟨g, 0, none⟩)) (hg : Blk w g 36 l) (hl : (Tryz.prog.info? 36).map (·.size) = some l.toArray.size) (hy : tmps.getD u undef = y) :
    (results fn tmps).run Tryz.prog w = .ok (.tuple #[.agg l.toArray, y]) w := by
  rw [results_cell_tmp h, hp, hy]
  simp [asAddr, run_loadVar_row w g 36 36 l.toArray (0, 0) _ hg Tryz.underlying36 rfl hl]

def decV (p : Int × Int) (e : Int) : Value := .tuple #[.agg (actV p), .int .i64 e]

set_option maxRecDepth 8000 in
set_option maxHeartbeats 2000000 in
theorem decide_any (w : World) (k a : Int) (v : Value) (l : List Xr) (d : Da) (h : RlR w v l) (hl : l.length ≤ 1000) (hs : ∀ x ∈ l, x.r.names.length ≤ 9000000 ∧ x.r.conds.length ≤ 9000000) (hd : d.ok) :
    Calls Tryz.prog 10 #[.agg #[.int .i64 k, .int .i64 a, v], .agg d.cells.toArray] w fun e w' => e = .returned (decV (decA d k a (l.map Xr.r)) (decE k a (l.map Xr.r))) ∧ Below w.heap.size w w' := by
  obtain ⟨p1, c1, rfl⟩ : ∃ p c, v = .slice p l.length c := by obtain ⟨p, c, e, _⟩ := h; exact ⟨p, c, e⟩
  have hsz : (Tryz.prog.info? 27).map (·.size) = some d.cells.toArray.size := d.size hd
  have hA1 : d.cells[1]? = some (.int .u32 d.a) := rfl
  have HC : Hid (∀ W, RlR W (.slice p1 l.length c1) l → Calls Tryz.prog 24 #[.agg #[.int .i64 k, .int .i64 a, .slice p1 l.length c1]] W fun e w' => e = .returned (.tuple #[.int .i64 (checkP k a (l.map Xr.r)).1, .int .i64 (checkP k a (l.map Xr.r)).2]) ∧ Below W.heap.size W w') := fun W h => check_any W k a _ l h hl hs
  have HV : Hid (∀ W, RlR W (.slice p1 l.length c1) l → Calls Tryz.prog 26 #[.agg #[.int .i64 k, .int .i64 a, .slice p1 l.length c1], .agg d.cells.toArray] W fun e w' => e = .returned (.agg (actV (verdP d k a (l.map Xr.r)))) ∧ Below W.heap.size W w') := fun W h => verdict_any W k a _ l d h hl hs hd
  have HA : Hid (decA d k a (l.map Xr.r) = if (checkP k a (l.map Xr.r)).1 = 0 then (if d.a = 3221225534 then verdP d k a (l.map Xr.r) else (1, 0)) else (0, 0)) := rfl
  have HE : Hid (decE k a (l.map Xr.r) = (checkP k a (l.map Xr.r)).1) := rfl
  have h3 := three_new w (Obj.cells #[.int .i64 k, .int .i64 a, .slice p1 l.length c1] 39) d.cells #[.int .i64 0, .int .i64 0]
  have h4 := three_first w d.cells #[.int .i64 0, .int .i64 0] #[.int .i64 k, .int .i64 a, .slice p1 l.length c1] 39
  generalize hAA : d.cells = A at *
  have BE : Hid (Below w.heap.size w (((w.alloc (Obj.cells #[.int .i64 k, .int .i64 a, .slice p1 l.length c1] 39)).alloc (Obj.cells A.toArray 27)).alloc (Obj.cells #[.int .i64 0, .int .i64 0] 36))) := h3.2.2
  have KD : Hid (Blk (((w.alloc (Obj.cells #[.int .i64 k, .int .i64 a, .slice p1 l.length c1] 39)).alloc (Obj.cells A.toArray 27)).alloc (Obj.cells #[.int .i64 0, .int .i64 0] 36)) (w.heap.size + 1) 27 A) := h3.1
  have KA : Hid (Blk (((w.alloc (Obj.cells #[.int .i64 k, .int .i64 a, .slice p1 l.length c1] 39)).alloc (Obj.cells A.toArray 27)).alloc (Obj.cells #[.int .i64 0, .int .i64 0] 36)) (w.heap.size + 1 + 1) 36 [.int .i64 0, .int .i64 0]) := h3.2.1
  have KR : Hid (Blk (((w.alloc (Obj.cells #[.int .i64 k, .int .i64 a, .slice p1 l.length c1] 39)).alloc (Obj.cells A.toArray 27)).alloc (Obj.cells #[.int .i64 0, .int .i64 0] 36)) w.heap.size 39 [.int .i64 k, .int .i64 a, .slice p1 l.length c1]) := h4
  have SN : Hid (RlR (((w.alloc (Obj.cells #[.int .i64 k, .int .i64 a, .slice p1 l.length c1] 39)).alloc (Obj.cells A.toArray 27)).alloc (Obj.cells #[.int .i64 0, .int .i64 0] 36)) (.slice p1 l.length c1) l) := h.below h3.2.2
  clear h hs hd h3 h4 hAA
  generalize decA d k a (l.map Xr.r) = RA at *
  generalize decE k a (l.map Xr.r) = RE at *
  generalize checkP k a (l.map Xr.r) = RC at *
  generalize hVV : verdP d k a (l.map Xr.r) = V at *
  obtain ⟨V1, V2⟩ := V
  clear hVV
  obtain ⟨c, cn⟩ := RC
  dsimp only at HC HA HE
  generalize d.a = ar at *
  rcases Bool.eq_false_or_eq_true (c == 0) with hq | hq
  · obtain rfl : c = 0 := by simpa using hq
    clear hq
    have HA2 : Hid (RA = if ar = 3221225534 then (V1, V2) else (1, 0)) := HA.out.trans (if_pos rfl)
    clear HA
    rcases Bool.eq_false_or_eq_true (ar == 3221225534) with hr | hr
    · obtain rfl : ar = 3221225534 := by simpa using hr
      have HA3 : Hid (RA = (V1, V2)) := HA2.out.trans (if_pos rfl)
      clear hr HA2
      go_enter Tryz.func10, Tryz.ntmps10
      go_wp2_with fail
      generalize (((w.alloc (Obj.cells #[.int .i64 k, .int .i64 a, .slice p1 l.length c1] 39)).alloc (Obj.cells A.toArray 27)).alloc (Obj.cells #[.int .i64 0, .int .i64 0] 36)) = X at *
      refine (HC.out _ SN.out).mono ?_
      rintro e w1 ⟨rfl, b1⟩
      have t0 : w1.cell? ⟨w.heap.size, 0, none⟩ = some (.int .i64 k) := (KR.out.over b1).cell 0
      have t1 : w1.cell? ⟨w.heap.size, 1, none⟩ = some (.int .i64 a) := (KR.out.over b1).cell 1
      have t2 : w1.cell? ⟨w.heap.size, 2, none⟩ = some (.slice p1 l.length c1) := (KR.out.over b1).cell 2
      have t3 : w1.cell? ⟨w.heap.size + 1, 1, none⟩ = some (.int .u32 3221225534) := ((KD.out.over b1).cell 1).trans hA1
      have KD1 : Hid (Blk w1 (w.heap.size + 1) 27 A) := KD.out.over b1
      have KA1 : Hid (Blk w1 (w.heap.size + 1 + 1) 36 [.int .i64 0, .int .i64 0]) := KA.out.over b1
      have S1 : Hid (RlR w1 (.slice p1 l.length c1) l) := SN.out.below b1
      have B1 : Hid (Below w.heap.size w w1) := BE.out.trans (b1.mono BE.out.size)
      clear b1 BE KA KR KD SN HC hA1
      go_wp2_with (first | (go_at_call 26; refine (HV.out _ S1.out).mono ?_; rintro e w2 ⟨rfl, b2⟩; have KA2 : Hid (Blk w2 (w.heap.size + 1 + 1) 36 [.int .i64 0, .int .i64 0]) := KA1.out.over b2; have B2 : Hid (Below w.heap.size w w2) := B1.out.trans (b2.mono B1.out.size); clear b2) | (refine at_op (.load 27 (.tmp 3)) rfl ?_; refine wpList_load_row rfl 27 (.tmp 3) rfl (w.heap.size + 1) rfl 27 A.toArray (0, 0) _ KD1.out Tryz.underlying27 rfl hsz ?_) | (refine at_op (.store 36 (.tmp 4) (.tmp 23)) rfl ?_; refine wpList_store_row rfl 36 (.tmp 4) (.tmp 23) rfl (w.heap.size + 1 + 1) (actV (V1, V2)) rfl rfl 36 _ KA2.out (Tryz.sizeA _) rfl (actV_one _) ?_))
      refine bodyPost_ret (v := decV (V1, V2) 0) ?_ rfl ⟨by rw [HA3.out, HE.out], ?_⟩
      · exact results_row2 Tryz.results10 _ _ (w.heap.size + 1 + 1) (actV (V1, V2)).toList _ rfl (Blk.row KA2.out _) (Tryz.sizeA _) rfl
      · exact below_setRow B2.out (by omega) _
    · have hn : ¬ ar = 3221225534 := by simpa using hr
      have hn' : (ar != 3221225534) = true := by simpa using hn
      have HA3 : Hid (RA = (1, 0)) := HA2.out.trans (if_neg hn)
      clear HA2
      go_enter Tryz.func10, Tryz.ntmps10
      go_wp2_with fail
      generalize (((w.alloc (Obj.cells #[.int .i64 k, .int .i64 a, .slice p1 l.length c1] 39)).alloc (Obj.cells A.toArray 27)).alloc (Obj.cells #[.int .i64 0, .int .i64 0] 36)) = X at *
      refine (HC.out _ SN.out).mono ?_
      rintro e w1 ⟨rfl, b1⟩
      have t3 : w1.cell? ⟨w.heap.size + 1, 1, none⟩ = some (.int .u32 ar) := ((KD.out.over b1).cell 1).trans hA1
      have KA1 : Hid (Blk w1 (w.heap.size + 1 + 1) 36 [.int .i64 0, .int .i64 0]) := KA.out.over b1
      have B1 : Hid (Below w.heap.size w w1) := BE.out.trans (b1.mono BE.out.size)
      clear b1 BE KA KR KD SN HC hA1 HV
      go_wp2_with (refine at_op (.store 36 (.tmp 4) (.tmp 20)) rfl ?_; refine wpList_store_row rfl 36 (.tmp 4) (.tmp 20) rfl (w.heap.size + 1 + 1) (actV (1, 0)) rfl rfl 36 _ KA1.out (Tryz.sizeA _) rfl (actV_one _) ?_)
      refine bodyPost_ret (v := decV (1, 0) 0) ?_ rfl ⟨by rw [HA3.out, HE.out], ?_⟩
      · exact results_row2 Tryz.results10 _ _ (w.heap.size + 1 + 1) (actV (1, 0)).toList _ rfl (Blk.row KA1.out _) (Tryz.sizeA _) rfl
      · exact below_setRow B1.out (by omega) _
  · have hn : ¬ c = 0 := by simpa using hq
    have hn' : (c != 0) = true := by simpa using hn
    have HA2 : Hid (RA = (0, 0)) := HA.out.trans (if_neg hn)
    clear HA
    go_enter Tryz.func10, Tryz.ntmps10
    go_wp2_with fail
    generalize (((w.alloc (Obj.cells #[.int .i64 k, .int .i64 a, .slice p1 l.length c1] 39)).alloc (Obj.cells A.toArray 27)).alloc (Obj.cells #[.int .i64 0, .int .i64 0] 36)) = X at *
    refine (HC.out _ SN.out).mono ?_
    rintro e w1 ⟨rfl, b1⟩
    have KA1 : Hid (Blk w1 (w.heap.size + 1 + 1) 36 [.int .i64 0, .int .i64 0]) := KA.out.over b1
    have B1 : Hid (Below w.heap.size w w1) := BE.out.trans (b1.mono BE.out.size)
    clear b1 BE KA KR KD SN HC hA1 HV
    go_wp2_with (refine at_op (.store 36 (.tmp 4) (.tmp 15)) rfl ?_; refine wpList_store_row rfl 36 (.tmp 4) (.tmp 15) rfl (w.heap.size + 1 + 1) (actV (0, 0)) rfl rfl 36 _ KA1.out (Tryz.sizeA _) rfl (actV_one _) ?_)
    refine bodyPost_ret (v := decV (0, 0) c) ?_ rfl ⟨by rw [HA2.out, HE.out], ?_⟩
    · exact results_row2 Tryz.results10 _ _ (w.heap.size + 1 + 1) (actV (0, 0)).toList _ rfl (Blk.row KA1.out _) (Tryz.sizeA _) rfl
    · exact below_setRow B1.out (by omega) _

end Go.Proofs.YtcckipimfgmmdaaGreatDoor.M

namespace Go.Proofs.YtcckipimfgmmdaaGreatDoor.M
open Go.RowKit

theorem nine_of (d : Da) (h : d.ok) : ∃ d1 d2 d3 d4 d5 d6 d7 d8, d.cells = [.int .u32 d.n, d1, d2, d3, d4, d5, d6, d7, d8] := by
  obtain ⟨n, a, p, g⟩ := d
  obtain ⟨_, _, _, h6, _⟩ := h
  match g, h6 with
  | [g0, g1, g2, g3, g4, g5], _ => exact ⟨_, _, _, _, _, _, _, _, rfl⟩

end Go.Proofs.YtcckipimfgmmdaaGreatDoor.M

namespace Go.Proofs.YtcckipimfgmmdaaGreatDoor.M
open Go.RowKit Go.Maps

def litN (z : Int) : Lit := .int .u32 z
def Mp (w : World) (B : Nat) (acc : List Int) : Prop := w.ownsMap Tryz.prog 23 (unitElem (H := Unit)) B acc.length (setOf (.agg []) (acc.map litN))
theorem Mp.lt {w : World} {B : Nat} {acc : List Int} (h : Mp w B acc) : B < w.heap.size := by
  obtain ⟨es, c, h1, _⟩ := h
  exact lt_of_block h1
theorem Mp.over {w w' : World} {B : Nat} {acc : List Int} (h : Mp w B acc) (hb : Below w.heap.size w w') : Mp w' B acc := by
  have hl := h.lt
  obtain ⟨es, c, h1, h2⟩ := h
  exact ⟨es, c, by rw [hb.block B hl]; exact h1, h2⟩
theorem Mp.made (w : World) : Mp (w.alloc (.map #[] 0)) w.heap.size [] := World.ownsMap_made _ _ _ _

theorem Mp.put {w : World} {B : Nat} {acc : List Int} {z : Int} (h : w.ownsMap Tryz.prog 23 (unitElem (H := Unit)) B (acc.length + 1) ((setOf (.agg []) (acc.map litN)).put (litN z) (.agg []))) : Mp w B (acc ++ [z]) := by
  unfold Mp
  rw [List.map_append, List.length_append]
  show w.ownsMap Tryz.prog 23 (unitElem (H := Unit)) B (acc.length + 1) (setOf (.agg []) (acc.map litN ++ [litN z]))
  rw [setOf_snoc]
  exact h

set_option maxRecDepth 100000 in
theorem lawU : Keyed Tryz.prog 23 := int_keyed Tryz.underlying23
theorem nrI_wf (s : ByteArray) : (Lit.int .u32 (nrI s)).wf = true := by
  have ht : (tab.all fun p => decide (p.2 ≤ 317)) = true := by kernel_rfl
  unfold nrI nrOf
  cases hq : tab.find? fun p => eqS p.1 s with
  | none => rfl
  | some p =>
    have hm := List.mem_of_find?_eq_some hq
    have hp := of_decide_eq_true (List.all_eq_true.1 ht p hm)
    show (Lit.int .u32 ((p.2 : Nat) : Int)).wf = true
    simp [Lit.wf, IntKind.min, IntKind.max, IntKind.signed, IntKind.bits]
    omega

def nums (ns : List ByteArray) : List Int := (ns.filter knB).map nrI
def numsR (l : List Xr) : List Int := l.flatMap fun x => nums x.r.names
theorem nums_yes {ns : List ByteArray} {k : Nat} (h : k < ns.length) (hk : knB ns[k] = true) : nums (ns.take (k + 1)) = nums (ns.take k) ++ [nrI ns[k]] := by
  unfold nums
  rw [List.take_succ_eq_append_getElem h, List.filter_append, List.map_append, List.filter_cons_of_pos hk]
  rfl
theorem nums_no {ns : List ByteArray} {k : Nat} (h : k < ns.length) (hk : knB ns[k] = false) : nums (ns.take (k + 1)) = nums (ns.take k) := by
  unfold nums
  rw [List.take_succ_eq_append_getElem h, List.filter_append, List.filter_cons_of_neg (by simp [hk]), List.filter_nil, List.append_nil]
theorem nums_le (ns : List ByteArray) (k : Nat) : (nums (ns.take k)).length ≤ (nums ns).length := by
  have e : nums ns = nums (ns.take k) ++ nums (ns.drop k) := by
    unfold nums
    rw [← List.map_append, ← List.filter_append, List.take_append_drop]
  rw [e, List.length_append]
  omega
theorem numsR_step {l : List Xr} {i : Nat} (h : i < l.length) : numsR (l.take (i + 1)) = numsR (l.take i) ++ nums l[i].r.names := by
  unfold numsR
  rw [List.take_succ_eq_append_getElem h, List.flatMap_append, List.flatMap_cons, List.flatMap_nil, List.append_nil]
theorem numsR_le (l : List Xr) (i : Nat) : (numsR (l.take i)).length ≤ (numsR l).length := by
  have e : numsR l = numsR (l.take i) ++ numsR (l.drop i) := by
    unfold numsR
    rw [← List.flatMap_append, List.take_append_drop]
  rw [e, List.length_append]
  omega

def GthR (w : World) (l : List Xr) (e : Ending) (w' : World) : Prop := ∃ B, w.heap.size ≤ B ∧ e = .returned (.map (some B)) ∧ Mp w' B (numsR l) ∧ Below w.heap.size w w'

set_option maxRecDepth 100000 in
set_option maxHeartbeats 2000000 in
theorem gathered_any (w : World) (v : Value) (l : List Xr) (h : RlR w v l) (hl : l.length ≤ 1000) (hs : ∀ x ∈ l, x.r.names.length ≤ 9000000) (hN : (numsR l).length ≤ 9000000) :
    Calls Tryz.prog 86 #[v] w fun e w' => GthR w l e w' := by
  obtain ⟨p1, c1, rfl⟩ : ∃ p c, v = .slice p l.length c := by obtain ⟨p, c, e, _⟩ := h; exact ⟨p, c, e⟩
  have HNr : Hid (∀ s W, Calls Tryz.prog 122 #[.string s] W fun e w' => e = .returned (.tuple #[.int .u32 (nrI s), .bool (knB s)]) ∧ Below W.heap.size W w') := nr_any
  have HM : Hid (∀ x ∈ l, x.r.names.length ≤ 9000000) := hs
  have S0 : Hid (RlR w (.slice p1 l.length c1) l) := h
  have M0 : Hid (Mp (w.alloc (.map #[] 0)) w.heap.size []) := Mp.made w
  have B0 : Hid (Below w.heap.size w (w.alloc (.map #[] 0))) := below_new w _
  have HNN : Hid ((numsR l).length ≤ 9000000) := hN
  clear h hs hN
  have hmm := @run_makeMap Tryz.prog
  go_enter Tryz.func86, Tryz.ntmps86
  go_wp2_with fail
  clear hmm
  go_loopw [13] (fun vi wr => ∃ i : Nat, vi = .int .i64 i ∧ i ≤ l.length ∧ Mp wr w.heap.size (numsR (l.take i)) ∧ Below w.heap.size w wr) (fun vi _ => l.length - (intOf vi).toNat)
  case atStart => exact ⟨0, rfl, Nat.zero_le _, M0.out, B0.out⟩
  case round =>
    obtain ⟨i, rfl, hi, hmp, hb⟩ := hrel
    have HMP : Hid (Mp wr w.heap.size (numsR (l.take i))) := hmp
    have HB : Hid (Below w.heap.size w wr) := hb
    clear hmp
    by_cases hlt : i < l.length
    · have hi1 : (i : Int) < (l.length : Int) := by omega
      obtain ⟨b1, o1, rfl, e1⟩ := rlR_at (S0.out.below hb) hlt
      have hmem : l[i] ∈ l := List.getElem_mem hlt
      have HST : Hid (numsR (l.take (i + 1)) = numsR (l.take i) ++ nums l[i].r.names) := numsR_step hlt
      have HLE : Hid ((numsR (l.take (i + 1))).length ≤ 9000000) := Nat.le_trans (numsR_le l (i + 1)) HNN.out
      have HSR : Hid (∀ W, Below w.heap.size w W → StrR W l[i].vn l[i].r.names) := fun W hW => by
        obtain ⟨_, _, _, _, _, _, hr⟩ := S0.out.below hW
        exact (hr _ hmem).1
      have hln : l[i].r.names.length ≤ 9000000 := HM.out _ hmem
      obtain ⟨p3, c3, e3⟩ : ∃ p c, l[i].vn = .slice p l[i].r.names.length c := by obtain ⟨_, _, _, _, _, _, hr⟩ := S0.out; obtain ⟨p, c, e, _⟩ := (hr _ hmem).1; exact ⟨p, c, e⟩
      obtain ⟨p4, n4, c4, e4⟩ : ∃ p n c, l[i].vc = .slice p n c := by obtain ⟨_, _, _, _, _, _, hr⟩ := S0.out; obtain ⟨p, c, e, _⟩ := (hr _ hmem).2; exact ⟨p, _, c, e⟩
      clear hmem
      generalize l[i] = x at *
      obtain ⟨⟨xk, xa, ns, cs⟩, vn, vc⟩ := x
      obtain ⟨q0, q1, q2, q3⟩ := e1
      dsimp only at q0 q1 q2 q3 HST HSR hln e3 e4
      subst e3 e4
      have BE : Hid (Below w.heap.size w (wr.alloc (Obj.cells #[.int .i64 xk, .int .i64 xa, .slice p3 ns.length c3, .slice p4 n4 c4] 87))) := HB.out.alloc HB.out.size _
      have ME : Hid (Mp (wr.alloc (Obj.cells #[.int .i64 xk, .int .i64 xa, .slice p3 ns.length c3, .slice p4 n4 c4] 87)) w.heap.size (numsR (l.take i) ++ nums (ns.take 0))) := by
        show Mp _ _ _
        rw [show numsR (l.take i) ++ nums (ns.take 0) = numsR (l.take i) from by simp [nums]]
        exact HMP.out.over (below_new wr _)
      generalize numsR (l.take i) = acc at *
      clear hb
      go_wp2_with fail
      go_loopw [20] (fun vj wz => ∃ j : Nat, vj = .int .i64 j ∧ j ≤ ns.length ∧ Mp wz w.heap.size (acc ++ nums (ns.take j)) ∧ Below w.heap.size w wz) (fun vj _ => ns.length - (intOf vj).toNat)
      case atStart => exact ⟨0, rfl, Nat.zero_le _, ME.out, BE.out⟩
      case round =>
        obtain ⟨j, rfl, hj, hmp, hb⟩ := hrel
        have HMP2 : Hid (Mp wr w.heap.size (acc ++ nums (ns.take j))) := hmp
        have HB2 : Hid (Below w.heap.size w wr) := hb
        clear hmp
        by_cases hlt2 : j < ns.length
        · have hj1 : (j : Int) < (ns.length : Int) := by omega
          obtain ⟨b3, o3, rfl, e5⟩ := strR_at (HSR.out wr hb) hlt2
          have HX : Hid (∀ W, Calls Tryz.prog 122 #[.string ns[j]] W fun e w' => e = .returned (.tuple #[.int .u32 (nrI ns[j]), .bool (knB ns[j])]) ∧ Below W.heap.size W w') := HNr.out ns[j]
          have HY : Hid (knB ns[j] = true → nums (ns.take (j + 1)) = nums (ns.take j) ++ [nrI ns[j]]) := nums_yes hlt2
          have HZ : Hid (knB ns[j] = false → nums (ns.take (j + 1)) = nums (ns.take j)) := nums_no hlt2
          have hkey : keyOf Tryz.prog 23 (.int .u32 (nrI ns[j])) = some (litN (nrI ns[j])) := keyOf_int_mk Tryz.underlying23 (nrI_wf _)
          have hle : (acc ++ nums (ns.take j)).length ≤ 9000000 := by
            have c1 := HLE.out
            rw [HST.out, List.length_append] at c1
            have c2 := nums_le ns j
            rw [List.length_append]
            omega
          clear hb
          generalize knB ns[j] = q at *
          generalize nrI ns[j] = z at *
          generalize ns[j] = s at *
          cases q with
          | true =>
            go_wp2_with (first | (go_at_call 122; refine (HX.out _).mono ?_; rintro e w1 ⟨rfl, b1⟩) | (at_mapUpdate; refine wpList_mapUpdate_own _ rfl _ _ _ 160 rfl 23 195 lawU Tryz.underlying160 (unitElem (H := Unit)) w.heap.size (acc ++ nums (ns.take j)).length _ rfl (HMP2.out.over b1) (by unfold maxLen; omega) _ _ _ rfl rfl hkey _ [] unitElem_mk ?_; intro w2 hown2 hgrow2) | go_in)
            have hB1 := HB2.out.trans (b1.mono HB2.out.size)
            exact ⟨⟨j + 1, by go_num, hlt2, by rw [HY.out trivial, ← List.append_assoc]; exact Mp.put hown2, hB1.grown hgrow2 hB1.size (fun j hj => by cases hj; exact Nat.le_refl _)⟩, by simp [intOf]; omega⟩
          | false =>
            go_wp2_with (first | (go_at_call 122; refine (HX.out _).mono ?_; rintro e w1 ⟨rfl, b1⟩))
            go_roundw
            case rel => exact ⟨j + 1, by go_num, hlt2, by rw [HZ.out trivial]; exact HMP2.out.over b1, HB2.out.trans (b1.mono HB2.out.size)⟩
            case measure => simp [intOf]; omega
        · have hj1 : ¬ (j : Int) < (ns.length : Int) := by omega
          have HE : Hid (Mp wr w.heap.size (numsR (l.take (i + 1)))) := by
            show Mp _ _ _
            rw [HST.out]
            have := HMP2.out
            rw [List.take_of_length_le (by omega)] at this
            exact this
          clear hb
          go_wp2_with fail
          go_roundw
          case rel => exact ⟨i + 1, by go_num, hlt, HE.out, HB2.out⟩
          case measure => simp [intOf]; omega
    · have hi1 : ¬ (i : Int) < (l.length : Int) := by omega
      clear hb
      go_wp2_with fail
      go_ret
      exact ⟨w.heap.size, Nat.le_refl _, rfl, by have := HMP.out; rw [List.take_of_length_le (by omega)] at this; exact this, HB.out⟩

end Go.Proofs.YtcckipimfgmmdaaGreatDoor.M

namespace Go.Proofs.YtcckipimfgmmdaaGreatDoor.M
open Go.RowKit

def ltZ (x y : Int) : Bool := decide (x < y)
theorem swoZ : Go.Sort.SWO ltZ where
  irrefl x := decide_eq_false (by omega)
  trans x y z h1 h2 := by have := of_decide_eq_true h1; have := of_decide_eq_true h2; exact decide_eq_true (by omega)
  ntrans x y z h1 h2 := by have := of_decide_eq_false h1; have := of_decide_eq_false h2; exact decide_eq_false (by omega)

def cellsA (d : Array Int) : List Value := d.toList.map (Value.int .u32)

structure Sw (w0 : World) (g : Nat) (tl : List Value) (d : Array Int) (X : World) : Prop where
  blk : Blk X g 23 (cellsA d ++ tl)
  grow : w0.grownBy X (some g)

theorem cellsA_at (d : Array Int) (tl : List Value) (i : Nat) (h : i < d.size) : (cellsA d ++ tl)[i]? = some (.int .u32 d[i]!) := by
  unfold cellsA
  rw [List.getElem?_append_left (by simpa using h), List.getElem?_map, getElem!_pos d i h]
  simp [h]
theorem cellsA_len (d : Array Int) : (cellsA d).length = d.size := by simp [cellsA]
theorem cellsA_set (d : Array Int) (tl : List Value) (i : Nat) (x : Int) (h : i < d.size) : (cellsA d ++ tl).set i (.int .u32 x) = cellsA (d.setIfInBounds i x) ++ tl := by
  rw [List.set_append_left _ _ (by rw [cellsA_len]; exact h)]
  unfold cellsA
  rw [← List.map_set, Array.toList_setIfInBounds]

section
variable {w0 w1 X Y : World} {g : Nat} {tl : List Value} {d d' : Array Int}
theorem Sw.refl (h : Blk X g 23 (cellsA d ++ tl)) : Sw X g tl d X := ⟨h, ⟨rfl, rfl, rfl, Nat.le_refl _, fun _ _ _ => rfl⟩⟩
theorem Sw.cell (h : Sw w0 g tl d X) (i : Nat) (hi : i < d.size) : X.cell? ⟨g, i, none⟩ = some (.int .u32 d[i]!) := (h.blk.cell i).trans (cellsA_at d tl i hi)
theorem Sw.f (h : Sw w0 g tl d X) (i : Nat) : X.frozen? ⟨g, i, none⟩ = false := h.blk.f i
theorem Sw.set (h : Sw w0 g tl d X) (i : Nat) (x : Int) (hi : i < d.size) : Sw w0 g tl (d.setIfInBounds i x) (X.setCell ⟨g, i, none⟩ (.int .u32 x)) := by
  refine ⟨?_, h.grow.os, h.grow.tape, h.grow.output, by have := h.grow.size; simpa using this, fun k hk hn => ?_⟩
  · rw [← cellsA_set d tl i x hi]
    exact h.blk.set i _
  · rw [heap_setCell_other X ⟨g, i, none⟩ k _ (fun e => hn (by rw [e]))]
    exact h.grow.block k hk hn
theorem Sw.swap (h : Sw w0 g tl d X) (i j : Nat) (hi : i < d.size) (hj : j < d.size) : Sw w0 g tl (Go.Sort.swp d i j) ((X.setCell ⟨g, i, none⟩ (.int .u32 d[j]!)).setCell ⟨g, j, none⟩ (.int .u32 d[i]!)) :=
  (h.set i _ hi).set j _ (by simpa using hj)
theorem Sw.drew (h : Sw w0 g tl d X) : Sw w0 g tl d X.drew := ⟨h.blk, h.grow.os, h.grow.tape, h.grow.output, h.grow.size, h.grow.block⟩
theorem Sw.drewN (h : Sw w0 g tl d X) (n : Nat) : Sw w0 g tl d (X.drewN n) := by
  induction n with
  | zero => exact h
  | succ n ih => exact ih.drew
theorem Sw.over (h : Sw w0 g tl d X) (hb : Below X.heap.size X Y) : Sw w0 g tl d Y :=
  ⟨h.blk.over hb, hb.os.trans h.grow.os, hb.tape.trans h.grow.tape, hb.output.trans h.grow.output, Nat.le_trans h.grow.size hb.size, fun k hk hn => (hb.block k (Nat.lt_of_lt_of_le hk h.grow.size)).trans (h.grow.block k hk hn)⟩
theorem Sw.trans (h : Sw w0 g tl d X) (h' : Sw X g tl d' Y) : Sw w0 g tl d' Y :=
  ⟨h'.blk, h'.grow.os.trans h.grow.os, h'.grow.tape.trans h.grow.tape, h'.grow.output.trans h.grow.output, Nat.le_trans h.grow.size h'.grow.size, fun k hk hn => (h'.grow.block k (Nat.lt_of_lt_of_le hk h.grow.size) hn).trans (h.grow.block k hk hn)⟩
end

theorem isNaN_any (x : Int) (w : World) : Calls Tryz.prog 166 #[.int .u32 x] w fun e w' => e = .returned (.bool false) ∧ w' = w := by
  go_enter Tryz.func166, Tryz.ntmps166
  go_wp2
  go_ret
  exact ⟨ret_bool (by simp), rfl⟩

theorem lessU_any (x y : Int) (w : World) : Calls Tryz.prog 147 #[.int .u32 x, .int .u32 y] w fun e w' => e = .returned (.bool (ltZ x y)) ∧ w' = w := by
  go_enter Tryz.func147, Tryz.ntmps147
  go_wp2_with (go_at_call 166; refine (isNaN_any _ _).mono ?_; rintro e w1 ⟨rfl, rfl⟩)
  go_ret
  exact ⟨rfl, rfl⟩

end Go.Proofs.YtcckipimfgmmdaaGreatDoor.M

namespace Go.Proofs.YtcckipimfgmmdaaGreatDoor.M
open Go.RowKit
open Go.Sort (insInner insOuter swp size_swp)

theorem insI_go {a j : Nat} {d : Array Int} (h : a < j) (hl : ltZ d[j]! d[j - 1]! = true) : insInner ltZ a j d = insInner ltZ a (j - 1) (swp d j (j - 1)) := by
  obtain ⟨m, rfl⟩ : ∃ m, j = m + 1 := ⟨j - 1, by omega⟩
  show (if (decide (m + 1 > a) && ltZ d[m + 1]! d[m]!) = true then _ else _) = _
  rw [if_pos]
  · rfl
  · rw [decide_eq_true (by omega)]
    exact hl
theorem insI_stop {a j : Nat} {d : Array Int} (h : j ≤ a ∨ ltZ d[j]! d[j - 1]! = false) : insInner ltZ a j d = d := by
  cases j with
  | zero => rfl
  | succ m =>
    show (if (decide (m + 1 > a) && ltZ d[m + 1]! d[m]!) = true then _ else _) = _
    rw [if_neg]
    rcases h with h | h
    · rw [decide_eq_false (by omega)]; simp
    · simp only [Nat.add_sub_cancel] at h
      rw [h]; simp
theorem insO_go {a b i : Nat} {d : Array Int} (h : i < b) : insOuter ltZ a b i d = insOuter ltZ a b (i + 1) (insInner ltZ a i d) := by
  rw [insOuter, if_pos h]
theorem insO_stop {a b i : Nat} {d : Array Int} (h : ¬ i < b) : insOuter ltZ a b i d = d := by
  rw [insOuter, if_neg h]

set_option maxHeartbeats 4000000 in
set_option maxRecDepth 8000 in
theorem ins_any (g n cap a b : Nat) (tl : List Value) (d : Array Int) (w : World) (h : Blk w g 23 (cellsA d ++ tl)) (hd : d.size = n) (hab : a ≤ b) (hb : b ≤ n) (hn : n ≤ 1000) :
    Calls Tryz.prog 141 #[.slice (some ⟨g, 0, none⟩) n cap, .int .i64 a, .int .i64 b] w fun e w' => e = .returned (.tuple #[]) ∧ Sw w g tl (Go.Sort.insertionSort ltZ d a b) w' := by
  have S0 : Hid (Sw w g tl d w) := Sw.refl h
  have HLs : Hid (∀ x y W, Calls Tryz.prog 147 #[.int .u32 x, .int .u32 y] W fun e w' => e = .returned (.bool (ltZ x y)) ∧ w' = W) := lessU_any
  clear h
  go_enter Tryz.func141, Tryz.ntmps141
  go_wp2
  go_loopw [6] (fun vi wr => ∃ (i : Nat) (dk : Array Int), vi = .int .i64 i ∧ a < i ∧ i ≤ b + 1 ∧ dk.size = n ∧ Sw w g tl dk wr ∧ insOuter ltZ a b i dk = insOuter ltZ a b (a + 1) d) (fun vi _ => b + 1 - (intOf vi).toNat)
  case atStart => exact ⟨a + 1, d, by go_num, by omega, by omega, hd, S0.out, rfl⟩
  case round =>
    obtain ⟨i, dk, rfl, hai, hib, hsk, hsw, hO⟩ := hrel
    have HO : Hid (insOuter ltZ a b i dk = insOuter ltZ a b (a + 1) d) := hO
    have S1 : Hid (Sw w g tl dk wr) := hsw
    clear hO hsw
    by_cases hlt : i < b
    · have hi1 : (i : Int) < (b : Int) := by omega
      go_wp2_with fail
      go_loopw [7] (fun vj wz => ∃ (j : Nat) (dj : Array Int), vj = .int .i64 j ∧ a ≤ j ∧ j ≤ i ∧ dj.size = n ∧ Sw w g tl dj wz ∧ insInner ltZ a j dj = insInner ltZ a i dk) (fun vj _ => (intOf vj).toNat)
      case atStart => exact ⟨i, dk, rfl, by omega, Nat.le_refl _, hsk, S1.out, rfl⟩
      case round =>
        obtain ⟨j, dj, rfl, haj, hji, hsj, hsw, hI⟩ := hrel
        have HI : Hid (insInner ltZ a j dj = insInner ltZ a i dk) := hI
        have S2 : Hid (Sw w g tl dj wr) := hsw
        have HOUT : Hid ((j ≤ a ∨ ltZ dj[j]! dj[j - 1]! = false) → insOuter ltZ a b (i + 1) dj = insOuter ltZ a b (a + 1) d) := fun hs => by
          rw [← HO.out, insO_go hlt, ← HI.out, insI_stop hs]
        clear hI
        by_cases hja : a < j
        · have hja1 : decide ((a : Int) < (j : Int)) = true := decide_eq_true (by omega)
          have hja2 : (a : Int) < (j : Int) := by omega
          have hjn : (j : Int) < (n : Int) := by omega
          have cj : wr.cell? ⟨g, j, none⟩ = some (.int .u32 dj[j]!) := hsw.cell j (by omega)
          have ck : wr.cell? ⟨g, j - 1, none⟩ = some (.int .u32 dj[j - 1]!) := hsw.cell (j - 1) (by omega)
          have fj : wr.frozen? ⟨g, j, none⟩ = false := hsw.f j
          have fk : wr.frozen? ⟨g, j - 1, none⟩ = false := hsw.f (j - 1)
          have SZ : Hid (∀ m, Sw w g tl (swp dj j (j - 1)) (((wr.drewN m).setCell ⟨g, j, none⟩ (.int .u32 dj[j - 1]!)).setCell ⟨g, j - 1, none⟩ (.int .u32 dj[j]!))) := fun m => (hsw.drewN m).swap j (j - 1) (by omega) (by omega)
          have HGO : Hid (ltZ dj[j]! dj[j - 1]! = true → insInner ltZ a (j - 1) (swp dj j (j - 1)) = insInner ltZ a i dk) := fun hl => by rw [← HI.out, insI_go hja hl]
          clear hsw
          generalize dj[j]! = xj at *
          generalize dj[j - 1]! = xk at *
          rcases Bool.eq_false_or_eq_true (ltZ xj xk) with hl | hl
          · have HQ : Hid (∀ W, Calls Tryz.prog 147 #[.int .u32 xj, .int .u32 xk] W fun e w' => e = .returned (.bool true) ∧ w' = W) := fun W => hl ▸ lessU_any xj xk W
            go_wp2_with fail
            go_quiet ((go_at_call 147; refine Calls.quiet_of_same (HQ.out _)))
            go_wp2_with fail
            go_big_region
            go_wp2_with fail
            go_roundw
            case rel => exact ⟨j - 1, swp dj j (j - 1), by congr 1; omega, by omega, by omega, by rw [size_swp]; exact hsj, SZ.out _, HGO.out hl⟩
            case measure => simp [intOf]; omega
          · have HQ : Hid (∀ W, Calls Tryz.prog 147 #[.int .u32 xj, .int .u32 xk] W fun e w' => e = .returned (.bool false) ∧ w' = W) := fun W => hl ▸ lessU_any xj xk W
            go_wp2_with fail
            go_quiet ((go_at_call 147; refine Calls.quiet_of_same (HQ.out _)))
            go_wp2_with fail
            go_roundw
            case rel => exact ⟨i + 1, dj, by go_num, by omega, by omega, hsj, S2.out.drewN _, HOUT.out (.inr hl)⟩
            case measure => simp [intOf]; omega
        · have hja1 : decide ((a : Int) < (j : Int)) = false := decide_eq_false (by omega)
          have hja2 : ¬ (a : Int) < (j : Int) := by omega
          clear hsw
          go_wp2_with fail
          go_quiet (fail)
          go_wp2_with fail
          go_roundw
          case rel => exact ⟨i + 1, dj, by go_num, by omega, by omega, hsj, S2.out.drewN _, HOUT.out (.inl (by omega))⟩
          case measure => simp [intOf]; omega
    · have hge : ¬ (i : Int) < (b : Int) := by omega
      go_wp2_with fail
      go_end0
      exact ⟨rfl, by unfold Go.Sort.insertionSort; rw [← HO.out, insO_stop hlt]; exact S1.out⟩

end Go.Proofs.YtcckipimfgmmdaaGreatDoor.M
