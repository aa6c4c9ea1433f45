/-
  KDec KVer KFork KAm.
-/
import Derived.Test.YtcckipimfgmmdaaGreatDoorGs34
import Derived.Test.YtcckipimfgmmdaaGreatDoorGs21
import Derived.Test.YtcckipimfgmmdaaGreatDoorGs0
set_option maxHeartbeats 4000000
namespace Go.Proofs.YtcckipimfgmmdaaGreatDoor
open V (below_new)
open Go.RowKit
def TestC : Prop := ∀ (g : Int) (n : C.No) (rest : Nat) (w : World), 0 <= g -> g < 6 -> V.U64 n.m -> V.U64 n.v -> rest <= 200 ->
  Calls Tryz.prog 168 #[.int .i64 g, .agg #[.bool n.al, .bool n.ne, .bool n.no, .int .i64 n.o, .int .u64 n.m, .int .u64 n.v], .int .i64 rest] w fun e w' => Tld w (testI g n rest) e w'
theorem dec_at {k a : Int} {cs : List P.Xc} {i : Nat} (hi : i < cs.length) {l : List V.In} (h : decC k a (cs.drop (i + 1)) = some l) :
  decC k a (cs.drop i) = if (nrm cs[i]).m = 0 then (if C.isN (nrm cs[i]) 0 = true then some l else none) else some (testI cs[i].arg (nrm cs[i]) l.length ++ l) := by
 rw [List.drop_eq_getElem_cons hi]
 show (match decC k a (cs.drop (i + 1)) with | none => none | some l => if (nrm cs[i]).m = 0 then (if C.isN (nrm cs[i]) 0 = true then some l else none) else some (testI cs[i].arg (nrm cs[i]) l.length ++ l)) = _
 rw [h]
theorem dec_up (k a : Int) (cs : List P.Xc) : ∀ i, decC k a (cs.drop i) = none -> decC k a cs = none
 | 0, h => h
 | i + 1, h => by
  by_cases hi : i < cs.length
  ·refine dec_up k a cs i ?_
   rw [List.drop_eq_getElem_cons hi]
   show (match decC k a (cs.drop (i + 1)) with | none => none | some l => if (nrm cs[i]).m = 0 then (if C.isN (nrm cs[i]) 0 = true then some l else none) else some (testI cs[i].arg (nrm cs[i]) l.length ++ l)) = _
   rw [h]
  ·rw [List.drop_eq_nil_of_le (by omega)] at h
   cases h
set_option linter.unusedSimpArgs false in
set_option maxRecDepth 8000 in
theorem decision_of (hT : TestC) (w : World) (k a : Int) (vn vc : Value) (cs : List P.Xc) (h : P.CdR w vc cs) (hl : cs.length <= 20) (hc : ∀ c ∈ cs, Cok c) :
  Calls Tryz.prog 153 #[.agg #[.int .i64 k, .int .i64 a, vn, vc]] w fun e w' => Tld w ((decC k a cs).getD []) e w' := by
 obtain ⟨p1, c1, rfl⟩ : ∃ p c, vc = .slice p cs.length c := by obtain ⟨p, c, e, _⟩ := h; exact ⟨p, c, e⟩
 have HA : Hid (∀ W, Calls Tryz.prog 49 #[.agg #[.int .i64 k, .int .i64 a]] W fun e w' => e = .returned (.agg (cI (ansI k a))) /\ Below W.heap.size W w') := answer_any k a
 have HB0 : Hid (Below w.heap.size w (w.alloc (Obj.cells #[.int .i64 k, .int .i64 a, vn, .slice p1 cs.length c1] 87))) := below_new w _
 have HK : Hid (P.Blk (w.alloc (Obj.cells #[.int .i64 k, .int .i64 a, vn, .slice p1 cs.length c1] 87)) w.heap.size 87 [.int .i64 k, .int .i64 a, vn, .slice p1 cs.length c1]) := P.blk_new w _ _
 have HX : Hid (∀ W, Below (w.alloc (Obj.cells #[.int .i64 k, .int .i64 a, vn, .slice p1 cs.length c1] 87)).heap.size (w.alloc (Obj.cells #[.int .i64 k, .int .i64 a, vn, .slice p1 cs.length c1] 87)) W -> W.cell? ⟨w.heap.size, 3, none⟩ = some (.slice p1 cs.length c1) /\ P.CdR W (.slice p1 cs.length c1) cs /\ Below w.heap.size w W) := fun W hW => ⟨(HK.out.over hW).cell 3, h.below (HB0.out.trans (hW.mono HB0.out.size)), HB0.out.trans (hW.mono HB0.out.size)⟩
 have HC : Hid (∀ c ∈ cs, Cok c) := hc
 unfold ansI cI at HA
 dsimp only at HA
 have HS0 : Hid (decC k a (cs.drop cs.length) = some [⟨6, 0, 0, A.valZ k a⟩]) := by unfold Hid; rw [List.drop_length]; rfl
 generalize A.valZ k a = va at *
 have e0 : IntKind.i64.wrap ((cs.length : Int) - 1) = (cs.length : Int) - 1 := by rw [IntKind.wrap_i64]; omega
 have HTC : Hid TestC := hT
 clear h hc HK hT
 go_enter Tryz.func153, Tryz.ntmps153
 go_wp2_with (first | (go_at_call 49; refine (HA.out _).mono ?_; rintro e w1 ⟨rfl, b1⟩; obtain ⟨c3, -, B1⟩ := HX.out _ b1; have c3' : (w1.alloc (Obj.cells #[.int .u16 6, .int .u8 0, .int .u8 0, .int .u32 va] 60)).cell? ⟨w.heap.size, 3, none⟩ = some (.slice p1 cs.length c1) := (HX.out _ (b1.alloc b1.size _)).1; have B1h : Hid (Below (w.alloc (Obj.cells #[.int .i64 k, .int .i64 a, vn, .slice p1 cs.length c1] 87)).heap.size (w.alloc (Obj.cells #[.int .i64 k, .int .i64 a, vn, .slice p1 cs.length c1] 87)) (w1.alloc (Obj.cells #[.int .u16 6, .int .u8 0, .int .u8 0, .int .u32 va] 60))) := b1.alloc b1.size _; have O1 : Hid ((w1.alloc (Obj.cells #[.int .u16 6, .int .u8 0, .int .u8 0, .int .u32 va] 60)).ownsRow w.heap.size 60 4 (.slice (some ⟨w1.heap.size, 0, none⟩) 1 1) 1 (V.cellsI [⟨6, 0, 0, va⟩])) := own_in w1 _ B1.size 6 0 0 va _ rfl; clear b1 B1))
 clear c3 c3'
 go_loopw [3, 4] (fun v3 vi wr => ∃ (i : Nat) (l : List V.In), vi = .int .i64 ((i : Int) - 1) /\ i <= cs.length /\ decC k a (cs.drop i) = some l /\ wr.ownsRow w.heap.size 60 4 v3 l.length (V.cellsI l) /\ Below (w.alloc (Obj.cells #[.int .i64 k, .int .i64 a, vn, .slice p1 cs.length c1] 87)).heap.size (w.alloc (Obj.cells #[.int .i64 k, .int .i64 a, vn, .slice p1 cs.length c1] 87)) wr) (fun _ vi _ => (intOf vi + 1).toNat)
 case atStart => exact ⟨cs.length, _, rfl, Nat.le_refl _, HS0.out, O1.out, B1h.out⟩
 case round =>
  obtain ⟨i, l, rfl, hi, hD, ho, hb⟩ := hrel
  obtain ⟨c3, hcd, Bw⟩ := HX.out wr hb
  clear B1h O1
  have Hlen : Hid (l.length <= 7 * (cs.drop i).length + 1) := (dec_len k a _ l hD).2
  have hlen2 : l.length <= 141 := by have := Hlen.out; rw [List.length_drop] at this; omega
  have HO : Hid (wr.ownsRow w.heap.size 60 4 _ l.length (V.cellsI l)) := ho
  have HBh : Hid (Below (w.alloc (Obj.cells #[.int .i64 k, .int .i64 a, vn, .slice p1 cs.length c1] 87)).heap.size (w.alloc (Obj.cells #[.int .i64 k, .int .i64 a, vn, .slice p1 cs.length c1] 87)) wr) := hb
  have HBw : Hid (Below w.heap.size w wr) := Bw
  obtain ⟨a3, q3, rfl⟩ := own_slice ho
  clear ho hb Bw Hlen
  cases i with
  | zero =>
   have HE : Hid (decC k a cs = some l) := by rw [List.drop_zero] at hD; exact hD
   clear hD hcd
   go_wp2_with fail
   go_ret
   exact ⟨_, rfl, by rw [HE.out]; exact HO.out, HBw.out⟩
  | succ j =>
   obtain ⟨cb, co, rfl, hcell⟩ := P.cdR_at hcd hi
   have ej : (((j + 1 : Nat) : Int) - 1) = (j : Int) := by omega
   rw [ej]
   have hst := dec_at hi hD
   have hok : Cok cs[j] := HC.out _ (List.getElem_mem _)
   have HST : Hid (decC k a (cs.drop j) = if (nrm cs[j]).m = 0 then (if C.isN (nrm cs[j]) 0 = true then some l else none) else some (testI cs[j].arg (nrm cs[j]) l.length ++ l)) := hst
   have HFit : Hid ((nrm cs[j]).m ≠ 0 -> Fit (nrm cs[j])) := nrm_fit cs[j] hok
   have hcr := condB_right cs[j] hok.1
   have hca : 0 <= cs[j].arg /\ cs[j].arg < 6 := hcr.2
   have hN : Hid (∀ W, Calls Tryz.prog 167 #[.agg #[.int .i64 cs[j].arg, .int .i64 cs[j].op, .int .u64 cs[j].mask, .int .u64 cs[j].val]] W fun e w' => e = .returned (nrm cs[j]).val /\ Below W.heap.size W w') := fun W => C.norm_any _ _ _ _ W
   have hI : Hid (∀ W, Calls Tryz.prog 169 #[(nrm cs[j]).val, .int .u64 0] W fun e w' => e = .returned (.bool (C.isN (nrm cs[j]) 0)) /\ Below W.heap.size W w') := fun W => C.is_any (nrm cs[j]) 0 W
   have HT : Hid ((nrm cs[j]).m ≠ 0 -> ∀ W, Calls Tryz.prog 168 #[.int .i64 cs[j].arg, .agg #[.bool (nrm cs[j]).al, .bool (nrm cs[j]).ne, .bool (nrm cs[j]).no, .int .i64 (nrm cs[j]).o, .int .u64 (nrm cs[j]).m, .int .u64 (nrm cs[j]).v], .int .i64 l.length] W fun e w' => Tld W (testI cs[j].arg (nrm cs[j]) l.length) e w') := fun hz W => HTC.out _ _ _ W hca.1 hca.2 (nrm_fit cs[j] hok hz).m (nrm_fit cs[j] hok hz).v (by omega)
   have hTl := testI_len cs[j].arg (nrm cs[j]) l.length
   clear hst hD hok hcr HFit hcd
   generalize testI cs[j].arg (nrm cs[j]) l.length = TT at *
   generalize C.isN (nrm cs[j]) 0 = bi at *
   generalize nrm cs[j] = n at *
   generalize cs[j] = c at *
   obtain ⟨ca, cop, cm, cv⟩ := c
   obtain ⟨al, ne, no, o, m, v⟩ := n
   unfold C.No.val C.No.cells at hN hI
   dsimp only at *
   obtain ⟨q0, q1, q2, q3'⟩ := hcell
   dsimp only at q0 q1 q2 q3'
   have hj1 : (j : Int) < (cs.length : Int) := by omega
   have hj0 : (0 : Int) <= (j : Int) := by omega
   have em : IntKind.i64.wrap ((j : Int) - 1) = (j : Int) - 1 := by rw [IntKind.wrap_i64]; omega
   by_cases hm : m = 0
   ·subst hm
    have HSt2 : Hid (decC k a (cs.drop j) = if bi = true then some l else none) := by unfold Hid; rw [HST.out, if_pos rfl]
    clear HST HT hTl
    cases bi with
    | true =>
     go_wp2_with (first
      | (go_at_call 167; refine (hN.out _).mono ?_; rintro e w2 ⟨rfl, b2⟩; have BX2 : Hid (Below (w.alloc (Obj.cells #[.int .i64 k, .int .i64 a, vn, .slice (some ⟨cb, co, none⟩) cs.length c1] 87)).heap.size (w.alloc (Obj.cells #[.int .i64 k, .int .i64 a, vn, .slice (some ⟨cb, co, none⟩) cs.length c1] 87)) (w2.alloc (Obj.cells #[.bool al, .bool ne, .bool no, .int .i64 o, .int .u64 0, .int .u64 v] 239))) := (HBh.out.trans (b2.mono HBh.out.size)).alloc (HBh.out.trans (b2.mono HBh.out.size)).size _; have O2 : Hid ((w2.alloc (Obj.cells #[.bool al, .bool ne, .bool no, .int .i64 o, .int .u64 0, .int .u64 v] 239)).ownsRow w.heap.size 60 4 (.slice a3 l.length q3) l.length (V.cellsI l)) := (own_over HO.out b2).alloc _; clear b2)
      | (go_at_call 169; refine (hI.out _).mono ?_; rintro e w3 ⟨rfl, b3⟩; have BX3 : Hid (Below (w.alloc (Obj.cells #[.int .i64 k, .int .i64 a, vn, .slice (some ⟨cb, co, none⟩) cs.length c1] 87)).heap.size (w.alloc (Obj.cells #[.int .i64 k, .int .i64 a, vn, .slice (some ⟨cb, co, none⟩) cs.length c1] 87)) w3) := BX2.out.trans (b3.mono BX2.out.size); have O3 := own_over O2.out b3))
     go_roundw
     case rel => exact ⟨j, l, by go_num, by omega, by rw [HSt2.out]; simp, O3, BX3.out⟩
     case measure => simp [intOf]
    | false =>
     go_wp2_with (first
      | (go_at_call 167; refine (hN.out _).mono ?_; rintro e w2 ⟨rfl, b2⟩; have BX2 : Hid (Below (w.alloc (Obj.cells #[.int .i64 k, .int .i64 a, vn, .slice (some ⟨cb, co, none⟩) cs.length c1] 87)).heap.size (w.alloc (Obj.cells #[.int .i64 k, .int .i64 a, vn, .slice (some ⟨cb, co, none⟩) cs.length c1] 87)) (w2.alloc (Obj.cells #[.bool al, .bool ne, .bool no, .int .i64 o, .int .u64 0, .int .u64 v] 239))) := (HBh.out.trans (b2.mono HBh.out.size)).alloc (HBh.out.trans (b2.mono HBh.out.size)).size _; clear b2)
      | (go_at_call 169; refine (hI.out _).mono ?_; rintro e w3 ⟨rfl, b3⟩; have BX3 : Hid (Below (w.alloc (Obj.cells #[.int .i64 k, .int .i64 a, vn, .slice (some ⟨cb, co, none⟩) cs.length c1] 87)).heap.size (w.alloc (Obj.cells #[.int .i64 k, .int .i64 a, vn, .slice (some ⟨cb, co, none⟩) cs.length c1] 87)) w3) := BX2.out.trans (b3.mono BX2.out.size)))
     go_ret
     have HE : decC k a cs = none := dec_up k a cs j (by rw [HSt2.out]; rfl)
     exact ⟨_, rfl, by rw [HE]; exact own_nil _ _, (HX.out w3 BX3.out).2.2⟩
   ·have HSt2 : Hid (decC k a (cs.drop j) = some (TT ++ l)) := by unfold Hid; rw [HST.out, if_neg hm]
    have hTT : ∀ W, Calls Tryz.prog 168 #[.int .i64 ca, .agg #[.bool al, .bool ne, .bool no, .int .i64 o, .int .u64 m, .int .u64 v], .int .i64 l.length] W fun e w' => Tld W TT e w' := HT.out hm
    replace HT : Hid (∀ W, Calls Tryz.prog 168 #[.int .i64 ca, .agg #[.bool al, .bool ne, .bool no, .int .i64 o, .int .u64 m, .int .u64 v], .int .i64 l.length] W fun e w' => Tld W TT e w') := hTT
    have hm' : (m == 0) = false := by simpa using hm
    clear HST hTT hI
    go_upto_region 7 with (first
      | (go_at_call 167; refine (hN.out _).mono ?_; rintro e w2 ⟨rfl, b2⟩; have BX2 : Hid (Below (w.alloc (Obj.cells #[.int .i64 k, .int .i64 a, vn, .slice (some ⟨cb, co, none⟩) cs.length c1] 87)).heap.size (w.alloc (Obj.cells #[.int .i64 k, .int .i64 a, vn, .slice (some ⟨cb, co, none⟩) cs.length c1] 87)) (w2.alloc (Obj.cells #[.bool al, .bool ne, .bool no, .int .i64 o, .int .u64 m, .int .u64 v] 239)).drew) := ((HBh.out.trans (b2.mono HBh.out.size)).alloc (HBh.out.trans (b2.mono HBh.out.size)).size _).drew; have O2 : Hid ((w2.alloc (Obj.cells #[.bool al, .bool ne, .bool no, .int .i64 o, .int .u64 m, .int .u64 v] 239)).drew.ownsRow w.heap.size 60 4 (.slice a3 l.length q3) l.length (V.cellsI l)) := ((own_over HO.out b2).alloc _).drew))
    have hoZ := O2.out
    have BXZ := BX2.out
    have BZ := (HX.out _ BXZ).2.2
    have zc : (w2.alloc (Obj.cells #[.bool al, .bool ne, .bool no, .int .i64 o, .int .u64 m, .int .u64 v] 239)).drew.cell? ⟨cb, co + j * 4, none⟩ = some (.int .i64 ca) := ((below_new w2 _).drew.cell (p := ⟨cb, co + j * 4, none⟩) (World.block_lt_of_cell? _ _ (P.cellS q0 (b2.block cb (World.block_lt_of_cell? _ _ q0))))).trans (P.cellS q0 (b2.block cb (World.block_lt_of_cell? _ _ q0)))
    have zn : P.Blk (w2.alloc (Obj.cells #[.bool al, .bool ne, .bool no, .int .i64 o, .int .u64 m, .int .u64 v] 239)).drew w2.heap.size 239 [.bool al, .bool ne, .bool no, .int .i64 o, .int .u64 m, .int .u64 v] := P.Blk.drew (P.blk_new w2 _ _)
    have hS0 : (fun w' => w'.cell? ⟨w.heap.size, 3, none⟩ = some (.slice (some ⟨cb, co, none⟩) cs.length c1) /\ w'.cell? ⟨cb, co + j * 4, none⟩ = some (.int .i64 ca) /\ P.Blk w' w2.heap.size 239 [.bool al, .bool ne, .bool no, .int .i64 o, .int .u64 m, .int .u64 v]) (w2.alloc (Obj.cells #[.bool al, .bool ne, .bool no, .int .i64 o, .int .u64 m, .int .u64 v] 239)).drew := ⟨(HX.out _ BXZ).1, zc, zn⟩
    have hSb : ∀ W, Below (w2.alloc (Obj.cells #[.bool al, .bool ne, .bool no, .int .i64 o, .int .u64 m, .int .u64 v] 239)).drew.heap.size (w2.alloc (Obj.cells #[.bool al, .bool ne, .bool no, .int .i64 o, .int .u64 m, .int .u64 v] 239)).drew W -> (fun w' => w'.cell? ⟨w.heap.size, 3, none⟩ = some (.slice (some ⟨cb, co, none⟩) cs.length c1) /\ w'.cell? ⟨cb, co + j * 4, none⟩ = some (.int .i64 ca) /\ P.Blk w' w2.heap.size 239 [.bool al, .bool ne, .bool no, .int .i64 o, .int .u64 m, .int .u64 v]) W := fun W hW => ⟨(HX.out _ (BXZ.trans (hW.mono BXZ.size))).1, P.cellS zc (hW.block cb (World.block_lt_of_cell? _ _ zc)), P.Blk.over zn hW⟩
    clear zc zn BX2 O2
    refine wp_region_held_drew (S := (fun w' => w'.cell? ⟨w.heap.size, 3, none⟩ = some (.slice (some ⟨cb, co, none⟩) cs.length c1) /\ w'.cell? ⟨cb, co + j * 4, none⟩ = some (.int .i64 ca) /\ P.Blk w' w2.heap.size 239 [.bool al, .bool ne, .bool no, .int .i64 o, .int .u64 m, .int .u64 v])) (by kernel_rfl) (hS0) (fun hHeld => ?_)
    simp only [List.size_toArray, List.length_cons, List.length_nil, Nat.reduceAdd]
    generalize ((w2.alloc (Obj.cells #[.bool al, .bool ne, .bool no, .int .i64 o, .int .u64 m, .int .u64 v] 239)).drew) = Z at *
    refine tk 0 ?_ hHeld ?_ ?_
    rotate_left
    ·(intro w hSw; (try dsimp only at hSw); have s0 := hSw.1; have s1 := hSw.2.1; have n0 := hSw.2.2.cell 0; have n1 := hSw.2.2.cell 1; have n2 := hSw.2.2.cell 2; have n3 := hSw.2.2.cell 3; have n4 := hSw.2.2.cell 4; have n5 := hSw.2.2.cell 5; go_simp; try with_reducible rfl)
    try simp only [Act.put, zA, zB, zC, zD, zE, zF]
    refine tk 1 ?_ hHeld ?_ ?_
    rotate_left
    ·(intro w hSw; (try dsimp only at hSw); have s0 := hSw.1; have s1 := hSw.2.1; have n0 := hSw.2.2.cell 0; have n1 := hSw.2.2.cell 1; have n2 := hSw.2.2.cell 2; have n3 := hSw.2.2.cell 3; have n4 := hSw.2.2.cell 4; have n5 := hSw.2.2.cell 5; go_simp; try with_reducible rfl)
    try simp only [Act.put, zA, zB, zC, zD, zE, zF]
    refine tk 2 ?_ hHeld ?_ ?_
    rotate_left
    ·(intro w hSw; (try dsimp only at hSw); have s0 := hSw.1; have s1 := hSw.2.1; have n0 := hSw.2.2.cell 0; have n1 := hSw.2.2.cell 1; have n2 := hSw.2.2.cell 2; have n3 := hSw.2.2.cell 3; have n4 := hSw.2.2.cell 4; have n5 := hSw.2.2.cell 5; go_simp; try with_reducible rfl)
    try simp only [Act.put, zA, zB, zC, zD, zE, zF]
    refine tk 3 ?_ hHeld ?_ ?_
    rotate_left
    ·(intro w hSw; (try dsimp only at hSw); have s0 := hSw.1; have s1 := hSw.2.1; have n0 := hSw.2.2.cell 0; have n1 := hSw.2.2.cell 1; have n2 := hSw.2.2.cell 2; have n3 := hSw.2.2.cell 3; have n4 := hSw.2.2.cell 4; have n5 := hSw.2.2.cell 5; go_simp; try with_reducible rfl)
    try simp only [Act.put, zA, zB, zC, zD, zE, zF]
    refine tk 4 ?_ hHeld ?_ ?_
    rotate_left
    ·(intro w hSw; (try dsimp only at hSw); have s0 := hSw.1; have s1 := hSw.2.1; have n0 := hSw.2.2.cell 0; have n1 := hSw.2.2.cell 1; have n2 := hSw.2.2.cell 2; have n3 := hSw.2.2.cell 3; have n4 := hSw.2.2.cell 4; have n5 := hSw.2.2.cell 5; go_simp; try with_reducible rfl)
    try simp only [Act.put, zA, zB, zC, zD, zE, zF]
    refine tk 5 ?_ hHeld ?_ ?_
    rotate_left
    ·(intro w hSw; (try dsimp only at hSw); have s0 := hSw.1; have s1 := hSw.2.1; have n0 := hSw.2.2.cell 0; have n1 := hSw.2.2.cell 1; have n2 := hSw.2.2.cell 2; have n3 := hSw.2.2.cell 3; have n4 := hSw.2.2.cell 4; have n5 := hSw.2.2.cell 5; go_simp; try with_reducible rfl)
    try simp only [Act.put, zA, zB, zC, zD, zE, zF]
    refine tk 6 ?_ hHeld ?_ ?_
    rotate_left
    ·(intro w hSw; (try dsimp only at hSw); have s0 := hSw.1; have s1 := hSw.2.1; have n0 := hSw.2.2.cell 0; have n1 := hSw.2.2.cell 1; have n2 := hSw.2.2.cell 2; have n3 := hSw.2.2.cell 3; have n4 := hSw.2.2.cell 4; have n5 := hSw.2.2.cell 5; go_simp; try with_reducible rfl)
    try simp only [Act.put, zA, zB, zC, zD, zE, zF]
    refine tk 7 ?_ hHeld ?_ ?_
    rotate_left
    ·(intro w hSw; (try dsimp only at hSw); have s0 := hSw.1; have s1 := hSw.2.1; have n0 := hSw.2.2.cell 0; have n1 := hSw.2.2.cell 1; have n2 := hSw.2.2.cell 2; have n3 := hSw.2.2.cell 3; have n4 := hSw.2.2.cell 4; have n5 := hSw.2.2.cell 5; go_simp; try with_reducible rfl)
    try simp only [Act.put, zA, zB, zC, zD, zE, zF]
    refine tk 8 ?_ hHeld ?_ ?_
    rotate_left
    ·(intro w hSw; (try dsimp only at hSw); have s0 := hSw.1; have s1 := hSw.2.1; have n0 := hSw.2.2.cell 0; have n1 := hSw.2.2.cell 1; have n2 := hSw.2.2.cell 2; have n3 := hSw.2.2.cell 3; have n4 := hSw.2.2.cell 4; have n5 := hSw.2.2.cell 5; go_simp; try with_reducible rfl)
    try simp only [Act.put, zA, zB, zC, zD, zE, zF]
    refine tk 10 ?_ hHeld ?_ ?_
    rotate_left
    ·(intro w hSw; (try dsimp only at hSw); have s0 := hSw.1; have s1 := hSw.2.1; have n0 := hSw.2.2.cell 0; have n1 := hSw.2.2.cell 1; have n2 := hSw.2.2.cell 2; have n3 := hSw.2.2.cell 3; have n4 := hSw.2.2.cell 4; have n5 := hSw.2.2.cell 5; go_simp; try with_reducible rfl)
    try simp only [Act.put, zA, zB, zC, zD, zE, zF]
    refine wpAnyH_ready (rs := [9]) (by kernel_rfl) (by simp) ?_
    refine AllReadyH.cons rfl (fun K hK => ?_) AllReadyH.nil
    go_simp
    refine (HT.out _).mono ?_
    rintro e w4 ⟨v4, rfl, o4, b4⟩
    have BX4 := BXZ.trans (b4.mono BXZ.size)
    have B4 := (HX.out w4 BX4).2.2
    have L4 := own_over hoZ b4
    have A4 := apart_late hoZ o4 (Nat.le_refl _)
    have hS4 := hSb w4 b4
    have o4y := P.owns_lower o4 BZ.size
    go_wp2_with fail
    refine hK.out _ _ (hS4) (fun hHeld => ?_)
    clear hK K
    try simp only [Act.put, zA, zB, zC, zD, zE, zF]
    refine wpAnyH_ready (rs := [11]) (by kernel_rfl) (by simp) ?_
    refine AllReadyH.cons rfl (fun K hK => ?_) AllReadyH.nil
    refine step_rows rfl (.tmp 36) (.tmp 37) rfl w.heap.size v4 _ _ rfl o4y w.heap.size _ _ l rfl L4 (by omega) B4.size ?_
    intro v8 w8 hG
    have BX8 : Below (w.alloc (Obj.cells #[.int .i64 k, .int .i64 a, vn, .slice (some ⟨cb, co, none⟩) cs.length c1] 87)).heap.size (w.alloc (Obj.cells #[.int .i64 k, .int .i64 a, vn, .slice (some ⟨cb, co, none⟩) cs.length c1] 87)) w8 := BX4.grown hG.grown BX4.size (fun q hq => Nat.le_trans BXZ.size (P.owns_block o4 q hq))
    have hZ8 : Below Z.heap.size Z w8 := b4.grown hG.grown b4.size (fun q hq => P.owns_block o4 q hq)
    have hS8 := hSb w8 hZ8
    refine hK.out _ _ (hS8) (fun hHeld => ?_)
    clear hK K
    try simp only [Act.put, zA, zB, zC, zD, zE, zF]
    refine tk 12 ?_ hHeld ?_ ?_
    rotate_left
    ·(intro w hSw; (try dsimp only at hSw); have s0 := hSw.1; have s1 := hSw.2.1; have n0 := hSw.2.2.cell 0; have n1 := hSw.2.2.cell 1; have n2 := hSw.2.2.cell 2; have n3 := hSw.2.2.cell 3; have n4 := hSw.2.2.cell 4; have n5 := hSw.2.2.cell 5; go_simp; try with_reducible rfl)
    try simp only [Act.put, zA, zB, zC, zD, zE, zF]
    refine wpAnyH_done (by kernel_rfl) ?_ _
    have HG : Hid (w8.ownsRow w.heap.size 60 4 v8 (TT ++ l).length (V.cellsI (TT ++ l))) := by unfold Hid; rw [List.length_append]; exact hG.own
    have HB8 : Hid (Below (w.alloc (Obj.cells #[.int .i64 k, .int .i64 a, vn, .slice (some ⟨cb, co, none⟩) cs.length c1] 87)).heap.size (w.alloc (Obj.cells #[.int .i64 k, .int .i64 a, vn, .slice (some ⟨cb, co, none⟩) cs.length c1] 87)) w8) := BX8
    clear hG BX8 hS8 hSb hS0 hZ8
    go_wp2_with fail
    go_roundw
    case rel => exact ⟨j, TT ++ l, by go_num, by omega, HSt2.out, HG.out, HB8.out⟩
    case measure => simp [intOf]
def DecC : Prop := ∀ (w : World) (k a : Int) (vn vc : Value) (cs : List P.Xc), P.CdR w vc cs -> cs.length <= 20 -> (∀ c ∈ cs, Cok c) ->
  Calls Tryz.prog 153 #[.agg #[.int .i64 k, .int .i64 a, vn, vc]] w fun e w' => Tld w ((decC k a cs).getD []) e w'
theorem ver_at {z k a : Int} {rs : List P.Xr} {i : Nat} (h : i < rs.length) : verI z k a ((rs.drop i).map P.Xr.r) = if M.namedB z rs[i].r.names = true then (if endsH (decI rs[i].r) = true then decI rs[i].r else decI rs[i].r ++ verI z k a ((rs.drop (i + 1)).map P.Xr.r)) else verI z k a ((rs.drop (i + 1)).map P.Xr.r) := by
 rw [List.drop_eq_getElem_cons h]
 rfl
theorem ver_end {z k a : Int} {rs : List P.Xr} {i : Nat} (h : ¬ i < rs.length) : verI z k a ((rs.drop i).map P.Xr.r) = [ansI k a] := by
 rw [List.drop_eq_nil_of_le (by omega)]
 rfl
structure Rok (rs : List P.Xr) : Prop where
 len : rs.length <= 64
 nam : ∀ x ∈ rs, x.r.names.length <= 16
 con : ∀ x ∈ rs, x.r.conds.length <= 8
 ok : ∀ x ∈ rs, Xok x.r
set_option maxRecDepth 8000 in
theorem verdict_of (hT : DecC) (w : World) (z k a : Int) (v : Value) (rs : List P.Xr) (h : P.RlR w v rs) (hR : Rok rs) :
  Calls Tryz.prog 128 #[.agg #[.int .i64 k, .int .i64 a, v], .int .u32 z] w fun e w' => Tld w (verI z k a (rs.map P.Xr.r)) e w' := by
 obtain ⟨p1, c1, rfl⟩ : ∃ p c, v = .slice p rs.length c := by obtain ⟨p, c, e, _⟩ := h; exact ⟨p, c, e⟩
 have HA : Hid (∀ W, Calls Tryz.prog 49 #[.agg #[.int .i64 k, .int .i64 a]] W fun e w' => e = .returned (.agg (cI (ansI k a))) /\ Below W.heap.size W w') := answer_any k a
 have HB0 : Hid (Below w.heap.size w (w.alloc (Obj.cells #[.int .i64 k, .int .i64 a, .slice p1 rs.length c1] 39))) := below_new w _
 have HK : Hid (P.Blk (w.alloc (Obj.cells #[.int .i64 k, .int .i64 a, .slice p1 rs.length c1] 39)) w.heap.size 39 [.int .i64 k, .int .i64 a, .slice p1 rs.length c1]) := P.blk_new w _ _
 have HX : Hid (∀ W, Below (w.alloc (Obj.cells #[.int .i64 k, .int .i64 a, .slice p1 rs.length c1] 39)).heap.size (w.alloc (Obj.cells #[.int .i64 k, .int .i64 a, .slice p1 rs.length c1] 39)) W -> W.cell? ⟨w.heap.size, 0, none⟩ = some (.int .i64 k) /\ W.cell? ⟨w.heap.size, 1, none⟩ = some (.int .i64 a) /\ W.cell? ⟨w.heap.size, 2, none⟩ = some (.slice p1 rs.length c1) /\ P.RlR W (.slice p1 rs.length c1) rs /\ Below w.heap.size w W) := fun W hW => ⟨(HK.out.over hW).cell 0, (HK.out.over hW).cell 1, (HK.out.over hW).cell 2, h.below (HB0.out.trans (hW.mono HB0.out.size)), HB0.out.trans (hW.mono HB0.out.size)⟩
 have HN : Hid (∀ W, Calls Tryz.prog 53 #[.int .u32 z] W fun e w' => e = .returned (.tuple #[.string (M.nmS z), .bool (M.isNr z)]) /\ Below W.heap.size W w') := M.name_any z
 have HR : Hid (Rok rs) := hR
 have HD : Hid DecC := hT
 have HE : Hid (∀ c W, Calls Tryz.prog 67 #[.int .u16 c] W fun e w' => e = .returned (.bool (V.isIn V.endL c)) /\ w' = W) := V.ends_any
 have HCt : Hid (∀ W v (l : List ByteArray), P.StrR W v l -> l.length <= 9000000 -> Calls Tryz.prog 54 #[v, .string (M.nmS z)] W fun e w' => e = .returned (.bool (M.namedB z l)) /\ w' = W) := fun W v l h1 h2 => M.contains_any W v l (M.nmS z) h1 h2
 have HS0 : Hid (verI z k a (rs.map P.Xr.r) = [] ++ verI z k a ((rs.drop 0).map P.Xr.r)) := rfl
 have hl70 := hR.len
 unfold ansI cI at HA
 dsimp only at HA
 clear h hR hT HK
 generalize M.isNr z = zb at *
 generalize M.nmS z = nm at *
 go_enter Tryz.func128, Tryz.ntmps128
 go_wp2_with (first | (go_at_call 53; refine (HN.out _).mono ?_; rintro e w1 ⟨rfl, b1⟩; obtain ⟨-, -, c2, -, -⟩ := HX.out _ b1; have B1h : Hid (Below (w.alloc (Obj.cells #[.int .i64 k, .int .i64 a, .slice p1 rs.length c1] 39)).heap.size (w.alloc (Obj.cells #[.int .i64 k, .int .i64 a, .slice p1 rs.length c1] 39)) w1) := b1; clear b1))
 clear c2
 generalize (w.alloc (Obj.cells #[.int .i64 k, .int .i64 a, .slice p1 rs.length c1] 39)) = X0 at *
 go_loopw [7, 19] (fun v7 vi wr => ∃ (i : Nat) (l : List V.In), vi = .int .i64 i /\ i <= rs.length /\ l.length <= i * 141 /\ verI z k a (rs.map P.Xr.r) = l ++ verI z k a ((rs.drop i).map P.Xr.r) /\ wr.ownsRow X0.heap.size 60 4 v7 l.length (V.cellsI l) /\ Below X0.heap.size X0 wr) (fun _ vi _ => rs.length - (intOf vi).toNat)
 case atStart => exact ⟨0, [], rfl, Nat.zero_le _, by simp, HS0.out, own_nil _ _, B1h.out⟩
 case round =>
  obtain ⟨i, l, rfl, hi, hll, hV, ho, hb⟩ := hrel
  obtain ⟨c0, c1', c2, hrl, Bw⟩ := HX.out wr hb
  clear B1h
  have HV : Hid (verI z k a (rs.map P.Xr.r) = l ++ verI z k a ((rs.drop i).map P.Xr.r)) := hV
  have HO : Hid (wr.ownsRow X0.heap.size 60 4 _ l.length (V.cellsI l)) := ho
  have HBh : Hid (Below X0.heap.size X0 wr) := hb
  have HBw : Hid (Below w.heap.size w wr) := Bw
  obtain ⟨a7, q7, rfl⟩ := own_slice ho
  have hlb : l.length <= 9870 := by omega
  clear ho hb Bw hV
  by_cases hlt : i < rs.length
  ·have hi1 : (i : Int) < (rs.length : Int) := by omega
   obtain ⟨b1, o1, rfl, e1⟩ := P.rlR_at hrl hlt
   have hmem : rs[i] ∈ rs := List.getElem_mem hlt
   have hnc : P.StrR wr rs[i].vn rs[i].r.names /\ P.CdR wr rs[i].vc rs[i].r.conds := by obtain ⟨_, _, _, _, _, _, hr⟩ := hrl; exact hr _ hmem
   have hxo := HR.out.ok _ hmem
   have hxn := HR.out.nam _ hmem
   have HSt : Hid (verI z k a ((rs.drop i).map P.Xr.r) = if M.namedB z rs[i].r.names = true then (if endsH (decI rs[i].r) = true then decI rs[i].r else decI rs[i].r ++ verI z k a ((rs.drop (i + 1)).map P.Xr.r)) else verI z k a ((rs.drop (i + 1)).map P.Xr.r)) := ver_at hlt
   have hdl : (decI rs[i].r).length <= 141 := by have := decI_len rs[i].r; have := hxo.1; omega
   have HCx : Hid (∀ W, Below wr.heap.size wr W -> Calls Tryz.prog 54 #[rs[i].vn, .string nm] W fun e w' => e = .returned (.bool (M.namedB z rs[i].r.names)) /\ w' = W) := fun W hW => HCt.out W _ _ (hnc.1.below hW) (by omega)
   have HDx : Hid (∀ W, Below wr.heap.size wr W -> Calls Tryz.prog 153 #[.agg #[.int .i64 rs[i].r.k, .int .i64 rs[i].r.a, rs[i].vn, rs[i].vc]] W fun e w' => Tld W (decI rs[i].r) e w') := fun W hW => HD.out W _ _ _ _ _ (hnc.2.below hW) hxo.1 hxo.2
   generalize M.namedB z rs[i].r.names = nb at *
   generalize decI rs[i].r = one at *
   obtain ⟨p3, c3, e3⟩ : ∃ p c, rs[i].vn = .slice p rs[i].r.names.length c := by obtain ⟨p, c, e, _⟩ := hnc.1; exact ⟨p, c, e⟩
   obtain ⟨p4, c4, e4⟩ : ∃ p c, rs[i].vc = .slice p rs[i].r.conds.length c := by obtain ⟨p, c, e, _⟩ := hnc.2; exact ⟨p, c, e⟩
   clear hmem hnc hxo hxn hrl
   generalize rs[i] = x at *
   obtain ⟨⟨xk, xa, ns, cs⟩, vn, vc⟩ := x
   obtain ⟨q0, q1, q2, q3⟩ := e1
   dsimp only at q0 q1 q2 q3 HCx HDx e3 e4
   subst e3 e4
   have BE : Hid (Below wr.heap.size wr (wr.alloc (Obj.cells #[.int .i64 xk, .int .i64 xa, .slice p3 ns.length c3, .slice p4 cs.length c4] 87))) := below_new wr _
   cases nb with
   | false =>
    go_wp2_with (first | (go_at_call 54; refine (HCx.out _ BE.out).mono ?_; rintro e w2 ⟨rfl, hw2⟩; subst w2))
    go_roundw
    case rel => exact ⟨i + 1, l, by go_num, hlt, by omega, by rw [HV.out, HSt.out, if_neg (by simp)], HO.out.alloc _, HBh.out.alloc HBh.out.size _⟩
    case measure => simp [intOf]; omega
   | true =>
    have OE : Hid ((wr.alloc (Obj.cells #[.int .i64 xk, .int .i64 xa, .slice p3 ns.length c3, .slice p4 cs.length c4] 87)).ownsRow X0.heap.size 60 4 (.slice a7 l.length q7) l.length (V.cellsI l)) := HO.out.alloc _
    have BXE : Hid (Below X0.heap.size X0 (wr.alloc (Obj.cells #[.int .i64 xk, .int .i64 xa, .slice p3 ns.length c3, .slice p4 cs.length c4] 87))) := HBh.out.alloc HBh.out.size _
    go_upto_region 8 with (first
     | (go_at_call 54; refine (HCx.out _ BE.out).mono ?_; rintro e w2 ⟨rfl, hw2⟩; subst w2)
     | (go_at_call 153; refine (HDx.out _ BE.out).mono ?_; rintro e w3 ⟨v3, rfl, o3, b3⟩))
    have B3h : Hid (Below X0.heap.size X0 w3) := BXE.out.trans (b3.mono BXE.out.size)
    have O3l := own_over OE.out b3
    have A3 : Apart (.slice a7 l.length q7) v3 := apart_late OE.out o3 (Nat.le_refl _)
    clear OE BXE b3 HO HBh HBw
    cases one with
    | nil =>
     have HZ : Hid (verI z k a (rs.map P.Xr.r) = (l ++ []) ++ verI z k a ((rs.drop (i + 1)).map P.Xr.r)) := by unfold Hid; rw [HV.out, HSt.out]; simp [endsH]
     obtain ⟨a10, q10, rfl⟩ := own_slice o3
     go_wp2_with (first | (at_builtin; refine app_rows rfl (.tmp 30) (.tmp 31) rfl X0.heap.size _ _ l rfl O3l _ _ _ [] rfl o3 (by simp only [List.length_nil]; omega) B3h.out.size ?_; intro v4 w4 hG; go_frame))
     go_roundw
     case rel => exact ⟨i + 1, l ++ [], by go_num, hlt, by simp only [List.append_nil]; omega, HZ.out, by rw [List.length_append]; exact hG.own, hG.below O3l B3h.out B3h.out.size⟩
     case measure => simp [intOf]; omega
    | cons y r =>
     rcases o3.2 with ⟨_, h0⟩ | ⟨g, cap, cur, rfl, hrest⟩
     ·rw [List.length_cons] at h0; omega
     ·clear hrest
      have HEe : Hid (endsH (y :: r) = V.isIn V.endL y.c) := rfl
      have HEy : Hid (∀ W, Calls Tryz.prog 67 #[.int .u16 y.c] W fun e w' => e = .returned (.bool (V.isIn V.endL y.c)) /\ w' = W) := HE.out y.c
      have hnl : (0 : Int) < ((y :: r).length : Int) := by rw [List.length_cons]; omega
      have hdl2 : (y :: r).length <= 141 := hdl
      have Hdl : Hid ((y :: r).length <= 141) := hdl
      generalize V.isIn V.endL y.c = eb at *
      have HY : Hid (∀ (W : World) (X : Nat), W.ownsRow X 60 4 (.slice (some ⟨g, 0, none⟩) (y :: r).length cap) (y :: r).length (V.cellsI (y :: r)) -> W.cell? ⟨g, 0, none⟩ = some (.int .u16 y.c)) := fun W X h => by
       have := h.cells (g := g) rfl 0 (.int .u16 y.c) rfl
       rw [Addr.add_lit] at this
       exact this
      obtain ⟨N1, hN1⟩ : ∃ N1, (y :: r).length = N1 := ⟨_, rfl⟩
      rw [hN1] at o3 A3 hnl hdl2 HY
      cases eb with
      | true =>
       have HZ : Hid (verI z k a (rs.map P.Xr.r) = l ++ (y :: r)) := by unfold Hid; rw [HV.out, HSt.out, HEe.out]; simp
       rw [hN1]
       go_wp2_with (first | (at_builtin; refine app_rows rfl (.tmp 30) (.tmp 31) rfl X0.heap.size _ _ l rfl O3l _ _ _ (y :: r) rfl o3 (by omega) B3h.out.size ?_; intro v4 w4 hG; have y0 := HY.out _ _ (hG.kept o3 A3).1; go_frame) | (go_at_call 67; refine (HEy.out _).mono ?_; rintro e w5 ⟨rfl, hw5⟩; subst w5))
       go_ret
       exact ⟨_, rfl, by rw [HZ.out, List.length_append, hN1]; exact P.owns_lower hG.own HB0.out.size, (HX.out _ (hG.below O3l B3h.out B3h.out.size)).2.2.2.2⟩
      | false =>
       have HZ : Hid (verI z k a (rs.map P.Xr.r) = (l ++ (y :: r)) ++ verI z k a ((rs.drop (i + 1)).map P.Xr.r)) := by unfold Hid; rw [HV.out, HSt.out, HEe.out]; simp
       rw [hN1]
       go_wp2_with (first | (at_builtin; refine app_rows rfl (.tmp 30) (.tmp 31) rfl X0.heap.size _ _ l rfl O3l _ _ _ (y :: r) rfl o3 (by omega) B3h.out.size ?_; intro v4 w4 hG; have y0 := HY.out _ _ (hG.kept o3 A3).1; go_frame) | (go_at_call 67; refine (HEy.out _).mono ?_; rintro e w5 ⟨rfl, hw5⟩; subst w5))
       go_roundw
       case rel => exact ⟨i + 1, l ++ (y :: r), by go_num, hlt, by rw [List.length_append, hN1]; omega, HZ.out, by rw [List.length_append, hN1]; exact hG.own, hG.below O3l B3h.out B3h.out.size⟩
       case measure => simp [intOf]; omega
  ·have hi1 : ¬ (i : Int) < (rs.length : Int) := by omega
   have HZ : Hid (verI z k a (rs.map P.Xr.r) = l ++ [⟨6, 0, 0, A.valZ k a⟩]) := by unfold Hid; rw [HV.out, ver_end hlt]; rfl
   generalize A.valZ k a = va at *
   clear hrl
   go_wp2_with (first
    | (go_at_call 49; refine (HA.out _).mono ?_; rintro e w3 ⟨rfl, b3⟩; have O3 := own_over HO.out b3; have B3 := HBh.out.trans (b3.mono HBh.out.size))
    | (at_builtin; refine app_rows rfl (.tmp 45) (.tmp 49) rfl X0.heap.size _ _ l rfl (O3.alloc _) X0.heap.size _ 1 [⟨6, 0, 0, va⟩] rfl (own_in w3 _ B3.size 6 0 0 va _ rfl) (by omega) (by have := B3.size; simp; omega) ?_; intro v4 w4 hG; go_frame))
   go_ret
   exact ⟨_, rfl, by rw [HZ.out, List.length_append]; exact P.owns_lower hG.own HB0.out.size, (HX.out _ (hG.below (O3.alloc _) (B3.alloc B3.size _) (by have := B3.size; simp; omega))).2.2.2.2⟩
set_option maxRecDepth 8000 in
theorem fork_any (z : Int) (w : World) (b1 b2 : Nat) (u1 u2 : Value) (l1 l2 : List V.In) (h1 : w.ownsRow b1 60 4 u1 l1.length (V.cellsI l1)) (h2 : w.ownsRow b2 60 4 u2 l2.length (V.cellsI l2)) (hl : l1.length + l2.length <= 90000) :
  Calls Tryz.prog 127 #[.int .u32 z, u1, u2] w fun e w' => Tld w (forkI z l1 l2) e w' := by
 have HJ : Hid (∀ c k t f W, 0 <= t /\ t <= 255 -> 0 <= f /\ f <= 255 -> Calls Tryz.prog 152 #[.int .u16 c, .int .u32 k, .int .i64 t, .int .i64 f] W fun e w' => e = .returned (.agg (cI ⟨c, t, f, k⟩)) /\ Below W.heap.size W w') := jump_any
 unfold cI at HJ
 dsimp only at HJ
 have H1 : Hid (∀ W, Below w.heap.size w W -> W.ownsRow b1 60 4 u1 l1.length (V.cellsI l1)) := fun W hW => own_over h1 hW
 have H2 : Hid (∀ W, Below w.heap.size w W -> W.ownsRow b2 60 4 u2 l2.length (V.cellsI l2)) := fun W hW => own_over h2 hW
 obtain ⟨a1, c1, rfl⟩ := own_slice h1
 obtain ⟨a2, c2, rfl⟩ := own_slice h2
 clear h1 h2
 by_cases hs : l1.length <= 255
 ·have HF : Hid (forkI z l1 l2 = ([] ++ [⟨53, (l1.length : Int), 0, z⟩]) ++ l1 ++ l2) := by unfold Hid forkI; rw [if_pos hs, List.nil_append, List.append_assoc]
  have hs1 : (l1.length : Int) <= 255 := by omega
  generalize forkI z l1 l2 = FL at *
  go_enter Tryz.func127, Tryz.ntmps127
  go_wp2_with (first
   | (go_at_call 152; refine (HJ.out _ _ _ _ _ (by omega) (by omega)).mono ?_; rintro e w3 ⟨rfl, b3⟩)
   | (at_builtin; refine app_rows rfl (.tmp 11) (.tmp 16) rfl w.heap.size _ 0 [] rfl (own_nil _ _) w.heap.size _ 1 [⟨53, (l1.length : Int), 0, z⟩] rfl (own_in w3 _ b3.size 53 _ 0 z _ rfl) (by decide) (by have := b3.size; simp; omega) ?_; intro v4 w4 hG4; have B4 : Below w.heap.size w w4 := hG4.below (own_nil _ _) (b3.alloc b3.size _) (by have := b3.size; simp; omega); go_frame)
   | (at_builtin; refine app_rows rfl (.tmp 27) (.tmp 28) rfl w.heap.size _ _ _ rfl hG4.own _ _ _ l1 rfl (H1.out _ B4) (by omega) B4.size ?_; intro v5 w5 hG5; have B5 : Below w.heap.size w w5 := hG5.below hG4.own B4 B4.size; go_frame)
   | (at_builtin; refine app_rows rfl (.tmp 30) (.tmp 31) rfl w.heap.size _ _ _ rfl hG5.own _ _ _ l2 rfl (H2.out _ B5) (by omega) B5.size ?_; intro v6 w6 hG6; go_frame))
  go_ret
  exact ⟨_, rfl, by rw [HF.out, List.length_append, List.length_append, List.length_append]; exact hG6.own, hG6.below hG5.own B5 B5.size⟩
 ·have HF : Hid (forkI z l1 l2 = ([] ++ [⟨53, 0, 1, z⟩, ⟨5, 0, 0, (l1.length : Int)⟩]) ++ l1 ++ l2) := by unfold Hid forkI; rw [if_neg hs, List.nil_append, List.append_assoc]
  have hs1 : ¬ (l1.length : Int) <= 255 := by omega
  have eu : IntKind.u32.wrap (l1.length : Int) = (l1.length : Int) := by rw [IntKind.wrap_u32]; omega
  generalize forkI z l1 l2 = FL at *
  go_enter Tryz.func127, Tryz.ntmps127
  go_wp2_with (first
   | (go_at_call 152; refine (HJ.out _ _ _ _ _ (by omega) (by omega)).mono ?_; rintro e w3 ⟨rfl, b3⟩)
   | (at_builtin; refine app_rows rfl (.tmp 18) (.tmp 25) rfl w.heap.size _ 0 [] rfl (own_nil _ _) w.heap.size _ 2 [⟨53, 0, 1, z⟩, ⟨5, 0, 0, (l1.length : Int)⟩] rfl (own_in2 w3 _ b3.size 53 0 1 z 5 0 0 _ _ rfl) (by decide) (by have := b3.size; simp; omega) ?_; intro v4 w4 hG4; have B4 : Below w.heap.size w w4 := hG4.below (own_nil _ _) (b3.alloc b3.size _) (by have := b3.size; simp; omega); go_frame)
   | (at_builtin; refine app_rows rfl (.tmp 27) (.tmp 28) rfl w.heap.size _ _ _ rfl hG4.own _ _ _ l1 rfl (H1.out _ B4) (by omega) B4.size ?_; intro v5 w5 hG5; have B5 : Below w.heap.size w w5 := hG5.below hG4.own B4 B4.size; go_frame)
   | (at_builtin; refine app_rows rfl (.tmp 30) (.tmp 31) rfl w.heap.size _ _ _ rfl hG5.own _ _ _ l2 rfl (H2.out _ B5) (by omega) B5.size ?_; intro v6 w6 hG6; go_frame))
  go_ret
  exact ⟨_, rfl, by rw [HF.out, List.length_append, List.length_append, List.length_append]; exact hG6.own, hG6.below hG5.own B5 B5.size⟩
set_option maxRecDepth 8000 in
theorem miss_any (X : World) (b : Nat) (k a : Int) (v vz vm : Value) (f t : Int) (h : P.Blk X b 122 [.int .i64 k, .int .i64 a, v, vz, vm]) :
  Calls Tryz.prog 93 #[.pointer (some ⟨b, 0, none⟩), .int .i64 f, .int .i64 t] X fun e w' => Tld X [ansI k a] e w' := by
 have HA : Hid (∀ W, Calls Tryz.prog 49 #[.agg #[.int .i64 k, .int .i64 a]] W fun e w' => e = .returned (.agg (cI (ansI k a))) /\ Below W.heap.size W w') := answer_any k a
 unfold ansI cI at *
 dsimp only at *
 generalize A.valZ k a = va at *
 have c0 := h.cell 0
 have c1 := h.cell 1
 go_enter Tryz.func93, Tryz.ntmps93
 go_wp2_with (first | (go_at_call 49; refine (HA.out _).mono ?_; rintro e w3 ⟨rfl, b3⟩))
 go_ret
 exact ⟨_, rfl, own_in w3 _ b3.size 6 0 0 va _ rfl, b3.alloc b3.size _⟩
set_option maxRecDepth 8000 in
theorem meet_of (hT : DecC) (X : World) (b : Nat) (k a : Int) (v vz vm : Value) (rs : List P.Xr) (ns : List Int) (i : Nat) (t : Int) (hblk : P.Blk X b 122 [.int .i64 k, .int .i64 a, v, vz, vm]) (hrl : P.RlR X v rs) (hnz : M.NzR X vz ns) (hR : Rok rs) (hi : i < ns.length) :
  Calls Tryz.prog 94 #[.pointer (some ⟨b, 0, none⟩), .int .i64 i, .int .i64 t] X fun e w' => Tld X ([⟨21, 1, 0, ns.getD i 0⟩, ansI k a] ++ verI (ns.getD i 0) k a (rs.map P.Xr.r)) e w' := by
 have HA : Hid (∀ W, Calls Tryz.prog 49 #[.agg #[.int .i64 k, .int .i64 a]] W fun e w' => e = .returned (.agg (cI (ansI k a))) /\ Below W.heap.size W w') := answer_any k a
 obtain ⟨p1, q1, rfl, hq1, hq2, hcz⟩ := hnz
 obtain ⟨zb, zo, rfl, hz⟩ := hcz (by omega)
 have hzi := hz i (ns.getD i 0) (by rw [List.getD_eq_getElem?_getD, List.getElem?_eq_getElem hi]; rfl)
 have HV : Hid (∀ W, Below X.heap.size X W -> Calls Tryz.prog 128 #[.agg #[.int .i64 k, .int .i64 a, v], .int .u32 (ns.getD i 0)] W fun e w' => Tld W (verI (ns.getD i 0) k a (rs.map P.Xr.r)) e w') := fun W hW => verdict_of hT W _ k a v rs (hrl.below hW) hR
 have HVl : Hid ((verI (ns.getD i 0) k a (rs.map P.Xr.r)).length <= 20000) := by
  have h1 := ver_len (ns.getD i 0) k a (rs.map P.Xr.r)
  have h2 : ∀ l : List P.Xr, (∀ x ∈ l, Xok x.r) -> lenR (ns.getD i 0) (l.map P.Xr.r) <= l.length * 141 := by
   intro l
   induction l with
   | nil => intro _; exact Nat.le_refl _
   | cons x r ih =>
    intro hx
    have h3 := ih fun y hy => hx y (List.mem_cons_of_mem _ hy)
    have h4 := (hx x (List.mem_cons_self ..)).1
    rw [List.map_cons, lenR_cons, List.length_cons]
    split <;> omega
  have h3 := h2 rs hR.ok
  have h4 := hR.len
  unfold Hid
  omega
 have HB : Hid (P.Blk X b 122 [.int .i64 k, .int .i64 a, v, .slice (some ⟨zb, zo, none⟩) ns.length q1, vm]) := hblk
 obtain ⟨pv, cv, rfl⟩ : ∃ p c, v = .slice p rs.length c := by obtain ⟨p, c, e, _⟩ := hrl; exact ⟨p, c, e⟩
 have hi1 : (i : Int) < (ns.length : Int) := by omega
 unfold ansI cI at *
 dsimp only at *
 clear hblk hrl hR hT hz hq2 hcz
 generalize verI (ns.getD i 0) k a (rs.map P.Xr.r) = VI at *
 generalize A.valZ k a = va at *
 generalize ns.getD i 0 = z at *
 obtain ⟨GL, hGL⟩ : ∃ GL : List V.In, [⟨21, 1, 0, z⟩, ⟨6, 0, 0, va⟩] ++ VI = GL := ⟨_, rfl⟩
 rw [hGL]
 have HGL : Hid ([⟨21, 1, 0, z⟩, ⟨6, 0, 0, va⟩] ++ VI = GL) := hGL
 clear hGL
 have c0 := HB.out.cell 0
 have c1 := HB.out.cell 1
 have c2 := HB.out.cell 2
 have c3 := HB.out.cell 3
 go_enter Tryz.func94, Tryz.ntmps94
 go_wp2_with (first
  | (go_at_call 49; refine (HA.out _).mono ?_; rintro e w3 ⟨rfl, b3⟩; have B4 : Below X.heap.size X (w3.alloc (Obj.cells #[.int .u16 21, .int .u8 1, .int .u8 0, .int .u32 z, .int .u16 6, .int .u8 0, .int .u8 0, .int .u32 va] 60)) := b3.alloc b3.size _; have O4 := own_in2 w3 X.heap.size b3.size 21 1 0 z 6 0 0 va _ rfl; have d0 := (HB.out.over B4).cell 0; have d1 := (HB.out.over B4).cell 1; have d2 := (HB.out.over B4).cell 2)
  | (go_at_call 128; refine (HV.out _ B4).mono ?_; rintro e w5 ⟨v5, rfl, o5, b5⟩; have O5 := own_over O4 b5; have B5 := B4.trans (b5.mono B4.size))
  | (at_builtin; refine app_rows rfl (.tmp 25) (.tmp 31) rfl X.heap.size _ 2 _ rfl O5 _ _ _ VI rfl o5 (by have := HVl.out; omega) B5.size ?_; intro v6 w6 hG6; go_frame))
 go_ret
 exact ⟨_, rfl, by rw [<- HGL.out, List.length_append]; exact hG6.own, hG6.below O5 B5 B5.size⟩
def Mid (W : World) (vm : Value) (ms : List Nat) : Prop :=
 ∃ p c, vm = .slice p ms.length c /\ ms.length <= c /\ c <= 9223372036854775807 /\ (0 < ms.length -> ∃ g o, p = some ⟨g, o, none⟩ /\ ∀ (i : Nat) (x : Nat), ms[i]? = some x -> W.cell? ⟨g, o + i, none⟩ = some (.int .i64 (x : Nat)))
structure Fix (W : World) (b : Nat) (v vz : Value) (rs : List P.Xr) (ns : List Int) : Prop where
 rl : P.RlR W v rs
 nz : M.NzR W vz ns
 ok : Rok rs
 at' : W.heap.size <= b
 len : ns.length <= 1000
def AmT (W X : World) (b : Nat) (k a : Int) (v vz : Value) (L : List V.In) (ms : List Nat) (e : Ending) (w' : World) : Prop :=
 ∃ u vm', e = .returned u /\ w'.ownsRow X.heap.size 60 4 u L.length (V.cellsI L) /\ P.Blk w' b 122 [.int .i64 k, .int .i64 a, v, vz, vm'] /\ Mid W vm' ms /\ X.grownBy w' (some b)
theorem grow_of_below {X Y : World} (h : Below X.heap.size X Y) (r : Option Nat) : X.grownBy Y r := by
 obtain ⟨h1, h2, h3, h4, h5⟩ := h
 exact ⟨h1, h2, h3, h4, fun j hj _ => h5 j hj⟩
theorem below_of_grow {W X Y : World} {b : Nat} (h : Below W.heap.size W X) (hg : X.grownBy Y (some b)) (hb : W.heap.size <= b) : Below W.heap.size W Y :=
 h.grown hg h.size fun j hj => by cases hj; exact hb
theorem grow_trans {X Y Z : World} {r : Option Nat} (h : X.grownBy Y r) (h' : Y.grownBy Z r) : X.grownBy Z r := by
 obtain ⟨a1, a2, a3, a4, a5⟩ := h
 obtain ⟨b1, b2, b3, b4, b5⟩ := h'
 exact ⟨b1.trans a1, b2.trans a2, b3.trans a3, Nat.le_trans a4 b4, fun j hj hr => (b5 j (Nat.lt_of_lt_of_le hj a4) hr).trans (a5 j hj hr)⟩
theorem grow_set (X : World) (b i : Nat) (v : Value) : X.grownBy (X.setCell ⟨b, i, none⟩ v) (some b) :=
 ⟨rfl, rfl, rfl, by simp, fun j _ hj => Below.heap_setCell _ _ _ j (fun e => hj (by rw [e]))⟩
theorem own_grow {X Y : World} {c b n : Nat} {u : Value} {xs : List Value} (h : X.ownsRow c 60 4 u n xs) (hg : X.grownBy Y (some b)) (hb : b < c) : Y.ownsRow c 60 4 u n xs :=
 h.kept hg (Or.inr fun e => by have := P.owns_block h b e; omega)
def AmC (W : World) (b : Nat) (k a : Int) (v vz : Value) (rs : List P.Xr) (ns : List Int) (i j : Nat) : Prop :=
 ∀ (X : World) (vm : Value) (ms : List Nat), Below W.heap.size W X -> P.Blk X b 122 [.int .i64 k, .int .i64 a, v, vz, vm] -> Mid W vm (T.mids i j ++ ms) ->
  Calls Tryz.prog 52 #[.pointer (some ⟨b, 0, none⟩), .int .i64 i, .int .i64 j] X fun e w' => AmT W X b k a v vz (amI ns (fun z => verI z k a (rs.map P.Xr.r)) (ansI k a) i j) ms e w'
set_option maxRecDepth 8000 in
theorem halve_of (W : World) (b : Nat) (k a : Int) (v vz : Value) (rs : List Go.Proofs.YtcckipimfgmmdaaGreatDoor.P.Xr) (ns : List Int) (hF : Fix W b v vz rs ns) (i j : Nat) (hij : 2 <= j - i) (hj : j <= ns.length)
  (hbig : (amI ns (fun z => verI z k a (rs.map Go.Proofs.YtcckipimfgmmdaaGreatDoor.P.Xr.r)) (ansI k a) i j).length <= 90000)
  (ih1 : AmC W b k a v vz rs ns i (T.mid i j)) (ih2 : AmC W b k a v vz rs ns (T.mid i j) j) (X : World) (vm : Value) (ms : List Nat) (hX : Below W.heap.size W X) (hblk : Go.Proofs.YtcckipimfgmmdaaGreatDoor.P.Blk X b 122 [.int .i64 k, .int .i64 a, v, vz, vm]) (hm : Mid W vm (T.mids i j ++ ms)) :
  Calls Tryz.prog 92 #[.pointer (some ⟨b, 0, none⟩), .int .i64 i, .int .i64 j] X fun e w' => AmT W X b k a v vz (amI ns (fun z => verI z k a (rs.map Go.Proofs.YtcckipimfgmmdaaGreatDoor.P.Xr.r)) (ansI k a) i j) ms e w' := by
 have hmid := T.mid_lt hij
 rw [am_two hij] at hbig
 rw [am_two hij]
 rw [T.mids_two hij] at hm
 generalize hM : T.mid i j = m at *
 have HI1 : Hid (AmC W b k a v vz rs ns i m) := ih1
 have HI2 : Hid (AmC W b k a v vz rs ns m j) := ih2
 unfold AmC at HI1 HI2
 generalize amI ns (fun z => verI z k a (rs.map Go.Proofs.YtcckipimfgmmdaaGreatDoor.P.Xr.r)) (ansI k a) i m = L1 at *
 generalize amI ns (fun z => verI z k a (rs.map Go.Proofs.YtcckipimfgmmdaaGreatDoor.P.Xr.r)) (ansI k a) m j = L2 at *
 have hbl : L1.length + L2.length <= 90000 := by
  unfold forkI at hbig
  rw [List.length_append, List.length_append] at hbig
  omega
 obtain ⟨pm, cm, rfl, hc1, hc2, hcell⟩ := hm
 obtain ⟨g, o, rfl, hcs⟩ := hcell (by simp)
 have hc0 := hcs 0 m rfl
 have hXb : X.heap.size > b := hblk.lt
 have hgW : g < W.heap.size := World.block_lt_of_cell? _ _ hc0
 have hx0 : X.cell? ⟨g, o + 0, none⟩ = some (.int .i64 (m : Nat)) := Go.Proofs.YtcckipimfgmmdaaGreatDoor.P.cellS hc0 (hX.block g hgW)
 rw [Nat.add_zero] at hx0
 obtain ⟨R, hR⟩ : ∃ R : List Nat, T.mids i m ++ (T.mids m j ++ ms) = R := ⟨_, rfl⟩
 have hRl : (m :: (T.mids i m ++ T.mids m j) ++ ms).length = R.length + 1 := by rw [<- hR]; simp
 rw [hRl] at hblk hc1
 have HM1 : Hid (Mid W (.slice (if cm = 1 then some ⟨g, o, none⟩ else some ⟨g, o + 1, none⟩) R.length (cm - 1)) (T.mids i m ++ (T.mids m j ++ ms))) := ⟨_, cm - 1, by rw [hR], by rw [hR]; omega, by omega, fun h0 => ⟨g, o + 1, by rw [hR] at h0; rw [if_neg (by omega)], fun q x hq => by
  have := hcs (q + 1) x (by rw [List.cons_append, List.getElem?_cons_succ, List.append_assoc]; exact hq)
  rw [show o + 1 + q = o + (q + 1) from by omega]
  exact this⟩⟩
 have HF : Hid (Fix W b v vz rs ns) := hF
 have HX : Hid (Below W.heap.size W X) := hX
 have c3 := hblk.cell 3
 have c4 := hblk.cell 4
 have f4 := hblk.f 4
 obtain ⟨pz, cz, rfl, hz1, hz2, hzc⟩ := hF.nz
 obtain ⟨zb, zo, rfl, hz⟩ := hzc (by omega)
 have hzm := hz m (ns.getD m 0) (by rw [List.getD_eq_getElem?_getD, List.getElem?_eq_getElem (show m < ns.length by omega)]; rfl)
 have HZ : Hid (∀ Y, Below W.heap.size W Y -> Y.cell? ⟨zb, zo + m, none⟩ = some (.int .u32 (ns.getD m 0))) := fun Y hY => Go.Proofs.YtcckipimfgmmdaaGreatDoor.P.cellS hzm (hY.block zb (World.block_lt_of_cell? _ _ hzm))
 have HBl : Hid (Go.Proofs.YtcckipimfgmmdaaGreatDoor.P.Blk (X.setCell ⟨b, 4, none⟩ (.slice (if cm = 1 then some ⟨g, o, none⟩ else some ⟨g, o + 1, none⟩) R.length (cm - 1))) b 122 [.int .i64 k, .int .i64 a, v, .slice (some ⟨zb, zo, none⟩) ns.length cz, .slice (if cm = 1 then some ⟨g, o, none⟩ else some ⟨g, o + 1, none⟩) R.length (cm - 1)]) := hblk.set 4 _
 have hm1 : (m : Int) < (ns.length : Int) := by omega
 have hm0 : (0 : Int) <= (m : Int) := by omega
 have HFk : Hid (∀ (w : World) (b1 b2 : Nat) (u1 u2 : Value), w.ownsRow b1 60 4 u1 L1.length (V.cellsI L1) -> w.ownsRow b2 60 4 u2 L2.length (V.cellsI L2) -> Calls Tryz.prog 127 #[.int .u32 (ns.getD m 0), u1, u2] w fun e w' => Tld w (forkI (ns.getD m 0) L1 L2) e w') := fun w b1 b2 u1 u2 h1 h2 => fork_any _ w b1 b2 u1 u2 L1 L2 h1 h2 hbl
 generalize forkI (ns.getD m 0) L1 L2 = FL at *
 generalize ns.getD m 0 = zm at *
 clear hblk hbig hcell hcs hc0 hX hF hz hzc hzm hM hR hRl ih1 ih2
 go_enter Tryz.func92, Tryz.ntmps92
 go_upto_region 3 with fail
 generalize (if cm = 1 then (some ⟨g, o, none⟩ : Option Addr) else some ⟨g, o + 1, none⟩) = P at *
 have hg1 : X.grownBy (X.setCell ⟨b, 4, none⟩ (.slice P R.length (cm - 1))) (some b) := grow_set X b 4 _
 have hB1 : Below W.heap.size W (X.setCell ⟨b, 4, none⟩ (.slice P R.length (cm - 1))) := below_of_grow HX.out hg1 HF.out.at'
 have HG1 : Hid (X.grownBy (X.setCell ⟨b, 4, none⟩ (.slice P R.length (cm - 1))) (some b)) := hg1
 have HS1 : Hid (X.heap.size <= (X.setCell ⟨b, 4, none⟩ (.slice P R.length (cm - 1))).heap.size) := by unfold Hid; simp
 clear hg1
 generalize (X.setCell ⟨b, 4, none⟩ (.slice P R.length (cm - 1))) = X1 at *
 have hbX1 : b < X1.heap.size := by have := HS1.out; omega
 go_upto_region 4 with (first
  | (go_at_call 52; refine (HI1.out _ _ _ hB1 HBl.out HM1.out).mono ?_; rintro e w1 ⟨u1, vm1, rfl, o1, k1, m1, g1⟩; have hB2 : Below W.heap.size W w1 := below_of_grow hB1 g1 HF.out.at'; have hs1 : X1.heap.size <= w1.heap.size := g1.size))
 go_upto_region 5 with (first
  | (go_at_call 52; refine (HI2.out _ _ _ hB2 k1 m1).mono ?_; rintro e w2 ⟨u2, vm2, rfl, o2, k2, m2, g2⟩; have hB3 : Below W.heap.size W w2 := below_of_grow hB2 g2 HF.out.at'; have hs2 : w1.heap.size <= w2.heap.size := g2.size; have o1' := own_grow o1 g2 hbX1; have d3 := k2.cell 3; have dz := HZ.out _ hB3))
 go_wp2_with (first
  | (go_at_call 127; refine (HFk.out _ _ _ _ _ o1' o2).mono ?_; rintro e w3 ⟨u3, rfl, o3, b3⟩))
 go_ret
 have := HS1.out
 exact ⟨_, vm2, rfl, Go.Proofs.YtcckipimfgmmdaaGreatDoor.P.owns_lower o3 (by omega), k2.over b3, m2, grow_trans (grow_trans (grow_trans HG1.out g1) g2) (grow_of_below b3 _)⟩
set_option maxRecDepth 8000 in
theorem among_of (hT : DecC) (W : World) (b : Nat) (k a : Int) (v vz : Value) (rs : List P.Xr) (ns : List Int) (hF : Fix W b v vz rs ns)
  (hbig : ∀ i j, i < j -> j <= ns.length -> (amI ns (fun z => verI z k a (rs.map P.Xr.r)) (ansI k a) i j).length <= 90000) (n : Nat) : ∀ i j, j - i <= n -> i <= j -> j <= ns.length -> AmC W b k a v vz rs ns i j := by
 induction n with
 | zero =>
  intro i j h1 h2 h3 X vm ms hX hblk hm
  have hij : j = i := by omega
  subst hij
  rw [am_none (by omega)]
  have HM : Hid (Mid W vm ms) := by rw [T.mids_one (by omega)] at hm; exact hm
  have HMs : Hid (∀ f t, Calls Tryz.prog 93 #[.pointer (some ⟨b, 0, none⟩), .int .i64 f, .int .i64 t] X fun e w' => Tld X [ansI k a] e w') := fun f t => miss_any X b k a v vz vm f t hblk
  have HBk : Hid (P.Blk X b 122 [.int .i64 k, .int .i64 a, v, vz, vm]) := hblk
  have e0 : IntKind.i64.wrap ((j : Int) - (j : Int)) = 0 := by rw [IntKind.wrap_i64]; omega
  generalize [ansI k a] = L at *
  clear hX hblk hm hF hbig hT
  go_enter Tryz.func52, Tryz.ntmps52
  go_wp2_with (first | (go_at_call 93; refine (HMs.out _ _).mono ?_; rintro e w1 ⟨u1, rfl, o1, b1⟩))
  go_ret
  exact ⟨_, vm, rfl, o1, HBk.out.over b1, HM.out, grow_of_below b1 _⟩
 | succ n ih =>
  intro i j h1 h2 h3
  by_cases h4 : j - i <= n
  ·exact ih i j h4 h2 h3
  ·intro X vm ms hX hblk hm
   have hd : j - i = n + 1 := by omega
   have e1 : IntKind.i64.wrap ((j : Int) - (i : Int)) = ((n + 1 : Nat) : Int) := by rw [IntKind.wrap_i64]; have := hF.len; omega
   by_cases h5 : n = 0
   ·subst h5
    rw [am_one (by omega)]
    have HM : Hid (Mid W vm ms) := by rw [T.mids_one (by omega)] at hm; exact hm
    have HMs : Hid (∀ t, Calls Tryz.prog 94 #[.pointer (some ⟨b, 0, none⟩), .int .i64 i, .int .i64 t] X fun e w' => Tld X ([⟨21, 1, 0, ns.getD i 0⟩, ansI k a] ++ verI (ns.getD i 0) k a (rs.map P.Xr.r)) e w') := fun t => meet_of hT X b k a v vz vm rs ns i t hblk (hF.rl.below hX) (hF.nz.below hX) hF.ok (by omega)
    have HBk : Hid (P.Blk X b 122 [.int .i64 k, .int .i64 a, v, vz, vm]) := hblk
    have e2 : IntKind.i64.wrap ((j : Int) - (i : Int)) = 1 := e1
    generalize ([⟨21, 1, 0, ns.getD i 0⟩, ansI k a] ++ verI (ns.getD i 0) k a (rs.map P.Xr.r)) = L at *
    clear hX hblk hm hF hbig hT ih e1
    go_enter Tryz.func52, Tryz.ntmps52
    go_wp2_with (first | (go_at_call 94; refine (HMs.out _).mono ?_; rintro e w1 ⟨u1, rfl, o1, b1⟩))
    go_ret
    exact ⟨_, vm, rfl, o1, HBk.out.over b1, HM.out, grow_of_below b1 _⟩
   ·have hmid := T.mid_lt (a := i) (b := j) (by omega)
    have HH : Hid (Calls Tryz.prog 92 #[.pointer (some ⟨b, 0, none⟩), .int .i64 i, .int .i64 j] X fun e w' => AmT W X b k a v vz (amI ns (fun z => verI z k a (rs.map P.Xr.r)) (ansI k a) i j) ms e w') := halve_of W b k a v vz rs ns hF i j (by omega) h3 (hbig i j (by omega) h3) (ih i _ (by omega) (by omega) (by omega)) (ih _ j (by omega) (by omega) h3) X vm ms hX hblk hm
    generalize amI ns (fun z => verI z k a (rs.map P.Xr.r)) (ansI k a) i j = L at *
    obtain ⟨D, hD⟩ : ∃ D : Int, ((n + 1 : Nat) : Int) = D := ⟨_, rfl⟩
    rw [hD] at e1
    have hD0 : (D == 0) = false := by have : D ≠ 0 := by omega
                                      simpa using this
    have hD1 : (D == 1) = false := by have : D ≠ 1 := by omega
                                      simpa using this
    clear hX hblk hm hF hbig hT ih hD
    go_enter Tryz.func52, Tryz.ntmps52
    go_wp2_with (first | (go_at_call 92; refine HH.out.mono ?_; rintro e w1 ⟨u1, vm1, rfl, o1, k1, m1, g1⟩))
    go_ret
    exact ⟨_, vm1, rfl, o1, k1, m1, g1⟩
end Go.Proofs.YtcckipimfgmmdaaGreatDoor
