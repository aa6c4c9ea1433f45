/-
  What any rules say of any call: the law's walk.
-/
import Derived.Test.YtimclfdecdappaaRDec2
import Derived.Test.YtimclfdecdappaaMeanChecksWalk
namespace Go.Proofs.Ytimclfdecdappaa
open Go.RowKit

theorem two_xd (w : World) (C : Array Value) (A : List Value) : Blk ((w.alloc (Obj.cells C 33)).alloc (Obj.cells A.toArray 41)) w.heap.size 33 C.toList ∧ Blk ((w.alloc (Obj.cells C 33)).alloc (Obj.cells A.toArray 41)) (w.heap.size + 1) 41 A ∧ Below w.heap.size w ((w.alloc (Obj.cells C 33)).alloc (Obj.cells A.toArray 41)) :=
  ⟨(blk_new w _ 33).alloc _, blk_new' w _ _ 41, room_below w _ _⟩

set_option maxRecDepth 8000 in
set_option maxHeartbeats 2000000 in
theorem decides_walk (w : World) (k a : Int) (v : Value) (l : List Xr) (d : Da) (h : RlR w v l) (hd : d.ok) :
    Calls Try.prog 5 #[.agg #[.int .i64 k, .int .i64 a, v], .agg d.cells.toArray] w fun e w' => e = .returned (.bool true) ∧ Below w.heap.size w w' := by
  obtain ⟨p1, c1, rfl⟩ : ∃ p c, v = .slice p l.length c := by obtain ⟨p, c, e, _⟩ := h; exact ⟨p, c, e⟩
  have hsz : (Try.prog.info? 41).map (·.size) = some d.cells.toArray.size := d.size hd
  have h3 := two_xd w #[.int .i64 k, .int .i64 a, .slice p1 l.length c1] d.cells
  have HA : Hid (∀ W, Calls Try.prog 9 #[] W fun e w' => e = .returned (.bool true) ∧ Below W.heap.size W w') := awake_any
  have HL : Hid (∀ W, RlR W (.slice p1 l.length c1) l → Calls Try.prog 14 #[.agg #[.int .i64 k, .int .i64 a, .slice p1 l.length c1]] W fun e w' => LightR W l e w') := fun W h => light_any W k a _ l h
  have H1 : Hid (Lt l → ∀ W, RlR W (.slice p1 l.length c1) l → Calls Try.prog 17 #[.agg #[.int .i64 k, .int .i64 a, .slice p1 l.length c1], .agg d.cells.toArray] W fun e w' => e = .returned (decV (decA d k a (l.map Xr.r)) (decE k a (l.map Xr.r))) ∧ Below W.heap.size W w') := fun hL W h => decide_any W k a _ l d h (lt_sml hL).1 (sml_small (lt_sml hL)) hd
  have H2 : Hid (Lt l → ∀ W, RlR W (.slice p1 l.length c1) l → Calls Try.prog 18 #[.agg #[.int .i64 k, .int .i64 a, .slice p1 l.length c1], .agg d.cells.toArray] W fun e w' => e = .returned (decV (decA d k a (l.map Xr.r)) (decE k a (l.map Xr.r))) ∧ Below W.heap.size W w') := fun hL W h => rdecide_any W k a _ l d h (lt_sml hL) hd
  generalize d.cells = A at *
  have BE : Hid (Below w.heap.size w ((w.alloc (Obj.cells #[.int .i64 k, .int .i64 a, .slice p1 l.length c1] 33)).alloc (Obj.cells A.toArray 41))) := h3.2.2
  have KD : Hid (Blk ((w.alloc (Obj.cells #[.int .i64 k, .int .i64 a, .slice p1 l.length c1] 33)).alloc (Obj.cells A.toArray 41)) (w.heap.size + 1) 41 A) := h3.2.1
  have HK : Hid (Blk ((w.alloc (Obj.cells #[.int .i64 k, .int .i64 a, .slice p1 l.length c1] 33)).alloc (Obj.cells A.toArray 41)) w.heap.size 33 [.int .i64 k, .int .i64 a, .slice p1 l.length c1]) := h3.1
  have SN : Hid (RlR ((w.alloc (Obj.cells #[.int .i64 k, .int .i64 a, .slice p1 l.length c1] 33)).alloc (Obj.cells A.toArray 41)) (.slice p1 l.length c1) l) := h.below h3.2.2
  clear h h3 hd
  generalize decA d k a (l.map Xr.r) = RA at *
  generalize decE k a (l.map Xr.r) = re at *
  obtain ⟨r1, r2⟩ := RA
  unfold decV actV at H1 H2
  dsimp only at H1 H2
  have hq : ∀ W : World, (Op.equalIn 10000 30 (.agg #[.int .i64 r1, .int .i64 r2]) (.agg #[.int .i64 r1, .int .i64 r2])).run Try.prog W = .ok true W := fun W => by rw [equalIn_act, sameA_self]
  go_enter Try.func5, Try.ntmps5
  go_wp2_with fail
  generalize ((w.alloc (Obj.cells #[.int .i64 k, .int .i64 a, .slice p1 l.length c1] 33)).alloc (Obj.cells A.toArray 41)) = X at *
  refine (HA.out _).mono ?_
  rintro e w1 ⟨rfl, b1⟩
  have t0 : w1.cell? ⟨w.heap.size, 0, none⟩ = some (.int .i64 k) := (HK.out.over b1).cell 0
  have t1 : w1.cell? ⟨w.heap.size, 1, none⟩ = some (.int .i64 a) := (HK.out.over b1).cell 1
  have t2 : w1.cell? ⟨w.heap.size, 2, none⟩ = some (.slice p1 l.length c1) := (HK.out.over b1).cell 2
  have K1 : Hid (Blk w1 w.heap.size 33 [.int .i64 k, .int .i64 a, .slice p1 l.length c1]) := HK.out.over b1
  have D1 : Hid (Blk w1 (w.heap.size + 1) 41 A) := KD.out.over b1
  have S1 : Hid (RlR w1 (.slice p1 l.length c1) l) := SN.out.below b1
  have B1 : Hid (Below w.heap.size w w1) := BE.out.trans (b1.mono BE.out.size)
  clear b1 BE HK SN KD
  go_wp2_with fail
  clear t0 t1 t2
  refine (HL.out _ S1.out).mono ?_
  rintro e w2 ⟨bb, rfl, b2, hbb⟩
  have HBB : Hid (bb = true → Lt l) := hbb
  have t0 : w2.cell? ⟨w.heap.size, 0, none⟩ = some (.int .i64 k) := (K1.out.over b2).cell 0
  have t1 : w2.cell? ⟨w.heap.size, 1, none⟩ = some (.int .i64 a) := (K1.out.over b2).cell 1
  have t2 : w2.cell? ⟨w.heap.size, 2, none⟩ = some (.slice p1 l.length c1) := (K1.out.over b2).cell 2
  have K2 : Hid (Blk w2 w.heap.size 33 [.int .i64 k, .int .i64 a, .slice p1 l.length c1]) := K1.out.over b2
  have D2 : Hid (Blk w2 (w.heap.size + 1) 41 A) := D1.out.over b2
  have S2 : Hid (RlR w2 (.slice p1 l.length c1) l) := S1.out.below b2
  have B2 : Hid (Below w.heap.size w w2) := B1.out.trans (b2.mono B1.out.size)
  clear b2 B1 K1 S1 hbb D1
  cases bb with
  | false =>
    go_wp2_with fail
    go_ret
    exact ⟨rfl, B2.out⟩
  | true =>
    have HLt : Hid (Lt l) := HBB.out rfl
    go_wp2_with (refine at_op (.load 41 (.tmp 3)) rfl ?_; refine wpList_load_row rfl 41 (.tmp 3) rfl (w.heap.size + 1) rfl 41 A.toArray (0, 0) _ D2.out Try.underlying41 rfl hsz ?_)
    clear t0 t1 t2
    refine (H1.out HLt.out _ S2.out).mono ?_
    rintro e w3 ⟨rfl, b3⟩
    have b3' : Below w2.heap.size w2 (w3.alloc (Obj.cells #[.int .i64 r1, .int .i64 r2] 30)) := b3.alloc b3.size _
    have K3 := K2.out.over b3'
    have t0 : (w3.alloc (Obj.cells #[.int .i64 r1, .int .i64 r2] 30)).cell? ⟨w.heap.size, 0, none⟩ = some (.int .i64 k) := (K3).cell 0
    have t1 : (w3.alloc (Obj.cells #[.int .i64 r1, .int .i64 r2] 30)).cell? ⟨w.heap.size, 1, none⟩ = some (.int .i64 a) := (K3).cell 1
    have t2 : (w3.alloc (Obj.cells #[.int .i64 r1, .int .i64 r2] 30)).cell? ⟨w.heap.size, 2, none⟩ = some (.slice p1 l.length c1) := (K3).cell 2
    have D3 : Hid (Blk (w3.alloc (Obj.cells #[.int .i64 r1, .int .i64 r2] 30)) (w.heap.size + 1) 41 A) := D2.out.over b3'
    have S3 : Hid (RlR (w3.alloc (Obj.cells #[.int .i64 r1, .int .i64 r2] 30)) (.slice p1 l.length c1) l) := S2.out.below b3'
    have B3 : Hid (Below w.heap.size w (w3.alloc (Obj.cells #[.int .i64 r1, .int .i64 r2] 30))) := B2.out.trans (b3'.mono B2.out.size)
    have KA : Hid (Blk (w3.alloc (Obj.cells #[.int .i64 r1, .int .i64 r2] 30)) w3.heap.size 30 [.int .i64 r1, .int .i64 r2]) := blk_new w3 _ _
    clear b3 b3' B2 S2 D2 K3
    go_wp2_with (refine at_op (.load 41 (.tmp 3)) rfl ?_; refine wpList_load_row rfl 41 (.tmp 3) rfl (w.heap.size + 1) rfl 41 A.toArray (0, 0) _ D3.out Try.underlying41 rfl hsz ?_)
    clear t0 t1 t2
    generalize (w3.alloc (Obj.cells #[.int .i64 r1, .int .i64 r2] 30)) = Y at *
    refine (H2.out HLt.out _ S3.out).mono ?_
    rintro e w4 ⟨rfl, b4⟩
    have b4' : Below Y.heap.size Y (w4.alloc (Obj.cells #[.int .i64 r1, .int .i64 r2] 30)) := b4.alloc b4.size _
    have K4 := KA.out.over b4'
    have s0 : (w4.alloc (Obj.cells #[.int .i64 r1, .int .i64 r2] 30)).cell? ⟨w3.heap.size, 0, none⟩ = some (.int .i64 r1) := K4.cell 0
    have s1 : (w4.alloc (Obj.cells #[.int .i64 r1, .int .i64 r2] 30)).cell? ⟨w3.heap.size, 1, none⟩ = some (.int .i64 r2) := K4.cell 1
    have B4 : Hid (Below w.heap.size w (w4.alloc (Obj.cells #[.int .i64 r1, .int .i64 r2] 30))) := B3.out.trans (b4'.mono B3.out.size)
    clear b4 b4' B3 K4 KA
    go_wp2_with fail
    go_ret
    exact ⟨rfl, B4.out⟩

end Go.Proofs.Ytimclfdecdappaa
