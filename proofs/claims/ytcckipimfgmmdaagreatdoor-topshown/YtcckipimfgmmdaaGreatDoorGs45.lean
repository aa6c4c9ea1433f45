/-
  TpMem TpAwk TpLaid TpTab.
-/
import Derived.Test.YtcckipimfgmmdaaGreatDoorGs44
import Derived.Test.YtcckipimfgmmdaaGreatDoorGs41
import Derived.LaidLaws
import Derived.LaidMore
import Derived.Lay
import Derived.Stop.Joined
import Derived.Lib.LaidTab
set_option maxHeartbeats 4000000
namespace Go.Proofs.YtcckipimfgmmdaaGreatDoor.S
open Go.RowKit
theorem stk_new (w : World) : StkV (w.alloc (Obj.cells #[.slice none 0 0, .slice none 0 0] 33)) w.heap.size (.slice none 0 0) (.slice none 0 0) [] := ⟨P.blk_new w _ _, own_nil _ _, ⟨rfl, .inl ⟨rfl, rfl⟩⟩⟩
theorem fl_of_own {w : World} {base : Nat} {v : Value} {l : List V.In} (h : w.ownsRow base 60 4 v l.length (V.cellsI l)) (hl : ∀ x ∈ l, x.ok) : FlV w v l := by
 obtain ⟨a, cap, rfl, hi⟩ := V.owns_ins h hl
 rcases h.2 with ⟨e, h0⟩ | ⟨g, c, cur, e, _, _, h1, h2, _⟩
 ·simp at e
  exact ⟨a, cap, rfl, hi, by unfold maxLen; omega, by omega, fun _ => by omega⟩
 ·simp at e
  exact ⟨a, cap, rfl, hi, by omega, by omega, fun hn => by rw [e.1] at hn; cases hn⟩
theorem AttT.yes {X Y : World} {b : Nat} {vc ve : Value} {ls : List (List V.In)} {l : List V.In} {e : Ending} (h : AttT X b vc ve ls l e Y) (h0 : attE ls l = 0) : e = .returned (.int .i64 0) /\ X.grownBy Y (some b) /\ ∃ vc' ve', StkV Y b vc' ve' (ls ++ [l]) := by
 obtain ⟨rfl, h2, h3⟩ := h
 refine ⟨by rw [h0], h2, ?_⟩
 rcases h3 with ⟨h4, _⟩ | ⟨_, vc', ve', h5, _⟩
 ·exact absurd h0 h4
 ·exact ⟨vc', ve', h5⟩
end Go.Proofs.YtcckipimfgmmdaaGreatDoor.S
namespace Go.Proofs.YtcckipimfgmmdaaGreatDoor
open Go.RowKit
structure Pgm (k a : Int) (l : List P.Xl) (p : List V.In) : Prop where
 chk : (V.chk p).1 = 0
 ok : ∀ x ∈ p, x.ok
 len : p.length <= 4096
 ans : ∀ d : V.Da, d.ok -> V.ansV p (toV d) = meanZ d k a l
theorem wgt_of {rs : List P.Xr} (hR : Rok rs) : M.wgt rs <= 100000000 := by
 have h1 := sum_wg1 rs hR
 have h2 : M.wgt rs = 8 + (rs.map fun x => M.wg1 x.r).sum := rfl
 omega
theorem pgm_of {k a : Int} {rs : List P.Xr} {ns : List Int} (hR : Rok rs) (hn : Nrs ns rs) (h4 : (progI ns k a (rs.map P.Xr.r)).length <= 4096) : Pgm k a (rs.map P.Xr.r) (progI ns k a (rs.map P.Xr.r)) :=
 ⟨by rw [prog_chk ns k a rs hn hR.ok (wgt_of hR) h4], (prog_gd ns k a rs hn hR.ok (wgt_of hR)).ok, h4, fun d hd => (prog_ans d hd ns k a rs hn hR.ok (wgt_of hR) h4).2.1⟩
theorem att_or {ls : List (List V.In)} {p : List V.In} (hc : (V.chk p).1 = 0) (h8 : ls.length <= 8) : S.attE ls p = 0 \/ (S.attE ls p = 16 /\ 32768 < S.costL ls + (p.length + 4)) := by
 unfold S.attE
 rw [if_pos hc]
 by_cases h : 32 <= ls.length \/ 32768 < S.costL ls + (p.length + 4)
 ·rw [if_pos h]
  rcases h with h | h
  ·omega
  ·exact .inr ⟨rfl, h⟩
 ·rw [if_neg h]
  exact .inl rfl
open P (ofR)
open V (below_new)
def awkT : ByteArray := ⟨#[100, 101, 102, 97, 117, 108, 116, 32, 107, 105, 108, 108, 59, 32, 108, 111, 103, 32, 119, 114, 105, 116, 101, 59]⟩
def awkR : List P.Rl := [⟨⟨7, 0⟩, [[119, 114, 105, 116, 101]], []⟩]
def awkL : List P.Xl := awkR.map ofR
def awkD : V.Da := ⟨1, 3221225534, 0, [0, 0, 0, 0, 0, 0]⟩
theorem awkD_ok : awkD.ok := ⟨⟨by decide, by decide⟩, ⟨by decide, by decide⟩, ⟨by decide, by decide⟩, rfl, fun z hz => by simp [awkD] at hz; subst hz; exact ⟨by decide, by decide⟩⟩
theorem awk_prs : P.prs (P.lst awkT) = .ok (⟨1, 0⟩, awkR) := by kernel_rfl
theorem awk_chk : (M.checkP 1 0 awkL).1 = 0 := by kernel_rfl
theorem awk_mean : meanZ awkD 1 0 awkL = 2147221504 := by kernel_rfl
theorem awk_wgt : (awkL.map M.wg1).sum <= 1000 := by decide +kernel
theorem awk_parse (W : World) (hv : P.Vars W) : Calls Tryz.prog 6 #[.string ⟨#[100, 101, 102, 97, 117, 108, 116, 32, 107, 105, 108, 108, 59, 32, 108, 111, 103, 32, 119, 114, 105, 116, 101, 59]⟩] W fun e w' => Below W.heap.size W w' /\ ∃ p c l, l.map P.Xr.r = awkL /\ e = .returned (.tuple #[.agg #[.int .i64 1, .int .i64 0, .slice p l.length c], .int .i64 0, .int .i64 (-1)]) /\ P.RlR w' (.slice p l.length c) l /\ Few l /\ Fits l := by
 refine (parseM awkT W hv).mono ?_
 rintro e w' ⟨hb, h⟩
 rw [awk_prs] at h
 obtain ⟨v, l, h1, rfl, h3, h4, h5⟩ := h
 obtain ⟨p, c, rfl⟩ : ∃ p c, v = .slice p l.length c := by obtain ⟨p, c, e, _⟩ := h3; exact ⟨p, c, e⟩
 exact ⟨hb, p, c, l, h1, rfl, h3, h4, h5⟩
theorem awk_cmp (W : World) (v : Value) (l : List P.Xr) (h : P.RlR W v l) (he : l.map P.Xr.r = awkL) (hF : Few l) (hf : Fits l) :
  Calls Tryz.prog 7 #[.agg #[.int .i64 1, .int .i64 0, v]] W fun e w' => ∃ a c p, e = .returned (.tuple #[.slice a p.length c, .int .i64 0]) /\ Below W.heap.size W w' /\ S.FlV w' (.slice a p.length c) p /\ Pgm 1 0 awkL p := by
 refine (compile_any W 1 0 v l h hF hf).mono ?_
 rintro e w' ⟨v', er, rfl, hb, ⟨h1, _, _⟩ | ⟨_, hR, ns, hn, ⟨h1, _, _⟩ | ⟨h1, rfl, ho⟩⟩⟩
 ·rw [he] at h1
  exact absurd awk_chk h1
 ·have h2 := (prog_len ns 1 0 l hn).2
  have h3 : M.wgt l = 8 + ((l.map P.Xr.r).map M.wg1).sum := by rw [List.map_map]; rfl
  have h4 := awk_wgt
  rw [he] at h3
  omega
 ·have h3 := S.fl_of_own ho (pgm_of hR hn h1).ok
  have h4 := pgm_of hR hn h1
  rw [he] at h3 h4 ho
  obtain ⟨a, c, rfl, h5⟩ := h3
  exact ⟨a, c, _, rfl, hb, ⟨a, c, rfl, h5⟩, h4⟩
theorem awk_att {p : List V.In} (h : Pgm 1 0 awkL p) : S.attE [] p = 0 := by
 rcases att_or h.chk (ls := []) (by decide) with e | ⟨_, e⟩
 ·exact e
 ·have := h.len
  have h0 : S.costL [] = 0 := rfl
  omega
theorem awk_okS {p : List V.In} (h : Pgm 1 0 awkL p) : S.OkS [p] := S.okS_att S.okS_nil h.ok (awk_att h)
theorem awk_run (W : World) (b : Nat) (vc ve : Value) (p : List V.In) (h : Pgm 1 0 awkL p) (hS : S.StkV W b vc ve [p]) :
  Calls Tryz.prog 12 #[.pointer (some ⟨b, 0, none⟩), .agg #[.int .u32 1, .int .u32 3221225534, .int .u64 0, .int .u64 0, .int .u64 0, .int .u64 0, .int .u64 0, .int .u64 0, .int .u64 0]] W fun e w' => e = .returned (.tuple #[.int .u32 2147221504, .int .i64 0]) /\ Below W.heap.size W w' := by
 have e1 : S.ansL [p] (toV awkD) = [2147221504] := by
  show [V.ansV p (toV awkD)] = _
  rw [h.ans awkD awkD_ok, awk_mean]
 have := S.run_any W b vc ve [p] (toV awkD) hS (awk_okS h) awkD_ok
 rw [e1, show A.most [2147221504] = 2147221504 by kernel_rfl, show S.plN [2147221504] = 0 by kernel_rfl] at this
 exact this
set_option maxRecDepth 8000 in
theorem awake_any (w : World) (hv : P.Vars w) : Calls Tryz.prog 5 #[] w fun e w' => e = .returned (.bool true) /\ Below w.heap.size w w' := by
 have HV : Hid (P.Vars w) := hv
 clear hv
 go_enter Tryz.func5, Tryz.ntmps5
 go_upto_region 2 with (first | (go_at_call 6; refine (awk_parse _ HV.out).mono ?_; rintro e w1 ⟨b1, p1, c1, l, he, rfl, r1, f1, f2⟩))
 have HB1 : Hid (Below w.heap.size w (w1.alloc (Obj.cells #[.int .i64 1, .int .i64 0, .slice p1 l.length c1] 39))) := b1.trans ((below_new _ _).mono b1.size)
 have HC : Hid (Calls Tryz.prog 7 #[.agg #[.int .i64 1, .int .i64 0, .slice p1 l.length c1]] (w1.alloc (Obj.cells #[.int .i64 1, .int .i64 0, .slice p1 l.length c1] 39)) fun e w' => ∃ a c p, e = .returned (.tuple #[.slice a p.length c, .int .i64 0]) /\ Below (w1.alloc (Obj.cells #[.int .i64 1, .int .i64 0, .slice p1 l.length c1] 39)).heap.size (w1.alloc (Obj.cells #[.int .i64 1, .int .i64 0, .slice p1 l.length c1] 39)) w' /\ S.FlV w' (.slice a p.length c) p /\ Pgm 1 0 awkL p) := awk_cmp _ _ l (r1.below (below_new _ _)) he f1 f2
 clear b1 he r1 f1 f2
 go_upto_region 4 with (first | (go_at_call 7; refine HC.out.mono ?_; rintro e w2 ⟨a2, c2, p, rfl, b2, f2, hp⟩))
 have HB2 : Hid (Below w.heap.size w w2) := HB1.out.trans (b2.mono HB1.out.size)
 have HP : Hid (Pgm 1 0 awkL p) := hp
 have H1 : Hid (Calls Tryz.prog 8 #[.pointer (some ⟨w2.heap.size, 0, none⟩), .slice a2 p.length c2] (w2.alloc (Obj.cells #[.slice none 0 0, .slice none 0 0] 33)) fun e Y => S.AttT _ w2.heap.size _ _ [] p e Y) := S.attach_any _ w2.heap.size _ _ _ [] p (S.stk_new w2) S.okS_nil (f2.below (below_new _ _))
 have HB3 : Hid (Below w.heap.size w (w2.alloc (Obj.cells #[.slice none 0 0, .slice none 0 0] 33))) := HB2.out.trans ((below_new _ _).mono HB2.out.size)
 clear b2 f2 hp HC
 go_upto_region 5 with (first | (go_at_call 8; refine H1.out.mono ?_; rintro e w3 h3; obtain ⟨rfl, g3, vc3, ve3, s3⟩ := h3.yes (awk_att HP.out)))
 have HB4 : Hid (Below w.heap.size w w3) := HB3.out.trans (S.grown_below g3 HB2.out.size HB3.out.size)
 have HR : Hid (Calls Tryz.prog 12 #[.pointer (some ⟨w2.heap.size, 0, none⟩), .agg #[.int .u32 1, .int .u32 3221225534, .int .u64 0, .int .u64 0, .int .u64 0, .int .u64 0, .int .u64 0, .int .u64 0, .int .u64 0]] w3 fun e w' => e = .returned (.tuple #[.int .u32 2147221504, .int .i64 0]) /\ Below w3.heap.size w3 w') := awk_run w3 _ _ _ p HP.out s3
 clear h3 g3 s3 H1
 go_wp2_with (first | (go_at_call 12; refine HR.out.mono ?_; rintro e w5 ⟨rfl, b5⟩))
 go_ret
 exact ⟨rfl, HB4.out.trans (b5.mono HB4.out.size)⟩
open Go.ChangeShapes Go.WideShapes Go.ChangeAt Go.RowKit
def laid5 : List (String × DataW Unit) := [("math/bits.deBruijn32tab", Rows.laid_math_bits_deBruijn32tab), ("math/bits.deBruijn64tab", Rows.laid_math_bits_deBruijn64tab), ("internal/strconv.uint64pow10", Rows.laid_internal_strconv_uint64pow10), ("strconv.ErrRange", Rows.laid_strconv_ErrRange), ("strconv.ErrSyntax", Rows.laid_strconv_ErrSyntax)]
theorem gRange : Tryz.prog.globalNamed "strconv.ErrRange" = some 2 := by kernel_rfl
theorem gSyntax : Tryz.prog.globalNamed "strconv.ErrSyntax" = some 1 := by kernel_rfl
theorem tRange : (Tryz.prog.globals[2]?).map (·.type) = some 92 := by kernel_rfl
theorem tSyntax : (Tryz.prog.globals[1]?).map (·.type) = some 92 := by kernel_rfl
theorem vars_of_laid {W : World} (h : laidMetH Tryz.prog laid5 W) : P.Vars W := by
 rw [MakeChecks.laidMetH_plain _ _ _ (by kernel_rfl)] at h
 obtain ⟨ps, ⟨_, _, _, _, _, _, _, _, _, _, ⟨_, _, _, _, _, _, _, _, _, _, ⟨_, _, _, _, _, _, _, _, _, _, ⟨g0, t0, cs0, f0, p0, q0, hg0, ht0, hv0, hd0, ⟨g1, t1, cs1, f1, p1, q1, hg1, ht1, hv1, hd1, _, _⟩, _⟩, _⟩, _⟩, _⟩, _, _⟩ := h
 obtain rfl := Option.some.inj (gRange.symm.trans hg0)
 obtain rfl := Option.some.inj (gSyntax.symm.trans hg1)
 obtain rfl := Option.some.inj (tRange.symm.trans ht0)
 obtain rfl := Option.some.inj (tSyntax.symm.trans ht1)
 obtain ⟨_, u0, v0, e0, _, _⟩ := iface_of_trod Tryz.underlying92 hd0
 obtain ⟨_, u1, v1, e1, _, _⟩ := iface_of_trod Tryz.underlying92 hd1
 have c0 := World.var?_cell hg0 hv0 0
 have c1 := World.var?_cell hg1 hv1 0
 obtain ⟨l0⟩ := cs0
 obtain ⟨l1⟩ := cs1
 simp only at e0 e1
 subst e0 e1
 exact ⟨u1, v1, u0, v0, by simpa using c1, by simpa using c0⟩
theorem met5 (os : Os) (args : Array Value) : laidMetH Tryz.prog laid5 ((World.laidAll Tryz.prog os laid5).forCall (fun _ _ => 0) ⟨#[], args, []⟩).memory := by
 rw [MakeChecks.laidMetH_plain _ _ _ (by kernel_rfl)]
 exact laidMet_laidAll _ (by kernel_rfl) (by kernel_rfl)
theorem gPow : Tryz.prog.globalNamed "internal/strconv.uint64pow10" = some 3 := by kernel_rfl
theorem tPow : (Tryz.prog.globals[3]?).map (·.type) = some 277 := by kernel_rfl
theorem pow_data : (Rows.laid_internal_strconv_uint64pow10 : DataW Unit) = Lib.tabData .u64 Lib.pow10Tab := rfl
theorem tab_of_laid {W : World} (h : laidMetH Tryz.prog laid5 W) : P.Tb Lib.pow10Tab W := by
 rw [MakeChecks.laidMetH_plain _ _ _ (by kernel_rfl)] at h
 obtain ⟨ps, ⟨_, _, _, _, _, _, _, _, _, _, ⟨_, _, _, _, _, _, _, _, _, _, ⟨g2, t2, cs2, f2, p2, q2, hg2, ht2, hv2, hd2, _⟩, _⟩, _⟩, _⟩ := h
 obtain rfl := Option.some.inj (gPow.symm.trans hg2)
 obtain rfl := Option.some.inj (tPow.symm.trans ht2)
 refine ⟨rfl, ?_⟩
 unfold Lib.TabIs
 rw [pow_data] at hd2
 rw [hv2, <- Lib.cells_of_tab Tryz.underlying277 Tryz.underlying24 (by kernel_rfl) (by kernel_rfl) hd2]
end Go.Proofs.YtcckipimfgmmdaaGreatDoor
