/-
  awake: a text is compiled, attached, and run.
-/
import Derived.Test.YtcckipimfgmmdaaGreatDoorTpPar
import Derived.Test.YtcckipimfgmmdaaGreatDoorTpMem
namespace Go.Proofs.YtcckipimfgmmdaaGreatDoor
open Go.RowKit

def awkT : ByteArray := ⟨#[100, 101, 102, 97, 117, 108, 116, 32, 107, 105, 108, 108, 59, 32, 108, 111, 103, 32, 119, 114, 105, 116, 101, 59]⟩
def awkR : List P.Rl := [⟨⟨7, 0⟩, [[119, 114, 105, 116, 101]], []⟩]
def awkL : List M.Xl := awkR.map ofR
def awkD : M.Da := ⟨1, 3221225534, 0, [0, 0, 0, 0, 0, 0]⟩
theorem awkD_ok : awkD.ok := ⟨⟨by decide, by decide⟩, ⟨by decide, by decide⟩, ⟨by decide, by decide⟩, rfl, fun z hz => by simp [awkD] at hz; subst hz; exact ⟨by decide, by decide⟩⟩
theorem awk_prs : P.prs (P.lst awkT) = .ok (⟨1, 0⟩, awkR) := by kernel_rfl
theorem awk_chk : (M.checkP 1 0 awkL).1 = 0 := by kernel_rfl
theorem awk_mean : meanZ awkD 1 0 awkL = 2147221504 := by kernel_rfl
theorem awk_wgt : (awkL.map M.wg1).sum ≤ 1000 := by decide +kernel

theorem awk_parse (W : World) (hv : P.Vars W) : Calls Tryz.prog 6 #[.string ⟨#[100, 101, 102, 97, 117, 108, 116, 32, 107, 105, 108, 108, 59, 32, 108, 111, 103, 32, 119, 114, 105, 116, 101, 59]⟩] W fun e w' => Below W.heap.size W w' ∧ ∃ p c l, l.map M.Xr.r = awkL ∧ e = .returned (.tuple #[.agg #[.int .i64 1, .int .i64 0, .slice p l.length c], .int .i64 0, .int .i64 (-1)]) ∧ M.RlR w' (.slice p l.length c) l ∧ Few l ∧ Fits l := by
  refine (parseM awkT W hv).mono ?_
  rintro e w' ⟨hb, h⟩
  rw [awk_prs] at h
  obtain ⟨v, l, h1, rfl, h3, h4, h5⟩ := h
  obtain ⟨p, c, rfl⟩ : ∃ p c, v = .slice p l.length c := by obtain ⟨p, c, e, _⟩ := h3; exact ⟨p, c, e⟩
  exact ⟨hb, p, c, l, h1, rfl, h3, h4, h5⟩

theorem awk_cmp (W : World) (v : Value) (l : List M.Xr) (h : M.RlR W v l) (he : l.map M.Xr.r = awkL) (hF : Few l) (hf : Fits l) :
    Calls Tryz.prog 7 #[.agg #[.int .i64 1, .int .i64 0, v]] W fun e w' => ∃ a c p, e = .returned (.tuple #[.slice a p.length c, .int .i64 0]) ∧ Below W.heap.size W w' ∧ S.FlV w' (.slice a p.length c) p ∧ Pgm 1 0 awkL p := by
  refine (compile_any W 1 0 v l h hF hf).mono ?_
  rintro e w' ⟨v', er, rfl, hb, ⟨h1, _, _⟩ | ⟨_, hR, ns, hn, ⟨h1, _, _⟩ | ⟨h1, rfl, ho⟩⟩⟩
  · rw [he] at h1
    exact absurd awk_chk h1
  · have h2 := (prog_len ns 1 0 l hn).2
    have h3 : M.wgt l = 8 + ((l.map M.Xr.r).map M.wg1).sum := by rw [List.map_map]; rfl
    have h4 := awk_wgt
    rw [he] at h3
    omega
  · have h3 := S.fl_of_own ho (pgm_of hR hn h1).ok
    have h4 := pgm_of hR hn h1
    rw [he] at h3 h4 ho
    obtain ⟨a, c, rfl, h5⟩ := h3
    exact ⟨a, c, _, rfl, hb, ⟨a, c, rfl, h5⟩, h4⟩

theorem awk_att {p : List V.In} (h : Pgm 1 0 awkL p) : S.attE [] p = 0 := by
  rcases att_or h.chk (ls := []) (by decide) with e | ⟨_, e⟩
  · exact e
  · have := h.len
    have h0 : S.costL [] = 0 := rfl
    omega
theorem awk_okS {p : List V.In} (h : Pgm 1 0 awkL p) : S.OkS [p] := S.okS_att S.okS_nil h.ok (awk_att h)
theorem awk_run (W : World) (b : Nat) (vc ve : Value) (p : List V.In) (h : Pgm 1 0 awkL p) (hS : S.StkV W b vc ve [p]) :
    Calls Tryz.prog 12 #[.pointer (some ⟨b, 0, none⟩), .agg #[.int .u32 1, .int .u32 3221225534, .int .u64 0, .int .u64 0, .int .u64 0, .int .u64 0, .int .u64 0, .int .u64 0, .int .u64 0]] W fun e w' => e = .returned (.tuple #[.int .u32 2147221504, .int .i64 0]) ∧ Below W.heap.size W w' := by
  have e1 : S.ansL [p] (toV awkD) = [2147221504] := by
    show [V.ansV p (toV awkD)] = _
    rw [h.ans awkD awkD_ok, awk_mean]
  have := S.run_any W b vc ve [p] (toV awkD) hS (awk_okS h) awkD_ok
  rw [e1, show A.most [2147221504] = 2147221504 by kernel_rfl, show S.plN [2147221504] = 0 by kernel_rfl] at this
  exact this

set_option maxRecDepth 8000 in
set_option maxHeartbeats 4000000 in
theorem awake_any (w : World) (hv : P.Vars w) : Calls Tryz.prog 5 #[] w fun e w' => e = .returned (.bool true) ∧ Below w.heap.size w w' := by
  have HV : Hid (P.Vars w) := hv
  clear hv
  go_enter Tryz.func5, Tryz.ntmps5
  go_upto_region 2 with (first | (go_at_call 6; refine (awk_parse _ HV.out).mono ?_; rintro e w1 ⟨b1, p1, c1, l, he, rfl, r1, f1, f2⟩))
  have HB1 : Hid (Below w.heap.size w (w1.alloc (Obj.cells #[.int .i64 1, .int .i64 0, .slice p1 l.length c1] 39))) := b1.trans ((below_new _ _).mono b1.size)
  have HC : Hid (Calls Tryz.prog 7 #[.agg #[.int .i64 1, .int .i64 0, .slice p1 l.length c1]] (w1.alloc (Obj.cells #[.int .i64 1, .int .i64 0, .slice p1 l.length c1] 39)) fun e w' => ∃ a c p, e = .returned (.tuple #[.slice a p.length c, .int .i64 0]) ∧ Below (w1.alloc (Obj.cells #[.int .i64 1, .int .i64 0, .slice p1 l.length c1] 39)).heap.size (w1.alloc (Obj.cells #[.int .i64 1, .int .i64 0, .slice p1 l.length c1] 39)) w' ∧ S.FlV w' (.slice a p.length c) p ∧ Pgm 1 0 awkL p) := awk_cmp _ _ l (r1.below (below_new _ _)) he f1 f2
  clear b1 he r1 f1 f2
  go_upto_region 4 with (first | (go_at_call 7; refine HC.out.mono ?_; rintro e w2 ⟨a2, c2, p, rfl, b2, f2, hp⟩))
  have HB2 : Hid (Below w.heap.size w w2) := HB1.out.trans (b2.mono HB1.out.size)
  have HP : Hid (Pgm 1 0 awkL p) := hp
  have H1 : Hid (Calls Tryz.prog 8 #[.pointer (some ⟨w2.heap.size, 0, none⟩), .slice a2 p.length c2] (w2.alloc (Obj.cells #[.slice none 0 0, .slice none 0 0] 33)) fun e Y => S.AttT _ w2.heap.size _ _ [] p e Y) := S.attach_any _ w2.heap.size _ _ _ [] p (S.stk_new w2) S.okS_nil (f2.below (below_new _ _))
  have HB3 : Hid (Below w.heap.size w (w2.alloc (Obj.cells #[.slice none 0 0, .slice none 0 0] 33))) := HB2.out.trans ((below_new _ _).mono HB2.out.size)
  clear b2 f2 hp HC
  go_upto_region 5 with (first | (go_at_call 8; refine H1.out.mono ?_; rintro e w3 h3; obtain ⟨rfl, g3, vc3, ve3, s3⟩ := h3.yes (awk_att HP.out)))
  have HB4 : Hid (Below w.heap.size w w3) := HB3.out.trans (S.grown_below g3 HB2.out.size HB3.out.size)
  have HR : Hid (Calls Tryz.prog 12 #[.pointer (some ⟨w2.heap.size, 0, none⟩), .agg #[.int .u32 1, .int .u32 3221225534, .int .u64 0, .int .u64 0, .int .u64 0, .int .u64 0, .int .u64 0, .int .u64 0, .int .u64 0]] w3 fun e w' => e = .returned (.tuple #[.int .u32 2147221504, .int .i64 0]) ∧ Below w3.heap.size w3 w') := awk_run w3 _ _ _ p HP.out s3
  clear h3 g3 s3 H1
  go_wp2_with (first | (go_at_call 12; refine HR.out.mono ?_; rintro e w5 ⟨rfl, b5⟩))
  go_ret
  exact ⟨rfl, HB4.out.trans (b5.mono HB4.out.size)⟩

end Go.Proofs.YtcckipimfgmmdaaGreatDoor
