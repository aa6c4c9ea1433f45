/-
  Texts of this seat, joined: TpMem, TpAwk, TpVer, TpLaid.
-/
import Derived.Test.YtcckipimfgmmdaaGreatDoorGv46
import Derived.Test.YtcckipimfgmmdaaGreatDoorGv50
import Derived.Test.YtcckipimfgmmdaaGreatDoorGv33
import Derived.Test.YtcckipimfgmmdaaGreatDoorGv47
import Derived.Test.YtcckipimfgmmdaaGreatDoorGv26
import Derived.Test.YtcckipimfgmmdaaGreatDoorGv32
import Derived.Test.YtcckipimfgmmdaaGreatDoorRows
import Derived.ProofKit
import Derived.OpenShut
import Derived.LaidLaws
import Derived.LaidMore
import Derived.Lay
import Derived.Stop.Joined
import Derived.Lib.LaidTab

namespace Go.Proofs.YtcckipimfgmmdaaGreatDoor.S
open Go.RowKit

theorem stk_new (w : World) : StkV (w.alloc (Obj.cells #[.slice none 0 0, .slice none 0 0] 33)) w.heap.size (.slice none 0 0) (.slice none 0 0) [] := ⟨V.blk_new w _ _, own_nil _ _, ⟨rfl, .inl ⟨rfl, rfl⟩⟩⟩
theorem fl_of_own {w : World} {base : Nat} {v : Value} {l : List V.In} (h : w.ownsRow base 60 4 v l.length (V.cellsI l)) (hl : ∀ x ∈ l, x.ok) : FlV w v l := by
  obtain ⟨a, cap, rfl, hi⟩ := V.owns_ins h hl
  rcases h.2 with ⟨e, h0⟩ | ⟨g, c, cur, e, _, _, h1, h2, _⟩
  · simp at e
    exact ⟨a, cap, rfl, hi, by unfold maxLen; omega, by omega, fun _ => by omega⟩
  · simp at e
    exact ⟨a, cap, rfl, hi, by omega, by omega, fun hn => by rw [e.1] at hn; cases hn⟩
theorem AttT.yes {X Y : World} {b : Nat} {vc ve : Value} {ls : List (List V.In)} {l : List V.In} {e : Ending} (h : AttT X b vc ve ls l e Y) (h0 : attE ls l = 0) : e = .returned (.int .i64 0) ∧ X.grownBy Y (some b) ∧ ∃ vc' ve', StkV Y b vc' ve' (ls ++ [l]) := by
  obtain ⟨rfl, h2, h3⟩ := h
  refine ⟨by rw [h0], h2, ?_⟩
  rcases h3 with ⟨h4, _⟩ | ⟨_, vc', ve', h5, _⟩
  · exact absurd h0 h4
  · exact ⟨vc', ve', h5⟩
theorem AttT.no {X Y : World} {b : Nat} {vc ve : Value} {ls : List (List V.In)} {l : List V.In} {e : Ending} (h : AttT X b vc ve ls l e Y) (h0 : attE ls l = 16) : e = .returned (.int .i64 16) ∧ X.grownBy Y (some b) ∧ StkV Y b vc ve ls := by
  obtain ⟨rfl, h2, h3⟩ := h
  refine ⟨by rw [h0], h2, ?_⟩
  rcases h3 with ⟨_, h4⟩ | ⟨h4, _⟩
  · exact h4
  · rw [h0] at h4
    exact absurd h4 (by decide)
theorem blk_row_ne {X : World} {b c s : Nat} {t t' : TypeId} {v : Value} {n : Nat} {xs cs : List Value} (ht : t ≠ t') (h : X.ownsRow c t s v n xs) (h' : V.Blk X b t' cs) : some b ≠ v.ownBlock := by
  rcases row_ne ht h h' with e | e
  · rw [e]; intro h; cases h
  · exact fun h => e h.symm
theorem StkV.row {X Y : World} {b B s : Nat} {t : TypeId} {vc ve v : Value} {n : Nat} {us : List Value} {ls : List (List V.In)} (h : StkV X b vc ve ls) (ho : X.ownsRow B t s v n us) (h1 : t ≠ 33) (h2 : t ≠ 60) (h3 : t ≠ 3) (hg : X.grownBy Y v.ownBlock) : StkV Y b vc ve ls :=
  ⟨blk_grown h.blk hg (blk_row_ne h1 ho h.blk), h.code.kept hg (own_ne (Ne.symm h2) h.code ho), h.ends.kept hg (own_ne (Ne.symm h3) h.ends ho)⟩
theorem ansL_snoc (ls : List (List V.In)) (l : List V.In) (d : V.Da) : ansL (ls ++ [l]) d = V.ansV l d :: ansL ls d := by
  unfold ansL
  rw [List.map_append, List.reverse_append]
  rfl
theorem ansL_u {ls : List (List V.In)} {d : V.Da} (h : OkS ls) (hd : d.ok) : ∀ z ∈ ansL ls d, A.U32 z := by
  intro z hz
  unfold ansL at hz
  rw [List.mem_reverse] at hz
  obtain ⟨l, hl, e⟩ := List.mem_map.1 hz
  rw [← e]
  exact ansV_u l d (h.1 l hl).2 hd

end Go.Proofs.YtcckipimfgmmdaaGreatDoor.S
namespace Go.Proofs.YtcckipimfgmmdaaGreatDoor
open Go.RowKit

structure Pgm (k a : Int) (l : List M.Xl) (p : List V.In) : Prop where
  chk : (V.chk p).1 = 0
  ok : ∀ x ∈ p, x.ok
  len : p.length ≤ 4096
  ans : ∀ d : M.Da, d.ok → V.ansV p (toV d) = meanZ d k a l
def CmP (w : World) (k a : Int) (rs : List M.Xr) (e : Ending) (w' : World) : Prop :=
  ∃ v er, e = .returned (.tuple #[v, .int .i64 er]) ∧ Below w.heap.size w w' ∧
    (er ≠ 0 ∨ (er = 0 ∧ (M.checkP k a (rs.map M.Xr.r)).1 = 0 ∧ Rok rs ∧ ∃ p, S.FlV w' v p ∧ Pgm k a (rs.map M.Xr.r) p))
theorem wgt_of {rs : List M.Xr} (hR : Rok rs) : M.wgt rs ≤ 100000000 := by
  have h1 := sum_wg1 rs hR
  have h2 : M.wgt rs = 8 + (rs.map fun x => M.wg1 x.r).sum := rfl
  omega
theorem pgm_of {k a : Int} {rs : List M.Xr} {ns : List Int} (hR : Rok rs) (hn : Nrs ns rs) (h4 : (progI ns k a (rs.map M.Xr.r)).length ≤ 4096) : Pgm k a (rs.map M.Xr.r) (progI ns k a (rs.map M.Xr.r)) :=
  ⟨by rw [prog_chk ns k a rs hn hR.ok (wgt_of hR) h4], (prog_gd ns k a rs hn hR.ok (wgt_of hR)).ok, h4, fun d hd => (prog_ans d hd ns k a rs hn hR.ok (wgt_of hR) h4).2.1⟩
theorem CmT.pgm {w w' : World} {k a : Int} {rs : List M.Xr} {e : Ending} (h : CmT w k a rs e w') : CmP w k a rs e w' := by
  obtain ⟨v, er, rfl, hb, ⟨h1, rfl, rfl⟩ | ⟨h0, hR, ns, hn, ⟨h1, rfl, rfl⟩ | ⟨h1, rfl, ho⟩⟩⟩ := h
  · exact ⟨_, _, rfl, hb, .inl h1⟩
  · exact ⟨_, _, rfl, hb, .inl (by decide)⟩
  · exact ⟨_, _, rfl, hb, .inr ⟨rfl, h0, hR, _, S.fl_of_own ho (pgm_of hR hn h1).ok, pgm_of hR hn h1⟩⟩
theorem compileP (w : World) (k a : Int) (v : Value) (rs : List M.Xr) (h : M.RlR w v rs) (hL : Few rs) (hf : Fits rs) :
    Calls Tryz.prog 7 #[.agg #[.int .i64 k, .int .i64 a, v]] w fun e w' => CmP w k a rs e w' := (compile_any w k a v rs h hL hf).mono fun _ _ h => h.pgm

theorem mean_dec (d : M.Da) (k a : Int) (l : List M.Xl) (h : (M.checkP k a l).1 = 0) : meanZ d k a l = A.valZ (M.decA d k a l).1 (M.decA d k a l).2 := by
  unfold meanZ M.decA
  rw [if_pos h]
  split
  · rfl
  · rfl
theorem dec_right (d : M.Da) (k a : Int) (rs : List M.Xr) (h : (M.checkP k a (rs.map M.Xr.r)).1 = 0) (hf : Fits rs) : A.rightB (M.decA d k a (rs.map M.Xr.r)).1 (M.decA d k a (rs.map M.Xr.r)).2 = true := by
  obtain ⟨_, h1, h2⟩ := rok_of h hf
  unfold M.decA
  rw [if_pos h]
  split
  · unfold M.verdP
    split
    · have key : ∀ l : List M.Xl, (∀ x ∈ l, M.actB x.k x.a = true) → A.rightB (M.verdF d k a l).1 (M.verdF d k a l).2 = true := by
        intro l
        induction l with
        | nil => intro _; exact actB_right h1
        | cons x l ih =>
          intro hx
          unfold M.verdF
          split
          · exact actB_right (hx x (List.mem_cons_self ..))
          · exact ih fun y hy => hx y (List.mem_cons_of_mem _ hy)
      exact key _ fun x hx => by obtain ⟨y, hy, rfl⟩ := List.mem_map.1 hx; exact h2 y hy
    · exact actB_right h1
  · rfl
theorem att_or {ls : List (List V.In)} {p : List V.In} (hc : (V.chk p).1 = 0) (h8 : ls.length ≤ 8) : S.attE ls p = 0 ∨ (S.attE ls p = 16 ∧ 32768 < S.costL ls + (p.length + 4)) := by
  unfold S.attE
  rw [if_pos hc]
  by_cases h : 32 ≤ ls.length ∨ 32768 < S.costL ls + (p.length + 4)
  · rw [if_pos h]
    rcases h with h | h
    · omega
    · exact .inr ⟨rfl, h⟩
  · rw [if_neg h]
    exact .inl rfl

end Go.Proofs.YtcckipimfgmmdaaGreatDoor

namespace Go.Proofs.YtcckipimfgmmdaaGreatDoor
open Go.RowKit

def awkT : ByteArray := ⟨#[100, 101, 102, 97, 117, 108, 116, 32, 107, 105, 108, 108, 59, 32, 108, 111, 103, 32, 119, 114, 105, 116, 101, 59]⟩
def awkR : List P.Rl := [⟨⟨7, 0⟩, [[119, 114, 105, 116, 101]], []⟩]
def awkL : List M.Xl := awkR.map ofR
def awkD : M.Da := ⟨1, 3221225534, 0, [0, 0, 0, 0, 0, 0]⟩
theorem awkD_ok : awkD.ok := ⟨⟨by decide, by decide⟩, ⟨by decide, by decide⟩, ⟨by decide, by decide⟩, rfl, fun z hz => by simp [awkD] at hz; subst hz; exact ⟨by decide, by decide⟩⟩
theorem awk_prs : P.prs (P.lst awkT) = .ok (⟨1, 0⟩, awkR) := by kernel_rfl
theorem awk_chk : (M.checkP 1 0 awkL).1 = 0 := by kernel_rfl
theorem awk_mean : meanZ awkD 1 0 awkL = 2147221504 := by kernel_rfl
theorem awk_wgt : (awkL.map M.wg1).sum ≤ 1000 := by decide +kernel

theorem awk_parse (W : World) (hv : P.Vars W) : Calls Tryz.prog 6 #[.string ⟨#[100, 101, 102, 97, 117, 108, 116, 32, 107, 105, 108, 108, 59, 32, 108, 111, 103, 32, 119, 114, 105, 116, 101, 59]⟩] W fun e w' => Below W.heap.size W w' ∧ ∃ p c l, l.map M.Xr.r = awkL ∧ e = .returned (.tuple #[.agg #[.int .i64 1, .int .i64 0, .slice p l.length c], .int .i64 0, .int .i64 (-1)]) ∧ M.RlR w' (.slice p l.length c) l ∧ Few l ∧ Fits l := by
  refine (parseM awkT W hv).mono ?_
  rintro e w' ⟨hb, h⟩
  rw [awk_prs] at h
  obtain ⟨v, l, h1, rfl, h3, h4, h5⟩ := h
  obtain ⟨p, c, rfl⟩ : ∃ p c, v = .slice p l.length c := by obtain ⟨p, c, e, _⟩ := h3; exact ⟨p, c, e⟩
  exact ⟨hb, p, c, l, h1, rfl, h3, h4, h5⟩

theorem awk_cmp (W : World) (v : Value) (l : List M.Xr) (h : M.RlR W v l) (he : l.map M.Xr.r = awkL) (hF : Few l) (hf : Fits l) :
    Calls Tryz.prog 7 #[.agg #[.int .i64 1, .int .i64 0, v]] W fun e w' => ∃ a c p, e = .returned (.tuple #[.slice a p.length c, .int .i64 0]) ∧ Below W.heap.size W w' ∧ S.FlV w' (.slice a p.length c) p ∧ Pgm 1 0 awkL p := by
  refine (compile_any W 1 0 v l h hF hf).mono ?_
  rintro e w' ⟨v', er, rfl, hb, ⟨h1, _, _⟩ | ⟨_, hR, ns, hn, ⟨h1, _, _⟩ | ⟨h1, rfl, ho⟩⟩⟩
  · rw [he] at h1
    exact absurd awk_chk h1
  · have h2 := (prog_len ns 1 0 l hn).2
    have h3 : M.wgt l = 8 + ((l.map M.Xr.r).map M.wg1).sum := by rw [List.map_map]; rfl
    have h4 := awk_wgt
    rw [he] at h3
    omega
  · have h3 := S.fl_of_own ho (pgm_of hR hn h1).ok
    have h4 := pgm_of hR hn h1
    rw [he] at h3 h4 ho
    obtain ⟨a, c, rfl, h5⟩ := h3
    exact ⟨a, c, _, rfl, hb, ⟨a, c, rfl, h5⟩, h4⟩

theorem awk_att {p : List V.In} (h : Pgm 1 0 awkL p) : S.attE [] p = 0 := by
  rcases att_or h.chk (ls := []) (by decide) with e | ⟨_, e⟩
  · exact e
  · have := h.len
    have h0 : S.costL [] = 0 := rfl
    omega
theorem awk_okS {p : List V.In} (h : Pgm 1 0 awkL p) : S.OkS [p] := S.okS_att S.okS_nil h.ok (awk_att h)
theorem awk_run (W : World) (b : Nat) (vc ve : Value) (p : List V.In) (h : Pgm 1 0 awkL p) (hS : S.StkV W b vc ve [p]) :
    Calls Tryz.prog 12 #[.pointer (some ⟨b, 0, none⟩), .agg #[.int .u32 1, .int .u32 3221225534, .int .u64 0, .int .u64 0, .int .u64 0, .int .u64 0, .int .u64 0, .int .u64 0, .int .u64 0]] W fun e w' => e = .returned (.tuple #[.int .u32 2147221504, .int .i64 0]) ∧ Below W.heap.size W w' := by
  have e1 : S.ansL [p] (toV awkD) = [2147221504] := by
    show [V.ansV p (toV awkD)] = _
    rw [h.ans awkD awkD_ok, awk_mean]
  have := S.run_any W b vc ve [p] (toV awkD) hS (awk_okS h) awkD_ok
  rw [e1, show A.most [2147221504] = 2147221504 by kernel_rfl, show S.plN [2147221504] = 0 by kernel_rfl] at this
  exact this

set_option maxRecDepth 8000 in
set_option maxHeartbeats 4000000 in
theorem awake_any (w : World) (hv : P.Vars w) : Calls Tryz.prog 5 #[] w fun e w' => e = .returned (.bool true) ∧ Below w.heap.size w w' := by
  have HV : Hid (P.Vars w) := hv
  clear hv
  go_enter Tryz.func5, Tryz.ntmps5
  go_upto_region 2 with (first | (go_at_call 6; refine (awk_parse _ HV.out).mono ?_; rintro e w1 ⟨b1, p1, c1, l, he, rfl, r1, f1, f2⟩))
  have HB1 : Hid (Below w.heap.size w (w1.alloc (Obj.cells #[.int .i64 1, .int .i64 0, .slice p1 l.length c1] 39))) := b1.trans ((below_new _ _).mono b1.size)
  have HC : Hid (Calls Tryz.prog 7 #[.agg #[.int .i64 1, .int .i64 0, .slice p1 l.length c1]] (w1.alloc (Obj.cells #[.int .i64 1, .int .i64 0, .slice p1 l.length c1] 39)) fun e w' => ∃ a c p, e = .returned (.tuple #[.slice a p.length c, .int .i64 0]) ∧ Below (w1.alloc (Obj.cells #[.int .i64 1, .int .i64 0, .slice p1 l.length c1] 39)).heap.size (w1.alloc (Obj.cells #[.int .i64 1, .int .i64 0, .slice p1 l.length c1] 39)) w' ∧ S.FlV w' (.slice a p.length c) p ∧ Pgm 1 0 awkL p) := awk_cmp _ _ l (r1.below (below_new _ _)) he f1 f2
  clear b1 he r1 f1 f2
  go_upto_region 4 with (first | (go_at_call 7; refine HC.out.mono ?_; rintro e w2 ⟨a2, c2, p, rfl, b2, f2, hp⟩))
  have HB2 : Hid (Below w.heap.size w w2) := HB1.out.trans (b2.mono HB1.out.size)
  have HP : Hid (Pgm 1 0 awkL p) := hp
  have H1 : Hid (Calls Tryz.prog 8 #[.pointer (some ⟨w2.heap.size, 0, none⟩), .slice a2 p.length c2] (w2.alloc (Obj.cells #[.slice none 0 0, .slice none 0 0] 33)) fun e Y => S.AttT _ w2.heap.size _ _ [] p e Y) := S.attach_any _ w2.heap.size _ _ _ [] p (S.stk_new w2) S.okS_nil (f2.below (below_new _ _))
  have HB3 : Hid (Below w.heap.size w (w2.alloc (Obj.cells #[.slice none 0 0, .slice none 0 0] 33))) := HB2.out.trans ((below_new _ _).mono HB2.out.size)
  clear b2 f2 hp HC
  go_upto_region 5 with (first | (go_at_call 8; refine H1.out.mono ?_; rintro e w3 h3; obtain ⟨rfl, g3, vc3, ve3, s3⟩ := h3.yes (awk_att HP.out)))
  have HB4 : Hid (Below w.heap.size w w3) := HB3.out.trans (S.grown_below g3 HB2.out.size HB3.out.size)
  have HR : Hid (Calls Tryz.prog 12 #[.pointer (some ⟨w2.heap.size, 0, none⟩), .agg #[.int .u32 1, .int .u32 3221225534, .int .u64 0, .int .u64 0, .int .u64 0, .int .u64 0, .int .u64 0, .int .u64 0, .int .u64 0]] w3 fun e w' => e = .returned (.tuple #[.int .u32 2147221504, .int .i64 0]) ∧ Below w3.heap.size w3 w') := awk_run w3 _ _ _ p HP.out s3
  clear h3 g3 s3 H1
  go_wp2_with (first | (go_at_call 12; refine HR.out.mono ?_; rintro e w5 ⟨rfl, b5⟩))
  go_ret
  exact ⟨rfl, HB4.out.trans (b5.mono HB4.out.size)⟩

end Go.Proofs.YtcckipimfgmmdaaGreatDoor

namespace Go.Proofs.YtcckipimfgmmdaaGreatDoor
open Go.RowKit

theorem blk_not {X : World} {B b o : Nat} {vc ve u : Value} {ls : List (List V.In)} (hS : S.StkV X B vc ve ls) (hc : X.cell? ⟨b, o, none⟩ = some u) (hu : ∀ a n c, u ≠ .slice a n c) : b ≠ B := by
  rintro rfl
  obtain ⟨a1, k1, rfl⟩ := S.own_slice hS.code
  obtain ⟨a2, k2, rfl⟩ := S.own_slice hS.ends
  have h := hS.blk.cell o
  rw [hc] at h
  match o, h with
  | 0, h => exact hu _ _ _ (Option.some.inj h)
  | 1, h => exact hu _ _ _ (Option.some.inj h)
  | (n + 2), h => cases h
theorem blk_stays {X Y : World} {B b : Nat} (hg : X.grownBy Y (some B)) (hne : b ≠ B) (hl : b < X.heap.size) : Y.heap[b]? = X.heap[b]? := hg.block b hl (by simpa using hne)
theorem strR_kept {X Y : World} {B : Nat} {vc ve v : Value} {ls : List (List V.In)} {l : List ByteArray} (hS : S.StkV X B vc ve ls) (hg : X.grownBy Y (some B)) (h : M.StrR X v l) : M.StrR Y v l := by
  obtain ⟨a, cap, rfl, h1, h2, hc⟩ := h
  refine ⟨a, cap, rfl, h1, h2, fun h0 => ?_⟩
  obtain ⟨b, o, rfl, hx⟩ := hc h0
  exact ⟨b, o, rfl, fun i s hi => M.cellS (hx i s hi) (blk_stays hg (blk_not hS (hx i s hi) (fun _ _ _ e => by cases e)) (World.block_lt_of_cell? X _ (hx i s hi)))⟩
theorem cdR_kept {X Y : World} {B : Nat} {vc ve v : Value} {ls : List (List V.In)} {l : List M.Xc} (hS : S.StkV X B vc ve ls) (hg : X.grownBy Y (some B)) (h : M.CdR X v l) : M.CdR Y v l := by
  obtain ⟨a, cap, rfl, h1, h2, hc⟩ := h
  refine ⟨a, cap, rfl, h1, h2, fun h0 => ?_⟩
  obtain ⟨b, o, rfl, hx⟩ := hc h0
  refine ⟨b, o, rfl, fun i s hi => ?_⟩
  obtain ⟨e0, e1, e2, e3⟩ := hx i s hi
  have q : Y.heap[b]? = X.heap[b]? := blk_stays hg (blk_not hS e0 (fun _ _ _ e => by cases e)) (World.block_lt_of_cell? X _ e0)
  exact ⟨M.cellS e0 q, M.cellS e1 q, M.cellS e2 q, M.cellS e3 q⟩
theorem rlR_kept {X Y : World} {B : Nat} {vc ve v : Value} {ls : List (List V.In)} {l : List M.Xr} (hS : S.StkV X B vc ve ls) (hg : X.grownBy Y (some B)) (h : M.RlR X v l) : M.RlR Y v l := by
  obtain ⟨a, cap, rfl, h1, h2, hc, hr⟩ := h
  refine ⟨a, cap, rfl, h1, h2, fun h0 => ?_, fun x hx => ⟨strR_kept hS hg (hr x hx).1, cdR_kept hS hg (hr x hx).2⟩⟩
  obtain ⟨b, o, rfl, hx⟩ := hc h0
  refine ⟨b, o, rfl, fun i s hi => ?_⟩
  obtain ⟨e0, e1, e2, e3⟩ := hx i s hi
  have q : Y.heap[b]? = X.heap[b]? := blk_stays hg (blk_not hS e0 (fun _ _ _ e => by cases e)) (World.block_lt_of_cell? X _ e0)
  exact ⟨M.cellS e0 q, M.cellS e1 q, M.cellS e2 q, M.cellS e3 q⟩

structure Lp (X0 : World) (d : M.Da) (i : Nat) (vc ve v7 : Value) (ls : List (List V.In)) (L : List Int) (wr : World) : Prop where
  st : S.StkV wr X0.heap.size vc ve ls
  ok : S.OkS ls
  le : ls.length ≤ i
  an : L = S.ansL ls (toV d)
  own : wr.ownsRow X0.heap.size 23 1 v7 L.length (S.cellsZ L)
  be : Below X0.heap.size X0 wr
theorem Lp.over {X0 : World} {d : M.Da} {i : Nat} {vc ve v7 : Value} {ls : List (List V.In)} {L : List Int} {wr W : World} (h : Lp X0 d i vc ve v7 ls L wr) (hb : Below wr.heap.size wr W) : Lp X0 d i vc ve v7 ls L W :=
  ⟨h.st.over hb, h.ok, h.le, h.an, S.own_over h.own hb, h.be.trans (hb.mono h.be.size)⟩
theorem Lp.up {X0 : World} {d : M.Da} {i : Nat} {vc ve v7 : Value} {ls : List (List V.In)} {L : List Int} {wr : World} (h : Lp X0 d i vc ve v7 ls L wr) : Lp X0 d (i + 1) vc ve v7 ls L wr :=
  ⟨h.st, h.ok, by have := h.le; omega, h.an, h.own, h.be⟩
theorem lp_new (X0 : World) (d : M.Da) : Lp X0 d 0 (.slice none 0 0) (.slice none 0 0) (.slice none 0 0) [] [] (X0.alloc (Obj.cells #[.slice none 0 0, .slice none 0 0] 33)) :=
  ⟨S.stk_new X0, S.okS_nil, Nat.le_refl _, rfl, ⟨rfl, .inl ⟨rfl, rfl⟩⟩, below_new _ _⟩
theorem own_nums {w : World} {b c : Nat} {a : Option Addr} {l : List Int} (h : w.ownsRow b 23 1 (.slice a l.length c) l.length (S.cellsZ l)) : A.Ns .u32 w a l.length l ∧ l.length ≤ c ∧ (a = none → c = 0) := by
  obtain ⟨a', c', e, h1, h2⟩ := S.ns_of_own h
  cases e
  refine ⟨h1, h2, fun hn => ?_⟩
  rcases h.2 with ⟨e, _⟩ | ⟨g, cap, cur, e, _⟩
  · simp at e
    exact e.2.2
  · simp at e
    rw [hn] at e
    simp at e
theorem val_ok {k a : Int} (h : A.rightB k a = true) (W : World) : Calls Tryz.prog 11 #[.agg #[.int .i64 k, .int .i64 a]] W fun e w' => e = .returned (.tuple #[.int .u32 (A.valZ k a), .int .i64 0]) ∧ Below W.heap.size W w' := by
  have := A.value_any k a W
  unfold A.errZ at this
  rw [if_pos h] at this
  exact this

set_option linter.unusedSimpArgs false in
set_option maxRecDepth 8000 in
set_option maxHeartbeats 4000000 in
theorem verdict_walk (w : World) (v : Value) (ts : List ByteArray) (d : M.Da) (hv : P.Vars w) (h : M.StrR w v ts) (hd : d.ok) :
    Calls Tryz.prog 3 #[v, .agg d.cells.toArray] w fun e w' => e = .returned (.bool true) ∧ Below w.heap.size w w' := by
  obtain ⟨p1, c1, rfl, hk1, hk2⟩ : ∃ p c, v = .slice p ts.length c ∧ ts.length ≤ c ∧ c ≤ 9223372036854775807 := by obtain ⟨p, c, e, h1, h2, _⟩ := h; exact ⟨p, c, e, h1, h2⟩
  have HDe : Hid (∀ W k a v (rs : List M.Xr), M.RlR W v rs → Rok rs → (M.checkP k a (rs.map M.Xr.r)).1 = 0 → Calls Tryz.prog 10 #[.agg #[.int .i64 k, .int .i64 a, v], .agg d.cells.toArray] W fun e w' => e = .returned (.tuple #[.agg #[.int .i64 (M.decA d k a (rs.map M.Xr.r)).1, .int .i64 (M.decA d k a (rs.map M.Xr.r)).2], .int .i64 0]) ∧ Below W.heap.size W w') := fun W k a v rs hW hR h0 => by
    have := M.decide_any W k a v rs d hW (by have := hR.len; omega) (fun x hx => ⟨by have := hR.nam x hx; omega, by have := hR.con x hx; omega⟩) hd
    unfold M.decE at this
    rw [h0] at this
    exact this
  have HRu : Hid (∀ W b vc ve ks, S.StkV W b vc ve ks → S.OkS ks → Calls Tryz.prog 12 #[.pointer (some ⟨b, 0, none⟩), .agg d.cells.toArray] W fun e w' => e = .returned (.tuple #[.int .u32 (A.most (S.ansL ks (toV d))), .int .i64 (S.plN (S.ansL ks (toV d)))]) ∧ Below W.heap.size W w') := fun W b vc ve ks h1 h2 => S.run_any W b vc ve ks (toV d) h1 h2 hd
  obtain ⟨d1v, d2v, d3v, d4v, d5v, d6v, d7v, d8v, hAA⟩ := M.nine_of d hd
  rw [hAA] at HDe HRu ⊢
  have HD : Hid d.ok := hd
  have HS : Hid (∀ W, Below w.heap.size w W → M.StrR W (.slice p1 ts.length c1) ts) := fun W hW => h.below hW
  have HVa : Hid (∀ W, Below w.heap.size w W → P.Vars W) := fun W hW => hv.below hW
  have BE : Hid (Below w.heap.size w (w.alloc (Obj.cells #[.int .u32 d.n, d1v, d2v, d3v, d4v, d5v, d6v, d7v, d8v] 27))) := below_new w _
  have KD : Hid (V.Blk (w.alloc (Obj.cells #[.int .u32 d.n, d1v, d2v, d3v, d4v, d5v, d6v, d7v, d8v] 27)) w.heap.size 27 [.int .u32 d.n, d1v, d2v, d3v, d4v, d5v, d6v, d7v, d8v]) := V.blk_new w _ _
  clear h hv hd hAA
  generalize hdn : d.n = dn at *
  clear hdn
  go_enter Tryz.func3, Tryz.ntmps3
  go_upto_region 1 with fail
  generalize (w.alloc (Obj.cells #[.int .u32 dn, d1v, d2v, d3v, d4v, d5v, d6v, d7v, d8v] 27)) = X1 at *
  go_upto_region 2 with (first | (go_at_call 5; refine (awake_any _ (HVa.out _ BE.out)).mono ?_; rintro e w1 ⟨rfl, b1⟩))
  have HT1 : Hid (∀ W, Below w1.heap.size w1 W → Below w.heap.size w W) := fun W hW => BE.out.trans ((b1.trans (hW.mono b1.size)).mono BE.out.size)
  have HK1 : Hid (∀ W, Below w1.heap.size w1 W → V.Blk W w.heap.size 27 [.int .u32 dn, d1v, d2v, d3v, d4v, d5v, d6v, d7v, d8v]) := fun W hW => KD.out.over (b1.trans (hW.mono b1.size))
  clear b1 KD BE
  by_cases h8 : 8 < ts.length
  · have h81 : (8 : Int) < (ts.length : Int) := by omega
    go_wp2_with fail
    go_ret
    exact ⟨rfl, HT1.out _ (Below.refl _ _)⟩
  have h81 : ¬ (8 : Int) < (ts.length : Int) := by omega
  have H8 : Hid (ts.length ≤ 8) := by unfold Hid; omega
  have HN : Hid (Lp w1 d 0 (.slice none 0 0) (.slice none 0 0) (.slice none 0 0) [] [] (w1.alloc (Obj.cells #[.slice none 0 0, .slice none 0 0] 33))) := lp_new w1 d
  go_wp2_with fail
  generalize (w1.alloc (Obj.cells #[.slice none 0 0, .slice none 0 0] 33)) = X2 at *
  go_loopw [7, 8] (fun v7 vi wr => ∃ (i : Nat) (vc ve : Value) (ls : List (List V.In)) (L : List Int), vi = .int .i64 i ∧ i ≤ ts.length ∧ Lp w1 d i vc ve v7 ls L wr) (fun _ vi _ => ts.length - (intOf vi).toNat)
  case atStart => exact ⟨0, _, _, _, _, rfl, Nat.zero_le _, HN.out⟩
  case round =>
    obtain ⟨i, vc, ve, ls, L, rfl, hi2, hl⟩ := hrel
    obtain ⟨a7, c7, rfl⟩ := S.own_slice hl.own
    have HL : Hid (Lp w1 d i vc ve (.slice a7 L.length c7) ls L wr) := hl
    have HB : Hid (Below w1.heap.size w1 wr) := hl.be
    by_cases hlt : i < ts.length
    · have hi1 : (i : Int) < (ts.length : Int) := by omega
      have H8l : Hid (ls.length ≤ 8) := by have := hl.le; have := H8.out; unfold Hid; omega
      clear hl
      obtain ⟨tb, to', rfl, e1⟩ := M.strR_at (HS.out wr (HT1.out _ HB.out)) hlt
      have HPp : Hid (Calls Tryz.prog 6 #[.string ts[i]] wr fun e w' => Below wr.heap.size wr w' ∧ ParM (P.prs (P.lst ts[i])) e w') := parseM _ wr (HVa.out _ (HT1.out _ HB.out))
      generalize ts[i] = s at *
      generalize P.prs (P.lst s) = R at *
      obtain ⟨c, p⟩ | ⟨d0, rs⟩ := R
      · go_wp2_with (first | (go_at_call 6; refine HPp.out.mono ?_; rintro e w2 ⟨b2, hc0, rfl⟩; have hc1 : ((c : Int) == 0) = false := by { rw [beq_eq_false_iff_ne]; omega }; have hc2 : ((c : Int) != 0) = true := by { rw [bne, hc1]; rfl }; have hc3 : (c == 0) = false := by { rw [beq_eq_false_iff_ne]; omega }))
        go_roundw
        case rel => exact ⟨i + 1, vc, ve, ls, L, by go_num, hlt, (HL.out.over (b2.alloc b2.size _)).up⟩
        case measure => simp [intOf]; omega
      · go_upto_region 11 with (first | (go_at_call 6; refine HPp.out.mono ?_; rintro e w2 ⟨b2, v2, rl, -, rfl, r2, f2, g2⟩; obtain ⟨p2, c2, rfl⟩ : ∃ p c, v2 = .slice p rl.length c := by { obtain ⟨p, c, e, _⟩ := r2; exact ⟨p, c, e⟩ }))
        have HL2 : Hid (Lp w1 d i vc ve (.slice a7 L.length c7) ls L (w2.alloc (Obj.cells #[.int .i64 d0.k, .int .i64 d0.a, .slice p2 rl.length c2] 39))) := HL.out.over (b2.alloc b2.size _)
        have HR2 : Hid (M.RlR (w2.alloc (Obj.cells #[.int .i64 d0.k, .int .i64 d0.a, .slice p2 rl.length c2] 39)) (.slice p2 rl.length c2) rl) := r2.below (below_new _ _)
        have HX2 : Hid (V.Blk (w2.alloc (Obj.cells #[.int .i64 d0.k, .int .i64 d0.a, .slice p2 rl.length c2] 39)) w2.heap.size 39 [.int .i64 d0.k, .int .i64 d0.a, .slice p2 rl.length c2]) := V.blk_new w2 _ _
        have HC2 : Hid (Calls Tryz.prog 7 #[.agg #[.int .i64 d0.k, .int .i64 d0.a, .slice p2 rl.length c2]] (w2.alloc (Obj.cells #[.int .i64 d0.k, .int .i64 d0.a, .slice p2 rl.length c2] 39)) fun e w' => CmP _ d0.k d0.a rl e w') := compileP _ _ _ _ rl HR2.out f2 g2
        have HF2 : Hid (Fits rl) := g2
        have hxb : Hid (w1.heap.size < w2.heap.size) := Nat.lt_of_lt_of_le HL.out.st.blk.lt b2.size
        clear b2 r2 f2 g2 HPp e1 HL HB
        generalize (w2.alloc (Obj.cells #[.int .i64 d0.k, .int .i64 d0.a, .slice p2 rl.length c2] 39)) = X3 at *
        generalize w2.heap.size = xb at *
        generalize (d0.k : Int) = rk at *
        generalize (d0.a : Int) = ra at *
        have q0 := HX2.out.cell 0
        have q1 := HX2.out.cell 1
        have q2 := HX2.out.cell 2
        simp only [List.getElem?_cons_zero, List.getElem?_cons_succ] at q0 q1 q2
        go_upto_region 12 with (first | (go_at_call 7; refine HC2.out.mono ?_; rintro e w3 ⟨v3, er, rfl, b3, hcase⟩))
        have HL3 : Hid (Lp w1 d i vc ve (.slice a7 L.length c7) ls L w3) := HL2.out.over b3
        have HR3 : Hid (M.RlR w3 (.slice p2 rl.length c2) rl) := HR2.out.below b3
        have HX3 : Hid (V.Blk w3 xb 39 [.int .i64 rk, .int .i64 ra, .slice p2 rl.length c2]) := HX2.out.over b3
        clear b3 HL2 HR2 HX2 HC2 q0 q1 q2
        rcases hcase with her | ⟨rfl, h0, hR, p, fl, pg⟩
        · have hc1 : (er == 0) = false := by rw [beq_eq_false_iff_ne]; exact her
          have hc2 : (er != 0) = true := by rw [bne, hc1]; rfl
          go_wp2_with fail
          go_roundw
          case rel => exact ⟨i + 1, vc, ve, ls, L, by go_num, hlt, HL3.out.up⟩
          case measure => simp [intOf]; omega
        · obtain ⟨a3, c3, rfl⟩ : ∃ a c, v3 = .slice a p.length c := by obtain ⟨a, c, e, _⟩ := fl; exact ⟨a, c, e⟩
          have HAt : Hid (Calls Tryz.prog 8 #[.pointer (some ⟨w1.heap.size, 0, none⟩), .slice a3 p.length c3] w3 fun e Y => S.AttT w3 w1.heap.size vc ve ls p e Y) := S.attach_any w3 w1.heap.size vc ve _ ls p HL3.out.st HL3.out.ok fl
          have HPg : Hid (Pgm rk ra (rl.map M.Xr.r) p) := pg
          have HCk : Hid ((M.checkP rk ra (rl.map M.Xr.r)).1 = 0 ∧ Rok rl) := ⟨h0, hR⟩
          clear fl pg h0 hR
          rcases att_or HPg.out.chk H8l.out with e0 | ⟨e16, hcost⟩
          · have HE0 : Hid (S.attE ls p = 0) := e0
            clear e0
            go_upto_region 15 with (first | (go_at_call 8; refine HAt.out.mono ?_; rintro e w4 h4; obtain ⟨rfl, g4, vc4, ve4, s4⟩ := h4.yes HE0.out))
            have HB4 : Hid (Below w1.heap.size w1 w4) := HL3.out.be.trans (S.grown_below g4 (Nat.le_refl _) HL3.out.be.size)
            have HS4 : Hid (S.StkV w4 w1.heap.size vc4 ve4 (ls ++ [p])) := s4
            have HOk4 : Hid (S.OkS (ls ++ [p])) := S.okS_att HL3.out.ok HPg.out.ok HE0.out
            have HO4 : Hid (w4.ownsRow w1.heap.size 23 1 (.slice a7 L.length c7) L.length (S.cellsZ L)) := HL3.out.own.kept g4 (S.row_ne (by decide) HL3.out.own HL3.out.st.blk)
            have HX4 : Hid (V.Blk w4 xb 39 [.int .i64 rk, .int .i64 ra, .slice p2 rl.length c2]) := S.blk_grown HX3.out g4 (by have := hxb.out; simp; omega)
            have HR4 : Hid (M.RlR w4 (.slice p2 rl.length c2) rl) := rlR_kept HL3.out.st g4 HR3.out
            have HAn : Hid (S.ansL (ls ++ [p]) (toV d) = A.valZ (M.decA d rk ra (rl.map M.Xr.r)).1 (M.decA d rk ra (rl.map M.Xr.r)).2 :: L) := by
              show S.ansL (ls ++ [p]) (toV d) = _
              rw [S.ansL_snoc, HPg.out.ans d HD.out, mean_dec d rk ra _ HCk.out.1, HL3.out.an]
            have HLe : Hid (ls.length ≤ i ∧ L.length ≤ 8) := ⟨HL3.out.le, by have h1 := HL3.out.an; have h2 := H8l.out; rw [h1, S.ansL_len]; exact h2⟩
            have HDd : Hid (Calls Tryz.prog 10 #[.agg #[.int .i64 rk, .int .i64 ra, .slice p2 rl.length c2], .agg #[.int .u32 dn, d1v, d2v, d3v, d4v, d5v, d6v, d7v, d8v]] w4 fun e w' => e = .returned (.tuple #[.agg #[.int .i64 (M.decA d rk ra (rl.map M.Xr.r)).1, .int .i64 (M.decA d rk ra (rl.map M.Xr.r)).2], .int .i64 0]) ∧ Below w4.heap.size w4 w') := HDe.out w4 rk ra _ rl HR4.out HCk.out.2 HCk.out.1
            have HVl : Hid (∀ W, Calls Tryz.prog 11 #[.agg #[.int .i64 (M.decA d rk ra (rl.map M.Xr.r)).1, .int .i64 (M.decA d rk ra (rl.map M.Xr.r)).2]] W fun e w' => e = .returned (.tuple #[.int .u32 (A.valZ (M.decA d rk ra (rl.map M.Xr.r)).1 (M.decA d rk ra (rl.map M.Xr.r)).2), .int .i64 0]) ∧ Below W.heap.size W w') := val_ok (dec_right d rk ra rl HCk.out.1 HF2.out)
            clear h4 g4 s4 HL3 HX3 HR3 HPg HAt HE0
            generalize M.decA d rk ra (rl.map M.Xr.r) = da at *
            obtain ⟨xk, xa⟩ := da
            dsimp only at *
            generalize A.valZ xk xa = av at *
            have q0 := HX4.out.cell 0
            have q1 := HX4.out.cell 1
            have q2 := HX4.out.cell 2
            have hKd4 := HK1.out w4 HB4.out
            have n0 := hKd4.cell 0
            have n1 := hKd4.cell 1
            have n2 := hKd4.cell 2
            have n3 := hKd4.cell 3
            have n4 := hKd4.cell 4
            have n5 := hKd4.cell 5
            have n6 := hKd4.cell 6
            have n7 := hKd4.cell 7
            have n8 := hKd4.cell 8
            simp only [List.getElem?_cons_zero, List.getElem?_cons_succ] at q0 q1 q2 n0 n1 n2 n3 n4 n5 n6 n7 n8
            clear hKd4
            go_upto_region 16 with (first | (go_at_call 10; refine HDd.out.mono ?_; rintro e w5 ⟨rfl, b5⟩))
            have B5 : Hid (Below w4.heap.size w4 (w5.alloc (Obj.cells #[.int .i64 xk, .int .i64 xa] 36))) := b5.alloc b5.size _
            clear n0 n1 n2 n3 n4 n5 n6 n7 n8 q0 q1 q2 b5
            go_upto_region 19 with (first | (go_at_call 11; refine (HVl.out _).mono ?_; rintro e w6 ⟨rfl, b6⟩))
            have B6 : Hid (Below w4.heap.size w4 (w6.alloc (Obj.cells #[.int .u32 av] 23))) := (B5.out.trans (b6.mono B5.out.size)).alloc (B5.out.trans (b6.mono B5.out.size)).size _
            have HO6 := own_nums (S.own_over HO4.out B6.out)
            have HN6 : Hid (A.Ns .u32 (w6.alloc (Obj.cells #[.int .u32 av] 23)) a7 L.length L) := HO6.1
            have HZ6 : Hid (a7 = none → c7 = 0) := HO6.2.2
            have hbs : Hid (w1.heap.size ≤ w6.heap.size) := Nat.le_trans HB4.out.size (B5.out.trans (b6.mono B5.out.size)).size
            have HF6 : Hid ((w6.alloc (Obj.cells #[.int .u32 av] 23)).ownsRow w1.heap.size 23 1 (.slice (some ⟨w6.heap.size, 0, none⟩) 1 1) 1 (A.cellsU [av])) := M.owns_new (w := w6) 23 [.int .u32 av] hbs.out (by simp) (by simp)
            have hL8 : Hid (1 + L.length ≤ 1000000000) := by have := HLe.out.2; unfold Hid; omega
            have hbs7 : Hid (w1.heap.size ≤ (w6.alloc (Obj.cells #[.int .u32 av] 23)).heap.size) := Nat.le_trans hbs.out (below_new _ _).size
            clear HO6 b6
            go_wp2_with (first | (at_builtin; refine A.append_nums rfl _ _ rfl w1.heap.size _ 1 [av] rfl HF6.out a7 L.length c7 L rfl HZ6.out HN6.out hL8.out hbs7.out ?_; intro v' w7 ho7 g7; go_frame))
            go_roundw
            case rel =>
              have e1 : 1 + L.length = (av :: L).length := by rw [List.length_cons]; omega
              have e2 : A.cellsU ([av] ++ L) = S.cellsZ (av :: L) := rfl
              rw [e1, e2] at ho7
              refine ⟨i + 1, vc4, ve4, ls ++ [p], av :: L, by go_num, hlt, ⟨?_, HOk4.out, ?_, HAn.out.symm, ho7, ?_⟩⟩
              · exact (HS4.out.over B6.out).row HF6.out (by decide) (by decide) (by decide) g7
              · have := HLe.out.1
                rw [List.length_append, List.length_singleton]
                omega
              · exact (HB4.out.trans (B6.out.mono HB4.out.size)).grown g7 hbs7.out (V.owns_block HF6.out)
            case measure => simp [intOf]; omega
          · have HCs : Hid (32768 < S.costL ls + (p.length + 4)) := hcost
            have HE16 : Hid (S.attE ls p = 16) := e16
            clear e16 hcost
            go_upto_region 14 with (first | (go_at_call 8; refine HAt.out.mono ?_; rintro e w4 h4; obtain ⟨rfl, g4, s4⟩ := h4.no HE16.out))
            have HB4 : Hid (Below w1.heap.size w1 w4) := HL3.out.be.trans (S.grown_below g4 (Nat.le_refl _) HL3.out.be.size)
            have hcf : ls.flatten.length + 4 * ls.length ≤ 32768 := by have := HL3.out.ok.2.2; rw [S.cost_flat] at this; exact this
            have HCo : Hid (Calls Tryz.prog 9 #[.pointer (some ⟨w1.heap.size, 0, none⟩)] w4 fun e w' => e = .returned (.int .i64 (S.costL ls : Nat)) ∧ Below w4.heap.size w4 w') := S.cost_any w4 w1.heap.size vc ve ls s4 (by omega) (by have := H8l.out; omega)
            have hcl : S.costL ls ≤ 32768 := HL3.out.ok.2.2
            have hpl := HPg.out.len
            have hgt := HCs.out
            clear h4 g4 s4 hcf HL3 HX3 HR3 HPg HAt HE16 HCk HCs
            generalize S.costL ls = cl at *
            generalize p.length = pl at *
            have hgt1 : (32768 : Int) < (cl : Int) + (pl : Int) + 4 := by omega
            go_wp2_with (first | (go_at_call 9; refine HCo.out.mono ?_; rintro e w5 ⟨rfl, b5⟩))
            go_ret
            exact ⟨rfl, HT1.out _ (HB4.out.trans (b5.mono HB4.out.size))⟩
    · have hi1 : ¬ (i : Int) < (ts.length : Int) := by omega
      have H8l : Hid (ls.length ≤ 8) := by have := hl.le; have := H8.out; unfold Hid; omega
      have hLl : L.length = ls.length := by rw [hl.an, S.ansL_len]
      have HRu2 : Hid (Calls Tryz.prog 12 #[.pointer (some ⟨w1.heap.size, 0, none⟩), .agg #[.int .u32 dn, d1v, d2v, d3v, d4v, d5v, d6v, d7v, d8v]] wr fun e w' => e = .returned (.tuple #[.int .u32 (A.most L), .int .i64 (S.plN L)]) ∧ Below wr.heap.size wr w') := by
        have := HRu.out wr w1.heap.size vc ve ls hl.st hl.ok
        rw [← hl.an] at this
        exact this
      have HMo : Hid (∀ W, Below wr.heap.size wr W → Calls Tryz.prog 13 #[.slice a7 L.length c7] W fun e w' => e = .returned (.int .u32 (A.most L)) ∧ Below wr.heap.size wr w') := fun W hW => by
        obtain ⟨h1, h2, _⟩ := own_nums (S.own_over hl.own hW)
        exact (A.most_any a7 L.length c7 L W (by rw [hl.an]; exact S.ansL_u hl.ok HD.out) (by have := H8l.out; unfold maxLen; omega) h2 h1).mono fun e w' ⟨x1, x2⟩ => ⟨x1, hW.trans (x2.mono hW.size)⟩
      have HLn : Hid (∀ W, Below wr.heap.size wr W → Calls Tryz.prog 14 #[.pointer (some ⟨w1.heap.size, 0, none⟩)] W fun e w' => e = .returned (.int .i64 (L.length : Nat)) ∧ w' = W) := fun W hW => by
        rw [hLl]
        exact S.len_any W w1.heap.size vc ve ls (hl.st.over hW)
      have HTe : Hid (∀ W, Below wr.heap.size wr W → Below w.heap.size w W) := fun W hW => HT1.out W (HB.out.trans (hW.mono HB.out.size))
      have hKd4 := HK1.out wr HB.out
      have n0 := hKd4.cell 0
      have n1 := hKd4.cell 1
      have n2 := hKd4.cell 2
      have n3 := hKd4.cell 3
      have n4 := hKd4.cell 4
      have n5 := hKd4.cell 5
      have n6 := hKd4.cell 6
      have n7 := hKd4.cell 7
      have n8 := hKd4.cell 8
      simp only [List.getElem?_cons_zero, List.getElem?_cons_succ] at n0 n1 n2 n3 n4 n5 n6 n7 n8
      clear hKd4 hl hLl
      generalize A.most L = mo at *
      generalize S.plN L = pn at *
      have hmo : (mo == mo) = true := by simp
      go_wp2_with (first | (go_at_call 12; refine HRu2.out.mono ?_; rintro e w4 ⟨rfl, b4⟩) | (go_at_call 13; refine (HMo.out _ b4).mono ?_; rintro e w5 ⟨rfl, b5⟩) | (go_at_call 14; refine (HLn.out _ b5).mono ?_; rintro e w6 ⟨rfl, rfl⟩))
      go_ret
      exact ⟨rfl, HTe.out _ b5⟩

end Go.Proofs.YtcckipimfgmmdaaGreatDoor

namespace Go.Proofs.YtcckipimfgmmdaaGreatDoor
open Go.ChangeShapes Go.WideShapes Go.ChangeAt Go.RowKit

def laid5 : List (String × DataW Unit) := [("math/bits.deBruijn32tab", Rows.laid_math_bits_deBruijn32tab), ("math/bits.deBruijn64tab", Rows.laid_math_bits_deBruijn64tab), ("internal/strconv.uint64pow10", Rows.laid_internal_strconv_uint64pow10), ("strconv.ErrRange", Rows.laid_strconv_ErrRange), ("strconv.ErrSyntax", Rows.laid_strconv_ErrSyntax)]

theorem gRange : Tryz.prog.globalNamed "strconv.ErrRange" = some 2 := by kernel_rfl
theorem gSyntax : Tryz.prog.globalNamed "strconv.ErrSyntax" = some 1 := by kernel_rfl
theorem tRange : (Tryz.prog.globals[2]?).map (·.type) = some 92 := by kernel_rfl
theorem tSyntax : (Tryz.prog.globals[1]?).map (·.type) = some 92 := by kernel_rfl

theorem vars_of_laid {W : World} (h : laidMetH Tryz.prog laid5 W) : P.Vars W := by
  rw [MakeChecks.laidMetH_plain _ _ _ (by kernel_rfl)] at h
  obtain ⟨ps, ⟨_, _, _, _, _, _, _, _, _, _, ⟨_, _, _, _, _, _, _, _, _, _, ⟨_, _, _, _, _, _, _, _, _, _, ⟨g0, t0, cs0, f0, p0, q0, hg0, ht0, hv0, hd0, ⟨g1, t1, cs1, f1, p1, q1, hg1, ht1, hv1, hd1, _, _⟩, _⟩, _⟩, _⟩, _⟩, _, _⟩ := h
  obtain rfl := Option.some.inj (gRange.symm.trans hg0)
  obtain rfl := Option.some.inj (gSyntax.symm.trans hg1)
  obtain rfl := Option.some.inj (tRange.symm.trans ht0)
  obtain rfl := Option.some.inj (tSyntax.symm.trans ht1)
  obtain ⟨_, u0, v0, e0, _, _⟩ := iface_of_trod Tryz.underlying92 hd0
  obtain ⟨_, u1, v1, e1, _, _⟩ := iface_of_trod Tryz.underlying92 hd1
  have c0 := World.var?_cell hg0 hv0 0
  have c1 := World.var?_cell hg1 hv1 0
  obtain ⟨l0⟩ := cs0
  obtain ⟨l1⟩ := cs1
  simp only at e0 e1
  subst e0 e1
  exact ⟨u1, v1, u0, v0, by simpa using c1, by simpa using c0⟩

theorem met5 (os : Os) (args : Array Value) : laidMetH Tryz.prog laid5 ((World.laidAll Tryz.prog os laid5).forCall (fun _ _ => 0) ⟨#[], args, []⟩).memory := by
  rw [MakeChecks.laidMetH_plain _ _ _ (by kernel_rfl)]
  exact laidMet_laidAll _ (by kernel_rfl) (by kernel_rfl)

set_option maxRecDepth 100000 in
theorem open_texts {H : Type} {enc : TypeId × Value → H} {w : World} {base b0 : Nat} {spare : Nat → Bool} {held : Bool} {r : Reach} {v : Value} {d : DataW H} {p : List MemPlace}
    (hv : Value.okWide Tryz.prog w r b0 22 v) (h : DataW.Trod enc Tryz.prog w base spare held 22 v d p) : ∃ y : Value × List ByteArray, v = y.1 ∧ M.StrR w y.1 y.2 := by
  obtain ⟨a, n, c, rfl⟩ := okWide_slice Tryz.underlying22 hv
  obtain ⟨fuel, hf⟩ := h
  obtain ⟨l, hl⟩ := M.open_names hf
  exact ⟨(_, l), rfl, hl⟩

end Go.Proofs.YtcckipimfgmmdaaGreatDoor
