/-
  TwAwk.
-/
import Derived.Test.YtmcgcbgblgmmkaaGreatDoorQ37
import Derived.Test.YtmcgcbgblgmmkaaGreatDoorQ40
set_option maxRecDepth 8000
set_option maxHeartbeats 4000000
namespace Go.Proofs.YtmcgcbgblgmmkaaGreatDoor.S
open Go.RowKit
theorem stk_new (w : World) : StkV (w.alloc (Obj.cells #[.slice none 0 0, .slice none 0 0] 67)) w.heap.size (.slice none 0 0) (.slice none 0 0) [] := ⟨F.D.blk_new w _ _, own_nil _ _, ⟨rfl, .inl ⟨rfl, rfl⟩⟩⟩
theorem fl_of_own {w : World} {base : Nat} {v : Value} {l : List V.In} (h : w.ownsRow base 156 4 v l.length (V.cellsI l)) (hl : ∀ x ∈ l, x.ok) : FlV w v l := by
 obtain ⟨a, cap, rfl, hi⟩ := V.owns_ins h hl
 rcases h.2 with ⟨e, h0⟩ | ⟨g, c, cur, e, _, _, h1, h2, _⟩
 ·simp at e
  exact ⟨a, cap, rfl, hi, by unfold maxLen; omega, by omega, fun _ => by omega⟩
 ·simp at e
  exact ⟨a, cap, rfl, hi, by omega, by omega, fun hn => by rw [e.1] at hn; cases hn⟩
theorem AttT.yes {X Y : World} {b : Nat} {vc ve : Value} {ls : List (List V.In)} {l : List V.In} {e : Ending} (h : AttT X b vc ve ls l e Y) (h0 : attE ls l = 0) : e = .returned (.int .i64 0) /\ X.grownBy Y (some b) /\ ∃ vc' ve', StkV Y b vc' ve' (ls ++ [l]) := by
 obtain ⟨rfl, h2, h3⟩ := h
 refine ⟨by rw [h0], h2, ?_⟩
 rcases h3 with ⟨h4, _⟩ | ⟨_, vc', ve', h5, _⟩
 ·exact absurd h0 h4
 ·exact ⟨vc', ve', h5⟩
end Go.Proofs.YtmcgcbgblgmmkaaGreatDoor.S
namespace Go.Proofs.YtmcgcbgblgmmkaaGreatDoor
open M (below_new)
open Go.RowKit
def awkT : ByteArray := ⟨#[100, 101, 102, 97, 117, 108, 116, 32, 107, 105, 108, 108, 59, 32, 108, 111, 103, 32, 119, 114, 105, 116, 101, 59]⟩
def awkR : List P.Rl := [⟨⟨7, 0⟩, [[119, 114, 105, 116, 101]], []⟩]
def awkL : List M.Xl := awkR.map ofR
def awkD : M.Da := ⟨1, 3221225534, 0, [0, 0, 0, 0, 0, 0]⟩
theorem awkD_ok : awkD.ok := ⟨⟨by decide, by decide⟩, ⟨by decide, by decide⟩, ⟨by decide, by decide⟩, rfl, fun z hz => by simp [awkD] at hz; subst hz; exact ⟨by decide, by decide⟩⟩
theorem awk_prs : P.prs (M.lst awkT) = .ok (⟨1, 0⟩, awkR) := by kernel_rfl
theorem awk_chk : (M.checkP 1 0 awkL).1 = 0 := by kernel_rfl
def awkP : List V.In := [⟨32, 0, 0, 4⟩, ⟨21, 1, 0, 3221225534⟩, ⟨6, 0, 0, 2147483648⟩, ⟨32, 0, 0, 0⟩, ⟨21, 1, 0, 1⟩, ⟨6, 0, 0, 2147483648⟩, ⟨6, 0, 0, 2147221504⟩]
theorem awk_nums : (awkL.flatMap fun x => M.nums x.names) = [1] := by kernel_rfl
theorem awk_pr : progI [1] 1 0 awkL = awkP := by kernel_rfl
theorem just_one {ns : List Int} (h : M.Rise ns) (hm : ∀ z, z ∈ ns ↔ z ∈ [(1 : Int)]) : ns = [1] := by
 match ns, h, hm with
 | [], _, hm => exact absurd ((hm 1).2 (by simp)) (by simp)
 | [x], _, hm =>
  have := (hm x).1 (by simp)
  simp at this
  rw [this]
 | x :: y :: r, h, hm =>
  have h1 := (hm x).1 (by simp)
  have h2 := (hm y).1 (by simp)
  have h3 := (List.pairwise_cons.1 h).1 y (by simp)
  simp at h1 h2
  omega
theorem awk_prog {ns : List Int} {l : List M.Xr} (h : Nrs ns l) (he : l.map M.Xr.r = awkL) : progI ns 1 0 awkL = awkP := by
 have e1 : M.numsR l = [1] := by
  have : M.numsR l = (l.map M.Xr.r).flatMap fun x => M.nums x.names := by unfold M.numsR; rw [List.flatMap_map]
  rw [this, he, awk_nums]
 rw [just_one h.rise fun z => by rw [h.mem, e1], awk_pr]
structure PgA (p : List V.In) : Prop where
 ok : ∀ x ∈ p, x.ok
 att : S.attE [] p = 0
 ans : V.ansV p awkD = 2147221504
theorem pga : PgA awkP := ⟨fun x hx => by simp [awkP] at hx; rcases hx with rfl | rfl | rfl | rfl | rfl | rfl | rfl <;> exact ⟨⟨by decide, by decide⟩, ⟨by decide, by decide⟩, ⟨by decide, by decide⟩, ⟨by decide, by decide⟩⟩, by kernel_rfl, by kernel_rfl⟩
theorem awk_parse (W : World) (hv : P.Vars W) : Calls Tryz.prog 14 #[.string ⟨#[100, 101, 102, 97, 117, 108, 116, 32, 107, 105, 108, 108, 59, 32, 108, 111, 103, 32, 119, 114, 105, 116, 101, 59]⟩] W fun e w' => Below W.heap.size W w' /\ ∃ p c l, l.map M.Xr.r = awkL /\ e = .returned (.tuple #[.agg #[.int .i64 1, .int .i64 0, .slice p l.length c], .int .i64 0, .int .i64 (-1)]) /\ M.RlR w' (.slice p l.length c) l /\ Few l /\ Fits l := by
 refine (parseM awkT W hv).mono ?_
 rintro e w' ⟨hb, h⟩
 rw [awk_prs] at h
 obtain ⟨v, l, h1, rfl, h3, h4, h5⟩ := h
 obtain ⟨p, c, rfl⟩ : ∃ p c, v = .slice p l.length c := by obtain ⟨p, c, e, _⟩ := h3; exact ⟨p, c, e⟩
 have he : l.map M.Xr.r = awkL := h1
 have e1 : M.numsR l = [1] := by
  have : M.numsR l = (l.map M.Xr.r).flatMap fun x => M.nums x.names := by unfold M.numsR; rw [List.flatMap_map]
  rw [this, he, awk_nums]
 refine ⟨hb, p, c, l, h1, rfl, h3, h4, h5, fun y hy => ?_, by rw [e1]; decide⟩
 have : y.r ∈ awkL := he ▸ List.mem_map.2 ⟨y, hy, rfl⟩
 simp [awkL, awkR] at this
 rw [this]
 exact Nat.le_refl 0
theorem awk_cmp (W : World) (v : Value) (l : List M.Xr) (h : M.RlR W v l) (he : l.map M.Xr.r = awkL) (hF : Few l) (hf : Fits l) :
  Calls Tryz.prog 15 #[.agg #[.int .i64 1, .int .i64 0, v]] W fun e w' => ∃ a c p, e = .returned (.tuple #[.slice a p.length c, .int .i64 0]) /\ Below W.heap.size W w' /\ S.FlV w' (.slice a p.length c) p /\ PgA p := by
 refine (compile_any W 1 0 v l h hF hf).mono ?_
 rintro e w' ⟨v', er, rfl, hb, ⟨h1, _, _⟩ | ⟨_, hR, ns, hn, ⟨h1, _, _⟩ | ⟨h1, rfl, ho⟩⟩⟩
 ·rw [he] at h1
  exact absurd awk_chk h1
 ·rw [he, awk_prog hn he] at h1
  exact absurd h1 (by decide)
 ·rw [he, awk_prog hn he] at ho
  have h3 := S.fl_of_own ho pga.ok
  obtain ⟨a, c, rfl, h5⟩ := h3
  exact ⟨a, c, _, rfl, hb, ⟨a, c, rfl, h5⟩, pga⟩
theorem awk_okS {p : List V.In} (h : PgA p) : S.OkS [p] := S.okS_att S.okS_nil h.ok h.att
theorem awk_run (W : World) (b : Nat) (vc ve : Value) (p : List V.In) (h : PgA p) (hS : S.StkV W b vc ve [p]) :
  Calls Tryz.prog 17 #[.pointer (some ⟨b, 0, none⟩), .agg #[.int .u32 1, .int .u32 3221225534, .int .u64 0, .int .u64 0, .int .u64 0, .int .u64 0, .int .u64 0, .int .u64 0, .int .u64 0]] W fun e w' => e = .returned (.tuple #[.int .u32 2147221504, .int .i64 0]) /\ Below W.heap.size W w' := by
 have e1 : S.ansL [p] awkD = [2147221504] := by
  show [V.ansV p awkD] = _
  rw [h.ans]
 have := S.run_any W b vc ve [p] awkD hS (awk_okS h) awkD_ok
 rw [e1, show A.most [2147221504] = 2147221504 by kernel_rfl, show S.plN [2147221504] = 0 by kernel_rfl] at this
 exact this
theorem awake_any (w : World) (hv : P.Vars w) : Calls Tryz.prog 4 #[] w fun e w' => e = .returned (.bool true) /\ Below w.heap.size w w' := by
 have HV : Hid (P.Vars w) := hv
 clear hv
 go_enter Tryz.func4, Tryz.ntmps4
 go_upto_region 2 with (first | (go_at_call 14; refine (awk_parse _ HV.out).mono ?_; rintro e w1 ⟨b1, p1, c1, l, he, rfl, r1, f1, f2⟩))
 have HB1 : Hid (Below w.heap.size w (w1.alloc (Obj.cells #[.int .i64 1, .int .i64 0, .slice p1 l.length c1] 58))) := b1.trans ((below_new _ _).mono b1.size)
 have HC : Hid (Calls Tryz.prog 15 #[.agg #[.int .i64 1, .int .i64 0, .slice p1 l.length c1]] (w1.alloc (Obj.cells #[.int .i64 1, .int .i64 0, .slice p1 l.length c1] 58)) fun e w' => ∃ a c p, e = .returned (.tuple #[.slice a p.length c, .int .i64 0]) /\ Below (w1.alloc (Obj.cells #[.int .i64 1, .int .i64 0, .slice p1 l.length c1] 58)).heap.size (w1.alloc (Obj.cells #[.int .i64 1, .int .i64 0, .slice p1 l.length c1] 58)) w' /\ S.FlV w' (.slice a p.length c) p /\ PgA p) := awk_cmp _ _ l (r1.below (below_new _ _)) he f1 f2
 clear b1 he r1 f1 f2
 go_upto_region 4 with (first | (go_at_call 15; refine HC.out.mono ?_; rintro e w2 ⟨a2, c2, p, rfl, b2, f2, hp⟩))
 have HB2 : Hid (Below w.heap.size w w2) := HB1.out.trans (b2.mono HB1.out.size)
 have HP : Hid (PgA p) := hp
 have H1 : Hid (Calls Tryz.prog 16 #[.pointer (some ⟨w2.heap.size, 0, none⟩), .slice a2 p.length c2] (w2.alloc (Obj.cells #[.slice none 0 0, .slice none 0 0] 67)) fun e Y => S.AttT _ w2.heap.size _ _ [] p e Y) := S.attach_any _ w2.heap.size _ _ _ [] p (S.stk_new w2) S.okS_nil (f2.below (below_new _ _))
 have HB3 : Hid (Below w.heap.size w (w2.alloc (Obj.cells #[.slice none 0 0, .slice none 0 0] 67))) := HB2.out.trans ((below_new _ _).mono HB2.out.size)
 clear b2 f2 hp HC
 go_upto_region 5 with (first | (go_at_call 16; refine H1.out.mono ?_; rintro e w3 h3; obtain ⟨rfl, g3, vc3, ve3, s3⟩ := h3.yes HP.out.att))
 have HB4 : Hid (Below w.heap.size w w3) := HB3.out.trans (S.grown_below g3 HB2.out.size HB3.out.size)
 have HR : Hid (Calls Tryz.prog 17 #[.pointer (some ⟨w2.heap.size, 0, none⟩), .agg #[.int .u32 1, .int .u32 3221225534, .int .u64 0, .int .u64 0, .int .u64 0, .int .u64 0, .int .u64 0, .int .u64 0, .int .u64 0]] w3 fun e w' => e = .returned (.tuple #[.int .u32 2147221504, .int .i64 0]) /\ Below w3.heap.size w3 w') := awk_run w3 _ _ _ p HP.out s3
 clear h3 g3 s3 H1
 go_wp2_with (first | (go_at_call 17; refine HR.out.mono ?_; rintro e w5 ⟨rfl, b5⟩))
 go_ret
 exact ⟨rfl, HB4.out.trans (b5.mono HB4.out.size)⟩
end Go.Proofs.YtmcgcbgblgmmkaaGreatDoor
