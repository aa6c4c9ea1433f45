/-
  KTstAll KCmp KAwk.
-/
import Derived.Test.YtcckipimfgmmdaaGreatDoorGs37
import Derived.Test.YtcckipimfgmmdaaGreatDoorGs38
import Derived.Test.YtcckipimfgmmdaaGreatDoorGs39
import Derived.Test.YtcckipimfgmmdaaGreatDoorGs36
set_option maxHeartbeats 2000000
namespace Go.Proofs.YtcckipimfgmmdaaGreatDoor
open Go.RowKit
theorem test_any : TestC := by
 intro g n rest w h0 h5 hm hv hr
 obtain ⟨al, ne, b, o, m, v⟩ := n
 dsimp only at *
 by_cases hl : V.lo m = 0
 ·cases b with
  | true => exact test_Atrue al ne g o m v rest w h0 h5 hm hv hr hl
  | false => exact test_Afalse al ne g o m v rest w h0 h5 hm hv hr hl
 ·by_cases hh : V.hi m = 0
  ·cases b with
   | true => exact test_Btrue al ne g o m v rest w h0 h5 hm hv hr hl hh
   | false => exact test_Bfalse al ne g o m v rest w h0 h5 hm hv hr hl hh
  ·by_cases ho : o = 1
   ·cases b with
    | true => exact test_Ctrue al ne g o m v rest w h0 h5 hm hv hr hl hh ho
    | false => exact test_Cfalse al ne g o m v rest w h0 h5 hm hv hr hl hh ho
   ·cases b with
    | true => exact test_Dtrue al ne g o m v rest w h0 h5 hm hv hr hl hh ho
    | false => exact test_Dfalse al ne g o m v rest w h0 h5 hm hv hr hl hh ho
theorem decision_any (w : World) (k a : Int) (vn vc : Value) (cs : List P.Xc) (h : P.CdR w vc cs) (hl : cs.length <= 20) (hc : ∀ c ∈ cs, Cok c) :
  Calls Tryz.prog 153 #[.agg #[.int .i64 k, .int .i64 a, vn, vc]] w fun e w' => Tld w ((decC k a cs).getD []) e w' := decision_of test_any w k a vn vc cs h hl hc
open V (below_new)
theorem decC_holds : DecC := decision_any
def Fits (rs : List P.Xr) : Prop := ∀ y ∈ rs, ∀ c ∈ y.r.conds, V.U64 c.mask /\ V.U64 c.val
def Few (l : List P.Xr) : Prop := l.length <= 70 /\ ∀ x ∈ l, x.r.names.length <= 40 /\ x.r.conds.length <= 40 /\ True
def CmT (w : World) (k a : Int) (rs : List P.Xr) (e : Ending) (w' : World) : Prop :=
 ∃ v er, e = .returned (.tuple #[v, .int .i64 er]) /\ Below w.heap.size w w' /\
  (((M.checkP k a (rs.map P.Xr.r)).1 ≠ 0 /\ er = (M.checkP k a (rs.map P.Xr.r)).1 /\ v = .slice none 0 0) \/
  ((M.checkP k a (rs.map P.Xr.r)).1 = 0 /\ Rok rs /\ ∃ ns, Nrs ns rs /\
    ((4096 < (progI ns k a (rs.map P.Xr.r)).length /\ er = 4 /\ v = .slice none 0 0) \/
    ((progI ns k a (rs.map P.Xr.r)).length <= 4096 /\ er = 0 /\ w'.ownsRow w.heap.size 60 4 v (progI ns k a (rs.map P.Xr.r)).length (V.cellsI (progI ns k a (rs.map P.Xr.r)))))))
theorem rok_of {k a : Int} {rs : List P.Xr} (h : (M.checkP k a (rs.map P.Xr.r)).1 = 0) (hf : Fits rs) : Rok rs /\ P.actB k a = true /\ ∀ x ∈ rs, P.actB x.r.k x.r.a = true := by
 unfold M.checkP at h
 cases hq : P.rulesB k a (rs.map P.Xr.r) with
 | false => rw [hq, if_neg (by decide)] at h; exact absurd h (by decide)
 | true =>
  unfold P.rulesB at hq
  simp only [Bool.and_eq_true, decide_eq_true_eq, List.length_map, List.all_eq_true] at hq
  obtain ⟨⟨h1, h2⟩, h3⟩ := hq
  have h4 : ∀ x ∈ rs, (x.r.names.length <= 16 /\ x.r.conds.length <= 8) /\ P.actB x.r.k x.r.a = true /\ ∀ c ∈ x.r.conds, P.condB c = true := fun x hx => by
   have h5 := h3 x.r (List.mem_map.2 ⟨x, hx, rfl⟩)
   unfold P.ruleB at h5
   simp only [Bool.and_eq_true, decide_eq_true_eq, List.all_eq_true] at h5
   obtain ⟨⟨⟨_, h6⟩, h7⟩, ⟨h8, _⟩, h9⟩ := h5
   exact ⟨⟨h6, h7⟩, h8, h9⟩
  exact ⟨⟨h2, fun x hx => (h4 x hx).1.1, fun x hx => (h4 x hx).1.2, fun x hx => ⟨by have := (h4 x hx).1.2; omega, fun c hc => ⟨(h4 x hx).2.2 c hc, hf x hx c hc⟩⟩⟩, h1, fun x hx => (h4 x hx).2.1⟩
set_option maxRecDepth 8000 in
theorem compile_any (w : World) (k a : Int) (v : Value) (rs : List P.Xr) (h : P.RlR w v rs) (hL : Few rs) (hf : Fits rs) :
  Calls Tryz.prog 7 #[.agg #[.int .i64 k, .int .i64 a, v]] w fun e w' => CmT w k a rs e w' := by
 obtain ⟨p1, c1, rfl⟩ : ∃ p c, v = .slice p rs.length c := by obtain ⟨p, c, e, _⟩ := h; exact ⟨p, c, e⟩
 have HC : Hid (∀ W, P.RlR W (.slice p1 rs.length c1) rs -> Calls Tryz.prog 24 #[.agg #[.int .i64 k, .int .i64 a, .slice p1 rs.length c1]] W fun e w' => e = .returned (.tuple #[.int .i64 (M.checkP k a (rs.map P.Xr.r)).1, .int .i64 (M.checkP k a (rs.map P.Xr.r)).2]) /\ Below W.heap.size W w') := fun W hW => M.check_any W k a _ rs hW (by have := hL.1; omega) fun x hx => ⟨by have := (hL.2 x hx).1; omega, by have := (hL.2 x hx).2.1; omega⟩
 have HP : Hid ((M.checkP k a (rs.map P.Xr.r)).1 = 0 -> ∀ W, P.RlR W (.slice p1 rs.length c1) rs -> Calls Tryz.prog 25 #[.agg #[.int .i64 k, .int .i64 a, .slice p1 rs.length c1]] W fun e w' => PrT W k a rs e w') := fun h0 W hW => program_of decC_holds W k a _ rs hW (rok_of h0 hf).1
 have HRk : Hid ((M.checkP k a (rs.map P.Xr.r)).1 = 0 -> Rok rs) := fun h0 => (rok_of h0 hf).1
 have HB0 : Hid (Below w.heap.size w (w.alloc (Obj.cells #[.int .i64 k, .int .i64 a, .slice p1 rs.length c1] 39))) := below_new w _
 have HK : Hid (P.Blk (w.alloc (Obj.cells #[.int .i64 k, .int .i64 a, .slice p1 rs.length c1] 39)) w.heap.size 39 [.int .i64 k, .int .i64 a, .slice p1 rs.length c1]) := P.blk_new w _ _
 have HX : Hid (∀ W, Below (w.alloc (Obj.cells #[.int .i64 k, .int .i64 a, .slice p1 rs.length c1] 39)).heap.size (w.alloc (Obj.cells #[.int .i64 k, .int .i64 a, .slice p1 rs.length c1] 39)) W -> W.cell? ⟨w.heap.size, 0, none⟩ = some (.int .i64 k) /\ W.cell? ⟨w.heap.size, 1, none⟩ = some (.int .i64 a) /\ W.cell? ⟨w.heap.size, 2, none⟩ = some (.slice p1 rs.length c1) /\ P.RlR W (.slice p1 rs.length c1) rs /\ Below w.heap.size w W) := fun W hW => ⟨(HK.out.over hW).cell 0, (HK.out.over hW).cell 1, (HK.out.over hW).cell 2, h.below (HB0.out.trans (hW.mono HB0.out.size)), HB0.out.trans (hW.mono HB0.out.size)⟩
 have hr0 : P.RlR (w.alloc (Obj.cells #[.int .i64 k, .int .i64 a, .slice p1 rs.length c1] 39)) (.slice p1 rs.length c1) rs := h.below (below_new w _)
 have HR0 : Hid (P.RlR (w.alloc (Obj.cells #[.int .i64 k, .int .i64 a, .slice p1 rs.length c1] 39)) (.slice p1 rs.length c1) rs) := hr0
 clear hr0 h hL hf HK
 have HBad : Hid (∀ w', (M.checkP k a (rs.map P.Xr.r)).1 ≠ 0 -> Below w.heap.size w w' -> CmT w k a rs (.returned (.tuple #[.slice none 0 0, .int .i64 (M.checkP k a (rs.map P.Xr.r)).1])) w') := fun w' h1 h2 => ⟨_, _, rfl, h2, .inl ⟨h1, rfl, rfl⟩⟩
 have HLong : Hid (∀ w' ns, (M.checkP k a (rs.map P.Xr.r)).1 = 0 -> Rok rs -> Nrs ns rs -> 4096 < (progI ns k a (rs.map P.Xr.r)).length -> Below w.heap.size w w' -> CmT w k a rs (.returned (.tuple #[.slice none 0 0, .int .i64 4])) w') := fun w' ns h1 h2 h3 h4 h5 => ⟨_, _, rfl, h5, .inr ⟨h1, h2, ns, h3, .inl ⟨h4, rfl, rfl⟩⟩⟩
 have HGood : Hid (∀ w' ns v, (M.checkP k a (rs.map P.Xr.r)).1 = 0 -> Rok rs -> Nrs ns rs -> (progI ns k a (rs.map P.Xr.r)).length <= 4096 -> Below w.heap.size w w' -> w'.ownsRow w.heap.size 60 4 v (progI ns k a (rs.map P.Xr.r)).length (V.cellsI (progI ns k a (rs.map P.Xr.r))) -> CmT w k a rs (.returned (.tuple #[v, .int .i64 0])) w') := fun w' ns v h1 h2 h3 h4 h5 h6 => ⟨_, _, rfl, h5, .inr ⟨h1, h2, ns, h3, .inr ⟨h4, rfl, h6⟩⟩⟩
 generalize M.checkP k a (rs.map P.Xr.r) = cp at *
 obtain ⟨p, q⟩ := cp
 dsimp only at *
 by_cases hp : p = 0
 ·subst hp
  have HP2 : Hid (∀ W, P.RlR W (.slice p1 rs.length c1) rs -> Calls Tryz.prog 25 #[.agg #[.int .i64 k, .int .i64 a, .slice p1 rs.length c1]] W fun e w' => PrT W k a rs e w') := HP.out rfl
  have HRk2 : Hid (Rok rs) := HRk.out rfl
  clear HP HRk
  go_enter Tryz.func7, Tryz.ntmps7
  go_upto_region 5 with (first
   | (go_at_call 24; refine (HC.out _ HR0.out).mono ?_; rintro e w1 ⟨rfl, b1⟩; obtain ⟨c0, c1', c2, r1, B1⟩ := HX.out _ b1)
   | (go_at_call 25; refine (HP2.out _ r1).mono ?_; rintro e w2 ⟨ns, hns, u2, rfl, o2, b2⟩))
  have HO : Hid (w2.ownsRow w.heap.size 60 4 u2 (progI ns k a (rs.map P.Xr.r)).length (V.cellsI (progI ns k a (rs.map P.Xr.r)))) := P.owns_lower o2 B1.size
  have HB : Hid (Below w.heap.size w w2) := B1.trans (b2.mono B1.size)
  obtain ⟨a2, q2, rfl⟩ := own_slice o2
  clear o2 b2 B1 b1 r1 c0 c1' c2
  have HNs : Hid (Nrs ns rs) := hns
  obtain ⟨N1, hN1⟩ : ∃ N1, (progI ns k a (rs.map P.Xr.r)).length = N1 := ⟨_, rfl⟩
  have HN1 : Hid ((progI ns k a (rs.map P.Xr.r)).length = N1) := hN1
  rw [hN1] at HO ⊢
  clear hN1 hns
  by_cases hl : 4096 < N1
  ·have hl1 : (4096 : Int) < (N1 : Int) := by omega
   go_wp2_with fail
   go_ret2
   exact HLong.out _ ns (by first | rfl | trivial) HRk2.out HNs.out (by rw [HN1.out]; exact hl) HB.out
  ·have hl1 : ¬ (4096 : Int) < (N1 : Int) := by omega
   go_wp2_with fail
   go_ret2
   exact HGood.out _ ns _ (by first | rfl | trivial) HRk2.out HNs.out (by rw [HN1.out]; omega) HB.out (by rw [HN1.out]; exact HO.out)
 ·have hp' : (p == 0) = false := by simpa using hp
  go_enter Tryz.func7, Tryz.ntmps7
  go_wp2_with (first | (go_at_call 24; refine (HC.out _ HR0.out).mono ?_; rintro e w1 ⟨rfl, b1⟩; obtain ⟨c0, c1', c2, r1, B1⟩ := HX.out _ b1))
  go_ret2
  exact HBad.out _ hp B1
theorem own_ins {w : World} {b : Nat} {v : Value} {l : List V.In} (h : w.ownsRow b 60 4 v l.length (V.cellsI l)) (hl : ∀ x ∈ l, x.ok) : ∃ a cap, v = .slice a l.length cap /\ V.Ins w a l.length l := V.owns_ins h hl
end Go.Proofs.YtcckipimfgmmdaaGreatDoor
