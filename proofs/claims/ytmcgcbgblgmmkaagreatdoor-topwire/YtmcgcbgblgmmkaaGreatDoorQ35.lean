/-
  TMem TLeaf TIter TWalk TBuild.
-/
import Derived.Test.YtmcgcbgblgmmkaaGreatDoorQ14
import Derived.Test.YtmcgcbgblgmmkaaGreatDoorQ32
import Derived.Test.YtmcgcbgblgmmkaaGreatDoorQ27
import Derived.RangeFuncNested
import Derived.RangeFuncBound
import Derived.RangeFuncCalls
import Derived.RangeFuncLeaves
import Derived.RangeFuncBox
import Derived.Shelf.Abstract
import Derived.Shelf.RegionOpen
import Derived.OwnWalkIn
import Derived.TacticsInMore
import Derived.LoopNIn
import Derived.LoopIn
import Derived.Laws.EntriesVeiled
set_option maxRecDepth 100000
set_option maxHeartbeats 4000000
namespace Go.Proofs.YtmcgcbgblgmmkaaGreatDoor.T
open Go.RowKit
theorem owns_nil (w : World) (base : Nat) (t : TypeId) (sz : Nat) : w.ownsRow base t sz (.slice none 0 0) 0 [] := ⟨by simp, .inl ⟨rfl, rfl⟩⟩
theorem below_drewN {B : Nat} {a w : World} (h : Below B a w) (n : Nat) : Below B a (w.drewN n) := by
 induction n with
 | zero => exact h
 | succ n ih => exact ih.drew
theorem info_parts {t : TypeId} {z : Option Value} {s b : Nat} (h : (Tryz.prog.info? t).map (fun i => (i.zero, i.size, i.bytes)) = some (z, s, b)) : ∃ i, Tryz.prog.info? t = some i /\ i.zero = z /\ i.size = s /\ i.bytes = b := by
 cases hi : Tryz.prog.info? t with
 | none => rw [hi] at h; cases h
 | some i =>
  rw [hi] at h
  simp at h
  exact ⟨i, rfl, h.1, h.2.1, h.2.2⟩
def cellsN (l : List Nat) : List Value := l.map fun x : Nat => Value.int .i64 x
theorem cellsN_app (l m : List Nat) : cellsN (l ++ m) = cellsN l ++ cellsN m := by simp [cellsN]
open V (Ns)
def Rs (l : List Int) (k : Nat) : Prop := ∀ j, j + 1 < k -> l.getD j 0 < l.getD (j + 1) 0
theorem Rs.yes {l : List Int} (h : Rs l l.length) : rises l = true := decide_eq_true fun i hi => h i (by omega)
theorem Rs.no {l : List Int} {m : Nat} (h : m + 1 < l.length) (hle : l.getD (m + 1) 0 <= l.getD m 0) : rises l = false := decide_eq_false fun hh => by have := hh m (by omega); omega
theorem Rs.on {l : List Int} {m : Nat} (h : Rs l (m + 1)) (hlt : ¬ l.getD (m + 1) 0 <= l.getD m 0) : Rs l (m + 2) := by
 intro j hj
 by_cases e : j = m
 ·subst e; omega
 ·exact h j (by omega)
theorem Rs.one (l : List Int) : Rs l 1 := fun j hj => by omega
theorem wrong_any (a : Option Addr) (len cap : Nat) (l : List Int) (w : World) (h : Ns .u32 w a len l) :
  Calls Tryz.prog 118 #[.slice a len cap] w fun e w' => e = .returned (.int .i64 (bErr l)) /\ Below w.heap.size w w' := by
 have hll := h.1
 by_cases h4 : 4096 < len
 ·have e1 : bErr l = 4 := by unfold bErr; rw [if_pos (by omega)]
  rw [e1]
  have h4' : (4096 : Int) < (len : Int) := by omega
  clear e1 hll h
  go_enter Tryz.func118, Tryz.ntmps118
  go_wp2
  go_ret
  exact ⟨rfl, Below.refl _ _⟩
 ·have HE : Hid (bErr l = if rises l = true then 0 else 1) := by unfold Hid bErr; rw [if_neg (by omega)]
  generalize bErr l = er at *
  have h4' : (len : Int) <= 4096 := by omega
  go_enter Tryz.func118, Tryz.ntmps118
  go_wp2
  go_loopw [3] (fun i wr => ∃ m : Nat, (m = 0 \/ m + 1 <= len) /\ i = .int .i64 (m + 1 : Nat) /\ Rs l (m + 1) /\ Below w.heap.size w wr) (fun i _ => len - (intOf i).toNat)
  case atStart => exact ⟨0, .inl rfl, rfl, Rs.one l, Below.refl _ _⟩
  case round =>
   obtain ⟨m, hm, rfl, hrs, hbr⟩ := hrel
   have HM : Hid (m = 0 \/ m + 1 <= len) := hm
   have HR : Hid (Rs l (m + 1)) := hrs
   clear hm hrs
   by_cases hlt : m + 1 < len
   ·obtain ⟨b, off, rfl, hc⟩ := (h.below hbr).2 (by omega)
    have q1 := hc (m + 1) hlt
    have q0 := hc m (by omega)
    have HL : Hid (Ns .u32 w (some ⟨b, off, none⟩) len l) := h
    clear hc h
    generalize hk : m + 1 = k at *
    have e1 : IntKind.i64.wrap ((k : Int) - 1) = (m : Int) := by rw [IntKind.wrap_i64]; omega
    have HK : Hid (m + 1 = k) := hk
    clear hk
    have hi1 : (k : Int) < (len : Int) := by omega
    have hm1 : (m : Int) < (len : Int) := by have := HK.out; omega
    have HZ : Hid (∀ x y : Int, l.getD k 0 = x -> l.getD m 0 = y -> if x <= y then er = 1 else Rs l (k + 1)) := by
     intro x y hx hy
     have hk := HK.out
     subst hk
     subst hx hy
     split
     ·rw [HE.out, Rs.no (m := m) (by omega) (by assumption)]; rfl
     ·exact HR.out.on (by assumption)
    have hz := HZ.out _ _ rfl rfl
    clear HZ HR HE hll
    generalize l.getD k 0 = x at *
    generalize l.getD m 0 = y at *
    by_cases hxy : x <= y
    ·rw [if_pos hxy] at hz
     subst hz
     go_wp2_with fail
     go_quiet (fail)
     go_wp2
     go_ret
     exact ⟨rfl, below_drewN hbr _⟩
    ·rw [if_neg hxy] at hz
     have HX : Hid (Rs l (k + 1)) := hz
     clear hz
     have hxy' : y < x := by omega
     go_wp2_with fail
     go_quiet (fail)
     go_wp2
     go_roundw
     case rel => exact ⟨k, .inr (by omega), by go_num, HX.out, below_drewN hbr _⟩
     case measure => simp [intOf]; omega
   ·have hge : ¬ ((m + 1 : Nat) : Int) < (len : Int) := by omega
    have e2 : er = 0 := by
     rw [HE.out, Rs.yes (l := l) (by
      rcases HM.out with h0 | h0
      ·intro j hj; omega
      ·rw [show l.length = m + 1 from by omega]; exact HR.out)]
     rfl
    subst e2
    generalize m + 1 = k at *
    go_wp2
    go_ret
    exact ⟨rfl, hbr⟩
open F (ret_int)
open F.D (ret_bool)
open Go.RowKit Go.Shelf
attribute [local go_sem] Oper.semAt_some
theorem room_of_none {F : Fence} (hd : F.depth = none) (k : Nat) : F.room k := fun d h => by rw [hd] at h; cases h
theorem roundIn_any {F : Fence} (hd : F.depth = none) {m m' : Nat} {P : Program} {l : Nat} {f : FuncId} {tmps : Array Value} {assign body : Code} {w : World} {R : Ending -> World -> Prop}
  (h : RoundIn F m P l f tmps assign body w R) : RoundIn F m' P l f tmps assign body w R := ⟨h.1, fun c cs _ => h.2 c cs (room_of_none hd _)⟩
theorem yieldAt_any {F : Fence} (hd : F.depth = none) {m : Nat} (m' : Nat) {P : Program} {l : Nat} {args : Array Value} {W : World} {R : Ending -> World -> Prop} (h : YieldAt F m P l args W R) : YieldAt F m' P l args W R := by
 obtain ⟨fn, tmps, assign, body, hy, hR⟩ := h
 exact ⟨fn, tmps, assign, body, hy, roundIn_any hd hR⟩
structure Pt where
 a : Nat
 b : Nat
 ok : a < b /\ b <= 1000000
def Pt.pair (x : Pt) : Nat × Nat := (x.a, x.b)
def prs (l : List Pt) : List (Nat × Nat) := l.map Pt.pair
theorem prs_app (l m : List Pt) : prs (l ++ m) = prs l ++ prs m := List.map_append
def Pt.encs (x : Pt) : Array Value := #[.int .i64 x.a, .int .i64 x.b]
def KeepF (W W' : World) : Prop := ∀ b v, Boxed W b 203 v -> Boxed W' b 203 v
theorem KeepF.refl (W : World) : KeepF W W := fun _ _ h => h
theorem KeepF.trans {A B C : World} (h : KeepF A B) (k : KeepF B C) : KeepF A C := fun b v hb => k b v (h b v hb)
theorem KeepF.grown {W W' : World} {row : Option Nat} (hg : W.grownBy W' row) (hr : ∀ r v, row = some r -> ¬ Boxed W r 203 v) : KeepF W W' := fun b v hb => hb.kept hg fun e => hr b v e.symm hb
theorem KeepF.alloc (W : World) (o : Obj) : KeepF W (W.alloc o) := fun _ _ hb => hb.alloc o
theorem KeepF.set {W : World} {B : Nat} {t : TypeId} {v : Value} (h : Boxed W B t v) (ht : t ≠ 203) (u : Value) : KeepF W (W.setCell ⟨B, 0, none⟩ u) :=
 KeepF.grown (grownBy_setCell' W B u) fun r x e hb => by
  cases e
  have := (show W.heap[B]? = _ from h).symm.trans hb
  simp at this
  exact ht this.2
theorem keepF_b (W : World) (l : Nat) (o o' : Obj) (h : W.heap[l]? = some o) (hc : o.isCells = false) : KeepF W (W.putObj l o') :=
 KeepF.grown (grownBy_putObj' W l o') fun r x e hb => by
  cases e
  rw [show W.heap[l]? = _ from hb] at h
  cases h
  cases hc
theorem halved_in (F : Fence) (n : Nat) (hF : F.fn 120) (hro : F.round = none) (a b : Nat) (w : World) (h : a <= b) (hb : b <= 1000000) :
  CallsIn F n Tryz.prog 120 #[.int .i64 a, .int .i64 b] w fun e w' => e = .returned (.bool (decide (2 <= b - a))) /\ w' = w := by
 refine callsIn_of_wp Tryz.func120 rfl hF ?_ hro
 simp only [Tryz.ntmps120, List.size_toArray, List.length_cons, List.length_nil, Nat.reduceAdd, Nat.reduceSub, Array.replicate_succ, Array.replicate_zero, List.push_toArray, List.append_toArray, List.nil_append, List.cons_append]
 gi_wp2
 go_ret
 exact ⟨ret_bool (by rw [decide_eq_decide]; omega), rfl⟩
theorem middle_in (F : Fence) (n : Nat) (hF : F.fn 121) (hro : F.round = none) (a b : Nat) (w : World) (h : a <= b) (hb : b <= 1000000) :
  CallsIn F n Tryz.prog 121 #[.int .i64 a, .int .i64 b] w fun e w' => e = .returned (.int .i64 (mid a b : Nat)) /\ w' = w := by
 refine callsIn_of_wp Tryz.func121 rfl hF ?_ hro
 simp only [Tryz.ntmps121, List.size_toArray, List.length_cons, List.length_nil, Nat.reduceAdd, Nat.reduceSub, Array.replicate_succ, Array.replicate_zero, List.push_toArray, List.append_toArray, List.nil_append, List.cons_append]
 gi_wp2
 go_ret
 exact ⟨ret_int (by unfold mid; omega), rfl⟩
theorem within_in (F : Fence) (hd : F.depth = none) (hF : F.fn 152) (hH : F.fn 120) (hM : F.fn 121) (hro : F.round = none) (l Y V N : Nat) (J Jx : List Pt -> World -> Prop)
  (hY : ∀ m pre x W, J pre W -> pre.length < N -> YieldAt F m Tryz.prog l (Pt.encs x) W fun e W' =>
   (e = .returned (.bool true) /\ J (pre ++ [x]) W' /\ KeepF W W') \/ (e = .returned (.bool false) /\ Jx (pre ++ [x]) W')) (k : Nat) :
  ∀ (n a b : Nat) (pre : List Pt) (W : World), b - a <= k -> a < b -> b <= 1000000 -> Boxed W Y 203 (.func (.yield l) #[] #[]) -> Boxed W V 203 (.func (.func 152) #[] #[.pointer (some ⟨Y, 0, none⟩), .pointer (some ⟨V, 0, none⟩)]) -> J pre W -> pre.length + (parts a b).length <= N ->
   CallsIn F n Tryz.prog 152 #[.int .i64 a, .int .i64 b, .pointer (some ⟨Y, 0, none⟩), .pointer (some ⟨V, 0, none⟩)] W fun e W' =>
    (e = .returned (.bool true) /\ ∃ ys, prs ys = parts a b /\ J (pre ++ ys) W' /\ KeepF W W') \/ (e = .returned (.bool false) /\ ∃ ys, prs ys <+: parts a b /\ Jx (pre ++ ys) W') := by
 have hdd : ∀ k : Nat, (F.depth.isSome = true -> 1 <= k) := fun k h => by rw [hd] at h; cases h
 induction k with
 | zero => intro n a b pre W h1 h2; omega
 | succ k ih =>
  intro n a b pre W h1 h2 h3 bY bV hJ hN
  have hpl : 0 < (parts a b).length := by rw [parts_len h2]; omega
  have cY := bY.cell
  have HH : Hid (∀ (m : Nat) (W : World), CallsIn F m Tryz.prog 120 #[.int .i64 a, .int .i64 b] W fun e w' => e = .returned (.bool (decide (2 <= b - a))) /\ w' = W) := fun m W => halved_in F m hH hro a b W (by omega) h3
  have HM : Hid (∀ (m : Nat) (W : World), CallsIn F m Tryz.prog 121 #[.int .i64 a, .int .i64 b] W fun e w' => e = .returned (.int .i64 (mid a b : Nat)) /\ w' = W) := fun m W => middle_in F m hM hro a b W (by omega) h3
  have hy1 := YieldAt.mono (hY (n - 1) pre ⟨a, b, h2, h3⟩ W hJ (by omega)) (R' := fun e W1 =>
    (e = .returned (.bool true) /\ J (pre ++ [⟨a, b, h2, h3⟩]) W1 /\ KeepF W W1 /\ W1.cell? ⟨V, 0, none⟩ = some (.func (.func 152) #[] #[.pointer (some ⟨Y, 0, none⟩), .pointer (some ⟨V, 0, none⟩)])) \/ (e = .returned (.bool false) /\ Jx (pre ++ [⟨a, b, h2, h3⟩]) W1))
    (fun e W1 h => h.elim (fun ⟨he, hj, hk⟩ => .inl ⟨he, hj, hk, (hk _ _ bV).cell⟩) .inr)
  obtain ⟨fn, tmps, assign, body, hy, hR⟩ := hy1
  dsimp only [Pt.encs] at hy
  by_cases h22 : 2 <= b - a
  ·have hm := mid_lt h22
   have hp2 := parts_two h22
   have ih1 : ∀ W1, J (pre ++ [⟨a, b, h2, h3⟩]) W1 -> KeepF W W1 -> CallsIn F (n - 1) Tryz.prog 152 #[.int .i64 a, .int .i64 (mid a b : Nat), .pointer (some ⟨Y, 0, none⟩), .pointer (some ⟨V, 0, none⟩)] W1 fun e W2 =>
     (e = .returned (.bool true) /\ W2.cell? ⟨V, 0, none⟩ = some (.func (.func 152) #[] #[.pointer (some ⟨Y, 0, none⟩), .pointer (some ⟨V, 0, none⟩)]) /\
      CallsIn F (n - 1) Tryz.prog 152 #[.int .i64 (mid a b : Nat), .int .i64 b, .pointer (some ⟨Y, 0, none⟩), .pointer (some ⟨V, 0, none⟩)] W2 fun e W3 =>
       (e = .returned (.bool true) /\ ∃ ys, prs ys = parts a b /\ J (pre ++ ys) W3 /\ KeepF W W3) \/ (e = .returned (.bool false) /\ ∃ ys, prs ys <+: parts a b /\ Jx (pre ++ ys) W3)) \/
     (e = .returned (.bool false) /\ ∃ ys, prs ys <+: parts a b /\ Jx (pre ++ ys) W2) := by
    intro W1 hJ1 hk1
    rw [hp2, List.length_cons, List.length_append] at hN
    refine (ih (n - 1) a (mid a b) _ W1 (by omega) hm.1 (by omega) (hk1 _ _ bY) (hk1 _ _ bV) hJ1 (by rw [List.length_append, List.length_singleton]; omega)).mono fun e W2 h => ?_
    rcases h with ⟨he, ys, e1, hj2, hk2⟩ | ⟨he, ys, ⟨r, e1⟩, hx⟩
    ·refine .inl ⟨he, ((hk1.trans hk2) _ _ bV).cell, ?_⟩
     have l1 : ys.length = (parts a (mid a b)).length := by rw [<- e1]; simp [prs]
     refine (ih (n - 1) (mid a b) b _ W2 (by omega) hm.2 h3 ((hk1.trans hk2) _ _ bY) ((hk1.trans hk2) _ _ bV) hj2 (by rw [List.length_append, List.length_append, List.length_singleton]; omega)).mono fun e W3 h => ?_
     rcases h with ⟨he, zs, e2, hj3, hk3⟩ | ⟨he, zs, ⟨r, e2⟩, hx⟩
     ·exact .inl ⟨he, [⟨a, b, h2, h3⟩] ++ ys ++ zs, by rw [hp2, prs_app, prs_app, e1, e2]; rfl, by simpa using hj3, (hk1.trans hk2).trans hk3⟩
     ·exact .inr ⟨he, [⟨a, b, h2, h3⟩] ++ ys ++ zs, ⟨r, by rw [hp2, prs_app, prs_app, e1, <- e2]; simp [prs, Pt.pair]⟩, by simpa using hx⟩
    ·exact .inr ⟨he, [⟨a, b, h2, h3⟩] ++ ys, ⟨r ++ parts (mid a b) b, by rw [hp2, prs_app, <- e1]; simp [prs, Pt.pair]⟩, by simpa using hx⟩
   have HX1 : Hid (prs [⟨a, b, h2, h3⟩] <+: parts a b) := ⟨_, by rw [hp2]; rfl⟩
   rw [decide_eq_true h22] at HH
   clear hN hpl hp2 hm h22 ih h1 bY bV hJ hY
   generalize mid a b = m at *
   refine callsIn_of_wp Tryz.func152 rfl hF ?_ hro
   simp only [Tryz.ntmps152, List.size_toArray, List.length_cons, List.length_nil, Nat.reduceAdd, Nat.reduceSub, Array.replicate_succ, Array.replicate_zero, List.push_toArray, List.append_toArray, List.nil_append, List.cons_append]
   gi_wp2_with (first
    | ((try refine ⟨hdd _, ?_⟩); gi_at_call 120; refine (HH.out _ _).mono ?_; clear HH; rintro e W5 ⟨rfl, rfl⟩)
    | ((try refine ⟨hdd _, ?_⟩); gi_at_call 121; refine (HM.out _ _).mono ?_; clear HM; rintro e W6 ⟨rfl, rfl⟩)
    | ((try refine ⟨hdd _, ?_⟩); gi_at_call 152; refine ih1'.mono ?_; clear ih1'; rintro e W2 (⟨rfl, cV2, ih2⟩ | ⟨rfl, hx2⟩))
    | ((try refine ⟨hdd _, ?_⟩); gi_at_call 152; refine ih2.mono ?_; clear ih2; rintro e W3 (⟨rfl, hok⟩ | ⟨rfl, hx3⟩))
    | ((try refine ⟨hdd _, ?_⟩); refine hR.mono ?_; clear hR; rintro e W1 (⟨rfl, hJ1, hk1, cV1⟩ | ⟨rfl, hx1⟩); (try have ih1' := ih1 W1 hJ1 hk1; clear ih1)))
   ·go_ret
    exact .inl ⟨rfl, hok⟩
   ·go_ret
    exact .inr ⟨rfl, hx3⟩
   ·refine ⟨fun _ h => (by cases h), ?_⟩
    gi_wp2
    go_ret
    exact .inr ⟨rfl, hx2⟩
   ·go_ret
    exact .inr ⟨rfl, _, HX1.out, hx1⟩
  ·have HX1 : Hid (prs [⟨a, b, h2, h3⟩] = parts a b) := by unfold Hid; rw [parts_one h2 (by omega)]; rfl
   rw [decide_eq_false h22] at HH
   clear hN hpl h22 ih h1 bY bV hJ hY HM
   refine callsIn_of_wp Tryz.func152 rfl hF ?_ hro
   simp only [Tryz.ntmps152, List.size_toArray, List.length_cons, List.length_nil, Nat.reduceAdd, Nat.reduceSub, Array.replicate_succ, Array.replicate_zero, List.push_toArray, List.append_toArray, List.nil_append, List.cons_append]
   gi_wp2_with (first
    | ((try refine ⟨hdd _, ?_⟩); gi_at_call 120; refine (HH.out _ _).mono ?_; clear HH; rintro e W5 ⟨rfl, rfl⟩)
    | ((try refine ⟨hdd _, ?_⟩); refine hR.mono ?_; clear hR; rintro e W1 (⟨rfl, hJ1, hk1, cV1⟩ | ⟨rfl, hx1⟩)))
   ·go_ret
    exact .inl ⟨rfl, _, HX1.out, hJ1, hk1⟩
   ·go_ret
    exact .inr ⟨rfl, _, ⟨[], by rw [List.append_nil]; exact HX1.out⟩, hx1⟩
attribute [local go_sem] Oper.semAt_some
theorem walk_in (F : Fence) (n : Nat) (hF : F.fn 119) (hro : F.round = none) (s : Int) (w : World) :
  CallsIn F n Tryz.prog 119 #[.int .i64 s] w fun e w' => e = .returned (.func (.func 151) #[] #[.pointer (some ⟨w.heap.size, 0, none⟩)]) /\ w' = w.alloc (.cells #[.int .i64 s] 3) := by
 refine callsIn_of_wp Tryz.func119 rfl hF ?_ hro
 simp only [Tryz.ntmps119, List.size_toArray, List.length_cons, List.length_nil, Nat.reduceAdd, Nat.reduceSub, Array.replicate_succ, Array.replicate_zero, List.push_toArray, List.append_toArray, List.nil_append, List.cons_append]
 gi_wp2
 go_ret
 exact ⟨rfl, rfl⟩
theorem two_more (W : World) (u v : Value) (t : TypeId) : W.grownBy ((W.alloc (.cells #[u] t)).alloc (.cells #[v] t)) none /\ Boxed ((W.alloc (.cells #[u] t)).alloc (.cells #[v] t)) W.heap.size t u /\ Boxed ((W.alloc (.cells #[u] t)).alloc (.cells #[v] t)) (W.heap.size + 1) t v := by
 have h1 := World.grownBy_alloc W (.cells #[u] t) none
 have h2 := World.grownBy_alloc (W.alloc (.cells #[u] t)) (.cells #[v] t) none
 refine ⟨⟨rfl, rfl, rfl, by simp; omega, fun k hk hn => ?_⟩, (Boxed.new W t u).alloc _, ?_⟩
 ·exact (h2.block k (by simp; omega) hn).trans (h1.block k hk hn)
 ·have := Boxed.new (W.alloc (.cells #[u] t)) t v
  rw [World.size_alloc] at this
  exact this
theorem walk1_in (F : Fence) (hd : F.depth = none) (n : Nat) (h1 : F.fn 151) (hF : F.fn 152) (hH : F.fn 120) (hM : F.fn 121) (hro : F.round = none) (l Bs : Nat) (s : Int) (hs : s <= 1000000) (J Jx : List Pt -> World -> Prop) (W : World)
  (hJ : AbidesFrom W.heap.size J)
  (hY : ∀ pre x W, J pre W -> pre.length < (parts 0 s.toNat).length -> YieldAt F (n - 1) Tryz.prog l (Pt.encs x) W fun e W' =>
   (e = .returned (.bool true) /\ J (pre ++ [x]) W' /\ KeepF W W') \/ (e = .returned (.bool false) /\ Jx (pre ++ [x]) W'))
  (hBs : W.cell? ⟨Bs, 0, none⟩ = some (.int .i64 s)) (h0 : J [] W) :
  CallsIn F n Tryz.prog 151 #[.func (.yield l) #[] #[], .pointer (some ⟨Bs, 0, none⟩)] W fun e W' => (∃ v, e = .returned v) /\
   ((∃ ys, prs ys = parts 0 s.toNat /\ J ys W') \/ (∃ pre, prs pre <+: parts 0 s.toNat /\ Jx pre W')) := by
 have hdd : ∀ k : Nat, (F.depth.isSome = true -> 1 <= k) := fun k h => by rw [hd] at h; cases h
 have hlt := World.block_lt_of_cell? W _ hBs
 by_cases hs1 : s < 1
 ·have e0 : Hid (parts 0 s.toNat = []) := parts_none (by omega)
  have hJ1 := hJ [] W _ none h0 (World.grownBy_alloc W (.cells #[.func (.yield l) #[] #[]] 203) none) (fun r e => by cases e)
  have hB2 : (W.alloc (.cells #[.func (.yield l) #[] #[]] 203)).cell? ⟨Bs, 0, none⟩ = some (.int .i64 s) := cell_kept hBs (World.grownBy_alloc W _ none) (fun r e => by cases e)
  refine callsIn_of_wp Tryz.func151 rfl h1 ?_ hro
  simp only [Tryz.ntmps151, List.size_toArray, List.length_cons, List.length_nil, Nat.reduceAdd, Nat.reduceSub, Array.replicate_succ, Array.replicate_zero, List.push_toArray, List.append_toArray, List.nil_append, List.cons_append]
  gi_wp2
  refine bodyPost_ret (results_none rfl _ _ _) rfl ?_
  exact ⟨⟨_, rfl⟩, .inl ⟨[], by rw [e0.out]; rfl, hJ1⟩⟩
 ·obtain ⟨z, rfl⟩ : ∃ z : Nat, s = z := ⟨s.toNat, by omega⟩
  obtain ⟨g2, bY, bV⟩ := two_more W (.func (.yield l) #[] #[]) (.func (.func 152) #[] #[.pointer (some ⟨W.heap.size, 0, none⟩), .pointer (some ⟨W.heap.size + 1, 0, none⟩)]) 203
  have hJ1 := hJ [] W _ none h0 g2 (fun r e => by cases e)
  have hB2 := cell_kept hBs g2 (fun r e => by cases e)
  have hp := within_in F hd hF hH hM hro l W.heap.size (W.heap.size + 1) (parts 0 (z : Int).toNat).length J Jx (fun m pre x W hj hl => yieldAt_any hd m (hY pre x W hj hl)) z (n - 1) 0 z [] _ (by omega) (by omega) (by omega) bY bV hJ1 (by simp)
  have cV := bV.cell
  have hz1 : ¬ (z : Int) < 1 := by omega
  have HT : Hid ((z : Int).toNat = z) := by unfold Hid; omega
  have hB0 : (W.alloc (.cells #[.func (.yield l) #[] #[]] 203)).cell? ⟨Bs, 0, none⟩ = some (.int .i64 z) := cell_kept hBs (World.grownBy_alloc W _ none) (fun r e => by cases e)
  clear bY bV hJ1 g2 hY hs hs1 hJ
  refine callsIn_of_wp Tryz.func151 rfl h1 ?_ hro
  simp only [Tryz.ntmps151, List.size_toArray, List.length_cons, List.length_nil, Nat.reduceAdd, Nat.reduceSub, Array.replicate_succ, Array.replicate_zero, List.push_toArray, List.append_toArray, List.nil_append, List.cons_append]
  gi_wp2_with ((try refine ⟨hdd _, ?_⟩); gi_at_call 152; refine hp.mono ?_; clear hp; rintro e W1 (⟨rfl, ys, e1, hJ1, _⟩ | ⟨rfl, ys, e1, hx⟩))
  ·go_end0
   exact ⟨⟨_, rfl⟩, .inl ⟨ys, by rw [HT.out]; exact e1, by simpa using hJ1⟩⟩
  ·go_end0
   exact ⟨⟨_, rfl⟩, .inr ⟨ys, by rw [HT.out]; exact e1, by simpa using hx⟩⟩
theorem walk_stops (F : Fence) (hd : F.depth = none) (n : Nat) (h1 : F.fn 151) (hF : F.fn 152) (hH : F.fn 120) (hM : F.fn 121) (hro : F.round = none) (Bs : Nat) (s : Int) (hs : s <= 1000000) (w : World) (hBs : w.cell? ⟨Bs, 0, none⟩ = some (.int .i64 s)) :
  SeqStopsK F n Tryz.prog 151 #[.pointer (some ⟨Bs, 0, none⟩)] Pt.encs KeepF (fun ys => prs ys = parts 0 s.toNat) (fun pre => prs pre <+: parts 0 s.toNat) (parts 0 s.toNat).length w := fun l J Jx W hW hJ _ hY h0 =>
 walk1_in F hd n h1 hF hH hM hro l Bs s hs J Jx W hJ hY ((hW.cell (p := ⟨Bs, 0, none⟩) (World.block_lt_of_cell? w _ hBs)).trans hBs) h0
open F.D (size_alloc')
open V (Tryz.info3 new_int)
attribute [local go_sem] Oper.semAt_some
def Bld (w w' : World) (e : Ending) (l : List Nat) (er : Int) : Prop := Below w.heap.size w w' /\ ∃ v, e = .returned (.tuple #[v, .int .i64 er]) /\ w'.ownsRow w.heap.size 3 1 v l.length (cellsN l)
theorem hKb {w : World} : ∀ (W : World) (l : Nat) (o o' : Obj), w.heap.size <= l -> W.heap[l]? = some o -> o.isCells = false -> o.isWalk = false -> KeepF W (W.putObj l o') := fun W l o o' _ h hc _ => keepF_b W l o o' h hc
theorem keepF_app {W w1 : World} {B : Nat} {t : TypeId} {n₀ : Nat} {v v' : Value} {k : Nat} {xs : List Value} {tmp : Obj} (ht : t ≠ 203)
  (hv : Boxed w1 B t v) (hrow : W.ownsRow n₀ 3 1 v k xs) (hgrow : (W.alloc tmp).grownBy w1 v.ownBlock) : KeepF W (w1.setCell ⟨B, 0, none⟩ v') := by
 refine ((KeepF.alloc W tmp).trans (KeepF.grown hgrow fun r x e hb => ?_)).trans (KeepF.set hv ht v')
 rcases (hrow.alloc tmp).2 with ⟨rfl, _⟩ | ⟨g, cap, cur, rfl, _, hgb, _⟩
 ·cases e
 ·cases e
  rw [show (W.alloc tmp).heap[g]? = _ from hb] at hgb
  simp at hgb
theorem KeepF.drew (W : World) : KeepF W W.drew := fun _ _ h => h
theorem stepIn_of {F : Fence} {n : Nat} {ops : Array Oper} {o : Oper} {a : Act} {w : World} {K : Act -> World -> Prop} {Q : Exit -> Act -> World -> Prop} {E : Prop} (hgd : o.guard = none) (h : Oper.wpIn F n Tryz.prog o a w K Q) :
  if Region.wanted o (yielded ops a.tmps) = true then Oper.wpIn F n Tryz.prog o a w K Q else E := by
 rw [if_pos (by simp [Region.wanted, hgd])]
 exact h
theorem stepIn_append {F : Fence} {m : Nat} {w : World} {ops : Array Oper} {o : Oper} {a : Act} {K : Act -> World -> Prop} {Q : Exit -> Act -> World -> Prop} {E : Prop} (hgd : o.guard = none) (s x : Operand)
  (ho : o.op = .call { callee := .builtin .append, args := #[s, x], argTypes := #[65, 65] })
  (base : Nat) (v : Value) (n : Nat) (l : List Nat) (hs : a.eval s = v) (hown : w.ownsRow base 3 1 v n (cellsN l))
  (z : Nat) (ad : Addr) (hx : a.eval x = .slice (some ad) 1 1) (hnew : w.cell? ad = some (.int .i64 z))
  (hn : n <= 1000000) (hbase : base <= w.heap.size)
  (h : ∀ v' w', w'.ownsRow base 3 1 v' (n + 1) (cellsN (l ++ [z])) -> w.grownBy w' v.ownBlock -> K (a.put o.dst v') w') :
  if Region.wanted o (yielded ops a.tmps) = true then Oper.wpIn F m Tryz.prog o a w K Q else E := by
 refine stepIn_of hgd ?_
 obtain ⟨i0, hi, hz0, hz1, hz2⟩ := info_parts Tryz.info3
 obtain ⟨v', w', hrun, r1, r2, r3⟩ := run_append_own (P := Tryz.prog) w base 65 o.type 3 i0 _ 1 8 Tryz.underlying65 hi hz0 hz1 hz2 rfl (by decide) v n (cellsN l) hown ad 1 1 (cellsN [z]) rfl (by
  intro j u hu
  match j, hu with
  | 0, hu => cases hu; exact hnew) (by intro u hu; simp [cellsN] at hu; subst hu; rfl) (by unfold maxLen; omega) (by omega) hbase
 unfold Oper.wpIn
 refine ⟨?_, ?_⟩
 ·simp [Oper.about, ho, resolve, Target.leads, Sem.run_pure]
 ·rw [Oper.semAt_plain F _ _ (by rw [ho]; intro c hc'; cases hc')]
  simp [execOp, ho, resolve, invoke, builtin, hs, hx, hrun, Result.andThen]
  exact h _ _ (by rw [cellsN_app]; exact r1) r2
theorem build_ok (a : Option Addr) (len cap : Nat) (l : List Int) (w : World) (h : Ns .u32 w a len l) (hB : bErr l = 0) :
  CallsIn Fence.wide 3 Tryz.prog 77 #[.slice a len cap] w fun e w' => Bld w w' e (mids 0 len) 0 := by
 have HW : Hid (∀ W : World, Below w.heap.size w W -> CallsIn Fence.wide 2 Tryz.prog 118 #[.slice a len cap] W fun e w' => e = .returned (.int .i64 0) /\ Below w.heap.size w w') := fun W hb => callsIn_wide.2 ((wrong_any a len cap l W (h.below hb)).mono fun e w' ⟨h1, h2⟩ => ⟨by rw [h1, hB], hb.trans (h2.mono hb.size)⟩)
 have h4 : len <= 4096 := by have := (bErr_zero hB).1; have := h.1; omega
 have H4 : Hid (len <= 4096) := h4
 obtain ⟨i0, hi, hz0, hz1, hz2⟩ := info_parts Tryz.info3
 clear h hB h4
 refine callsIn_of_wp_marks Tryz.func77 rfl trivial ?_ rfl
 simp only [Tryz.ntmps77, List.size_toArray, List.length_cons, List.length_nil, Nat.reduceAdd, Nat.reduceSub, Array.replicate_succ, Array.replicate_zero, List.push_toArray, List.append_toArray, List.nil_append, List.cons_append]
 gi_wp2_with (first
  | (refine ⟨trivial, ?_⟩; gi_at_call 118; refine (HW.out _ (Below.refl _ _)).mono ?_; rintro e w1 ⟨rfl, hb1⟩)
  | (refine ⟨trivial, ?_⟩; gi_at_call 119; refine (walk_in Fence.wide 2 trivial rfl _ _).mono ?_; rintro e w2 ⟨rfl, rfl⟩))
 have hs1 := hb1.size
 have bO := Boxed.new w1 65 (.slice none 0 0)
 have bN := Boxed.new (w1.alloc (.cells #[.slice none 0 0] 65)) 3 (.int .i64 (len : Int))
 rw [World.size_alloc] at bN
 have hB0 : Below w.heap.size w ((w1.alloc (.cells #[.slice none 0 0] 65)).alloc (.cells #[.int .i64 (len : Int)] 3)) := (hb1.alloc hs1 _).alloc (by simp; omega) _
 refine wpIn_rangeFunc_ownG (F := Fence.wide) rfl (by decide) (gf := 151) (lb := #[.pointer (some ⟨w1.heap.size + 1, 0, none⟩)]) rfl trivial (enters_of Tryz.func151 (by kernel_rfl) rfl)
  (walk_stops Fence.wide rfl 2 trivial trivial trivial trivial rfl (w1.heap.size + 1) len (by have := H4.out; omega) _ bN.cell) KeepF.trans hKb (Below.refl _ _) (fun _ => rfl)
  (fun pre W => (∃ v, Boxed W w1.heap.size 65 v /\ W.ownsRow w.heap.size 3 1 v (midsOf (prs pre)).length (cellsN (midsOf (prs pre))) /\ True) /\ Below w.heap.size w W)
  (fun _ _ _ => False)
  (OwnFrom.and (Own.from (holdsRow_own w.heap.size w1.heap.size 65 3 1 (fun pre => (midsOf (prs pre)).length) (fun pre => cellsN (midsOf (prs pre))) (fun _ _ => True)) _) (ownFrom_below (Nat.le_refl _) (by simp; omega)))
  (fun _ _ _ _ _ hs _ _ => hs)
  ⟨⟨_, bO.alloc _, owns_nil _ _ _ _, trivial⟩, hB0⟩
  (fun x => { tmps := #[.slice a len cap, undef, .slice none 0 0, .int .i64 0, .int .i64 0, .pointer (some ⟨w1.heap.size, 0, none⟩), .int .i64 x.a, .int .i64 x.b, .slice a len cap, .int .i64 0, .int .i64 0, .bool false, undef, .slice a len cap, .int .i64 (len : Int), .func (.func 151) #[] #[.pointer (some ⟨w1.heap.size + 1, 0, none⟩)], .int .i64 x.a, .int .i64 x.b, undef, undef, undef, undef, undef, undef, undef, undef, undef, undef], defers := [] }) ?assign ?body ?done ?stop
 case assign =>
  intro l' x W K hK
  simp only [Pt.encs]
  gi_wp2
  exact hK
 case body =>
  rintro l' pre ⟨xa, xb, hxa, hxb⟩ W ⟨⟨v, hv, hrow, -⟩, hB⟩ hlt
  have hc := hv.cell
  have hmx : Tryz.prog.follows .mixedOrders = true := by kernel_rfl
  dsimp only
  by_cases h2 : 2 <= xb - xa
  ·have HH : Hid (∀ W : World, CallsIn Fence.wide 0 Tryz.prog 120 #[.int .i64 xa, .int .i64 xb] W fun e w' => e = .returned (.bool true) /\ w' = W) := fun W => (halved_in Fence.wide 0 trivial rfl xa xb W (by omega) hxb).mono fun e w' ⟨h1, h3⟩ => ⟨by rw [h1, decide_eq_true h2], h3⟩
   have HM : Hid (∀ W : World, CallsIn Fence.wide 0 Tryz.prog 121 #[.int .i64 xa, .int .i64 xb] W fun e w' => e = .returned (.int .i64 (mid xa xb : Nat)) /\ w' = W) := fun W => middle_in Fence.wide 0 trivial rfl xa xb W (by omega) hxb
   gi_wp2_with (refine ⟨trivial, ?_⟩; gi_at_call 120; refine (CallsIn.inRound l' (HH.out _)).mono ?_; rintro e w5 ⟨rfl, hw5⟩; subst w5)
   have hv' : Boxed W.drew w1.heap.size 65 v := hv
   have hrow' : W.drew.ownsRow w.heap.size 3 1 v (midsOf (prs pre)).length (cellsN (midsOf (prs pre))) := hrow
   have hml : (midsOf (prs pre)).length <= 1000000 := by
    have h5 := midsOf_le (prs pre)
    have h6 := parts_le 0 (len : Int).toNat
    have h7 : (prs pre).length = pre.length := by simp [prs]
    have h8 := H4.out
    omega
   have hkd : KeepF W W.drew := KeepF.drew W
   have hod : KeepsOthers W W.drew := KeepsOthers.drew W
   have hB' : Below w.heap.size w W.drew := hB.drew
   have hwd : Below w.heap.size W W.drew := (Below.refl _ _).drew
   refine wpIn_region_any hmx ?_
   change wpAnyIn _ _ _ _ _ _ _ _ _ (World.drew _)
   generalize W.drew = X at *
   have hcd := hv'.cell
   have hcd2 := (hv'.alloc (Obj.cells #[.int .i64 (mid xa xb : Nat)] 3)).cell
   refine wpAnyIn_ready (rs := [0, 1, 2]) (by kernel_rfl) (by simp) ?_
   refine AllReadyIn.cons rfl (fun K hK => ?_) (AllReadyIn.cons rfl (fun K hK => ?_) (AllReadyIn.cons rfl (fun K hK => ?_) AllReadyIn.nil))
   ·go_simp
    refine hK _ _ ?_
    clear hK K
    refine wpAnyIn_ready (rs := [1, 2]) (by kernel_rfl) (by simp) ?_
    refine AllReadyIn.cons rfl (fun K hK => ?_) (AllReadyIn.cons rfl (fun K hK => ?_) AllReadyIn.nil)
    ·go_simp
     refine hK _ _ ?_
     clear hK K
     refine wpAnyIn_ready (rs := [2]) (by kernel_rfl) (by simp) ?_
     refine AllReadyIn.cons rfl (fun K hK => ?_) AllReadyIn.nil
     go_simp
     refine hK _ _ ?_
     clear hK K
     refine wpAnyIn_ready (rs := [3]) (by kernel_rfl) (by simp) ?_
     refine AllReadyIn.cons rfl (fun K hK => ?_) AllReadyIn.nil
     go_simp
     refine ⟨trivial, ?_⟩
     refine (CallsIn.inRound l' (HM.out _)).mono ?_
     rintro e w6 ⟨rfl, hw6⟩; subst w6
     refine hK _ _ ?_
     clear hK K
     refine wpAnyIn_ready (rs := [4]) (by kernel_rfl) (by simp) ?_
     refine AllReadyIn.cons rfl (fun K hK => ?_) AllReadyIn.nil
     go_simp
     refine hK _ _ ?_
     clear hK K
     refine wpAnyIn_ready (rs := [5]) (by kernel_rfl) (by simp) ?_
     refine AllReadyIn.cons rfl (fun K hK => ?_) AllReadyIn.nil
     refine stepIn_append rfl (.tmp 21) (.tmp 25) rfl w.heap.size v _ (midsOf (prs pre)) rfl (hrow'.alloc _) (mid xa xb) _ rfl (new_int _ _) hml (by rw [size_alloc']; exact Nat.le_succ_of_le hB'.size) ?_
     intro v' w1 hown' hgrow
     refine hK _ _ ?_
     clear hK K
     obtain ⟨g', cap', rfl⟩ := ownsRow_succ hown'
     obtain ⟨hv1, hv2, hr2, hk2, hb2⟩ := hv'.appended (by decide) hrow' hB'.size hs1 hown' hgrow
     have hc1 := hv1.cell
     have hf1 := hv1.frozen
     refine wpAnyIn_ready (rs := [6]) (by kernel_rfl) (by simp) ?_
     refine AllReadyIn.cons rfl (fun K hK => ?_) AllReadyIn.nil
     go_simp
     refine hK _ _ ?_
     clear hK K
     refine wpAnyIn_done (by kernel_rfl) ?_ _
     gi_wp2
     exact ⟨(hod.trans hk2).from _, hkd.trans (keepF_app (by decide) hv1 hrow' hgrow), ⟨_, hv2, by rw [prs_app, show prs [(⟨xa, xb, hxa, hxb⟩ : Pt)] = [(xa, xb)] from rfl, midsOf_snoc, if_pos h2, List.length_append]; exact hr2, trivial⟩, hB'.trans hb2⟩
    ·go_simp
     refine hK _ _ ?_
     clear hK K
     refine wpAnyIn_ready (rs := [1]) (by kernel_rfl) (by simp) ?_
     refine AllReadyIn.cons rfl (fun K hK => ?_) AllReadyIn.nil
     go_simp
     refine hK _ _ ?_
     clear hK K
     refine wpAnyIn_ready (rs := [3]) (by kernel_rfl) (by simp) ?_
     refine AllReadyIn.cons rfl (fun K hK => ?_) AllReadyIn.nil
     go_simp
     refine ⟨trivial, ?_⟩
     refine (CallsIn.inRound l' (HM.out _)).mono ?_
     rintro e w6 ⟨rfl, hw6⟩; subst w6
     refine hK _ _ ?_
     clear hK K
     refine wpAnyIn_ready (rs := [4]) (by kernel_rfl) (by simp) ?_
     refine AllReadyIn.cons rfl (fun K hK => ?_) AllReadyIn.nil
     go_simp
     refine hK _ _ ?_
     clear hK K
     refine wpAnyIn_ready (rs := [5]) (by kernel_rfl) (by simp) ?_
     refine AllReadyIn.cons rfl (fun K hK => ?_) AllReadyIn.nil
     refine stepIn_append rfl (.tmp 21) (.tmp 25) rfl w.heap.size v _ (midsOf (prs pre)) rfl (hrow'.alloc _) (mid xa xb) _ rfl (new_int _ _) hml (by rw [size_alloc']; exact Nat.le_succ_of_le hB'.size) ?_
     intro v' w1 hown' hgrow
     refine hK _ _ ?_
     clear hK K
     obtain ⟨g', cap', rfl⟩ := ownsRow_succ hown'
     obtain ⟨hv1, hv2, hr2, hk2, hb2⟩ := hv'.appended (by decide) hrow' hB'.size hs1 hown' hgrow
     have hc1 := hv1.cell
     have hf1 := hv1.frozen
     refine wpAnyIn_ready (rs := [6]) (by kernel_rfl) (by simp) ?_
     refine AllReadyIn.cons rfl (fun K hK => ?_) AllReadyIn.nil
     go_simp
     refine hK _ _ ?_
     clear hK K
     refine wpAnyIn_done (by kernel_rfl) ?_ _
     gi_wp2
     exact ⟨(hod.trans hk2).from _, hkd.trans (keepF_app (by decide) hv1 hrow' hgrow), ⟨_, hv2, by rw [prs_app, show prs [(⟨xa, xb, hxa, hxb⟩ : Pt)] = [(xa, xb)] from rfl, midsOf_snoc, if_pos h2, List.length_append]; exact hr2, trivial⟩, hB'.trans hb2⟩
   ·go_simp
    refine hK _ _ ?_
    clear hK K
    refine wpAnyIn_ready (rs := [0, 2]) (by kernel_rfl) (by simp) ?_
    refine AllReadyIn.cons rfl (fun K hK => ?_) (AllReadyIn.cons rfl (fun K hK => ?_) AllReadyIn.nil)
    ·go_simp
     refine hK _ _ ?_
     clear hK K
     refine wpAnyIn_ready (rs := [2]) (by kernel_rfl) (by simp) ?_
     refine AllReadyIn.cons rfl (fun K hK => ?_) AllReadyIn.nil
     go_simp
     refine hK _ _ ?_
     clear hK K
     refine wpAnyIn_ready (rs := [3]) (by kernel_rfl) (by simp) ?_
     refine AllReadyIn.cons rfl (fun K hK => ?_) AllReadyIn.nil
     go_simp
     refine ⟨trivial, ?_⟩
     refine (CallsIn.inRound l' (HM.out _)).mono ?_
     rintro e w6 ⟨rfl, hw6⟩; subst w6
     refine hK _ _ ?_
     clear hK K
     refine wpAnyIn_ready (rs := [4]) (by kernel_rfl) (by simp) ?_
     refine AllReadyIn.cons rfl (fun K hK => ?_) AllReadyIn.nil
     go_simp
     refine hK _ _ ?_
     clear hK K
     refine wpAnyIn_ready (rs := [5]) (by kernel_rfl) (by simp) ?_
     refine AllReadyIn.cons rfl (fun K hK => ?_) AllReadyIn.nil
     refine stepIn_append rfl (.tmp 21) (.tmp 25) rfl w.heap.size v _ (midsOf (prs pre)) rfl (hrow'.alloc _) (mid xa xb) _ rfl (new_int _ _) hml (by rw [size_alloc']; exact Nat.le_succ_of_le hB'.size) ?_
     intro v' w1 hown' hgrow
     refine hK _ _ ?_
     clear hK K
     obtain ⟨g', cap', rfl⟩ := ownsRow_succ hown'
     obtain ⟨hv1, hv2, hr2, hk2, hb2⟩ := hv'.appended (by decide) hrow' hB'.size hs1 hown' hgrow
     have hc1 := hv1.cell
     have hf1 := hv1.frozen
     refine wpAnyIn_ready (rs := [6]) (by kernel_rfl) (by simp) ?_
     refine AllReadyIn.cons rfl (fun K hK => ?_) AllReadyIn.nil
     go_simp
     refine hK _ _ ?_
     clear hK K
     refine wpAnyIn_done (by kernel_rfl) ?_ _
     gi_wp2
     exact ⟨(hod.trans hk2).from _, hkd.trans (keepF_app (by decide) hv1 hrow' hgrow), ⟨_, hv2, by rw [prs_app, show prs [(⟨xa, xb, hxa, hxb⟩ : Pt)] = [(xa, xb)] from rfl, midsOf_snoc, if_pos h2, List.length_append]; exact hr2, trivial⟩, hB'.trans hb2⟩
    ·go_simp
     refine hK _ _ ?_
     clear hK K
     refine wpAnyIn_ready (rs := [0, 3]) (by kernel_rfl) (by simp) ?_
     refine AllReadyIn.cons rfl (fun K hK => ?_) (AllReadyIn.cons rfl (fun K hK => ?_) AllReadyIn.nil)
     ·go_simp
      refine hK _ _ ?_
      clear hK K
      refine wpAnyIn_ready (rs := [3]) (by kernel_rfl) (by simp) ?_
      refine AllReadyIn.cons rfl (fun K hK => ?_) AllReadyIn.nil
      go_simp
      refine ⟨trivial, ?_⟩
      refine (CallsIn.inRound l' (HM.out _)).mono ?_
      rintro e w6 ⟨rfl, hw6⟩; subst w6
      refine hK _ _ ?_
      clear hK K
      refine wpAnyIn_ready (rs := [4]) (by kernel_rfl) (by simp) ?_
      refine AllReadyIn.cons rfl (fun K hK => ?_) AllReadyIn.nil
      go_simp
      refine hK _ _ ?_
      clear hK K
      refine wpAnyIn_ready (rs := [5]) (by kernel_rfl) (by simp) ?_
      refine AllReadyIn.cons rfl (fun K hK => ?_) AllReadyIn.nil
      refine stepIn_append rfl (.tmp 21) (.tmp 25) rfl w.heap.size v _ (midsOf (prs pre)) rfl (hrow'.alloc _) (mid xa xb) _ rfl (new_int _ _) hml (by rw [size_alloc']; exact Nat.le_succ_of_le hB'.size) ?_
      intro v' w1 hown' hgrow
      refine hK _ _ ?_
      clear hK K
      obtain ⟨g', cap', rfl⟩ := ownsRow_succ hown'
      obtain ⟨hv1, hv2, hr2, hk2, hb2⟩ := hv'.appended (by decide) hrow' hB'.size hs1 hown' hgrow
      have hc1 := hv1.cell
      have hf1 := hv1.frozen
      refine wpAnyIn_ready (rs := [6]) (by kernel_rfl) (by simp) ?_
      refine AllReadyIn.cons rfl (fun K hK => ?_) AllReadyIn.nil
      go_simp
      refine hK _ _ ?_
      clear hK K
      refine wpAnyIn_done (by kernel_rfl) ?_ _
      gi_wp2
      exact ⟨(hod.trans hk2).from _, hkd.trans (keepF_app (by decide) hv1 hrow' hgrow), ⟨_, hv2, by rw [prs_app, show prs [(⟨xa, xb, hxa, hxb⟩ : Pt)] = [(xa, xb)] from rfl, midsOf_snoc, if_pos h2, List.length_append]; exact hr2, trivial⟩, hB'.trans hb2⟩
     ·go_simp
      refine ⟨trivial, ?_⟩
      refine (CallsIn.inRound l' (HM.out _)).mono ?_
      rintro e w6 ⟨rfl, hw6⟩; subst w6
      refine hK _ _ ?_
      clear hK K
      refine wpAnyIn_ready (rs := [0, 4]) (by kernel_rfl) (by simp) ?_
      refine AllReadyIn.cons rfl (fun K hK => ?_) (AllReadyIn.cons rfl (fun K hK => ?_) AllReadyIn.nil)
      ·go_simp
       refine hK _ _ ?_
       clear hK K
       refine wpAnyIn_ready (rs := [4]) (by kernel_rfl) (by simp) ?_
       refine AllReadyIn.cons rfl (fun K hK => ?_) AllReadyIn.nil
       go_simp
       refine hK _ _ ?_
       clear hK K
       refine wpAnyIn_ready (rs := [5]) (by kernel_rfl) (by simp) ?_
       refine AllReadyIn.cons rfl (fun K hK => ?_) AllReadyIn.nil
       refine stepIn_append rfl (.tmp 21) (.tmp 25) rfl w.heap.size v _ (midsOf (prs pre)) rfl (hrow'.alloc _) (mid xa xb) _ rfl (new_int _ _) hml (by rw [size_alloc']; exact Nat.le_succ_of_le hB'.size) ?_
       intro v' w1 hown' hgrow
       refine hK _ _ ?_
       clear hK K
       obtain ⟨g', cap', rfl⟩ := ownsRow_succ hown'
       obtain ⟨hv1, hv2, hr2, hk2, hb2⟩ := hv'.appended (by decide) hrow' hB'.size hs1 hown' hgrow
       have hc1 := hv1.cell
       have hf1 := hv1.frozen
       refine wpAnyIn_ready (rs := [6]) (by kernel_rfl) (by simp) ?_
       refine AllReadyIn.cons rfl (fun K hK => ?_) AllReadyIn.nil
       go_simp
       refine hK _ _ ?_
       clear hK K
       refine wpAnyIn_done (by kernel_rfl) ?_ _
       gi_wp2
       exact ⟨(hod.trans hk2).from _, hkd.trans (keepF_app (by decide) hv1 hrow' hgrow), ⟨_, hv2, by rw [prs_app, show prs [(⟨xa, xb, hxa, hxb⟩ : Pt)] = [(xa, xb)] from rfl, midsOf_snoc, if_pos h2, List.length_append]; exact hr2, trivial⟩, hB'.trans hb2⟩
      ·go_simp
       refine hK _ _ ?_
       clear hK K
       refine wpAnyIn_ready (rs := [0]) (by kernel_rfl) (by simp) ?_
       refine AllReadyIn.cons rfl (fun K hK => ?_) AllReadyIn.nil
       go_simp
       refine hK _ _ ?_
       clear hK K
       refine wpAnyIn_ready (rs := [5]) (by kernel_rfl) (by simp) ?_
       refine AllReadyIn.cons rfl (fun K hK => ?_) AllReadyIn.nil
       refine stepIn_append rfl (.tmp 21) (.tmp 25) rfl w.heap.size v _ (midsOf (prs pre)) rfl (hrow'.alloc _) (mid xa xb) _ rfl (new_int _ _) hml (by rw [size_alloc']; exact Nat.le_succ_of_le hB'.size) ?_
       intro v' w1 hown' hgrow
       refine hK _ _ ?_
       clear hK K
       obtain ⟨g', cap', rfl⟩ := ownsRow_succ hown'
       obtain ⟨hv1, hv2, hr2, hk2, hb2⟩ := hv'.appended (by decide) hrow' hB'.size hs1 hown' hgrow
       have hc1 := hv1.cell
       have hf1 := hv1.frozen
       refine wpAnyIn_ready (rs := [6]) (by kernel_rfl) (by simp) ?_
       refine AllReadyIn.cons rfl (fun K hK => ?_) AllReadyIn.nil
       go_simp
       refine hK _ _ ?_
       clear hK K
       refine wpAnyIn_done (by kernel_rfl) ?_ _
       gi_wp2
       exact ⟨(hod.trans hk2).from _, hkd.trans (keepF_app (by decide) hv1 hrow' hgrow), ⟨_, hv2, by rw [prs_app, show prs [(⟨xa, xb, hxa, hxb⟩ : Pt)] = [(xa, xb)] from rfl, midsOf_snoc, if_pos h2, List.length_append]; exact hr2, trivial⟩, hB'.trans hb2⟩
   ·go_simp
    refine hK _ _ ?_
    clear hK K
    refine wpAnyIn_ready (rs := [0, 1]) (by kernel_rfl) (by simp) ?_
    refine AllReadyIn.cons rfl (fun K hK => ?_) (AllReadyIn.cons rfl (fun K hK => ?_) AllReadyIn.nil)
    ·go_simp
     refine hK _ _ ?_
     clear hK K
     refine wpAnyIn_ready (rs := [1]) (by kernel_rfl) (by simp) ?_
     refine AllReadyIn.cons rfl (fun K hK => ?_) AllReadyIn.nil
     go_simp
     refine hK _ _ ?_
     clear hK K
     refine wpAnyIn_ready (rs := [3]) (by kernel_rfl) (by simp) ?_
     refine AllReadyIn.cons rfl (fun K hK => ?_) AllReadyIn.nil
     go_simp
     refine ⟨trivial, ?_⟩
     refine (CallsIn.inRound l' (HM.out _)).mono ?_
     rintro e w6 ⟨rfl, hw6⟩; subst w6
     refine hK _ _ ?_
     clear hK K
     refine wpAnyIn_ready (rs := [4]) (by kernel_rfl) (by simp) ?_
     refine AllReadyIn.cons rfl (fun K hK => ?_) AllReadyIn.nil
     go_simp
     refine hK _ _ ?_
     clear hK K
     refine wpAnyIn_ready (rs := [5]) (by kernel_rfl) (by simp) ?_
     refine AllReadyIn.cons rfl (fun K hK => ?_) AllReadyIn.nil
     refine stepIn_append rfl (.tmp 21) (.tmp 25) rfl w.heap.size v _ (midsOf (prs pre)) rfl (hrow'.alloc _) (mid xa xb) _ rfl (new_int _ _) hml (by rw [size_alloc']; exact Nat.le_succ_of_le hB'.size) ?_
     intro v' w1 hown' hgrow
     refine hK _ _ ?_
     clear hK K
     obtain ⟨g', cap', rfl⟩ := ownsRow_succ hown'
     obtain ⟨hv1, hv2, hr2, hk2, hb2⟩ := hv'.appended (by decide) hrow' hB'.size hs1 hown' hgrow
     have hc1 := hv1.cell
     have hf1 := hv1.frozen
     refine wpAnyIn_ready (rs := [6]) (by kernel_rfl) (by simp) ?_
     refine AllReadyIn.cons rfl (fun K hK => ?_) AllReadyIn.nil
     go_simp
     refine hK _ _ ?_
     clear hK K
     refine wpAnyIn_done (by kernel_rfl) ?_ _
     gi_wp2
     exact ⟨(hod.trans hk2).from _, hkd.trans (keepF_app (by decide) hv1 hrow' hgrow), ⟨_, hv2, by rw [prs_app, show prs [(⟨xa, xb, hxa, hxb⟩ : Pt)] = [(xa, xb)] from rfl, midsOf_snoc, if_pos h2, List.length_append]; exact hr2, trivial⟩, hB'.trans hb2⟩
    ·go_simp
     refine hK _ _ ?_
     clear hK K
     refine wpAnyIn_ready (rs := [0, 3]) (by kernel_rfl) (by simp) ?_
     refine AllReadyIn.cons rfl (fun K hK => ?_) (AllReadyIn.cons rfl (fun K hK => ?_) AllReadyIn.nil)
     ·go_simp
      refine hK _ _ ?_
      clear hK K
      refine wpAnyIn_ready (rs := [3]) (by kernel_rfl) (by simp) ?_
      refine AllReadyIn.cons rfl (fun K hK => ?_) AllReadyIn.nil
      go_simp
      refine ⟨trivial, ?_⟩
      refine (CallsIn.inRound l' (HM.out _)).mono ?_
      rintro e w6 ⟨rfl, hw6⟩; subst w6
      refine hK _ _ ?_
      clear hK K
      refine wpAnyIn_ready (rs := [4]) (by kernel_rfl) (by simp) ?_
      refine AllReadyIn.cons rfl (fun K hK => ?_) AllReadyIn.nil
      go_simp
      refine hK _ _ ?_
      clear hK K
      refine wpAnyIn_ready (rs := [5]) (by kernel_rfl) (by simp) ?_
      refine AllReadyIn.cons rfl (fun K hK => ?_) AllReadyIn.nil
      refine stepIn_append rfl (.tmp 21) (.tmp 25) rfl w.heap.size v _ (midsOf (prs pre)) rfl (hrow'.alloc _) (mid xa xb) _ rfl (new_int _ _) hml (by rw [size_alloc']; exact Nat.le_succ_of_le hB'.size) ?_
      intro v' w1 hown' hgrow
      refine hK _ _ ?_
      clear hK K
      obtain ⟨g', cap', rfl⟩ := ownsRow_succ hown'
      obtain ⟨hv1, hv2, hr2, hk2, hb2⟩ := hv'.appended (by decide) hrow' hB'.size hs1 hown' hgrow
      have hc1 := hv1.cell
      have hf1 := hv1.frozen
      refine wpAnyIn_ready (rs := [6]) (by kernel_rfl) (by simp) ?_
      refine AllReadyIn.cons rfl (fun K hK => ?_) AllReadyIn.nil
      go_simp
      refine hK _ _ ?_
      clear hK K
      refine wpAnyIn_done (by kernel_rfl) ?_ _
      gi_wp2
      exact ⟨(hod.trans hk2).from _, hkd.trans (keepF_app (by decide) hv1 hrow' hgrow), ⟨_, hv2, by rw [prs_app, show prs [(⟨xa, xb, hxa, hxb⟩ : Pt)] = [(xa, xb)] from rfl, midsOf_snoc, if_pos h2, List.length_append]; exact hr2, trivial⟩, hB'.trans hb2⟩
     ·go_simp
      refine ⟨trivial, ?_⟩
      refine (CallsIn.inRound l' (HM.out _)).mono ?_
      rintro e w6 ⟨rfl, hw6⟩; subst w6
      refine hK _ _ ?_
      clear hK K
      refine wpAnyIn_ready (rs := [0, 4]) (by kernel_rfl) (by simp) ?_
      refine AllReadyIn.cons rfl (fun K hK => ?_) (AllReadyIn.cons rfl (fun K hK => ?_) AllReadyIn.nil)
      ·go_simp
       refine hK _ _ ?_
       clear hK K
       refine wpAnyIn_ready (rs := [4]) (by kernel_rfl) (by simp) ?_
       refine AllReadyIn.cons rfl (fun K hK => ?_) AllReadyIn.nil
       go_simp
       refine hK _ _ ?_
       clear hK K
       refine wpAnyIn_ready (rs := [5]) (by kernel_rfl) (by simp) ?_
       refine AllReadyIn.cons rfl (fun K hK => ?_) AllReadyIn.nil
       refine stepIn_append rfl (.tmp 21) (.tmp 25) rfl w.heap.size v _ (midsOf (prs pre)) rfl (hrow'.alloc _) (mid xa xb) _ rfl (new_int _ _) hml (by rw [size_alloc']; exact Nat.le_succ_of_le hB'.size) ?_
       intro v' w1 hown' hgrow
       refine hK _ _ ?_
       clear hK K
       obtain ⟨g', cap', rfl⟩ := ownsRow_succ hown'
       obtain ⟨hv1, hv2, hr2, hk2, hb2⟩ := hv'.appended (by decide) hrow' hB'.size hs1 hown' hgrow
       have hc1 := hv1.cell
       have hf1 := hv1.frozen
       refine wpAnyIn_ready (rs := [6]) (by kernel_rfl) (by simp) ?_
       refine AllReadyIn.cons rfl (fun K hK => ?_) AllReadyIn.nil
       go_simp
       refine hK _ _ ?_
       clear hK K
       refine wpAnyIn_done (by kernel_rfl) ?_ _
       gi_wp2
       exact ⟨(hod.trans hk2).from _, hkd.trans (keepF_app (by decide) hv1 hrow' hgrow), ⟨_, hv2, by rw [prs_app, show prs [(⟨xa, xb, hxa, hxb⟩ : Pt)] = [(xa, xb)] from rfl, midsOf_snoc, if_pos h2, List.length_append]; exact hr2, trivial⟩, hB'.trans hb2⟩
      ·go_simp
       refine hK _ _ ?_
       clear hK K
       refine wpAnyIn_ready (rs := [0]) (by kernel_rfl) (by simp) ?_
       refine AllReadyIn.cons rfl (fun K hK => ?_) AllReadyIn.nil
       go_simp
       refine hK _ _ ?_
       clear hK K
       refine wpAnyIn_ready (rs := [5]) (by kernel_rfl) (by simp) ?_
       refine AllReadyIn.cons rfl (fun K hK => ?_) AllReadyIn.nil
       refine stepIn_append rfl (.tmp 21) (.tmp 25) rfl w.heap.size v _ (midsOf (prs pre)) rfl (hrow'.alloc _) (mid xa xb) _ rfl (new_int _ _) hml (by rw [size_alloc']; exact Nat.le_succ_of_le hB'.size) ?_
       intro v' w1 hown' hgrow
       refine hK _ _ ?_
       clear hK K
       obtain ⟨g', cap', rfl⟩ := ownsRow_succ hown'
       obtain ⟨hv1, hv2, hr2, hk2, hb2⟩ := hv'.appended (by decide) hrow' hB'.size hs1 hown' hgrow
       have hc1 := hv1.cell
       have hf1 := hv1.frozen
       refine wpAnyIn_ready (rs := [6]) (by kernel_rfl) (by simp) ?_
       refine AllReadyIn.cons rfl (fun K hK => ?_) AllReadyIn.nil
       go_simp
       refine hK _ _ ?_
       clear hK K
       refine wpAnyIn_done (by kernel_rfl) ?_ _
       gi_wp2
       exact ⟨(hod.trans hk2).from _, hkd.trans (keepF_app (by decide) hv1 hrow' hgrow), ⟨_, hv2, by rw [prs_app, show prs [(⟨xa, xb, hxa, hxb⟩ : Pt)] = [(xa, xb)] from rfl, midsOf_snoc, if_pos h2, List.length_append]; exact hr2, trivial⟩, hB'.trans hb2⟩
  ·have HH : Hid (∀ W : World, CallsIn Fence.wide 0 Tryz.prog 120 #[.int .i64 xa, .int .i64 xb] W fun e w' => e = .returned (.bool false) /\ w' = W) := fun W => (halved_in Fence.wide 0 trivial rfl xa xb W (by omega) hxb).mono fun e w' ⟨h1, h3⟩ => ⟨by rw [h1, decide_eq_false h2], h3⟩
   gi_wp2_with (refine ⟨trivial, ?_⟩; gi_at_call 120; refine (CallsIn.inRound l' (HH.out _)).mono ?_; rintro e w5 ⟨rfl, hw5⟩; subst w5)
   exact ⟨KeepsFrom.refl _ _, KeepF.refl _, ⟨v, hv, by rw [prs_app, show prs [(⟨xa, xb, hxa, hxb⟩ : Pt)] = [(xa, xb)] from rfl, midsOf_snoc, if_neg h2, List.append_nil]; exact hrow, trivial⟩, hB⟩
 case done =>
  rintro D ys W hD hS ⟨⟨v, hv, hrow, -⟩, hB⟩ hK
  have hc := hv.cell
  gi_wp2
  refine ⟨by simp, .inl ⟨_, _, rfl, run_takeDeferred hK, ?_⟩⟩
  have e0 : midsOf (prs ys) = mids 0 len := by rw [hS]; rfl
  rw [e0] at hrow
  exact ⟨_, results_tmp2 rfl _ _ _, hB.trans (belowK_b (w := w) (Nat.le_refl _) W D _ _ (by simp at hD; omega) hK rfl rfl), v, rfl, ownsRow_putObj hrow _ hK rfl⟩
 case stop =>
  rintro D c pre W _ _ h _
  exact h.elim
theorem build_any (a : Option Addr) (len cap : Nat) (l : List Int) (w : World) (h : Ns .u32 w a len l) :
  Calls Tryz.prog 77 #[.slice a len cap] w fun e w' => Bld w w' e (bMids l) (bErr l) := by
 have hll := h.1
 by_cases hB : bErr l = 0
 ·have e1 : bMids l = mids 0 len := by
   unfold bMids
   rw [if_neg (by have := (bErr_zero hB).1; omega), if_pos (bErr_zero hB).2, hll]
  rw [e1, hB]
  exact callsIn_wide.1 (build_ok a len cap l w h hB)
 ·have e1 : bMids l = [] := by
   unfold bMids
   split
   ·rfl
   ·split
    ·exact absurd (by unfold bErr; rw [if_neg (by assumption), if_pos (by assumption)]) hB
    ·rfl
  rw [e1]
  have HW : Hid (∀ W : World, Below w.heap.size w W -> Calls Tryz.prog 118 #[.slice a len cap] W fun e w' => e = .returned (.int .i64 (bErr l)) /\ Below w.heap.size w w') := fun W hb => (wrong_any a len cap l W (h.below hb)).mono fun e w' ⟨h1, h2⟩ => ⟨h1, hb.trans (h2.mono hb.size)⟩
  have hb0 : (bErr l == 0) = false := by simp; exact hB
  generalize bErr l = er at *
  clear e1 h hll
  go_enter Tryz.func77, Tryz.ntmps77
  go_wp2_with (go_at_call 118; refine (HW.out _ (Below.refl _ _)).mono ?_; rintro e w1 ⟨rfl, hb1⟩)
  go_ret2
  exact ⟨hb1, _, rfl, owns_nil _ _ _ _⟩
end Go.Proofs.YtmcgcbgblgmmkaaGreatDoor.T
