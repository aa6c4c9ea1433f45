/-
  The function that hands out the parts of a list, by a closure that calls itself: what it hands out, to whatever body.
-/
import Derived.Test.YtcckipimfgmmdaaGreatDoorTLeaf
import Derived.RangeFuncNested
import Derived.RangeFuncBound
import Derived.RangeFuncCalls
import Derived.RangeFuncLeaves
import Derived.RangeFuncBox
import Derived.Shelf.Abstract
import Derived.Shelf.RegionOpen
import Derived.OwnWalkIn
import Derived.TacticsInMore
import Derived.LoopNIn
import Derived.LoopIn
namespace Go.Proofs.YtcckipimfgmmdaaGreatDoor.T
open Go.RowKit Go.Shelf

attribute [local go_sem] Oper.semAt_some

theorem room_of_none {F : Fence} (hd : F.depth = none) (k : Nat) : F.room k := fun d h => by rw [hd] at h; cases h
theorem roundIn_any {F : Fence} (hd : F.depth = none) {m m' : Nat} {P : Program} {l : Nat} {f : FuncId} {tmps : Array Value} {assign body : Code} {w : World} {R : Ending → World → Prop}
    (h : RoundIn F m P l f tmps assign body w R) : RoundIn F m' P l f tmps assign body w R := ⟨h.1, fun c cs _ => h.2 c cs (room_of_none hd _)⟩
theorem yieldAt_any {F : Fence} (hd : F.depth = none) {m : Nat} (m' : Nat) {P : Program} {l : Nat} {args : Array Value} {W : World} {R : Ending → World → Prop} (h : YieldAt F m P l args W R) : YieldAt F m' P l args W R := by
  obtain ⟨fn, tmps, assign, body, hy, hR⟩ := h
  exact ⟨fn, tmps, assign, body, hy, roundIn_any hd hR⟩

/-- a part that is handed out. -/
structure Pt where
  a : Nat
  b : Nat
  ok : a < b ∧ b ≤ 1000000
def Pt.pair (x : Pt) : Nat × Nat := (x.a, x.b)
def prs (l : List Pt) : List (Nat × Nat) := l.map Pt.pair
theorem prs_app (l m : List Pt) : prs (l ++ m) = prs l ++ prs m := List.map_append
def Pt.encs (x : Pt) : Array Value := #[.int .i64 x.a, .int .i64 x.b]

/-- a box that holds a function stays as it is. -/
def KeepF (W W' : World) : Prop := ∀ b v, Boxed W b 167 v → Boxed W' b 167 v
theorem KeepF.refl (W : World) : KeepF W W := fun _ _ h => h
theorem KeepF.trans {A B C : World} (h : KeepF A B) (k : KeepF B C) : KeepF A C := fun b v hb => k b v (h b v hb)
theorem KeepF.grown {W W' : World} {row : Option Nat} (hg : W.grownBy W' row) (hr : ∀ r v, row = some r → ¬ Boxed W r 167 v) : KeepF W W' := fun b v hb => hb.kept hg fun e => hr b v e.symm hb
theorem KeepF.alloc (W : World) (o : Obj) : KeepF W (W.alloc o) := fun _ _ hb => hb.alloc o
theorem KeepF.set {W : World} {B : Nat} {t : TypeId} {v : Value} (h : Boxed W B t v) (ht : t ≠ 167) (u : Value) : KeepF W (W.setCell ⟨B, 0, none⟩ u) :=
  KeepF.grown (grownBy_setCell' W B u) fun r x e hb => by
    cases e
    have := (show W.heap[B]? = _ from h).symm.trans hb
    simp at this
    exact ht this.2
theorem keepF_b (W : World) (l : Nat) (o o' : Obj) (h : W.heap[l]? = some o) (hc : o.isCells = false) : KeepF W (W.putObj l o') :=
  KeepF.grown (grownBy_putObj' W l o') fun r x e hb => by
    cases e
    rw [show W.heap[l]? = _ from hb] at h
    cases h
    cases hc

theorem halved_in (F : Fence) (n : Nat) (hF : F.fn 90) (hro : F.round = none) (a b : Nat) (w : World) (h : a ≤ b) (hb : b ≤ 1000000) :
    CallsIn F n Tryz.prog 90 #[.int .i64 a, .int .i64 b] w fun e w' => e = .returned (.bool (decide (2 ≤ b - a))) ∧ w' = w := by
  refine callsIn_of_wp Tryz.func90 rfl hF ?_ hro
  simp only [Tryz.ntmps90, List.size_toArray, List.length_cons, List.length_nil, Nat.reduceAdd, Nat.reduceSub, Array.replicate_succ, Array.replicate_zero, List.push_toArray, List.append_toArray, List.nil_append, List.cons_append]
  gi_wp2
  go_ret
  exact ⟨ret_bool (by rw [decide_eq_decide]; omega), rfl⟩
theorem middle_in (F : Fence) (n : Nat) (hF : F.fn 91) (hro : F.round = none) (a b : Nat) (w : World) (h : a ≤ b) (hb : b ≤ 1000000) :
    CallsIn F n Tryz.prog 91 #[.int .i64 a, .int .i64 b] w fun e w' => e = .returned (.int .i64 (mid a b : Nat)) ∧ w' = w := by
  refine callsIn_of_wp Tryz.func91 rfl hF ?_ hro
  simp only [Tryz.ntmps91, List.size_toArray, List.length_cons, List.length_nil, Nat.reduceAdd, Nat.reduceSub, Array.replicate_succ, Array.replicate_zero, List.push_toArray, List.append_toArray, List.nil_append, List.cons_append]
  gi_wp2
  go_ret
  exact ⟨ret_int (by unfold mid; omega), rfl⟩

set_option maxRecDepth 100000 in
set_option maxHeartbeats 2000000 in
/-- a part, and all within it: handed out in order; or as far as a body said 'no more'. -/
theorem within_in (F : Fence) (hd : F.depth = none) (hF : F.fn 126) (hH : F.fn 90) (hM : F.fn 91) (hro : F.round = none) (l Y V N : Nat) (J Jx : List Pt → World → Prop)
    (hY : ∀ m pre x W, J pre W → pre.length < N → YieldAt F m Tryz.prog l (Pt.encs x) W fun e W' =>
      (e = .returned (.bool true) ∧ J (pre ++ [x]) W' ∧ KeepF W W') ∨ (e = .returned (.bool false) ∧ Jx (pre ++ [x]) W')) (k : Nat) :
    ∀ (n a b : Nat) (pre : List Pt) (W : World), b - a ≤ k → a < b → b ≤ 1000000 → Boxed W Y 167 (.func (.yield l) #[] #[]) → Boxed W V 167 (.func (.func 126) #[] #[.pointer (some ⟨Y, 0, none⟩), .pointer (some ⟨V, 0, none⟩)]) → J pre W → pre.length + (parts a b).length ≤ N →
      CallsIn F n Tryz.prog 126 #[.int .i64 a, .int .i64 b, .pointer (some ⟨Y, 0, none⟩), .pointer (some ⟨V, 0, none⟩)] W fun e W' =>
        (e = .returned (.bool true) ∧ ∃ ys, prs ys = parts a b ∧ J (pre ++ ys) W' ∧ KeepF W W') ∨ (e = .returned (.bool false) ∧ ∃ ys, prs ys <+: parts a b ∧ Jx (pre ++ ys) W') := by
  have hdd : ∀ k : Nat, (F.depth.isSome = true → 1 ≤ k) := fun k h => by rw [hd] at h; cases h
  induction k with
  | zero => intro n a b pre W h1 h2; omega
  | succ k ih =>
    intro n a b pre W h1 h2 h3 bY bV hJ hN
    have hpl : 0 < (parts a b).length := by rw [parts_len h2]; omega
    have cY := bY.cell
    have HH : Hid (∀ (m : Nat) (W : World), CallsIn F m Tryz.prog 90 #[.int .i64 a, .int .i64 b] W fun e w' => e = .returned (.bool (decide (2 ≤ b - a))) ∧ w' = W) := fun m W => halved_in F m hH hro a b W (by omega) h3
    have HM : Hid (∀ (m : Nat) (W : World), CallsIn F m Tryz.prog 91 #[.int .i64 a, .int .i64 b] W fun e w' => e = .returned (.int .i64 (mid a b : Nat)) ∧ w' = W) := fun m W => middle_in F m hM hro a b W (by omega) h3
    have hy1 := YieldAt.mono (hY (n - 1) pre ⟨a, b, h2, h3⟩ W hJ (by omega)) (R' := fun e W1 =>
        (e = .returned (.bool true) ∧ J (pre ++ [⟨a, b, h2, h3⟩]) W1 ∧ KeepF W W1 ∧ W1.cell? ⟨V, 0, none⟩ = some (.func (.func 126) #[] #[.pointer (some ⟨Y, 0, none⟩), .pointer (some ⟨V, 0, none⟩)])) ∨ (e = .returned (.bool false) ∧ Jx (pre ++ [⟨a, b, h2, h3⟩]) W1))
        (fun e W1 h => h.elim (fun ⟨he, hj, hk⟩ => .inl ⟨he, hj, hk, (hk _ _ bV).cell⟩) .inr)
    obtain ⟨fn, tmps, assign, body, hy, hR⟩ := hy1
    dsimp only [Pt.encs] at hy
    by_cases h22 : 2 ≤ b - a
    · have hm := mid_lt h22
      have hp2 := parts_two h22
      have ih1 : ∀ W1, J (pre ++ [⟨a, b, h2, h3⟩]) W1 → KeepF W W1 → CallsIn F (n - 1) Tryz.prog 126 #[.int .i64 a, .int .i64 (mid a b : Nat), .pointer (some ⟨Y, 0, none⟩), .pointer (some ⟨V, 0, none⟩)] W1 fun e W2 =>
          (e = .returned (.bool true) ∧ W2.cell? ⟨V, 0, none⟩ = some (.func (.func 126) #[] #[.pointer (some ⟨Y, 0, none⟩), .pointer (some ⟨V, 0, none⟩)]) ∧
            CallsIn F (n - 1) Tryz.prog 126 #[.int .i64 (mid a b : Nat), .int .i64 b, .pointer (some ⟨Y, 0, none⟩), .pointer (some ⟨V, 0, none⟩)] W2 fun e W3 =>
              (e = .returned (.bool true) ∧ ∃ ys, prs ys = parts a b ∧ J (pre ++ ys) W3 ∧ KeepF W W3) ∨ (e = .returned (.bool false) ∧ ∃ ys, prs ys <+: parts a b ∧ Jx (pre ++ ys) W3)) ∨
          (e = .returned (.bool false) ∧ ∃ ys, prs ys <+: parts a b ∧ Jx (pre ++ ys) W2) := by
        intro W1 hJ1 hk1
        rw [hp2, List.length_cons, List.length_append] at hN
        refine (ih (n - 1) a (mid a b) _ W1 (by omega) hm.1 (by omega) (hk1 _ _ bY) (hk1 _ _ bV) hJ1 (by rw [List.length_append, List.length_singleton]; omega)).mono fun e W2 h => ?_
        rcases h with ⟨he, ys, e1, hj2, hk2⟩ | ⟨he, ys, ⟨r, e1⟩, hx⟩
        · refine .inl ⟨he, ((hk1.trans hk2) _ _ bV).cell, ?_⟩
          have l1 : ys.length = (parts a (mid a b)).length := by rw [← e1]; simp [prs]
          refine (ih (n - 1) (mid a b) b _ W2 (by omega) hm.2 h3 ((hk1.trans hk2) _ _ bY) ((hk1.trans hk2) _ _ bV) hj2 (by rw [List.length_append, List.length_append, List.length_singleton]; omega)).mono fun e W3 h => ?_
          rcases h with ⟨he, zs, e2, hj3, hk3⟩ | ⟨he, zs, ⟨r, e2⟩, hx⟩
          · exact .inl ⟨he, [⟨a, b, h2, h3⟩] ++ ys ++ zs, by rw [hp2, prs_app, prs_app, e1, e2]; rfl, by simpa using hj3, (hk1.trans hk2).trans hk3⟩
          · exact .inr ⟨he, [⟨a, b, h2, h3⟩] ++ ys ++ zs, ⟨r, by rw [hp2, prs_app, prs_app, e1, ← e2]; simp [prs, Pt.pair]⟩, by simpa using hx⟩
        · exact .inr ⟨he, [⟨a, b, h2, h3⟩] ++ ys, ⟨r ++ parts (mid a b) b, by rw [hp2, prs_app, ← e1]; simp [prs, Pt.pair]⟩, by simpa using hx⟩
      have HX1 : Hid (prs [⟨a, b, h2, h3⟩] <+: parts a b) := ⟨_, by rw [hp2]; rfl⟩
      rw [decide_eq_true h22] at HH
      clear hN hpl hp2 hm h22 ih h1 bY bV hJ hY
      generalize mid a b = m at *
      refine callsIn_of_wp Tryz.func126 rfl hF ?_ hro
      simp only [Tryz.ntmps126, List.size_toArray, List.length_cons, List.length_nil, Nat.reduceAdd, Nat.reduceSub, Array.replicate_succ, Array.replicate_zero, List.push_toArray, List.append_toArray, List.nil_append, List.cons_append]
      gi_wp2_with (first
        | ((try refine ⟨hdd _, ?_⟩); gi_at_call 90; refine (HH.out _ _).mono ?_; clear HH; rintro e W5 ⟨rfl, rfl⟩)
        | ((try refine ⟨hdd _, ?_⟩); gi_at_call 91; refine (HM.out _ _).mono ?_; clear HM; rintro e W6 ⟨rfl, rfl⟩)
        | ((try refine ⟨hdd _, ?_⟩); gi_at_call 126; refine ih1'.mono ?_; clear ih1'; rintro e W2 (⟨rfl, cV2, ih2⟩ | ⟨rfl, hx2⟩))
        | ((try refine ⟨hdd _, ?_⟩); gi_at_call 126; refine ih2.mono ?_; clear ih2; rintro e W3 (⟨rfl, hok⟩ | ⟨rfl, hx3⟩))
        | ((try refine ⟨hdd _, ?_⟩); refine hR.mono ?_; clear hR; rintro e W1 (⟨rfl, hJ1, hk1, cV1⟩ | ⟨rfl, hx1⟩); (try have ih1' := ih1 W1 hJ1 hk1; clear ih1)))
      · go_ret
        exact .inl ⟨rfl, hok⟩
      · go_ret
        exact .inr ⟨rfl, hx3⟩
      · refine ⟨fun _ h => (by cases h), ?_⟩
        gi_wp2
        go_ret
        exact .inr ⟨rfl, hx2⟩
      · go_ret
        exact .inr ⟨rfl, _, HX1.out, hx1⟩
    · have HX1 : Hid (prs [⟨a, b, h2, h3⟩] = parts a b) := by unfold Hid; rw [parts_one h2 (by omega)]; rfl
      rw [decide_eq_false h22] at HH
      clear hN hpl h22 ih h1 bY bV hJ hY HM
      refine callsIn_of_wp Tryz.func126 rfl hF ?_ hro
      simp only [Tryz.ntmps126, List.size_toArray, List.length_cons, List.length_nil, Nat.reduceAdd, Nat.reduceSub, Array.replicate_succ, Array.replicate_zero, List.push_toArray, List.append_toArray, List.nil_append, List.cons_append]
      gi_wp2_with (first
        | ((try refine ⟨hdd _, ?_⟩); gi_at_call 90; refine (HH.out _ _).mono ?_; clear HH; rintro e W5 ⟨rfl, rfl⟩)
        | ((try refine ⟨hdd _, ?_⟩); refine hR.mono ?_; clear hR; rintro e W1 (⟨rfl, hJ1, hk1, cV1⟩ | ⟨rfl, hx1⟩)))
      · go_ret
        exact .inl ⟨rfl, _, HX1.out, hJ1, hk1⟩
      · go_ret
        exact .inr ⟨rfl, _, ⟨[], by rw [List.append_nil]; exact HX1.out⟩, hx1⟩

end Go.Proofs.YtcckipimfgmmdaaGreatDoor.T
