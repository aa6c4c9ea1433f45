/-
  KRule.
-/
import Derived.Test.YtcckipimfgmmdaaGreatDoorGs22
import Derived.Test.YtcckipimfgmmdaaGreatDoorGs23
import Derived.Test.YtcckipimfgmmdaaGreatDoorGs29
namespace Go.Proofs.YtcckipimfgmmdaaGreatDoor
open Go.RowKit
def ansI (k a : Int) : V.In := ⟨6, 0, 0, A.valZ k a⟩
def nrm (c : P.Xc) : C.No := C.normN c.arg c.op c.mask c.val
def decC (k a : Int) : List P.Xc -> Option (List V.In)
 | [] => some [ansI k a]
 | c :: cs =>
  match decC k a cs with
  | none => none
  | some l => if (nrm c).m = 0 then (if C.isN (nrm c) 0 = true then some l else none) else some (testI c.arg (nrm c) l.length ++ l)
def decI (x : P.Xl) : List V.In := (decC x.k x.a x.conds).getD []
def Cok (c : P.Xc) : Prop := P.condB c = true /\ V.U64 c.mask /\ V.U64 c.val
theorem condB_right (c : P.Xc) (h : P.condB c = true) : C.rightB c.arg c.op = true /\ 0 <= c.arg /\ c.arg < 6 := by
 unfold P.condB at h
 simp only [Bool.and_eq_true, decide_eq_true_eq] at h
 obtain ⟨⟨⟨h1, h2⟩, h3⟩, h4⟩ := h
 exact ⟨by unfold C.rightB; simp [h1, h2, h3, h4], h1, h2⟩
theorem outB_false {v m : Int} (hv : V.U64 v) (hm : V.U64 m) (h : C.outB v m = false) : (V.lo m = 0 -> V.lo v = 0) /\ (V.hi m = 0 -> V.hi v = 0) := by
 have h2 := C.out_or hv hm
 rw [h] at h2
 obtain ⟨a, rfl, ha⟩ := C.nat_of hv
 obtain ⟨b, rfl, hb⟩ := C.nat_of hm
 have h3 : bits BinOp.or IntKind.u64 (a : Int) (b : Int) = ((a ||| b : Nat) : Int) := bits_or_u64_nat a b ha hb
 rw [h3] at h2
 have h4 : a ||| b = b := by
  have : (((a ||| b : Nat) : Int) == (b : Int)) = true := by
   cases hq : (((a ||| b : Nat) : Int) == (b : Int)) with
   | true => rfl
   | false => rw [hq] at h2; cases h2
  have := beq_iff_eq.1 this
  omega
 constructor
 ·intro h0
  unfold V.lo at *
  have e1 : b % 2 ^ 32 = 0 := by omega
  have e2 := Nat.or_mod_two_pow (a := a) (b := b) (n := 32)
  rw [h4, e1, Nat.or_zero] at e2
  omega
 ·intro h0
  unfold V.hi at *
  have e1 : b / 2 ^ 32 = 0 := by omega
  have e2 := Nat.or_div_two_pow (a := a) (b := b) (n := 32)
  rw [h4, e1, Nat.or_zero] at e2
  omega
theorem form_fit {o m v : Int} (ho : C.hasF o = true) (hm : V.U64 m) (hv : V.U64 v) (hz : (C.formN o m v).m ≠ 0) : Fit (C.formN o m v) /\ (C.formN o m v).no = false := by
 unfold C.formN at *
 by_cases h1 : ((o == 1 && C.outB v m) || (o == 5 && decide (m <= v)) || (o == 6 && decide (m < v))) = true
 ·rw [if_pos h1] at hz; exact absurd rfl hz
 ·rw [if_neg h1] at hz ⊢
  by_cases h2 : (o == 6 && v == 0) = true
  ·rw [if_pos h2] at hz; exact absurd rfl hz
  ·rw [if_neg h2] at hz ⊢
   have h1' : ((o == 1 && C.outB v m) || (o == 5 && decide (m <= v)) || (o == 6 && decide (m < v))) = false := by simpa using h1
   simp only [Bool.or_eq_false_iff, Bool.and_eq_false_iff] at h1'
   obtain ⟨⟨q1, q2⟩, q3⟩ := h1'
   have ho' : o = 1 \/ o = 5 \/ o = 6 := by
    unfold C.hasF at ho
    simp only [Bool.or_eq_true, beq_iff_eq] at ho
    omega
   have hq : o = 1 -> C.outB v m = false := fun e => by
    rcases q1 with q1 | q1
    ·rw [e] at q1; cases q1
    ·exact q1
   refine ⟨⟨rfl, rfl, ho', hm, hv, fun e => (outB_false hv hm (hq e)).1, fun e => (outB_false hv hm (hq e)).2, fun e => ?_, hz⟩, rfl⟩
   dsimp only at e ⊢
   rcases ho' with e1 | e1 | e1
   ·exact absurd e1 e
   ·rcases q2 with q2 | q2
    ·rw [e1] at q2; cases q2
    ·have := of_decide_eq_false q2; omega
   ·rcases q3 with q3 | q3
    ·rw [e1] at q3; cases q3
    ·have := of_decide_eq_false q3; omega
theorem Fit.turn {n : C.No} (h : Fit n) : Fit (C.turn n) := by
 have ha : n.same C.always = false := by
  cases hs : n.same C.always with
  | false => rfl
  | true => have := (C.No.same_iff _ _).1 hs; have h2 := h.al; rw [this] at h2; cases h2
 have hn : n.same C.never = false := by
  cases hs : n.same C.never with
  | false => rfl
  | true => have := (C.No.same_iff _ _).1 hs; have h2 := h.ne; rw [this] at h2; cases h2
 unfold C.turn
 rw [ha, hn, if_neg (by decide), if_neg (by decide)]
 exact ⟨h.al, h.ne, h.o, h.m, h.v, h.eq, h.eq', h.le, h.bit⟩
theorem turn_m (n : C.No) (h : (C.turn n).m ≠ 0) : n.m ≠ 0 := by
 unfold C.turn at h
 split at h
 ·exact absurd rfl h
 ·split at h
  ·exact absurd rfl h
  ·exact h
theorem nrm_fit (c : P.Xc) (h : Cok c) (hz : (nrm c).m ≠ 0) : Fit (nrm c) := by
 obtain ⟨hr, _, _⟩ := condB_right c h.1
 have hb := C.right_bd hr
 unfold nrm C.normN at *
 rw [if_pos hr] at hz ⊢
 by_cases ho : C.hasF c.op = true
 ·rw [if_pos ho] at hz ⊢
  exact (form_fit ho h.2.1 h.2.2 hz).1
 ·rw [if_neg ho] at hz ⊢
  have ho' : C.hasF c.op = false := by simpa using ho
  exact (form_fit (C.opp_has hb.2.2.1 hb.2.2.2 ho') h.2.1 h.2.2 (turn_m _ hz)).1.turn
theorem an_zero (x : Int) (hx : V.U64 x) : C.an x 0 = 0 := by
 have := C.an_bd (x := x) (m := 0) hx ⟨by decide, by decide⟩
 omega
theorem nrm_zero (c : P.Xc) (hz : (nrm c).m = 0) (x : Int) (hx : V.U64 x) : C.isN (nrm c) x = C.isN (nrm c) 0 := by
 unfold C.isN
 rw [hz, an_zero x hx, an_zero 0 ⟨by decide, by decide⟩]
def toV (d : V.Da) : V.Da := ⟨d.n, d.a, d.p, d.g⟩
theorem toV_ok {d : V.Da} (h : d.ok) : (toV d).ok := h
theorem hB_is (d : V.Da) (hd : d.ok) (c : P.Xc) (h : Cok c) : M.hB d c = C.isN (nrm c) ((toV d).g.getD c.arg.toNat 0) := by
 obtain ⟨hr, _, _⟩ := condB_right c h.1
 unfold nrm
 rw [C.norm_is hr (arg_u (toV d) (toV_ok hd) _) h.2.2 h.2.1]
 unfold M.hB M.holdN
 have : C.rightB c.arg c.op = true := hr
 rw [this]
 rfl
theorem dec_len (k a : Int) : ∀ (cs : List P.Xc) (l : List V.In), decC k a cs = some l -> 1 <= l.length /\ l.length <= 7 * cs.length + 1
 | [], l, h => by
  cases h
  simp
 | c :: cs, l, h => by
  unfold decC at h
  cases hq : decC k a cs with
  | none => rw [hq] at h; cases h
  | some r =>
   rw [hq] at h
   have ih := dec_len k a cs r hq
   dsimp only at h
   rw [List.length_cons]
   split at h
   ·split at h
    ·cases h; omega
    ·cases h
   ·cases h
    have := testI_len c.arg (nrm c) r.length
    rw [List.length_append]
    omega
theorem dec_head (k a : Int) : ∀ (cs : List P.Xc) (l : List V.In), decC k a cs = some l -> (l = [ansI k a] /\ ∀ (d : V.Da), d.ok -> (∀ c ∈ cs, Cok c) -> cs.all (M.hB d) = true) \/ ∃ p r, l = ⟨32, 0, 0, p⟩ :: r
 | [], l, h => by
  cases h
  exact .inl ⟨rfl, fun _ _ _ => rfl⟩
 | c :: cs, l, h => by
  unfold decC at h
  cases hq : decC k a cs with
  | none => rw [hq] at h; cases h
  | some r =>
   rw [hq] at h
   have ih := dec_head k a cs r hq
   dsimp only at h
   split at h
   ·rename_i hz
    split at h
    ·rename_i hi
     cases h
     rcases ih with ⟨e, ih⟩ | ih
     ·refine .inl ⟨e, fun d hd hc => ?_⟩
      have hc0 := hc c (List.mem_cons_self ..)
      rw [List.all_cons, ih d hd (fun x hx => hc x (List.mem_cons_of_mem _ hx)), hB_is d hd c hc0, nrm_zero c hz _ (arg_u (toV d) (toV_ok hd) _), hi]
      rfl
     ·exact .inr ih
    ·cases h
   ·cases h
    obtain ⟨p, q, e⟩ := testI_head c.arg (nrm c) r.length
    rw [e]
    exact .inr ⟨_, _, rfl⟩
theorem dec_none (d : V.Da) (hd : d.ok) (k a : Int) : ∀ (cs : List P.Xc), (∀ c ∈ cs, Cok c) -> decC k a cs = none -> cs.all (M.hB d) = false
 | [], _, h => by cases h
 | c :: cs, hc, h => by
  have hc0 := hc c (List.mem_cons_self ..)
  have hc1 : ∀ x ∈ cs, Cok x := fun x hx => hc x (List.mem_cons_of_mem _ hx)
  unfold decC at h
  rw [List.all_cons]
  cases hq : decC k a cs with
  | none => rw [dec_none d hd k a cs hc1 hq, Bool.and_false]
  | some r =>
   rw [hq] at h
   dsimp only at h
   split at h
   ·rename_i hz
    split at h
    ·cases h
    ·rename_i hi
     rw [hB_is d hd c hc0, nrm_zero c hz _ (arg_u (toV d) (toV_ok hd) _)]
     simp [hi]
   ·cases h
theorem dec_run (d : V.Da) (hd : d.ok) (k a : Int) : ∀ (cs : List P.Xc) (l : List V.In), (∀ c ∈ cs, Cok c) -> decC k a cs = some l -> ∀ s : V.St,
  (cs.all (M.hB d) = true -> Stop (toV d) l s (7 * cs.length + 1) (A.valZ k a)) /\ (cs.all (M.hB d) = false -> Fall (toV d) l s (7 * cs.length) 0)
 | [], l, _, h, s => by
  cases h
  exact ⟨fun _ => ⟨1, by simp, fun b => ex_ret _ _ _ _⟩, fun h => by cases h⟩
 | c :: cs, l, hc, h, s => by
  have hc0 := hc c (List.mem_cons_self ..)
  have hc1 : ∀ x ∈ cs, Cok x := fun x hx => hc x (List.mem_cons_of_mem _ hx)
  obtain ⟨hr, ha0, ha5⟩ := condB_right c hc0.1
  unfold decC at h
  rw [List.all_cons, List.length_cons, hB_is d hd c hc0]
  cases hq : decC k a cs with
  | none => rw [hq] at h; cases h
  | some r =>
   rw [hq] at h
   have ih := dec_run d hd k a cs r hc1 hq
   dsimp only at h
   split at h
   ·rename_i hz
    split at h
    ·rename_i hi
     cases h
     rw [nrm_zero c hz _ (arg_u (toV d) (toV_ok hd) _), hi, Bool.true_and]
     refine ⟨fun e => ?_, fun e => ?_⟩
     ·obtain ⟨n, hn, hx⟩ := (ih s).1 e
      exact ⟨n, by omega, hx⟩
     ·obtain ⟨n, s', hn, hx⟩ := (ih s).2 e
      exact ⟨n, s', by omega, hx⟩
    ·cases h
   ·rename_i hz
    cases h
    obtain ⟨n, s', hn, hx⟩ := test_run (toV d) (toV_ok hd) c.arg ha0 ha5 (nrm c) (nrm_fit c hc0 hz) r.length s
    cases hi : C.isN (nrm c) ((toV d).g.getD c.arg.toNat 0) with
    | true =>
     rw [hi, if_pos rfl] at hx
     rw [Bool.true_and]
     refine ⟨fun e => ?_, fun e => ?_⟩
     ·obtain ⟨n2, hn2, hx2⟩ := (ih s').1 e
      refine ⟨n2 + n, by omega, fun b => ?_⟩
      rw [List.append_assoc, hx, hx2]
     ·obtain ⟨n2, s2, hn2, hx2⟩ := (ih s').2 e
      refine ⟨n2 + n, s2, by omega, fun b => ?_⟩
      rw [List.append_assoc, hx, hx2]
      exact congrArg (fun z => (z, _)) (by omega)
    | false =>
     rw [hi, if_neg (by decide)] at hx
     rw [Bool.false_and]
     refine ⟨fun e => (Bool.noConfusion e), fun _ => ⟨n, s', by omega, fun b => ?_⟩⟩
     rw [List.append_assoc, hx]
     have := ex_app (toV d) r b 0 s'
     rw [Nat.add_zero] at this
     rw [this]
theorem val_u (k a : Int) : V.U32 (A.valZ k a) := by
 unfold A.valZ
 split
 ·rename_i h
  have := (A.back h).2.2
  unfold A.valZ at this
  rw [if_pos h] at this
  exact this
 ·exact ⟨by decide, by decide⟩
theorem ans_gd (k a : Int) (b : Nat) : Gd b [ansI k a] :=
 ⟨⟨u32_ok (t := 0) (f := 0) (by decide) (by decide) (by decide) (val_u k a), fault_ret _ _⟩, trivial⟩
theorem dec_gd (k a : Int) : ∀ (cs : List P.Xc) (l : List V.In), (∀ c ∈ cs, Cok c) -> cs.length <= 20 -> decC k a cs = some l -> ∀ b, 0 < b -> Gd b l
 | [], l, _, _, h, b, _ => by
  cases h
  exact ans_gd k a b
 | c :: cs, l, hc, hl, h, b, hb => by
  have hc0 := hc c (List.mem_cons_self ..)
  have hc1 : ∀ x ∈ cs, Cok x := fun x hx => hc x (List.mem_cons_of_mem _ hx)
  obtain ⟨hr, ha0, ha5⟩ := condB_right c hc0.1
  rw [List.length_cons] at hl
  unfold decC at h
  cases hq : decC k a cs with
  | none => rw [hq] at h; cases h
  | some r =>
   rw [hq] at h
   have ih := dec_gd k a cs r hc1 (by omega) hq b hb
   have hlen := dec_len k a cs r hq
   dsimp only at h
   split at h
   ·split at h
    ·cases h; exact ih
    ·cases h
   ·rename_i hz
    cases h
    exact Gd.app (test_gd c.arg ha0 ha5 (nrm c) (nrm_fit c hc0 hz) r.length _ (by omega) (by omega)) ih
def endsH (l : List V.In) : Bool := match l with | x :: _ => V.isIn V.endL x.c | [] => false
def verI (z k a : Int) : List P.Xl -> List V.In
 | [] => [ansI k a]
 | x :: r => if M.namedB z x.names = true then (if endsH (decI x) = true then decI x else decI x ++ verI z k a r) else verI z k a r
def Xok (x : P.Xl) : Prop := x.conds.length <= 20 /\ ∀ c ∈ x.conds, Cok c
theorem decI_ends (x : P.Xl) (h : endsH (decI x) = true) : decI x = [ansI x.k x.a] /\ decC x.k x.a x.conds = some [ansI x.k x.a] := by
 unfold decI at *
 cases hq : decC x.k x.a x.conds with
 | none => rw [hq] at h; cases h
 | some l =>
  rw [hq] at h
  rcases dec_head x.k x.a x.conds l hq with ⟨e, _⟩ | ⟨p, r, e⟩
  ·subst e; exact ⟨rfl, rfl⟩
  ·subst e; exact Bool.noConfusion (show false = true from h)
def mostR (z : Int) (l : List P.Xl) : Nat := (l.map fun x => if M.namedB z x.names = true then 20 * x.conds.length + 2 else 0).sum
theorem mostR_cons (z : Int) (x : P.Xl) (l : List P.Xl) : mostR z (x :: l) = (if M.namedB z x.names = true then 20 * x.conds.length + 2 else 0) + mostR z l := by
 unfold mostR
 rw [List.map_cons, List.sum_cons]
theorem ver_run (d : V.Da) (hd : d.ok) (k a : Int) : ∀ (l : List P.Xl), (∀ x ∈ l, Xok x) -> ∀ s : V.St, Stop (toV d) (verI d.n k a l) s (mostR d.n l + 1) (A.valZ (M.verdF d k a l).1 (M.verdF d k a l).2)
 | [], _, s => ⟨1, by omega, fun b => ex_ret _ _ _ _⟩
 | x :: l, hl, s => by
  have hx := hl x (List.mem_cons_self ..)
  have ih := ver_run d hd k a l fun y hy => hl y (List.mem_cons_of_mem _ hy)
  unfold verI M.verdF M.meetB
  rw [mostR_cons]
  cases hn : M.namedB d.n x.names with
  | false =>
   rw [if_neg (by decide), if_neg (by decide), Bool.false_and, if_neg (by decide)]
   obtain ⟨n, h1, h2⟩ := ih s
   exact ⟨n, by omega, h2⟩
  | true =>
   rw [if_pos rfl, if_pos rfl, Bool.true_and]
   by_cases he : endsH (decI x) = true
   ·rw [if_pos he]
    obtain ⟨e1, e2⟩ := decI_ends x he
    rcases dec_head x.k x.a x.conds _ e2 with ⟨_, hall⟩ | ⟨p, r, e⟩
    ·rw [hall d hd hx.2, if_pos rfl, e1]
     exact ⟨1, by omega, fun b => ex_ret _ _ _ _⟩
    ·exact absurd (List.cons.inj e).1 (by unfold ansI; simp)
   ·rw [if_neg he]
    unfold decI
    cases hq : decC x.k x.a x.conds with
    | none =>
     rw [dec_none d hd x.k x.a x.conds hx.2 hq, if_neg (by decide)]
     obtain ⟨n, h1, h2⟩ := ih s
     exact ⟨n, by omega, h2⟩
    | some m =>
     have hr := dec_run d hd x.k x.a x.conds m hx.2 hq s
     show Stop (toV d) (m ++ verI d.n k a l) s _ _
     cases ha : x.conds.all (M.hB d) with
     | true =>
      rw [if_pos rfl]
      obtain ⟨n, h1, h2⟩ := hr.1 ha
      refine ⟨n, by omega, fun b => ?_⟩
      rw [List.append_assoc, h2]
     | false =>
      rw [if_neg (by decide)]
      obtain ⟨n, s', h1, h2⟩ := hr.2 ha
      obtain ⟨n2, h3, h4⟩ := ih s'
      refine ⟨n2 + n, by omega, fun b => ?_⟩
      rw [List.append_assoc, h2, h4]
theorem ver_pos (z k a : Int) : ∀ (l : List P.Xl), 0 < (verI z k a l).length
 | [] => Nat.one_pos
 | x :: l => by
  have ih := ver_pos z k a l
  unfold verI
  split
  ·split
   ·rename_i h; rw [(decI_ends x h).1]; exact Nat.one_pos
   ·rw [List.length_append]; omega
  ·exact ih
theorem ver_gd (z k a : Int) (b : Nat) : ∀ (l : List P.Xl), (∀ x ∈ l, Xok x) -> Gd b (verI z k a l)
 | [], _ => ans_gd k a b
 | x :: l, hl => by
  have hx := hl x (List.mem_cons_self ..)
  have ih := ver_gd z k a b l fun y hy => hl y (List.mem_cons_of_mem _ hy)
  have hp := ver_pos z k a l
  unfold verI
  split
  ·split
   ·rename_i h; rw [(decI_ends x h).1]; exact ans_gd _ _ _
   ·refine Gd.app ?_ ih
    unfold decI
    cases hq : decC x.k x.a x.conds with
    | none => exact trivial
    | some m => exact dec_gd x.k x.a x.conds m hx.2 hx.1 hq _ (by omega)
  ·exact ih
theorem decI_len (x : P.Xl) : (decI x).length <= 7 * x.conds.length + 1 := by
 unfold decI
 cases hq : decC x.k x.a x.conds with
 | none => exact Nat.zero_le _
 | some m => exact (dec_len x.k x.a x.conds m hq).2
def lenR (z : Int) (l : List P.Xl) : Nat := (l.map fun x => if M.namedB z x.names = true then 7 * x.conds.length + 1 else 0).sum
theorem lenR_cons (z : Int) (x : P.Xl) (l : List P.Xl) : lenR z (x :: l) = (if M.namedB z x.names = true then 7 * x.conds.length + 1 else 0) + lenR z l := by
 unfold lenR
 rw [List.map_cons, List.sum_cons]
theorem ver_len (z k a : Int) : ∀ (l : List P.Xl), (verI z k a l).length <= lenR z l + 1
 | [] => by simp [verI]
 | x :: l => by
  have ih := ver_len z k a l
  have hd := decI_len x
  unfold verI
  rw [lenR_cons]
  split
  ·split
   ·omega
   ·rw [List.length_append]; omega
  ·omega
end Go.Proofs.YtcckipimfgmmdaaGreatDoor
