/-
  KRule KProg KMem KSmall KDecN KVer KFork.
-/
import Derived.Test.YtmcgcbgblgmmkaaGreatDoorQ31
import Derived.Test.YtmcgcbgblgmmkaaGreatDoorQ12
import Derived.Test.YtmcgcbgblgmmkaaGreatDoorQ32
import Derived.Test.YtmcgcbgblgmmkaaGreatDoorQ28
import Derived.Test.YtmcgcbgblgmmkaaGreatDoorQ14
set_option maxRecDepth 8000
set_option maxHeartbeats 4000000
namespace Go.Proofs.YtmcgcbgblgmmkaaGreatDoor
open Go.RowKit
def ansI (k a : Int) : V.In := ⟨6, 0, 0, A.valZ k a⟩
def nrm (c : M.Xc) : C.No := C.normN c.arg c.op c.mask c.val
def decC (k a : Int) : List M.Xc -> Option (List V.In)
 | [] => some [ansI k a]
 | c :: cs =>
  match decC k a cs with
  | none => none
  | some l => if (nrm c).m = 0 then (if C.isN (nrm c) 0 = true then some l else none) else some (testI c.arg (nrm c) l.length ++ l)
def decI (x : M.Xl) : List V.In := (decC x.k x.a x.conds).getD []
def Cok (c : M.Xc) : Prop := M.condB c = true /\ V.U64 c.mask /\ V.U64 c.val
theorem condB_right (c : M.Xc) (h : M.condB c = true) : M.rightB c.arg c.op = true /\ 0 <= c.arg /\ c.arg < 6 := by
 unfold M.condB at h
 simp only [Bool.and_eq_true, decide_eq_true_eq] at h
 obtain ⟨⟨⟨h1, h2⟩, h3⟩, h4⟩ := h
 exact ⟨by unfold M.rightB; simp [h1, h2, h3, h4], h1, h2⟩
theorem an_zero (x : Int) (hx : V.U64 x) : M.an x 0 = 0 := by
 have := C.an_bd (x := x) (m := 0) hx ⟨by decide, by decide⟩
 omega
theorem nrm_zero (c : M.Xc) (hz : (nrm c).m = 0) (x : Int) (hx : V.U64 x) : C.isN (nrm c) x = C.isN (nrm c) 0 := by
 unfold C.isN
 rw [hz, an_zero x hx, an_zero 0 ⟨by decide, by decide⟩]
def toV (d : M.Da) : M.Da := ⟨d.n, d.a, d.p, d.g⟩
theorem toV_ok {d : M.Da} (h : d.ok) : (toV d).ok := h
theorem hB_is (d : M.Da) (hd : d.ok) (c : M.Xc) (h : Cok c) : M.hB d c = C.isN (nrm c) ((toV d).g.getD c.arg.toNat 0) := by
 obtain ⟨hr, _, _⟩ := condB_right c h.1
 unfold nrm
 rw [C.norm_is hr (arg_u (toV d) (toV_ok hd) _) h.2.2 h.2.1]
 unfold M.hB M.holdN
 have : M.rightB c.arg c.op = true := hr
 rw [this]
 rfl
theorem dec_len (k a : Int) : ∀ (cs : List M.Xc) (l : List V.In), decC k a cs = some l -> 1 <= l.length /\ l.length <= 7 * cs.length + 1
 | [], l, h => by
  cases h
  simp
 | c :: cs, l, h => by
  unfold decC at h
  cases hq : decC k a cs with
  | none => rw [hq] at h; cases h
  | some r =>
   rw [hq] at h
   have ih := dec_len k a cs r hq
   dsimp only at h
   rw [List.length_cons]
   split at h
   ·split at h
    ·cases h; omega
    ·cases h
   ·cases h
    have := testI_len c.arg (nrm c) r.length
    rw [List.length_append]
    omega
theorem dec_head (k a : Int) : ∀ (cs : List M.Xc) (l : List V.In), decC k a cs = some l -> (l = [ansI k a] /\ ∀ (d : M.Da), d.ok -> (∀ c ∈ cs, Cok c) -> cs.all (M.hB d) = true) \/ ∃ p r, l = ⟨32, 0, 0, p⟩ :: r
 | [], l, h => by
  cases h
  exact .inl ⟨rfl, fun _ _ _ => rfl⟩
 | c :: cs, l, h => by
  unfold decC at h
  cases hq : decC k a cs with
  | none => rw [hq] at h; cases h
  | some r =>
   rw [hq] at h
   have ih := dec_head k a cs r hq
   dsimp only at h
   split at h
   ·rename_i hz
    split at h
    ·rename_i hi
     cases h
     rcases ih with ⟨e, ih⟩ | ih
     ·refine .inl ⟨e, fun d hd hc => ?_⟩
      have hc0 := hc c (List.mem_cons_self ..)
      rw [List.all_cons, ih d hd (fun x hx => hc x (List.mem_cons_of_mem _ hx)), hB_is d hd c hc0, nrm_zero c hz _ (arg_u (toV d) (toV_ok hd) _), hi]
      rfl
     ·exact .inr ih
    ·cases h
   ·cases h
    obtain ⟨p, q, e⟩ := testI_head c.arg (nrm c) r.length
    rw [e]
    exact .inr ⟨_, _, rfl⟩
def endsH (l : List V.In) : Bool := match l with | x :: _ => V.isIn V.endL x.c | [] => false
def verI (z k a : Int) : List M.Xl -> List V.In
 | [] => [ansI k a]
 | x :: r => if M.namedB z x.names = true then (if endsH (decI x) = true then decI x else decI x ++ verI z k a r) else verI z k a r
def Xok (x : M.Xl) : Prop := x.conds.length <= 20 /\ ∀ c ∈ x.conds, Cok c
theorem decI_ends (x : M.Xl) (h : endsH (decI x) = true) : decI x = [ansI x.k x.a] /\ decC x.k x.a x.conds = some [ansI x.k x.a] := by
 unfold decI at *
 cases hq : decC x.k x.a x.conds with
 | none => rw [hq] at h; cases h
 | some l =>
  rw [hq] at h
  rcases dec_head x.k x.a x.conds l hq with ⟨e, _⟩ | ⟨p, r, e⟩
  ·subst e; exact ⟨rfl, rfl⟩
  ·subst e; exact Bool.noConfusion (show false = true from h)
theorem ver_pos (z k a : Int) : ∀ (l : List M.Xl), 0 < (verI z k a l).length
 | [] => Nat.one_pos
 | x :: l => by
  have ih := ver_pos z k a l
  unfold verI
  split
  ·split
   ·rename_i h; rw [(decI_ends x h).1]; exact Nat.one_pos
   ·rw [List.length_append]; omega
  ·exact ih
theorem decI_len (x : M.Xl) : (decI x).length <= 7 * x.conds.length + 1 := by
 unfold decI
 cases hq : decC x.k x.a x.conds with
 | none => exact Nat.zero_le _
 | some m => exact (dec_len x.k x.a x.conds m hq).2
def lenR (z : Int) (l : List M.Xl) : Nat := (l.map fun x => if M.namedB z x.names = true then 7 * x.conds.length + 1 else 0).sum
theorem lenR_cons (z : Int) (x : M.Xl) (l : List M.Xl) : lenR z (x :: l) = (if M.namedB z x.names = true then 7 * x.conds.length + 1 else 0) + lenR z l := by
 unfold lenR
 rw [List.map_cons, List.sum_cons]
theorem ver_len (z k a : Int) : ∀ (l : List M.Xl), (verI z k a l).length <= lenR z l + 1
 | [] => by simp [verI]
 | x :: l => by
  have ih := ver_len z k a l
  have hd := decI_len x
  unfold verI
  rw [lenR_cons]
  split
  ·split
   ·omega
   ·rw [List.length_append]; omega
  ·omega
def forkI (z : Int) (a b : List V.In) : List V.In :=
 (if a.length <= 255 then [⟨53, (a.length : Nat), 0, z⟩] else [⟨53, 0, 1, z⟩, ⟨5, 0, 0, (a.length : Nat)⟩]) ++ (a ++ b)
def amG (ns : List Int) (F : Int -> List V.In) (e : V.In) : Nat -> Nat -> Nat -> List V.In
 | 0, a, _ => [⟨21, 1, 0, ns.getD a 0⟩, e] ++ F (ns.getD a 0)
 | n + 1, a, b => if b - a < 2 then [⟨21, 1, 0, ns.getD a 0⟩, e] ++ F (ns.getD a 0) else forkI (ns.getD (T.mid a b) 0) (amG ns F e n a (T.mid a b)) (amG ns F e n (T.mid a b) b)
theorem amG_more (ns : List Int) (F : Int -> List V.In) (e : V.In) (k : Nat) : ∀ j a b, b - a <= k -> b - a <= j -> amG ns F e k a b = amG ns F e j a b := by
 induction k with
 | zero =>
  intro j a b h1 _
  cases j with
  | zero => rfl
  | succ j => unfold amG; rw [if_pos (by omega)]
 | succ k ih =>
  intro j a b h1 h2
  cases j with
  | zero => unfold amG; rw [if_pos (by omega)]
  | succ j =>
   unfold amG
   split
   ·rfl
   ·have := T.mid_lt (a := a) (b := b) (by omega)
    rw [ih j a _ (by omega) (by omega), ih j _ b (by omega) (by omega)]
def amI (ns : List Int) (F : Int -> List V.In) (e : V.In) (a b : Nat) : List V.In := if b - a = 0 then [e] else amG ns F e (b - a) a b
theorem am_none {ns : List Int} {F : Int -> List V.In} {e : V.In} {a b : Nat} (h : b - a = 0) : amI ns F e a b = [e] := by unfold amI; rw [if_pos h]
theorem am_one {ns : List Int} {F : Int -> List V.In} {e : V.In} {a b : Nat} (h : b - a = 1) : amI ns F e a b = [⟨21, 1, 0, ns.getD a 0⟩, e] ++ F (ns.getD a 0) := by
 unfold amI
 rw [if_neg (by omega), h]
 show (if b - a < 2 then _ else _) = _
 rw [if_pos (by omega)]
theorem am_two {ns : List Int} {F : Int -> List V.In} {e : V.In} {a b : Nat} (h : 2 <= b - a) : amI ns F e a b = forkI (ns.getD (T.mid a b) 0) (amI ns F e a (T.mid a b)) (amI ns F e (T.mid a b) b) := by
 have hm := T.mid_lt h
 unfold amI
 rw [if_neg (by omega), if_neg (by omega), if_neg (by omega)]
 obtain ⟨n, hn⟩ : ∃ n, b - a = n + 1 := ⟨b - a - 1, by omega⟩
 rw [hn]
 show (if b - a < 2 then _ else _) = _
 rw [if_neg (by omega), amG_more ns F e n (T.mid a b - a) a _ (by omega) (by omega), amG_more ns F e n (b - T.mid a b) _ b (by omega) (by omega)]
theorem fork_run (d : M.Da) (z : Int) (a b : List V.In) (s : V.St) (r : List V.In) : ∃ n, n <= 2 /\
  ex d (forkI z a b ++ r) 0 s = if z <= s.a then ((ex d (b ++ r) 0 s).1 + n, (ex d (b ++ r) 0 s).2) else ((ex d (a ++ (b ++ r)) 0 s).1 + n, (ex d (a ++ (b ++ r)) 0 s).2) := by
 unfold forkI
 have happ := ex_app d a (b ++ r) 0 s
 rw [Nat.add_zero] at happ
 by_cases h : a.length <= 255
 ·rw [if_pos h]
  refine ⟨1, by decide, ?_⟩
  show ex d (⟨53, (a.length : Nat), 0, z⟩ :: ((a ++ b) ++ r)) 0 s = _
  have := ex_jump d 53 z a.length 0 ((a ++ b) ++ r) s (.inr (.inr rfl))
  rw [show ((0 : Nat) : Int) = 0 from rfl] at this
  rw [this, holds53, List.append_assoc]
  by_cases hz : z <= s.a
  ·rw [if_pos hz, if_pos (by simpa using hz), happ]
  ·rw [if_neg hz, if_neg (by simpa using hz)]
 ·rw [if_neg h]
  by_cases hz : z <= s.a
  ·refine ⟨2, by decide, ?_⟩
   show ex d (⟨53, 0, 1, z⟩ :: ⟨5, 0, 0, (a.length : Nat)⟩ :: ((a ++ b) ++ r)) 0 s = _
   have := ex_jump d 53 z 0 1 (⟨5, 0, 0, (a.length : Nat)⟩ :: ((a ++ b) ++ r)) s (.inr (.inr rfl))
   rw [show ((0 : Nat) : Int) = 0 from rfl, show ((1 : Nat) : Int) = 1 from rfl] at this
   rw [this, holds53, if_pos hz, if_pos (by simpa using hz), ex_ja, List.append_assoc, happ]
  ·refine ⟨1, by decide, ?_⟩
   show ex d (⟨53, 0, 1, z⟩ :: ⟨5, 0, 0, (a.length : Nat)⟩ :: ((a ++ b) ++ r)) 0 s = _
   have := ex_jump d 53 z 0 1 (⟨5, 0, 0, (a.length : Nat)⟩ :: ((a ++ b) ++ r)) s (.inr (.inr rfl))
   rw [show ((0 : Nat) : Int) = 0 from rfl, show ((1 : Nat) : Int) = 1 from rfl] at this
   rw [this, holds53, if_neg hz, if_neg (by simpa using hz), ex_succ, List.append_assoc]
theorem am_run (d : M.Da) (ns : List Int) (F : Int -> List V.In) (e : V.In) (s : V.St) (r : List V.In) (k : Nat) : ∀ a b, a < b -> b <= ns.length -> b - a <= 2 ^ k ->
  (a = 0 \/ ns.getD a 0 <= s.a) -> (b = ns.length \/ s.a < ns.getD b 0) ->
  ∃ p n r', n <= 2 * k /\ T.Ends ns s.a p /\ ex d (amI ns F e a b ++ r) 0 s = ((ex d ([⟨21, 1, 0, ns.getD p 0⟩, e] ++ F (ns.getD p 0) ++ r') 0 s).1 + n, (ex d ([⟨21, 1, 0, ns.getD p 0⟩, e] ++ F (ns.getD p 0) ++ r') 0 s).2) := by
 induction k generalizing r with
 | zero =>
  intro a b h1 h2 h3 h4 h5
  have hb : b = a + 1 := by
   rw [Nat.pow_zero] at h3
   omega
  subst hb
  refine ⟨a, 0, r, by omega, ⟨by omega, h4.symm, h5⟩, ?_⟩
  rw [am_one (by omega)]
  rfl
 | succ k ih =>
  intro a b h1 h2 h3 h4 h5
  by_cases h6 : b - a < 2
  ·have hb : b = a + 1 := by omega
   subst hb
   refine ⟨a, 0, r, by omega, ⟨by omega, h4.symm, h5⟩, ?_⟩
   rw [am_one (by omega)]
   rfl
  ·have hm := T.mid_lt (a := a) (b := b) (by omega)
   have hp : 2 ^ (k + 1) = 2 * 2 ^ k := by rw [Nat.pow_succ]; omega
   rw [am_two (by omega)]
   obtain ⟨n, hn, hx⟩ := fork_run d (ns.getD (T.mid a b) 0) (amI ns F e a (T.mid a b)) (amI ns F e (T.mid a b) b) s r
   rw [hx]
   by_cases hz : ns.getD (T.mid a b) 0 <= s.a
   ·rw [if_pos hz]
    obtain ⟨p, n2, r', q1, q2, q3⟩ := ih r (T.mid a b) b hm.2 h2 (by have : T.mid a b = a + (b - a) / 2 := rfl; omega) (.inr hz) h5
    refine ⟨p, n2 + n, r', by omega, q2, ?_⟩
    rw [q3]
    exact congrArg (fun z => (z, _)) (by omega)
   ·rw [if_neg hz]
    obtain ⟨p, n2, r', q1, q2, q3⟩ := ih (amI ns F e (T.mid a b) b ++ r) a (T.mid a b) hm.1 (by omega) (by have : T.mid a b = a + (b - a) / 2 := rfl; omega) h4 (.inr (by omega))
    refine ⟨p, n2 + n, r', by omega, q2, ?_⟩
    rw [q3]
    exact congrArg (fun z => (z, _)) (by omega)
theorem am_len (ns : List Int) (F : Int -> List V.In) (e : V.In) (L : Int -> Nat) (hF : ∀ z, (F z).length <= L z) (k : Nat) : ∀ a b, a < b -> b <= ns.length -> b - a <= k ->
  2 <= (amI ns F e a b).length /\ (amI ns F e a b).length + 2 <= (((ns.drop a).take (b - a)).map fun z => L z + 4).sum := by
 induction k with
 | zero => intro a b h1 _ h3; omega
 | succ k ih =>
  intro a b h1 h2 h3
  by_cases h6 : b - a < 2
  ·have hb : b - a = 1 := by omega
   rw [am_one hb, hb]
   have hd : (ns.drop a).take 1 = [ns.getD a 0] := by
    rw [List.drop_eq_getElem_cons (by omega), List.take_succ_cons, List.take_zero]
    rw [List.getD_eq_getElem?_getD, List.getElem?_eq_getElem (by omega)]
    rfl
   rw [hd]
   have := hF (ns.getD a 0)
   simp only [List.length_append, List.length_cons, List.length_nil, List.map_cons, List.map_nil, List.sum_cons, List.sum_nil]
   omega
  ·have hm := T.mid_lt (a := a) (b := b) (by omega)
   rw [am_two (by omega)]
   have i1 := ih a (T.mid a b) hm.1 (by omega) (by omega)
   have i2 := ih (T.mid a b) b hm.2 h2 (by omega)
   have hd : (ns.drop a).take (b - a) = (ns.drop a).take (T.mid a b - a) ++ (ns.drop (T.mid a b)).take (b - T.mid a b) := by
    rw [show b - a = (T.mid a b - a) + (b - T.mid a b) from by omega, List.take_add, List.drop_drop, show a + (T.mid a b - a) = T.mid a b from by omega]
   rw [hd, List.map_append, List.sum_append]
   unfold forkI
   rw [List.length_append, List.length_append]
   split
   ·simp only [List.length_cons, List.length_nil]; omega
   ·simp only [List.length_cons, List.length_nil]; omega
theorem rises_of {ts : List Int} (h : M.Rise ts) : T.rises ts = true := by
 unfold T.rises
 rw [decide_eq_true_iff]
 intro i hi
 have := List.pairwise_iff_getElem.1 h i (i + 1) (by omega) (by omega) (by omega)
 rw [List.getD_eq_getElem?_getD, List.getD_eq_getElem?_getD, List.getElem?_eq_getElem (by omega), List.getElem?_eq_getElem (by omega)]
 exact this
def bodI (ns : List Int) (k a : Int) (l : List M.Xl) : List V.In := amI ns (fun z => verI z k a l) (ansI k a) 0 ns.length
def progI (ns : List Int) (k a : Int) (l : List M.Xl) : List V.In := [⟨32, 0, 0, 4⟩, ⟨21, 1, 0, 3221225534⟩, ⟨6, 0, 0, 2147483648⟩, ⟨32, 0, 0, 0⟩] ++ bodI ns k a l
structure Nrs (ns : List Int) (l : List M.Xr) : Prop where
 rise : M.Rise ns
 mem : ∀ z, z ∈ ns ↔ z ∈ M.numsR l
theorem Nrs.tab {ns : List Int} {l : List M.Xr} (h : Nrs ns l) {z : Int} (hz : z ∈ ns) : z ∈ M.tabI := M.numsR_tab ((h.mem z).1 hz)
theorem Nrs.nodup {ns : List Int} {l : List M.Xr} (h : Nrs ns l) : ns.Nodup := List.Pairwise.imp (fun hab e => by omega) h.rise
theorem Nrs.len {ns : List Int} {l : List M.Xr} (h : Nrs ns l) : ns.length <= 30 := M.tabI_len ▸ M.nodup_le ns M.tabI h.nodup fun _ hz => h.tab hz
theorem tabI_u {z : Int} (h : z ∈ M.tabI) : V.U32 z /\ M.isNr z = true := by
 have key : ∀ z ∈ M.tabI, (0 <= z /\ z <= 4294967295) /\ M.isNr z = true := by decide +kernel
 exact key z h
theorem nums_of_named {ns : List Int} {l : List M.Xr} (h : Nrs ns l) {z : Int} (hz : M.isNr z = true) {x : M.Xr} (hx : x ∈ l) (hn : M.namedB z x.r.names = true) : z ∈ ns := by
 rw [h.mem]
 unfold M.namedB at hn
 obtain ⟨s, hs, he⟩ := List.any_eq_true.1 hn
 have h2 := M.spk z s
 rw [hz, he] at h2
 have h3 : (M.knB s && (M.nrI s == z)) = true := h2.symm
 simp only [Bool.and_eq_true, beq_iff_eq] at h3
 refine List.mem_flatMap.2 ⟨x, hx, ?_⟩
 unfold M.nums
 exact List.mem_map.2 ⟨s, List.mem_filter.2 ⟨hs, h3.1⟩, h3.2⟩
theorem named_of_nums {ns : List Int} {l : List M.Xr} (h : Nrs ns l) {z : Int} (hz : z ∈ ns) : ∃ x ∈ l, M.namedB z x.r.names = true := by
 have hn := (tabI_u (h.tab hz)).2
 rw [h.mem] at hz
 obtain ⟨x, hx, h2⟩ := List.mem_flatMap.1 hz
 refine ⟨x, hx, ?_⟩
 unfold M.nums at h2
 obtain ⟨s, hs, e⟩ := List.mem_map.1 h2
 obtain ⟨hs1, hs2⟩ := List.mem_filter.1 hs
 unfold M.namedB
 refine List.any_eq_true.2 ⟨s, hs1, ?_⟩
 have h3 := M.spk z s
 rw [hn, hs2, Bool.true_and, e] at h3
 simpa using h3
theorem count_le (ns : List Int) (hn : ns.Nodup) (hz : ∀ z ∈ ns, M.isNr z = true) (names : List ByteArray) : (ns.filter fun z => M.namedB z names).length <= names.length := by
 have h1 : (ns.filter fun z => M.namedB z names).length <= ((names.map M.nrI) : List Int).length := by
  refine M.nodup_le _ _ (hn.sublist List.filter_sublist) fun z hm => ?_
  obtain ⟨h2, h3⟩ := List.mem_filter.1 hm
  unfold M.namedB at h3
  obtain ⟨s, hs, he⟩ := List.any_eq_true.1 h3
  have h4 := M.spk z s
  rw [hz z h2, he] at h4
  have h5 : (M.knB s && (M.nrI s == z)) = true := h4.symm
  simp only [Bool.and_eq_true, beq_iff_eq] at h5
  exact List.mem_map.2 ⟨s, hs, h5.2⟩
 rw [List.length_map] at h1
 exact h1
theorem sum_if (ns : List Int) (p : Int -> Bool) (c : Nat) : (ns.map fun z => if p z = true then c else 0).sum = (ns.filter p).length * c := by
 induction ns with
 | nil => simp
 | cons z r ih =>
  rw [List.map_cons, List.sum_cons, ih, List.filter_cons]
  split
  ·rw [List.length_cons, Nat.add_mul]; omega
  ·omega
theorem sum_swap (ns : List Int) : ∀ l : List M.Xl, (ns.map fun z => (l.map fun x => if M.namedB z x.names = true then 7 * x.conds.length + 6 else 0).sum).sum = (l.map fun x => (ns.filter fun z => M.namedB z x.names).length * (7 * x.conds.length + 6)).sum
 | [] => by
  show (ns.map fun _ => 0).sum = 0
  induction ns with
  | nil => rfl
  | cons z r ih => rw [List.map_cons, List.sum_cons, ih, Nat.add_zero]
 | x :: l => by
  rw [List.map_cons, List.sum_cons, <- sum_swap ns l, <- sum_if ns (fun z => M.namedB z x.names) (7 * x.conds.length + 6)]
  induction ns with
  | nil => rfl
  | cons z r ih =>
   simp only [List.map_cons, List.sum_cons] at ih ⊢
   omega
theorem lenR_six (z : Int) (l : List M.Xl) (h : ∃ x ∈ l, M.namedB z x.names = true) : lenR z l + 5 <= (l.map fun x => if M.namedB z x.names = true then 7 * x.conds.length + 6 else 0).sum := by
 have hge : ∀ l : List M.Xl, lenR z l <= (l.map fun x => if M.namedB z x.names = true then 7 * x.conds.length + 6 else 0).sum := by
  intro l
  induction l with
  | nil => exact Nat.le_refl _
  | cons x r ih =>
   rw [lenR_cons, List.map_cons, List.sum_cons]
   split <;> omega
 induction l with
 | nil => obtain ⟨x, hx, _⟩ := h; cases hx
 | cons y r ih =>
  rw [lenR_cons, List.map_cons, List.sum_cons]
  cases hy : M.namedB z y.names with
  | true =>
   have := hge r
   rw [if_pos rfl, if_pos rfl]
   omega
  | false =>
   rw [if_neg (by decide), if_neg (by decide)]
   obtain ⟨x, hx, hn⟩ := h
   have := ih (by
    rcases List.mem_cons.1 hx with rfl | hx
    ·rw [hy] at hn; cases hn
    ·exact ⟨x, hx, hn⟩)
   omega
theorem sum_wg (ns : List Int) (l : List M.Xr) (h : Nrs ns l) : (ns.map fun z => lenR z (l.map M.Xr.r) + 5).sum <= (l.map fun x => M.wg1 x.r).sum := by
 have h1 : (ns.map fun z => lenR z (l.map M.Xr.r) + 5).sum <= (ns.map fun z => ((l.map M.Xr.r).map fun x => if M.namedB z x.names = true then 7 * x.conds.length + 6 else 0).sum).sum := by
  have : ∀ ms : List Int, (∀ z ∈ ms, z ∈ ns) -> (ms.map fun z => lenR z (l.map M.Xr.r) + 5).sum <= (ms.map fun z => ((l.map M.Xr.r).map fun x => if M.namedB z x.names = true then 7 * x.conds.length + 6 else 0).sum).sum := by
   intro ms
   induction ms with
   | nil => intro _; exact Nat.le_refl _
   | cons z r ih =>
    intro hm
    simp only [List.map_cons, List.sum_cons]
    have h2 := ih fun y hy => hm y (List.mem_cons_of_mem _ hy)
    obtain ⟨x, hx, hn⟩ := named_of_nums h (hm z (List.mem_cons_self ..))
    have h3 := lenR_six z (l.map M.Xr.r) ⟨x.r, List.mem_map.2 ⟨x, hx, rfl⟩, hn⟩
    omega
  exact this ns fun _ hz => hz
 rw [sum_swap] at h1
 have h2 : ((l.map M.Xr.r).map fun x => (ns.filter fun z => M.namedB z x.names).length * (7 * x.conds.length + 6)).sum <= (l.map fun x => M.wg1 x.r).sum := by
  have hc := count_le ns h.nodup fun z hz => (tabI_u (h.tab hz)).2
  clear h1 h
  induction l with
  | nil => exact Nat.le_refl _
  | cons x r ih =>
   simp only [List.map_cons, List.sum_cons]
   have h3 : (ns.filter fun z => M.namedB z x.r.names).length * (7 * x.r.conds.length + 6) <= M.wg1 x.r := by
    unfold M.wg1
    exact Nat.mul_le_mul (hc x.r.names) (by omega)
   simp only [List.map_map] at ih ⊢
   omega
 exact Nat.le_trans h1 h2
open M (below_new)
def Tld (w : World) (l : List V.In) (e : Ending) (w' : World) : Prop := ∃ v, e = .returned v /\ w'.ownsRow w.heap.size 156 4 v l.length (V.cellsI l) /\ Below w.heap.size w w'
theorem own_fresh (w : World) (base : Nat) (hb : base <= w.heap.size) (l : List V.In) (n : Nat) (hn : l.length = n) (hl : l.length <= 1000) (cs : Array Value) (hc : cs.toList = V.cellsI l) : (w.alloc (Obj.cells cs 156)).ownsRow base 156 4 (.slice (some ⟨w.heap.size, 0, none⟩) n n) n (V.cellsI l) := by
 subst hn
 have h4 := V.cellsI_length l
 have hs : cs.size = l.length * 4 := by rw [<- Array.length_toList, hc, h4]
 refine ⟨h4, .inr ⟨w.heap.size, l.length, cs, rfl, hb, heap_alloc_new _ _, Nat.le_refl _, by unfold maxLen; omega, hs, ?_⟩⟩
 rw [hc, List.take_of_length_le (by omega)]
theorem own_in (w : World) (base : Nat) (hb : base <= w.heap.size) (c t f k : Int) (g : Nat) (hg : g = w.heap.size) : (w.alloc (Obj.cells #[.int .u16 c, .int .u8 t, .int .u8 f, .int .u32 k] 156)).ownsRow base 156 4 (.slice (some ⟨g, 0, none⟩) 1 1) 1 (V.cellsI [⟨c, t, f, k⟩]) := by
 subst hg
 exact own_fresh w base hb [⟨c, t, f, k⟩] 1 rfl (by simp) _ rfl
theorem own_in2 (w : World) (base : Nat) (hb : base <= w.heap.size) (c t f k c' t' f' k' : Int) (g : Nat) (hg : g = w.heap.size) : (w.alloc (Obj.cells #[.int .u16 c, .int .u8 t, .int .u8 f, .int .u32 k, .int .u16 c', .int .u8 t', .int .u8 f', .int .u32 k'] 156)).ownsRow base 156 4 (.slice (some ⟨g, 0, none⟩) 2 2) 2 (V.cellsI [⟨c, t, f, k⟩, ⟨c', t', f', k'⟩]) := by
 subst hg
 exact own_fresh w base hb [⟨c, t, f, k⟩, ⟨c', t', f', k'⟩] 2 rfl (by simp) _ rfl
theorem own_slice {w : World} {base sz : Nat} {t : TypeId} {v : Value} {n : Nat} {xs : List Value} (h : w.ownsRow base t sz v n xs) : ∃ a cap, v = .slice a n cap := by
 rcases h.2 with ⟨rfl, rfl⟩ | ⟨g, cap, cur, rfl, _⟩
 ·exact ⟨none, 0, rfl⟩
 ·exact ⟨_, cap, rfl⟩
theorem own_nil (w : World) (base : Nat) : w.ownsRow base 156 4 (.slice none 0 0) 0 (V.cellsI []) := ⟨by simp [V.cellsI], .inl ⟨rfl, rfl⟩⟩
def Apart (v u : Value) : Prop := ∀ j, v.ownBlock = some j -> u.ownBlock ≠ some j
structure Grw (X Y : World) (base : Nat) (v v' : Value) (n : Nat) (l : List V.In) : Prop where
 own : Y.ownsRow base 156 4 v' n (V.cellsI l)
 grown : X.grownBy Y v.ownBlock
 blk : v'.ownBlock = v.ownBlock \/ v'.ownBlock = some X.heap.size
theorem run_app {w : World} (ty : TypeId) (base : Nat) (v : Value) (n : Nat) (l : List V.In) (hown : w.ownsRow base 156 4 v n (V.cellsI l))
  (base2 : Nat) (v2 : Value) (m : Nat) (k : List V.In) (hown2 : w.ownsRow base2 156 4 v2 m (V.cellsI k)) (hn : n + m <= 100000) (hbase : base <= w.heap.size) :
  ∃ v' w', (Builtin.append_ #[61, 61] ty #[v, v2]).run Tryz.prog w = .ok v' w' /\ Grw w w' base v v' (n + m) (l ++ k) := by
 obtain ⟨i0, hi, hz0, hz1, hz2⟩ := info_parts V.Tryz.info156
 rcases hown2.2 with ⟨rfl, rfl⟩ | ⟨g, cap, cur, rfl, _⟩
 ·have hk : k = [] := by
   have := hown2.1
   rw [V.cellsI_length] at this
   exact List.eq_nil_of_length_eq_zero (by omega)
  subst hk
  refine ⟨v, w, ?_, ⟨by simpa using hown, F.grow_refl _ _, .inl rfl⟩⟩
  exact run_append_owned_none w base 61 ty 156 i0 4 Tryz.underlying61 hi v n (V.cellsI l) hown
 ·obtain ⟨v', w', h0, h1, h2, _, h4⟩ := run_append_own_at (P := Tryz.prog) w base 61 ty 156 i0 _ 4 8 Tryz.underlying61 hi hz0 hz1 hz2 rfl (by decide) v n (V.cellsI l) hown ⟨g, 0, none⟩ m cap (V.cellsI k) hown2.1 (hown2.cells (g := g) rfl) (V.cellsI_kind k) (by unfold maxLen; omega) (by omega) hbase
  exact ⟨v', w', h0, ⟨by rw [V.cellsI_app]; exact h1, h2, h4⟩⟩
theorem app_rows {w : World} {ops : Array Oper} {rest : List Oper} {o : Oper} {a : Act} {Q : Exit -> Act -> World -> Prop} (hgd : o.guard = none) (s x : Operand)
  (ho : o.op = .call { callee := .builtin .append, args := #[s, x], argTypes := #[61, 61] })
  (base : Nat) (v : Value) (n : Nat) (l : List V.In) (hs : a.eval s = v) (hown : w.ownsRow base 156 4 v n (V.cellsI l))
  (base2 : Nat) (v2 : Value) (m : Nat) (k : List V.In) (hx : a.eval x = v2) (hown2 : w.ownsRow base2 156 4 v2 m (V.cellsI k))
  (hn : n + m <= 100000) (hbase : base <= w.heap.size)
  (h : ∀ v' w', Grw w w' base v v' (n + m) (l ++ k) -> wpList Tryz.prog ops Q rest (a.put o.dst v') w') : wpList Tryz.prog ops Q (o :: rest) a w := by
 obtain ⟨v', w', hrun, hG⟩ := run_app o.type base v n l hown base2 v2 m k hown2 hn hbase
 refine wpList_plain hgd fun K hK => ?_
 unfold Oper.wp execOp
 simp only [ho, resolve, invoke, builtin, Sem.run_bind, Sem.run_pure, Result.andThen_ok, List.map_toArray, List.map_cons, List.map_nil, hs, hx, hrun]
 exact hK _ _ (h v' w' hG)
theorem Grw.below {X Y : World} {base : Nat} {v v' : Value} {n : Nat} {l : List V.In} (h : Grw X Y base v v' n l) {w : World} {n0 : Nat} {l0 : List V.In} (hown : X.ownsRow base 156 4 v n0 (V.cellsI l0)) (hb : Below base w X) (hB : base <= X.heap.size) : Below base w Y :=
 hb.grown h.grown hB (P.owns_block hown)
theorem Grw.kept {X Y : World} {base b2 : Nat} {v v' u : Value} {n m : Nat} {l : List V.In} {xs : List Value} (h : Grw X Y base v v' n l) (hu : X.ownsRow b2 156 4 u m xs) (ha : Apart v u) : Y.ownsRow b2 156 4 u m xs /\ Apart v' u := by
 refine ⟨hu.kept h.grown ?_, fun j hj e => ?_⟩
 ·cases hq : u.ownBlock with
  | none => exact .inl rfl
  | some j => exact .inr fun e => ha j e.symm hq
 ·rcases h.blk with hb | hb
  ·exact ha j (hb ▸ hj) e
  ·rw [hb] at hj
   cases hj
   have := V.own_lt hu _ e
   omega
def cI (x : V.In) : Array Value := #[.int .u16 x.c, .int .u8 x.t, .int .u8 x.f, .int .u32 x.k]
theorem below_setRow {B : Nat} {a w : World} (h : Below B a w) {g : Nat} (hg : B <= g) (cs : Array Value) : Below B a (w.setRow g cs) := M.below_setRow h hg cs
theorem below_two (w : World) (o p : Obj) : Below w.heap.size w ((w.alloc o).alloc p) := (below_new w o).alloc (below_new w o).size _
theorem size78 (x : V.In) : (Tryz.prog.info? 156).map (·.size) = some (cI x).size := by show (Tryz.prog.info? 156).map (·.size) = some 4; kernel_rfl
theorem cI_one (x : V.In) : (cI x).all (·.oneCell') = true := by simp [cI, Value.oneCell']
open G (at_op)
theorem answer_any (k a : Int) (w : World) : Calls Tryz.prog 75 #[.agg #[.int .i64 k, .int .i64 a]] w fun e w' => e = .returned (.agg (cI (ansI k a))) /\ Below w.heap.size w w' := by
 have HV : Hid (∀ W, Calls Tryz.prog 82 #[.agg #[.int .i64 k, .int .i64 a]] W fun e w' => e = .returned (.tuple #[.int .u32 (A.valZ k a), .int .i64 (A.errZ k a)]) /\ Below W.heap.size W w') := fun W => A.value_any k a W
 have HB : Hid (F.D.Blk ((w.alloc (Obj.cells #[.int .i64 k, .int .i64 a] 55)).alloc (Obj.cells #[.int .u16 0, .int .u8 0, .int .u8 0, .int .u32 0] 156)) (w.heap.size + 1) 156 [.int .u16 0, .int .u8 0, .int .u8 0, .int .u32 0]) := V.blk_new' w _ _ 156
 have HW : Hid (Below w.heap.size w ((w.alloc (Obj.cells #[.int .i64 k, .int .i64 a] 55)).alloc (Obj.cells #[.int .u16 0, .int .u8 0, .int .u8 0, .int .u32 0] 156))) := below_two w _ _
 have HS : Hid ((Tryz.prog.info? 156).map (·.size) = some (cI (ansI k a)).size) := size78 _
 have H1 : Hid ((cI (ansI k a)).all (·.oneCell') = true) := cI_one _
 unfold ansI cI at *
 dsimp only at *
 generalize A.valZ k a = v at *
 generalize A.errZ k a = er at *
 go_enter Tryz.func75, Tryz.ntmps75
 go_wp2_with (first | (go_at_call 82; refine (HV.out _).mono ?_; rintro e w1 ⟨rfl, b1⟩; have HB1 := HB.out.over b1; have HW1 : Hid (Below w.heap.size w w1) := HW.out.trans (b1.mono HW.out.size); clear b1) | (refine at_op (.store 156 (.tmp 2) (.tmp 11)) rfl ?_; refine wpList_store_row rfl 156 (.tmp 2) (.tmp 11) rfl (w.heap.size + 1) #[.int .u16 6, .int .u8 0, .int .u8 0, .int .u32 v] rfl rfl 156 _ HB1 HS.out rfl H1.out ?_))
 refine bodyPost_ret (v := .agg #[.int .u16 6, .int .u8 0, .int .u8 0, .int .u32 v]) ?_ rfl ⟨rfl, ?_⟩
 ·exact results_cell_row Tryz.results75 _ _ (w.heap.size + 1) 156 #[.int .u16 6, .int .u8 0, .int .u8 0, .int .u32 v] (0, 0) _ rfl (F.D.Blk.row HB1 _) Tryz.underlying156 rfl HS.out
 ·exact below_setRow HW1.out (Nat.le_succ _) _
theorem jump_any (c k t f : Int) (w : World) (ht : 0 <= t /\ t <= 255) (hf : 0 <= f /\ f <= 255) : Calls Tryz.prog 182 #[.int .u16 c, .int .u32 k, .int .i64 t, .int .i64 f] w fun e w' => e = .returned (.agg (cI ⟨c, t, f, k⟩)) /\ Below w.heap.size w w' := by
 have HB : Hid (F.D.Blk (w.alloc (Obj.cells #[.int .u16 0, .int .u8 0, .int .u8 0, .int .u32 0] 156)) w.heap.size 156 [.int .u16 0, .int .u8 0, .int .u8 0, .int .u32 0]) := F.D.blk_new w _ 156
 have HW : Hid (Below w.heap.size w (w.alloc (Obj.cells #[.int .u16 0, .int .u8 0, .int .u8 0, .int .u32 0] 156))) := below_new w _
 have HS : Hid ((Tryz.prog.info? 156).map (·.size) = some (cI ⟨c, t, f, k⟩).size) := size78 _
 have H1 : Hid ((cI ⟨c, t, f, k⟩).all (·.oneCell') = true) := cI_one _
 have e1 : IntKind.u8.wrap t = t := by rw [IntKind.wrap_u8]; omega
 have e2 : IntKind.u8.wrap f = f := by rw [IntKind.wrap_u8]; omega
 unfold cI at *
 dsimp only at *
 go_enter Tryz.func182, Tryz.ntmps182
 go_wp2_with (first | (refine at_op (.store 156 (.tmp 8) (.tmp 15)) rfl ?_; refine wpList_store_row rfl 156 (.tmp 8) (.tmp 15) rfl w.heap.size #[.int .u16 c, .int .u8 t, .int .u8 f, .int .u32 k] rfl rfl 156 _ HB.out HS.out rfl H1.out ?_))
 refine bodyPost_ret (v := .agg #[.int .u16 c, .int .u8 t, .int .u8 f, .int .u32 k]) ?_ rfl ⟨rfl, ?_⟩
 ·exact results_cell_row Tryz.results182 _ _ w.heap.size 156 #[.int .u16 c, .int .u8 t, .int .u8 f, .int .u32 k] (0, 0) _ rfl (F.D.Blk.row HB.out _) Tryz.underlying156 rfl HS.out
 ·exact below_setRow HW.out (Nat.le_refl _) _
theorem own_over {X Y : World} {b : Nat} {v : Value} {n : Nat} {xs : List Value} (h : X.ownsRow b 156 4 v n xs) (hb : Below X.heap.size X Y) : Y.ownsRow b 156 4 v n xs := P.owns_below h hb (Nat.le_refl _)
theorem apart_late {X : World} {b c : Nat} {v u : Value} {n m : Nat} {xs ys : List Value} (h : X.ownsRow b 156 4 v n xs) {Y : World} (hu : Y.ownsRow c 156 4 u m ys) (hc : X.heap.size <= c) : Apart v u := by
 intro j hj e
 have h1 := V.own_lt h j hj
 have h2 := P.owns_block hu j e
 omega
theorem decision_any (w : World) (k a : Int) (vn vc : Value) (cs : List M.Xc) (h : M.CdR w vc cs) (hl : cs.length <= 0) (_hc : ∀ c ∈ cs, Cok c) :
  Calls Tryz.prog 184 #[.agg #[.int .i64 k, .int .i64 a, vn, vc]] w fun e w' => Tld w ((decC k a cs).getD []) e w' := by
 obtain rfl : cs = [] := List.eq_nil_of_length_eq_zero (by omega)
 obtain ⟨p1, c1, rfl⟩ : ∃ p c, vc = .slice p 0 c := by obtain ⟨p, c, e, _⟩ := h; exact ⟨p, c, e⟩
 have HA : Hid (∀ W, Calls Tryz.prog 75 #[.agg #[.int .i64 k, .int .i64 a]] W fun e w' => e = .returned (.agg (cI (ansI k a))) /\ Below W.heap.size W w') := answer_any k a
 have HB0 : Hid (Below w.heap.size w (w.alloc (Obj.cells #[.int .i64 k, .int .i64 a, vn, .slice p1 0 c1] 150))) := below_new w _
 have HK : Hid (F.D.Blk (w.alloc (Obj.cells #[.int .i64 k, .int .i64 a, vn, .slice p1 0 c1] 150)) w.heap.size 150 [.int .i64 k, .int .i64 a, vn, .slice p1 0 c1]) := F.D.blk_new w _ _
 unfold ansI cI at HA
 dsimp only at HA
 have HS0 : Hid ((decC k a []).getD [] = [⟨6, 0, 0, A.valZ k a⟩]) := rfl
 generalize A.valZ k a = va at *
 generalize (decC k a []).getD [] = L at *
 clear h hl _hc
 go_enter Tryz.func184, Tryz.ntmps184
 go_wp2_with (first | (go_at_call 75; refine (HA.out _).mono ?_; rintro e w1 ⟨rfl, b1⟩; have c3 : (w1.alloc (Obj.cells #[.int .u16 6, .int .u8 0, .int .u8 0, .int .u32 va] 156)).cell? ⟨w.heap.size, 3, none⟩ = some (.slice p1 0 c1) := (HK.out.over (b1.alloc b1.size _)).cell 3; have B1 : Hid (Below w.heap.size w (w1.alloc (Obj.cells #[.int .u16 6, .int .u8 0, .int .u8 0, .int .u32 va] 156))) := HB0.out.trans ((b1.alloc b1.size _).mono HB0.out.size); have O1 : Hid ((w1.alloc (Obj.cells #[.int .u16 6, .int .u8 0, .int .u8 0, .int .u32 va] 156)).ownsRow w.heap.size 156 4 (.slice (some ⟨w1.heap.size, 0, none⟩) 1 1) 1 (V.cellsI [⟨6, 0, 0, va⟩])) := own_in w1 _ (Nat.le_trans HB0.out.size b1.size) 6 0 0 va _ rfl; clear b1))
 clear c3
 generalize (w1.alloc (Obj.cells #[.int .u16 6, .int .u8 0, .int .u8 0, .int .u32 va] 156)) = w2 at *
 go_loopw [3, 4] (fun v3 vi wr => v3 = .slice (some ⟨w1.heap.size, 0, none⟩) 1 1 /\ vi = .int .i64 (-1) /\ wr = w2) (fun _ _ _ => 0)
 case atStart => exact ⟨rfl, rfl, rfl⟩
 case round =>
  obtain ⟨rfl, rfl, rfl⟩ := hrel
  go_wp2_with fail
  go_ret
  exact ⟨_, rfl, by rw [HS0.out]; exact O1.out, B1.out⟩
def DecC : Prop := ∀ (w : World) (k a : Int) (vn vc : Value) (cs : List M.Xc), M.CdR w vc cs -> cs.length <= 0 -> (∀ c ∈ cs, Cok c) ->
  Calls Tryz.prog 184 #[.agg #[.int .i64 k, .int .i64 a, vn, vc]] w fun e w' => Tld w ((decC k a cs).getD []) e w'
theorem ver_at {z k a : Int} {rs : List M.Xr} {i : Nat} (h : i < rs.length) : verI z k a ((rs.drop i).map M.Xr.r) = if M.namedB z rs[i].r.names = true then (if endsH (decI rs[i].r) = true then decI rs[i].r else decI rs[i].r ++ verI z k a ((rs.drop (i + 1)).map M.Xr.r)) else verI z k a ((rs.drop (i + 1)).map M.Xr.r) := by
 rw [List.drop_eq_getElem_cons h]
 rfl
theorem ver_end {z k a : Int} {rs : List M.Xr} {i : Nat} (h : ¬ i < rs.length) : verI z k a ((rs.drop i).map M.Xr.r) = [ansI k a] := by
 rw [List.drop_eq_nil_of_le (by omega)]
 rfl
structure Rok (rs : List M.Xr) : Prop where
 len : rs.length <= 64
 nam : ∀ x ∈ rs, x.r.names.length <= 16
 con : ∀ x ∈ rs, x.r.conds.length <= 8
 ok : ∀ x ∈ rs, Xok x.r
 no : ∀ x ∈ rs, x.r.conds.length <= 0
 nr : (M.numsR rs).length <= 12
theorem verdict_of (hT : DecC) (w : World) (z k a : Int) (v : Value) (rs : List M.Xr) (h : M.RlR w v rs) (hR : Rok rs) :
  Calls Tryz.prog 154 #[.agg #[.int .i64 k, .int .i64 a, v], .int .u32 z] w fun e w' => Tld w (verI z k a (rs.map M.Xr.r)) e w' := by
 obtain ⟨p1, c1, rfl⟩ : ∃ p c, v = .slice p rs.length c := by obtain ⟨p, c, e, _⟩ := h; exact ⟨p, c, e⟩
 have HA : Hid (∀ W, Calls Tryz.prog 75 #[.agg #[.int .i64 k, .int .i64 a]] W fun e w' => e = .returned (.agg (cI (ansI k a))) /\ Below W.heap.size W w') := answer_any k a
 have HB0 : Hid (Below w.heap.size w (w.alloc (Obj.cells #[.int .i64 k, .int .i64 a, .slice p1 rs.length c1] 58))) := below_new w _
 have HK : Hid (F.D.Blk (w.alloc (Obj.cells #[.int .i64 k, .int .i64 a, .slice p1 rs.length c1] 58)) w.heap.size 58 [.int .i64 k, .int .i64 a, .slice p1 rs.length c1]) := F.D.blk_new w _ _
 have HX : Hid (∀ W, Below (w.alloc (Obj.cells #[.int .i64 k, .int .i64 a, .slice p1 rs.length c1] 58)).heap.size (w.alloc (Obj.cells #[.int .i64 k, .int .i64 a, .slice p1 rs.length c1] 58)) W -> W.cell? ⟨w.heap.size, 0, none⟩ = some (.int .i64 k) /\ W.cell? ⟨w.heap.size, 1, none⟩ = some (.int .i64 a) /\ W.cell? ⟨w.heap.size, 2, none⟩ = some (.slice p1 rs.length c1) /\ M.RlR W (.slice p1 rs.length c1) rs /\ Below w.heap.size w W) := fun W hW => ⟨(HK.out.over hW).cell 0, (HK.out.over hW).cell 1, (HK.out.over hW).cell 2, h.below (HB0.out.trans (hW.mono HB0.out.size)), HB0.out.trans (hW.mono HB0.out.size)⟩
 have HN : Hid (∀ W, Calls Tryz.prog 183 #[.int .u32 z] W fun e w' => e = .returned (.tuple #[.string (M.nmS z), .bool (M.isNr z)]) /\ Below W.heap.size W w') := M.name_any z
 have HR : Hid (Rok rs) := hR
 have HD : Hid DecC := hT
 have HE : Hid (∀ c W, Calls Tryz.prog 129 #[.int .u16 c] W fun e w' => e = .returned (.bool (V.isIn V.endL c)) /\ w' = W) := V.ends_any
 have HCt : Hid (∀ W v (l : List ByteArray), M.StrR W v l -> l.length <= 9000000 -> Calls Tryz.prog 115 #[v, .string (M.nmS z)] W fun e w' => e = .returned (.bool (M.namedB z l)) /\ w' = W) := fun W v l h1 h2 => M.contains_any W v l (M.nmS z) h1 h2
 have HS0 : Hid (verI z k a (rs.map M.Xr.r) = [] ++ verI z k a ((rs.drop 0).map M.Xr.r)) := rfl
 have hl70 := hR.len
 unfold ansI cI at HA
 dsimp only at HA
 clear h hR hT HK
 generalize M.isNr z = zb at *
 generalize M.nmS z = nm at *
 go_enter Tryz.func154, Tryz.ntmps154
 go_wp2_with (first | (go_at_call 183; refine (HN.out _).mono ?_; rintro e w1 ⟨rfl, b1⟩; obtain ⟨-, -, c2, -, -⟩ := HX.out _ b1; have B1h : Hid (Below (w.alloc (Obj.cells #[.int .i64 k, .int .i64 a, .slice p1 rs.length c1] 58)).heap.size (w.alloc (Obj.cells #[.int .i64 k, .int .i64 a, .slice p1 rs.length c1] 58)) w1) := b1; clear b1))
 clear c2
 generalize (w.alloc (Obj.cells #[.int .i64 k, .int .i64 a, .slice p1 rs.length c1] 58)) = X0 at *
 go_loopw [7, 19] (fun v7 vi wr => ∃ (i : Nat) (l : List V.In), vi = .int .i64 i /\ i <= rs.length /\ l.length <= i * 141 /\ verI z k a (rs.map M.Xr.r) = l ++ verI z k a ((rs.drop i).map M.Xr.r) /\ wr.ownsRow X0.heap.size 156 4 v7 l.length (V.cellsI l) /\ Below X0.heap.size X0 wr) (fun _ vi _ => rs.length - (intOf vi).toNat)
 case atStart => exact ⟨0, [], rfl, Nat.zero_le _, by simp, HS0.out, own_nil _ _, B1h.out⟩
 case round =>
  obtain ⟨i, l, rfl, hi, hll, hV, ho, hb⟩ := hrel
  obtain ⟨c0, c1', c2, hrl, Bw⟩ := HX.out wr hb
  clear B1h
  have HV : Hid (verI z k a (rs.map M.Xr.r) = l ++ verI z k a ((rs.drop i).map M.Xr.r)) := hV
  have HO : Hid (wr.ownsRow X0.heap.size 156 4 _ l.length (V.cellsI l)) := ho
  have HBh : Hid (Below X0.heap.size X0 wr) := hb
  have HBw : Hid (Below w.heap.size w wr) := Bw
  obtain ⟨a7, q7, rfl⟩ := own_slice ho
  have hlb : l.length <= 9870 := by omega
  clear ho hb Bw hV
  by_cases hlt : i < rs.length
  ·have hi1 : (i : Int) < (rs.length : Int) := by omega
   obtain ⟨b1, o1, rfl, e1⟩ := M.rlR_at hrl hlt
   have hmem : rs[i] ∈ rs := List.getElem_mem hlt
   have hnc : M.StrR wr rs[i].vn rs[i].r.names /\ M.CdR wr rs[i].vc rs[i].r.conds := by obtain ⟨_, _, _, _, _, _, hr⟩ := hrl; exact hr _ hmem
   have hxo := HR.out.ok _ hmem
   have hxz := HR.out.no _ hmem
   have hxn := HR.out.nam _ hmem
   have HSt : Hid (verI z k a ((rs.drop i).map M.Xr.r) = if M.namedB z rs[i].r.names = true then (if endsH (decI rs[i].r) = true then decI rs[i].r else decI rs[i].r ++ verI z k a ((rs.drop (i + 1)).map M.Xr.r)) else verI z k a ((rs.drop (i + 1)).map M.Xr.r)) := ver_at hlt
   have hdl : (decI rs[i].r).length <= 141 := by have := decI_len rs[i].r; have := hxo.1; omega
   have HCx : Hid (∀ W, Below wr.heap.size wr W -> Calls Tryz.prog 115 #[rs[i].vn, .string nm] W fun e w' => e = .returned (.bool (M.namedB z rs[i].r.names)) /\ w' = W) := fun W hW => HCt.out W _ _ (hnc.1.below hW) (by omega)
   have HDx : Hid (∀ W, Below wr.heap.size wr W -> Calls Tryz.prog 184 #[.agg #[.int .i64 rs[i].r.k, .int .i64 rs[i].r.a, rs[i].vn, rs[i].vc]] W fun e w' => Tld W (decI rs[i].r) e w') := fun W hW => HD.out W _ _ _ _ _ (hnc.2.below hW) hxz hxo.2
   generalize M.namedB z rs[i].r.names = nb at *
   generalize decI rs[i].r = one at *
   obtain ⟨p3, c3, e3⟩ : ∃ p c, rs[i].vn = .slice p rs[i].r.names.length c := by obtain ⟨p, c, e, _⟩ := hnc.1; exact ⟨p, c, e⟩
   obtain ⟨p4, c4, e4⟩ : ∃ p c, rs[i].vc = .slice p rs[i].r.conds.length c := by obtain ⟨p, c, e, _⟩ := hnc.2; exact ⟨p, c, e⟩
   clear hmem hnc hxo hxn hrl
   generalize rs[i] = x at *
   obtain ⟨⟨xk, xa, ns, cs⟩, vn, vc⟩ := x
   obtain ⟨q0, q1, q2, q3⟩ := e1
   dsimp only at q0 q1 q2 q3 HCx HDx e3 e4
   subst e3 e4
   have BE : Hid (Below wr.heap.size wr (wr.alloc (Obj.cells #[.int .i64 xk, .int .i64 xa, .slice p3 ns.length c3, .slice p4 cs.length c4] 150))) := below_new wr _
   cases nb with
   | false =>
    go_wp2_with (first | (go_at_call 115; refine (HCx.out _ BE.out).mono ?_; rintro e w2 ⟨rfl, hw2⟩; subst w2))
    go_roundw
    case rel => exact ⟨i + 1, l, by go_num, hlt, by omega, by rw [HV.out, HSt.out, if_neg (by simp)], HO.out.alloc _, HBh.out.alloc HBh.out.size _⟩
    case measure => simp [intOf]; omega
   | true =>
    have OE : Hid ((wr.alloc (Obj.cells #[.int .i64 xk, .int .i64 xa, .slice p3 ns.length c3, .slice p4 cs.length c4] 150)).ownsRow X0.heap.size 156 4 (.slice a7 l.length q7) l.length (V.cellsI l)) := HO.out.alloc _
    have BXE : Hid (Below X0.heap.size X0 (wr.alloc (Obj.cells #[.int .i64 xk, .int .i64 xa, .slice p3 ns.length c3, .slice p4 cs.length c4] 150))) := HBh.out.alloc HBh.out.size _
    go_upto_region 8 with (first
     | (go_at_call 115; refine (HCx.out _ BE.out).mono ?_; rintro e w2 ⟨rfl, hw2⟩; subst w2)
     | (go_at_call 184; refine (HDx.out _ BE.out).mono ?_; rintro e w3 ⟨v3, rfl, o3, b3⟩))
    have B3h : Hid (Below X0.heap.size X0 w3) := BXE.out.trans (b3.mono BXE.out.size)
    have O3l := own_over OE.out b3
    have A3 : Apart (.slice a7 l.length q7) v3 := apart_late OE.out o3 (Nat.le_refl _)
    clear OE BXE b3 HO HBh HBw
    cases one with
    | nil =>
     have HZ : Hid (verI z k a (rs.map M.Xr.r) = (l ++ []) ++ verI z k a ((rs.drop (i + 1)).map M.Xr.r)) := by unfold Hid; rw [HV.out, HSt.out]; simp [endsH]
     obtain ⟨a10, q10, rfl⟩ := own_slice o3
     go_wp2_with (first | (at_builtin; refine app_rows rfl (.tmp 30) (.tmp 31) rfl X0.heap.size _ _ l rfl O3l _ _ _ [] rfl o3 (by simp only [List.length_nil]; omega) B3h.out.size ?_; intro v4 w4 hG; go_frame))
     go_roundw
     case rel => exact ⟨i + 1, l ++ [], by go_num, hlt, by simp only [List.append_nil]; omega, HZ.out, by rw [List.length_append]; exact hG.own, hG.below O3l B3h.out B3h.out.size⟩
     case measure => simp [intOf]; omega
    | cons y r =>
     rcases o3.2 with ⟨_, h0⟩ | ⟨g, cap, cur, rfl, hrest⟩
     ·rw [List.length_cons] at h0; omega
     ·clear hrest
      have HEe : Hid (endsH (y :: r) = V.isIn V.endL y.c) := rfl
      have HEy : Hid (∀ W, Calls Tryz.prog 129 #[.int .u16 y.c] W fun e w' => e = .returned (.bool (V.isIn V.endL y.c)) /\ w' = W) := HE.out y.c
      have hnl : (0 : Int) < ((y :: r).length : Int) := by rw [List.length_cons]; omega
      have hdl2 : (y :: r).length <= 141 := hdl
      have Hdl : Hid ((y :: r).length <= 141) := hdl
      generalize V.isIn V.endL y.c = eb at *
      have HY : Hid (∀ (W : World) (X : Nat), W.ownsRow X 156 4 (.slice (some ⟨g, 0, none⟩) (y :: r).length cap) (y :: r).length (V.cellsI (y :: r)) -> W.cell? ⟨g, 0, none⟩ = some (.int .u16 y.c)) := fun W X h => by
       have := h.cells (g := g) rfl 0 (.int .u16 y.c) rfl
       rw [Addr.add_lit] at this
       exact this
      obtain ⟨N1, hN1⟩ : ∃ N1, (y :: r).length = N1 := ⟨_, rfl⟩
      rw [hN1] at o3 A3 hnl hdl2 HY
      cases eb with
      | true =>
       have HZ : Hid (verI z k a (rs.map M.Xr.r) = l ++ (y :: r)) := by unfold Hid; rw [HV.out, HSt.out, HEe.out]; simp
       rw [hN1]
       go_wp2_with (first | (at_builtin; refine app_rows rfl (.tmp 30) (.tmp 31) rfl X0.heap.size _ _ l rfl O3l _ _ _ (y :: r) rfl o3 (by omega) B3h.out.size ?_; intro v4 w4 hG; have y0 := HY.out _ _ (hG.kept o3 A3).1; go_frame) | (go_at_call 129; refine (HEy.out _).mono ?_; rintro e w5 ⟨rfl, hw5⟩; subst w5))
       go_ret
       exact ⟨_, rfl, by rw [HZ.out, List.length_append, hN1]; exact P.owns_lower hG.own HB0.out.size, (HX.out _ (hG.below O3l B3h.out B3h.out.size)).2.2.2.2⟩
      | false =>
       have HZ : Hid (verI z k a (rs.map M.Xr.r) = (l ++ (y :: r)) ++ verI z k a ((rs.drop (i + 1)).map M.Xr.r)) := by unfold Hid; rw [HV.out, HSt.out, HEe.out]; simp
       rw [hN1]
       go_wp2_with (first | (at_builtin; refine app_rows rfl (.tmp 30) (.tmp 31) rfl X0.heap.size _ _ l rfl O3l _ _ _ (y :: r) rfl o3 (by omega) B3h.out.size ?_; intro v4 w4 hG; have y0 := HY.out _ _ (hG.kept o3 A3).1; go_frame) | (go_at_call 129; refine (HEy.out _).mono ?_; rintro e w5 ⟨rfl, hw5⟩; subst w5))
       go_roundw
       case rel => exact ⟨i + 1, l ++ (y :: r), by go_num, hlt, by rw [List.length_append, hN1]; omega, HZ.out, by rw [List.length_append, hN1]; exact hG.own, hG.below O3l B3h.out B3h.out.size⟩
       case measure => simp [intOf]; omega
  ·have hi1 : ¬ (i : Int) < (rs.length : Int) := by omega
   have HZ : Hid (verI z k a (rs.map M.Xr.r) = l ++ [⟨6, 0, 0, A.valZ k a⟩]) := by unfold Hid; rw [HV.out, ver_end hlt]; rfl
   generalize A.valZ k a = va at *
   clear hrl
   go_wp2_with (first
    | (go_at_call 75; refine (HA.out _).mono ?_; rintro e w3 ⟨rfl, b3⟩; have O3 := own_over HO.out b3; have B3 := HBh.out.trans (b3.mono HBh.out.size))
    | (at_builtin; refine app_rows rfl (.tmp 45) (.tmp 49) rfl X0.heap.size _ _ l rfl (O3.alloc _) X0.heap.size _ 1 [⟨6, 0, 0, va⟩] rfl (own_in w3 _ B3.size 6 0 0 va _ rfl) (by omega) (by have := B3.size; simp; omega) ?_; intro v4 w4 hG; go_frame))
   go_ret
   exact ⟨_, rfl, by rw [HZ.out, List.length_append]; exact P.owns_lower hG.own HB0.out.size, (HX.out _ (hG.below (O3.alloc _) (B3.alloc B3.size _) (by have := B3.size; simp; omega))).2.2.2.2⟩
theorem fork_any (z : Int) (w : World) (b1 b2 : Nat) (u1 u2 : Value) (l1 l2 : List V.In) (h1 : w.ownsRow b1 156 4 u1 l1.length (V.cellsI l1)) (h2 : w.ownsRow b2 156 4 u2 l2.length (V.cellsI l2)) (hl : l1.length + l2.length <= 90000) :
  Calls Tryz.prog 153 #[.int .u32 z, u1, u2] w fun e w' => Tld w (forkI z l1 l2) e w' := by
 have HJ : Hid (∀ c k t f W, 0 <= t /\ t <= 255 -> 0 <= f /\ f <= 255 -> Calls Tryz.prog 182 #[.int .u16 c, .int .u32 k, .int .i64 t, .int .i64 f] W fun e w' => e = .returned (.agg (cI ⟨c, t, f, k⟩)) /\ Below W.heap.size W w') := jump_any
 unfold cI at HJ
 dsimp only at HJ
 have H1 : Hid (∀ W, Below w.heap.size w W -> W.ownsRow b1 156 4 u1 l1.length (V.cellsI l1)) := fun W hW => own_over h1 hW
 have H2 : Hid (∀ W, Below w.heap.size w W -> W.ownsRow b2 156 4 u2 l2.length (V.cellsI l2)) := fun W hW => own_over h2 hW
 obtain ⟨a1, c1, rfl⟩ := own_slice h1
 obtain ⟨a2, c2, rfl⟩ := own_slice h2
 clear h1 h2
 by_cases hs : l1.length <= 255
 ·have HF : Hid (forkI z l1 l2 = ([] ++ [⟨53, (l1.length : Int), 0, z⟩]) ++ l1 ++ l2) := by unfold Hid forkI; rw [if_pos hs, List.nil_append, List.append_assoc]
  have hs1 : (l1.length : Int) <= 255 := by omega
  generalize forkI z l1 l2 = FL at *
  go_enter Tryz.func153, Tryz.ntmps153
  go_wp2_with (first
   | (go_at_call 182; refine (HJ.out _ _ _ _ _ (by omega) (by omega)).mono ?_; rintro e w3 ⟨rfl, b3⟩)
   | (at_builtin; refine app_rows rfl (.tmp 11) (.tmp 16) rfl w.heap.size _ 0 [] rfl (own_nil _ _) w.heap.size _ 1 [⟨53, (l1.length : Int), 0, z⟩] rfl (own_in w3 _ b3.size 53 _ 0 z _ rfl) (by decide) (by have := b3.size; simp; omega) ?_; intro v4 w4 hG4; have B4 : Below w.heap.size w w4 := hG4.below (own_nil _ _) (b3.alloc b3.size _) (by have := b3.size; simp; omega); go_frame)
   | (at_builtin; refine app_rows rfl (.tmp 27) (.tmp 28) rfl w.heap.size _ _ _ rfl hG4.own _ _ _ l1 rfl (H1.out _ B4) (by omega) B4.size ?_; intro v5 w5 hG5; have B5 : Below w.heap.size w w5 := hG5.below hG4.own B4 B4.size; go_frame)
   | (at_builtin; refine app_rows rfl (.tmp 30) (.tmp 31) rfl w.heap.size _ _ _ rfl hG5.own _ _ _ l2 rfl (H2.out _ B5) (by omega) B5.size ?_; intro v6 w6 hG6; go_frame))
  go_ret
  exact ⟨_, rfl, by rw [HF.out, List.length_append, List.length_append, List.length_append]; exact hG6.own, hG6.below hG5.own B5 B5.size⟩
 ·have HF : Hid (forkI z l1 l2 = ([] ++ [⟨53, 0, 1, z⟩, ⟨5, 0, 0, (l1.length : Int)⟩]) ++ l1 ++ l2) := by unfold Hid forkI; rw [if_neg hs, List.nil_append, List.append_assoc]
  have hs1 : ¬ (l1.length : Int) <= 255 := by omega
  have eu : IntKind.u32.wrap (l1.length : Int) = (l1.length : Int) := by rw [IntKind.wrap_u32]; omega
  generalize forkI z l1 l2 = FL at *
  go_enter Tryz.func153, Tryz.ntmps153
  go_wp2_with (first
   | (go_at_call 182; refine (HJ.out _ _ _ _ _ (by omega) (by omega)).mono ?_; rintro e w3 ⟨rfl, b3⟩)
   | (at_builtin; refine app_rows rfl (.tmp 18) (.tmp 25) rfl w.heap.size _ 0 [] rfl (own_nil _ _) w.heap.size _ 2 [⟨53, 0, 1, z⟩, ⟨5, 0, 0, (l1.length : Int)⟩] rfl (own_in2 w3 _ b3.size 53 0 1 z 5 0 0 _ _ rfl) (by decide) (by have := b3.size; simp; omega) ?_; intro v4 w4 hG4; have B4 : Below w.heap.size w w4 := hG4.below (own_nil _ _) (b3.alloc b3.size _) (by have := b3.size; simp; omega); go_frame)
   | (at_builtin; refine app_rows rfl (.tmp 27) (.tmp 28) rfl w.heap.size _ _ _ rfl hG4.own _ _ _ l1 rfl (H1.out _ B4) (by omega) B4.size ?_; intro v5 w5 hG5; have B5 : Below w.heap.size w w5 := hG5.below hG4.own B4 B4.size; go_frame)
   | (at_builtin; refine app_rows rfl (.tmp 30) (.tmp 31) rfl w.heap.size _ _ _ rfl hG5.own _ _ _ l2 rfl (H2.out _ B5) (by omega) B5.size ?_; intro v6 w6 hG6; go_frame))
  go_ret
  exact ⟨_, rfl, by rw [HF.out, List.length_append, List.length_append, List.length_append]; exact hG6.own, hG6.below hG5.own B5 B5.size⟩
theorem miss_any (X : World) (b : Nat) (k a : Int) (v vz vm : Value) (f t : Int) (h : F.D.Blk X b 162 [.int .i64 k, .int .i64 a, v, vz, vm]) :
  Calls Tryz.prog 123 #[.pointer (some ⟨b, 0, none⟩), .int .i64 f, .int .i64 t] X fun e w' => Tld X [ansI k a] e w' := by
 have HA : Hid (∀ W, Calls Tryz.prog 75 #[.agg #[.int .i64 k, .int .i64 a]] W fun e w' => e = .returned (.agg (cI (ansI k a))) /\ Below W.heap.size W w') := answer_any k a
 unfold ansI cI at *
 dsimp only at *
 generalize A.valZ k a = va at *
 have c0 := h.cell 0
 have c1 := h.cell 1
 go_enter Tryz.func123, Tryz.ntmps123
 go_wp2_with (first | (go_at_call 75; refine (HA.out _).mono ?_; rintro e w3 ⟨rfl, b3⟩))
 go_ret
 exact ⟨_, rfl, own_in w3 _ b3.size 6 0 0 va _ rfl, b3.alloc b3.size _⟩
theorem meet_of (hT : DecC) (X : World) (b : Nat) (k a : Int) (v vz vm : Value) (rs : List M.Xr) (ns : List Int) (i : Nat) (t : Int) (hblk : F.D.Blk X b 162 [.int .i64 k, .int .i64 a, v, vz, vm]) (hrl : M.RlR X v rs) (hnz : M.NzR X vz ns) (hR : Rok rs) (hi : i < ns.length) :
  Calls Tryz.prog 124 #[.pointer (some ⟨b, 0, none⟩), .int .i64 i, .int .i64 t] X fun e w' => Tld X ([⟨21, 1, 0, ns.getD i 0⟩, ansI k a] ++ verI (ns.getD i 0) k a (rs.map M.Xr.r)) e w' := by
 have HA : Hid (∀ W, Calls Tryz.prog 75 #[.agg #[.int .i64 k, .int .i64 a]] W fun e w' => e = .returned (.agg (cI (ansI k a))) /\ Below W.heap.size W w') := answer_any k a
 obtain ⟨p1, q1, rfl, hq1, hq2, hcz⟩ := hnz
 obtain ⟨zb, zo, rfl, hz⟩ := hcz (by omega)
 have hzi := hz i (ns.getD i 0) (by rw [List.getD_eq_getElem?_getD, List.getElem?_eq_getElem hi]; rfl)
 have HV : Hid (∀ W, Below X.heap.size X W -> Calls Tryz.prog 154 #[.agg #[.int .i64 k, .int .i64 a, v], .int .u32 (ns.getD i 0)] W fun e w' => Tld W (verI (ns.getD i 0) k a (rs.map M.Xr.r)) e w') := fun W hW => verdict_of hT W _ k a v rs (hrl.below hW) hR
 have HVl : Hid ((verI (ns.getD i 0) k a (rs.map M.Xr.r)).length <= 20000) := by
  have h1 := ver_len (ns.getD i 0) k a (rs.map M.Xr.r)
  have h2 : ∀ l : List M.Xr, (∀ x ∈ l, Xok x.r) -> lenR (ns.getD i 0) (l.map M.Xr.r) <= l.length * 141 := by
   intro l
   induction l with
   | nil => intro _; exact Nat.le_refl _
   | cons x r ih =>
    intro hx
    have h3 := ih fun y hy => hx y (List.mem_cons_of_mem _ hy)
    have h4 := (hx x (List.mem_cons_self ..)).1
    rw [List.map_cons, lenR_cons, List.length_cons]
    split <;> omega
  have h3 := h2 rs hR.ok
  have h4 := hR.len
  unfold Hid
  omega
 have HB : Hid (F.D.Blk X b 162 [.int .i64 k, .int .i64 a, v, .slice (some ⟨zb, zo, none⟩) ns.length q1, vm]) := hblk
 obtain ⟨pv, cv, rfl⟩ : ∃ p c, v = .slice p rs.length c := by obtain ⟨p, c, e, _⟩ := hrl; exact ⟨p, c, e⟩
 have hi1 : (i : Int) < (ns.length : Int) := by omega
 unfold ansI cI at *
 dsimp only at *
 clear hblk hrl hR hT hz hq2 hcz
 generalize verI (ns.getD i 0) k a (rs.map M.Xr.r) = VI at *
 generalize A.valZ k a = va at *
 generalize ns.getD i 0 = z at *
 obtain ⟨GL, hGL⟩ : ∃ GL : List V.In, [⟨21, 1, 0, z⟩, ⟨6, 0, 0, va⟩] ++ VI = GL := ⟨_, rfl⟩
 rw [hGL]
 have HGL : Hid ([⟨21, 1, 0, z⟩, ⟨6, 0, 0, va⟩] ++ VI = GL) := hGL
 clear hGL
 have c0 := HB.out.cell 0
 have c1 := HB.out.cell 1
 have c2 := HB.out.cell 2
 have c3 := HB.out.cell 3
 go_enter Tryz.func124, Tryz.ntmps124
 go_wp2_with (first
  | (go_at_call 75; refine (HA.out _).mono ?_; rintro e w3 ⟨rfl, b3⟩; have B4 : Below X.heap.size X (w3.alloc (Obj.cells #[.int .u16 21, .int .u8 1, .int .u8 0, .int .u32 z, .int .u16 6, .int .u8 0, .int .u8 0, .int .u32 va] 156)) := b3.alloc b3.size _; have O4 := own_in2 w3 X.heap.size b3.size 21 1 0 z 6 0 0 va _ rfl; have d0 := (HB.out.over B4).cell 0; have d1 := (HB.out.over B4).cell 1; have d2 := (HB.out.over B4).cell 2)
  | (go_at_call 154; refine (HV.out _ B4).mono ?_; rintro e w5 ⟨v5, rfl, o5, b5⟩; have O5 := own_over O4 b5; have B5 := B4.trans (b5.mono B4.size))
  | (at_builtin; refine app_rows rfl (.tmp 25) (.tmp 31) rfl X.heap.size _ 2 _ rfl O5 _ _ _ VI rfl o5 (by have := HVl.out; omega) B5.size ?_; intro v6 w6 hG6; go_frame))
 go_ret
 exact ⟨_, rfl, by rw [<- HGL.out, List.length_append]; exact hG6.own, hG6.below O5 B5 B5.size⟩
end Go.Proofs.YtmcgcbgblgmmkaaGreatDoor
