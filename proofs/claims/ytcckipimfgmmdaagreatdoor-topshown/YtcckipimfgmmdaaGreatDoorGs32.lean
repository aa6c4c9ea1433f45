/-
  KProg KMem KSmall.
-/
import Derived.Test.YtcckipimfgmmdaaGreatDoorGs30
import Derived.Test.YtcckipimfgmmdaaGreatDoorGs18
import Derived.Test.YtcckipimfgmmdaaGreatDoorGs31
import Derived.Test.YtcckipimfgmmdaaGreatDoorGs28
set_option maxHeartbeats 1000000
namespace Go.Proofs.YtcckipimfgmmdaaGreatDoor
open Go.RowKit
def forkI (z : Int) (a b : List V.In) : List V.In :=
 (if a.length <= 255 then [⟨53, (a.length : Nat), 0, z⟩] else [⟨53, 0, 1, z⟩, ⟨5, 0, 0, (a.length : Nat)⟩]) ++ (a ++ b)
def amG (ns : List Int) (F : Int -> List V.In) (e : V.In) : Nat -> Nat -> Nat -> List V.In
 | 0, a, _ => [⟨21, 1, 0, ns.getD a 0⟩, e] ++ F (ns.getD a 0)
 | n + 1, a, b => if b - a < 2 then [⟨21, 1, 0, ns.getD a 0⟩, e] ++ F (ns.getD a 0) else forkI (ns.getD (T.mid a b) 0) (amG ns F e n a (T.mid a b)) (amG ns F e n (T.mid a b) b)
theorem amG_more (ns : List Int) (F : Int -> List V.In) (e : V.In) (k : Nat) : ∀ j a b, b - a <= k -> b - a <= j -> amG ns F e k a b = amG ns F e j a b := by
 induction k with
 | zero =>
  intro j a b h1 _
  cases j with
  | zero => rfl
  | succ j => unfold amG; rw [if_pos (by omega)]
 | succ k ih =>
  intro j a b h1 h2
  cases j with
  | zero => unfold amG; rw [if_pos (by omega)]
  | succ j =>
   unfold amG
   split
   ·rfl
   ·have := T.mid_lt (a := a) (b := b) (by omega)
    rw [ih j a _ (by omega) (by omega), ih j _ b (by omega) (by omega)]
def amI (ns : List Int) (F : Int -> List V.In) (e : V.In) (a b : Nat) : List V.In := if b - a = 0 then [e] else amG ns F e (b - a) a b
theorem am_none {ns : List Int} {F : Int -> List V.In} {e : V.In} {a b : Nat} (h : b - a = 0) : amI ns F e a b = [e] := by unfold amI; rw [if_pos h]
theorem am_one {ns : List Int} {F : Int -> List V.In} {e : V.In} {a b : Nat} (h : b - a = 1) : amI ns F e a b = [⟨21, 1, 0, ns.getD a 0⟩, e] ++ F (ns.getD a 0) := by
 unfold amI
 rw [if_neg (by omega), h]
 show (if b - a < 2 then _ else _) = _
 rw [if_pos (by omega)]
theorem am_two {ns : List Int} {F : Int -> List V.In} {e : V.In} {a b : Nat} (h : 2 <= b - a) : amI ns F e a b = forkI (ns.getD (T.mid a b) 0) (amI ns F e a (T.mid a b)) (amI ns F e (T.mid a b) b) := by
 have hm := T.mid_lt h
 unfold amI
 rw [if_neg (by omega), if_neg (by omega), if_neg (by omega)]
 obtain ⟨n, hn⟩ : ∃ n, b - a = n + 1 := ⟨b - a - 1, by omega⟩
 rw [hn]
 show (if b - a < 2 then _ else _) = _
 rw [if_neg (by omega), amG_more ns F e n (T.mid a b - a) a _ (by omega) (by omega), amG_more ns F e n (b - T.mid a b) _ b (by omega) (by omega)]
theorem fork_run (d : V.Da) (z : Int) (a b : List V.In) (s : V.St) (r : List V.In) : ∃ n, n <= 2 /\
  ex d (forkI z a b ++ r) 0 s = if z <= s.a then ((ex d (b ++ r) 0 s).1 + n, (ex d (b ++ r) 0 s).2) else ((ex d (a ++ (b ++ r)) 0 s).1 + n, (ex d (a ++ (b ++ r)) 0 s).2) := by
 unfold forkI
 have happ := ex_app d a (b ++ r) 0 s
 rw [Nat.add_zero] at happ
 by_cases h : a.length <= 255
 ·rw [if_pos h]
  refine ⟨1, by decide, ?_⟩
  show ex d (⟨53, (a.length : Nat), 0, z⟩ :: ((a ++ b) ++ r)) 0 s = _
  have := ex_jump d 53 z a.length 0 ((a ++ b) ++ r) s (.inr (.inr rfl))
  rw [show ((0 : Nat) : Int) = 0 from rfl] at this
  rw [this, holds53, List.append_assoc]
  by_cases hz : z <= s.a
  ·rw [if_pos hz, if_pos (by simpa using hz), happ]
  ·rw [if_neg hz, if_neg (by simpa using hz)]
 ·rw [if_neg h]
  by_cases hz : z <= s.a
  ·refine ⟨2, by decide, ?_⟩
   show ex d (⟨53, 0, 1, z⟩ :: ⟨5, 0, 0, (a.length : Nat)⟩ :: ((a ++ b) ++ r)) 0 s = _
   have := ex_jump d 53 z 0 1 (⟨5, 0, 0, (a.length : Nat)⟩ :: ((a ++ b) ++ r)) s (.inr (.inr rfl))
   rw [show ((0 : Nat) : Int) = 0 from rfl, show ((1 : Nat) : Int) = 1 from rfl] at this
   rw [this, holds53, if_pos hz, if_pos (by simpa using hz), ex_ja, List.append_assoc, happ]
  ·refine ⟨1, by decide, ?_⟩
   show ex d (⟨53, 0, 1, z⟩ :: ⟨5, 0, 0, (a.length : Nat)⟩ :: ((a ++ b) ++ r)) 0 s = _
   have := ex_jump d 53 z 0 1 (⟨5, 0, 0, (a.length : Nat)⟩ :: ((a ++ b) ++ r)) s (.inr (.inr rfl))
   rw [show ((0 : Nat) : Int) = 0 from rfl, show ((1 : Nat) : Int) = 1 from rfl] at this
   rw [this, holds53, if_neg hz, if_neg (by simpa using hz), ex_succ, List.append_assoc]
theorem am_run (d : V.Da) (ns : List Int) (F : Int -> List V.In) (e : V.In) (s : V.St) (r : List V.In) (k : Nat) : ∀ a b, a < b -> b <= ns.length -> b - a <= 2 ^ k ->
  (a = 0 \/ ns.getD a 0 <= s.a) -> (b = ns.length \/ s.a < ns.getD b 0) ->
  ∃ p n r', n <= 2 * k /\ T.Ends ns s.a p /\ ex d (amI ns F e a b ++ r) 0 s = ((ex d ([⟨21, 1, 0, ns.getD p 0⟩, e] ++ F (ns.getD p 0) ++ r') 0 s).1 + n, (ex d ([⟨21, 1, 0, ns.getD p 0⟩, e] ++ F (ns.getD p 0) ++ r') 0 s).2) := by
 induction k generalizing r with
 | zero =>
  intro a b h1 h2 h3 h4 h5
  have hb : b = a + 1 := by
   rw [Nat.pow_zero] at h3
   omega
  subst hb
  refine ⟨a, 0, r, by omega, ⟨by omega, h4.symm, h5⟩, ?_⟩
  rw [am_one (by omega)]
  rfl
 | succ k ih =>
  intro a b h1 h2 h3 h4 h5
  by_cases h6 : b - a < 2
  ·have hb : b = a + 1 := by omega
   subst hb
   refine ⟨a, 0, r, by omega, ⟨by omega, h4.symm, h5⟩, ?_⟩
   rw [am_one (by omega)]
   rfl
  ·have hm := T.mid_lt (a := a) (b := b) (by omega)
   have hp : 2 ^ (k + 1) = 2 * 2 ^ k := by rw [Nat.pow_succ]; omega
   rw [am_two (by omega)]
   obtain ⟨n, hn, hx⟩ := fork_run d (ns.getD (T.mid a b) 0) (amI ns F e a (T.mid a b)) (amI ns F e (T.mid a b) b) s r
   rw [hx]
   by_cases hz : ns.getD (T.mid a b) 0 <= s.a
   ·rw [if_pos hz]
    obtain ⟨p, n2, r', q1, q2, q3⟩ := ih r (T.mid a b) b hm.2 h2 (by have : T.mid a b = a + (b - a) / 2 := rfl; omega) (.inr hz) h5
    refine ⟨p, n2 + n, r', by omega, q2, ?_⟩
    rw [q3]
    exact congrArg (fun z => (z, _)) (by omega)
   ·rw [if_neg hz]
    obtain ⟨p, n2, r', q1, q2, q3⟩ := ih (amI ns F e (T.mid a b) b ++ r) a (T.mid a b) hm.1 (by omega) (by have : T.mid a b = a + (b - a) / 2 := rfl; omega) h4 (.inr (by omega))
    refine ⟨p, n2 + n, r', by omega, q2, ?_⟩
    rw [q3]
    exact congrArg (fun z => (z, _)) (by omega)
theorem am_len (ns : List Int) (F : Int -> List V.In) (e : V.In) (L : Int -> Nat) (hF : ∀ z, (F z).length <= L z) (k : Nat) : ∀ a b, a < b -> b <= ns.length -> b - a <= k ->
  2 <= (amI ns F e a b).length /\ (amI ns F e a b).length + 2 <= (((ns.drop a).take (b - a)).map fun z => L z + 4).sum := by
 induction k with
 | zero => intro a b h1 _ h3; omega
 | succ k ih =>
  intro a b h1 h2 h3
  by_cases h6 : b - a < 2
  ·have hb : b - a = 1 := by omega
   rw [am_one hb, hb]
   have hd : (ns.drop a).take 1 = [ns.getD a 0] := by
    rw [List.drop_eq_getElem_cons (by omega), List.take_succ_cons, List.take_zero]
    rw [List.getD_eq_getElem?_getD, List.getElem?_eq_getElem (by omega)]
    rfl
   rw [hd]
   have := hF (ns.getD a 0)
   simp only [List.length_append, List.length_cons, List.length_nil, List.map_cons, List.map_nil, List.sum_cons, List.sum_nil]
   omega
  ·have hm := T.mid_lt (a := a) (b := b) (by omega)
   rw [am_two (by omega)]
   have i1 := ih a (T.mid a b) hm.1 (by omega) (by omega)
   have i2 := ih (T.mid a b) b hm.2 h2 (by omega)
   have hd : (ns.drop a).take (b - a) = (ns.drop a).take (T.mid a b - a) ++ (ns.drop (T.mid a b)).take (b - T.mid a b) := by
    rw [show b - a = (T.mid a b - a) + (b - T.mid a b) from by omega, List.take_add, List.drop_drop, show a + (T.mid a b - a) = T.mid a b from by omega]
   rw [hd, List.map_append, List.sum_append]
   unfold forkI
   rw [List.length_append, List.length_append]
   split
   ·simp only [List.length_cons, List.length_nil]; omega
   ·simp only [List.length_cons, List.length_nil]; omega
theorem am_gd (ns : List Int) (F : Int -> List V.In) (e : V.In) (hn : ∀ z ∈ ns, V.U32 z) (he : ∀ b, Gd b [e]) (hF : ∀ z b, Gd b (F z)) (hF0 : ∀ z, 0 < (F z).length) (hbig : ∀ a b, a < b -> b <= ns.length -> (amI ns F e a b).length <= 4294967295) (k : Nat) (m : Nat) : ∀ a b, b <= ns.length -> b - a <= k -> Gd m (amI ns F e a b) := by
 induction k generalizing m with
 | zero => intro a b _ h; rw [am_none (by omega)]; exact he m
 | succ k ih =>
  intro a b h2 h3
  by_cases h0 : b - a = 0
  ·rw [am_none h0]; exact he m
  ·by_cases h6 : b - a < 2
   ·rw [am_one (by omega)]
    have hu : V.U32 (ns.getD a 0) := by
     rw [List.getD_eq_getElem?_getD, List.getElem?_eq_getElem (by omega)]
     exact hn _ (List.getElem_mem _)
    refine Gd.app (a := [⟨21, 1, 0, ns.getD a 0⟩, e]) ?_ (hF _ _)
    have h1 := hF0 (ns.getD a 0)
    exact Gd.app (a := [⟨21, 1, 0, ns.getD a 0⟩]) (b := [e]) (jump_gd 21 _ 1 0 _ (.inl rfl) (by decide) (by decide) hu (by first | (simp only [List.length_nil]; omega) | (simp only [List.length_cons, List.length_nil]; omega) | (simp only [List.length_nil, List.length_append, List.length_cons]; omega) | (simp only [List.length_nil]; omega) | (simp only [List.length_nil, List.length_append]; omega)) (by first | (simp only [List.length_nil]; omega) | (simp only [List.length_cons, List.length_nil]; omega) | (simp only [List.length_nil, List.length_append, List.length_cons]; omega) | (simp only [List.length_nil]; omega) | (simp only [List.length_nil, List.length_append]; omega))) (he _)
   ·have hm := T.mid_lt (a := a) (b := b) (by omega)
    rw [am_two (by omega)]
    have hu : V.U32 (ns.getD (T.mid a b) 0) := by
     rw [List.getD_eq_getElem?_getD, List.getElem?_eq_getElem (by omega)]
     exact hn _ (List.getElem_mem _)
    have i1 := ih ((amI ns F e (T.mid a b) b).length + m) a (T.mid a b) (by omega) (by omega)
    have i2 := ih m (T.mid a b) b h2 (by omega)
    have hb1 := hbig a (T.mid a b) hm.1 (by omega)
    have hl2 : 0 < (amI ns F e (T.mid a b) b).length := (am_len ns F e (fun z => (F z).length) (fun _ => Nat.le_refl _) _ (T.mid a b) b hm.2 h2 (Nat.le_refl _)).1 |> fun h => by omega
    unfold forkI
    refine Gd.app ?_ (Gd.app i1 i2)
    rw [List.length_append]
    generalize (amI ns F e a (T.mid a b)).length = x at *
    generalize (amI ns F e (T.mid a b) b).length = y at *
    split
    ·exact jump_gd 53 _ x 0 _ (.inr (.inr rfl)) (by omega) (by omega) hu (by omega) (by omega)
    ·refine Gd.app (a := [⟨53, 0, 1, ns.getD (T.mid a b) 0⟩]) (b := [⟨5, 0, 0, (x : Nat)⟩]) (jump_gd 53 _ 0 1 _ (.inr (.inr rfl)) (by decide) (by decide) hu (by first | (simp only [List.length_nil]; omega) | (simp only [List.length_cons, List.length_nil]; omega) | (simp only [List.length_nil, List.length_append, List.length_cons]; omega) | (simp only [List.length_nil]; omega) | (simp only [List.length_nil, List.length_append]; omega)) (by first | (simp only [List.length_nil]; omega) | (simp only [List.length_cons, List.length_nil]; omega) | (simp only [List.length_nil, List.length_append, List.length_cons]; omega) | (simp only [List.length_nil]; omega) | (simp only [List.length_nil, List.length_append]; omega))) ?_
     exact ⟨⟨u32_ok (c := 5) (k := (x : Int)) (t := 0) (f := 0) (by decide) (by decide) (by decide) ⟨by omega, by omega⟩, fault_ja x _ (by first | (simp only [List.length_nil]; omega) | (simp only [List.length_cons, List.length_nil]; omega) | (simp only [List.length_nil, List.length_append, List.length_cons]; omega) | (simp only [List.length_nil]; omega) | (simp only [List.length_nil, List.length_append]; omega))⟩, trivial⟩
theorem rises_of {ts : List Int} (h : M.Rise ts) : T.rises ts = true := by
 unfold T.rises
 rw [decide_eq_true_iff]
 intro i hi
 have := List.pairwise_iff_getElem.1 h i (i + 1) (by omega) (by omega) (by omega)
 rw [List.getD_eq_getElem?_getD, List.getD_eq_getElem?_getD, List.getElem?_eq_getElem (by omega), List.getElem?_eq_getElem (by omega)]
 exact this
def bodI (ns : List Int) (k a : Int) (l : List P.Xl) : List V.In := amI ns (fun z => verI z k a l) (ansI k a) 0 ns.length
def progI (ns : List Int) (k a : Int) (l : List P.Xl) : List V.In := [⟨32, 0, 0, 4⟩, ⟨21, 1, 0, 3221225534⟩, ⟨6, 0, 0, 2147483648⟩, ⟨32, 0, 0, 0⟩] ++ bodI ns k a l
structure Nrs (ns : List Int) (l : List P.Xr) : Prop where
 rise : M.Rise ns
 mem : ∀ z, z ∈ ns ↔ z ∈ M.numsR l
theorem Nrs.tab {ns : List Int} {l : List P.Xr} (h : Nrs ns l) {z : Int} (hz : z ∈ ns) : z ∈ M.tabI := M.numsR_tab ((h.mem z).1 hz)
theorem Nrs.nodup {ns : List Int} {l : List P.Xr} (h : Nrs ns l) : ns.Nodup := List.Pairwise.imp (fun hab e => by omega) h.rise
theorem Nrs.len {ns : List Int} {l : List P.Xr} (h : Nrs ns l) : ns.length <= 30 := M.tabI_len ▸ M.nodup_le ns M.tabI h.nodup fun _ hz => h.tab hz
theorem tabI_u {z : Int} (h : z ∈ M.tabI) : V.U32 z /\ M.isNr z = true := by
 have key : ∀ z ∈ M.tabI, (0 <= z /\ z <= 4294967295) /\ M.isNr z = true := by decide +kernel
 exact key z h
theorem nums_of_named {ns : List Int} {l : List P.Xr} (h : Nrs ns l) {z : Int} (hz : M.isNr z = true) {x : P.Xr} (hx : x ∈ l) (hn : M.namedB z x.r.names = true) : z ∈ ns := by
 rw [h.mem]
 unfold M.namedB at hn
 obtain ⟨s, hs, he⟩ := List.any_eq_true.1 hn
 have h2 := M.spk z s
 rw [hz, he] at h2
 have h3 : (M.knB s && (M.nrI s == z)) = true := h2.symm
 simp only [Bool.and_eq_true, beq_iff_eq] at h3
 refine List.mem_flatMap.2 ⟨x, hx, ?_⟩
 unfold M.nums
 exact List.mem_map.2 ⟨s, List.mem_filter.2 ⟨hs, h3.1⟩, h3.2⟩
theorem named_of_nums {ns : List Int} {l : List P.Xr} (h : Nrs ns l) {z : Int} (hz : z ∈ ns) : ∃ x ∈ l, M.namedB z x.r.names = true := by
 have hn := (tabI_u (h.tab hz)).2
 rw [h.mem] at hz
 obtain ⟨x, hx, h2⟩ := List.mem_flatMap.1 hz
 refine ⟨x, hx, ?_⟩
 unfold M.nums at h2
 obtain ⟨s, hs, e⟩ := List.mem_map.1 h2
 obtain ⟨hs1, hs2⟩ := List.mem_filter.1 hs
 unfold M.namedB
 refine List.any_eq_true.2 ⟨s, hs1, ?_⟩
 have h3 := M.spk z s
 rw [hn, hs2, Bool.true_and, e] at h3
 simpa using h3
theorem verd_none (d : V.Da) (k a : Int) : ∀ (l : List P.Xl), (∀ x ∈ l, M.namedB d.n x.names = false) -> M.verdF d k a l = (k, a)
 | [], _ => rfl
 | x :: l, h => by
  unfold M.verdF M.meetB
  rw [h x (List.mem_cons_self ..), Bool.false_and, if_neg (by decide)]
  exact verd_none d k a l fun y hy => h y (List.mem_cons_of_mem _ hy)
theorem bod_run (d : V.Da) (hd : d.ok) (ns : List Int) (k a : Int) (l : List P.Xr) (h : Nrs ns l) (hl : ∀ x ∈ l, Xok x.r) (s : V.St) (hs : s.a = d.n) :
  ∃ n, n <= 13 + mostR d.n (l.map P.Xr.r) /\ ex (toV d) (bodI ns k a (l.map P.Xr.r)) 0 s = (n, A.valZ (M.verdP d k a (l.map P.Xr.r)).1 (M.verdP d k a (l.map P.Xr.r)).2) := by
 have hlm : ∀ x ∈ l.map P.Xr.r, Xok x := fun x hx => by obtain ⟨y, hy, rfl⟩ := List.mem_map.1 hx; exact hl y hy
 have hno : d.n ∉ ns -> M.verdP d k a (l.map P.Xr.r) = (k, a) := fun hn => by
  unfold M.verdP
  cases hz : M.isNr d.n with
  | false => rw [if_neg (by decide)]
  | true =>
   rw [if_pos rfl]
   refine verd_none d k a _ fun x hx => ?_
   obtain ⟨y, hy, rfl⟩ := List.mem_map.1 hx
   cases hq : M.namedB d.n y.r.names with
   | false => rfl
   | true => exact absurd (nums_of_named h hz hy hq) hn
 unfold bodI
 by_cases h0 : ns.length = 0
 ·rw [am_none (by omega)]
  rw [hno (by intro hm; rw [List.eq_nil_of_length_eq_zero h0] at hm; cases hm)]
  exact ⟨1, by omega, ex_ret _ _ _ _⟩
 ·obtain ⟨p, n, r', q1, q2, q3⟩ := am_run (toV d) ns (fun z => verI z k a (l.map P.Xr.r)) (ansI k a) s [] 5 0 ns.length (by omega) (Nat.le_refl _) (by have := h.len; omega) (.inl rfl) (.inl rfl)
  rw [List.append_nil] at q3
  rw [q3]
  have hj : ∀ b, ex (toV d) (⟨21, 1, 0, ns.getD p 0⟩ :: b) 0 s = _ := fun b => ex_jump (toV d) 21 (ns.getD p 0) 1 0 b s (.inl rfl)
  show ∃ n', _ /\ ((ex (toV d) (⟨21, 1, 0, ns.getD p 0⟩ :: ansI k a :: (verI (ns.getD p 0) k a (l.map P.Xr.r) ++ r')) 0 s).1 + n, (ex (toV d) (⟨21, 1, 0, ns.getD p 0⟩ :: ansI k a :: (verI (ns.getD p 0) k a (l.map P.Xr.r) ++ r')) 0 s).2) = _
  rw [hj, holds21, hs]
  have hpm : ns.getD p 0 ∈ ns := by
   rw [List.getD_eq_getElem?_getD, List.getElem?_eq_getElem q2.1]
   exact List.getElem_mem _
  by_cases he : d.n = ns.getD p 0
  ·rw [if_pos (by simpa using he), ex_succ, <- he]
   obtain ⟨n2, q4, q5⟩ := ver_run d hd k a (l.map P.Xr.r) hlm s
   rw [q5]
   refine ⟨n2 + 1 + n, by omega, ?_⟩
   unfold M.verdP
   rw [if_pos (tabI_u (h.tab (by rw [he]; exact hpm))).2]
  ·rw [if_neg (by simpa using he)]
   have hnot : d.n ∉ ns := by
    intro hm
    obtain ⟨j, hj1, hj2⟩ := List.getElem_of_mem hm
    have hg : ns.getD j 0 = d.n := by rw [List.getD_eq_getElem?_getD, List.getElem?_eq_getElem hj1]; exact hj2
    have hr := rises_of h.rise
    obtain ⟨e1, e2, e3⟩ := q2
    rw [hs] at e2 e3
    rcases Nat.lt_trichotomy j p with hjp | hjp | hjp
    ·have := T.rises_lt hr (p - j - 1) j (by omega)
     rw [show j + (p - j - 1) + 1 = p from by omega] at this
     rcases e2 with e2 | e2
     ·omega
     ·omega
    ·rw [hjp] at hg; exact he hg.symm
    ·rcases e3 with e3 | e3
     ·omega
     ·by_cases hq : j = p + 1
      ·rw [hq] at hg; omega
      ·have := T.rises_lt hr (j - (p + 1) - 1) (p + 1) (by omega)
       rw [show p + 1 + (j - (p + 1) - 1) + 1 = j from by omega] at this
       omega
   rw [hno hnot]
   have := ex_ret (toV d) (A.valZ k a) (verI (ns.getD p 0) k a (l.map P.Xr.r) ++ r') s
   unfold ansI
   rw [this]
   exact ⟨1 + 1 + n, by omega, rfl⟩
def meanZ (d : V.Da) (k a : Int) (l : List P.Xl) : Int := if d.a = 3221225534 then A.valZ (M.verdP d k a l).1 (M.verdP d k a l).2 else 2147483648
theorem prog_run (d : V.Da) (hd : d.ok) (ns : List Int) (k a : Int) (l : List P.Xr) (h : Nrs ns l) (hl : ∀ x ∈ l, Xok x.r) :
  ∃ n, n <= 16 + mostR d.n (l.map P.Xr.r) /\ ex (toV d) (progI ns k a (l.map P.Xr.r)) 0 V.St.zero = (n, meanZ d k a (l.map P.Xr.r)) := by
 unfold progI meanZ
 show ∃ n, _ /\ ex (toV d) (⟨32, 0, 0, 4⟩ :: ⟨21, 1, 0, 3221225534⟩ :: ⟨6, 0, 0, 2147483648⟩ :: ⟨32, 0, 0, 0⟩ :: bodI ns k a (l.map P.Xr.r)) 0 V.St.zero = _
 have hld : ∀ (z : Int) (b : List V.In) (s : V.St), ∃ t : V.St, t.a = V.ldv (toV d) z /\ ex (toV d) (⟨32, 0, 0, z⟩ :: b) 0 s = ((ex (toV d) b 0 t).1 + 1, (ex (toV d) b 0 t).2) := fun z b s => ⟨{ s with a := V.ldv (toV d) z }, rfl, ex_ld (toV d) z b s⟩
 have hj : ∀ b s, ex (toV d) (⟨21, 1, 0, 3221225534⟩ :: b) 0 s = _ := fun b s => ex_jump (toV d) 21 3221225534 1 0 b s (.inl rfl)
 obtain ⟨t, ht, e1⟩ := hld 4 (⟨21, 1, 0, 3221225534⟩ :: ⟨6, 0, 0, 2147483648⟩ :: ⟨32, 0, 0, 0⟩ :: bodI ns k a (l.map P.Xr.r)) V.St.zero
 have hta : t.a = d.a := ht
 rw [e1, hj, holds21, hta]
 by_cases he : d.a = 3221225534
 ·rw [if_pos he, if_pos (show (d.a == 3221225534) = true by simpa using he), ex_succ]
  obtain ⟨t2, ht2, e2⟩ := hld 0 (bodI ns k a (l.map P.Xr.r)) t
  obtain ⟨n, q1, q2⟩ := bod_run d hd ns k a l h hl t2 ht2
  rw [e2, q2]
  exact ⟨n + 1 + 1 + 1, by omega, rfl⟩
 ·rw [if_neg he, if_neg (show ¬ (d.a == 3221225534) = true by simpa using he), ex_ret]
  exact ⟨1 + 1 + 1, by omega, rfl⟩
theorem bod_len (ns : List Int) (k a : Int) (l : List P.Xl) : 1 <= (bodI ns k a l).length /\ (bodI ns k a l).length <= (ns.map fun z => lenR z l + 5).sum + 1 := by
 unfold bodI
 by_cases h0 : ns.length = 0
 ·rw [am_none (by omega)]
  simp
 ·have := am_len ns (fun z => verI z k a l) (ansI k a) (fun z => lenR z l + 1) (fun z => ver_len z k a l) ns.length 0 ns.length (by omega) (Nat.le_refl _) (by omega)
  rw [List.drop_zero, Nat.sub_zero, List.take_length] at this
  have e : (fun z => lenR z l + 1 + 4) = fun z => lenR z l + 5 := by funext z; omega
  rw [e] at this
  omega
theorem count_le (ns : List Int) (hn : ns.Nodup) (hz : ∀ z ∈ ns, M.isNr z = true) (names : List ByteArray) : (ns.filter fun z => M.namedB z names).length <= names.length := by
 have h1 : (ns.filter fun z => M.namedB z names).length <= ((names.map M.nrI) : List Int).length := by
  refine M.nodup_le _ _ (hn.sublist List.filter_sublist) fun z hm => ?_
  obtain ⟨h2, h3⟩ := List.mem_filter.1 hm
  unfold M.namedB at h3
  obtain ⟨s, hs, he⟩ := List.any_eq_true.1 h3
  have h4 := M.spk z s
  rw [hz z h2, he] at h4
  have h5 : (M.knB s && (M.nrI s == z)) = true := h4.symm
  simp only [Bool.and_eq_true, beq_iff_eq] at h5
  exact List.mem_map.2 ⟨s, hs, h5.2⟩
 rw [List.length_map] at h1
 exact h1
theorem sum_if (ns : List Int) (p : Int -> Bool) (c : Nat) : (ns.map fun z => if p z = true then c else 0).sum = (ns.filter p).length * c := by
 induction ns with
 | nil => simp
 | cons z r ih =>
  rw [List.map_cons, List.sum_cons, ih, List.filter_cons]
  split
  ·rw [List.length_cons, Nat.add_mul]; omega
  ·omega
theorem sum_swap (ns : List Int) : ∀ l : List P.Xl, (ns.map fun z => (l.map fun x => if M.namedB z x.names = true then 7 * x.conds.length + 6 else 0).sum).sum = (l.map fun x => (ns.filter fun z => M.namedB z x.names).length * (7 * x.conds.length + 6)).sum
 | [] => by
  show (ns.map fun _ => 0).sum = 0
  induction ns with
  | nil => rfl
  | cons z r ih => rw [List.map_cons, List.sum_cons, ih, Nat.add_zero]
 | x :: l => by
  rw [List.map_cons, List.sum_cons, <- sum_swap ns l, <- sum_if ns (fun z => M.namedB z x.names) (7 * x.conds.length + 6)]
  induction ns with
  | nil => rfl
  | cons z r ih =>
   simp only [List.map_cons, List.sum_cons] at ih ⊢
   omega
theorem lenR_six (z : Int) (l : List P.Xl) (h : ∃ x ∈ l, M.namedB z x.names = true) : lenR z l + 5 <= (l.map fun x => if M.namedB z x.names = true then 7 * x.conds.length + 6 else 0).sum := by
 have hge : ∀ l : List P.Xl, lenR z l <= (l.map fun x => if M.namedB z x.names = true then 7 * x.conds.length + 6 else 0).sum := by
  intro l
  induction l with
  | nil => exact Nat.le_refl _
  | cons x r ih =>
   rw [lenR_cons, List.map_cons, List.sum_cons]
   split <;> omega
 induction l with
 | nil => obtain ⟨x, hx, _⟩ := h; cases hx
 | cons y r ih =>
  rw [lenR_cons, List.map_cons, List.sum_cons]
  cases hy : M.namedB z y.names with
  | true =>
   have := hge r
   rw [if_pos rfl, if_pos rfl]
   omega
  | false =>
   rw [if_neg (by decide), if_neg (by decide)]
   obtain ⟨x, hx, hn⟩ := h
   have := ih (by
    rcases List.mem_cons.1 hx with rfl | hx
    ·rw [hy] at hn; cases hn
    ·exact ⟨x, hx, hn⟩)
   omega
theorem sum_wg (ns : List Int) (l : List P.Xr) (h : Nrs ns l) : (ns.map fun z => lenR z (l.map P.Xr.r) + 5).sum <= (l.map fun x => M.wg1 x.r).sum := by
 have h1 : (ns.map fun z => lenR z (l.map P.Xr.r) + 5).sum <= (ns.map fun z => ((l.map P.Xr.r).map fun x => if M.namedB z x.names = true then 7 * x.conds.length + 6 else 0).sum).sum := by
  have : ∀ ms : List Int, (∀ z ∈ ms, z ∈ ns) -> (ms.map fun z => lenR z (l.map P.Xr.r) + 5).sum <= (ms.map fun z => ((l.map P.Xr.r).map fun x => if M.namedB z x.names = true then 7 * x.conds.length + 6 else 0).sum).sum := by
   intro ms
   induction ms with
   | nil => intro _; exact Nat.le_refl _
   | cons z r ih =>
    intro hm
    simp only [List.map_cons, List.sum_cons]
    have h2 := ih fun y hy => hm y (List.mem_cons_of_mem _ hy)
    obtain ⟨x, hx, hn⟩ := named_of_nums h (hm z (List.mem_cons_self ..))
    have h3 := lenR_six z (l.map P.Xr.r) ⟨x.r, List.mem_map.2 ⟨x, hx, rfl⟩, hn⟩
    omega
  exact this ns fun _ hz => hz
 rw [sum_swap] at h1
 have h2 : ((l.map P.Xr.r).map fun x => (ns.filter fun z => M.namedB z x.names).length * (7 * x.conds.length + 6)).sum <= (l.map fun x => M.wg1 x.r).sum := by
  have hc := count_le ns h.nodup fun z hz => (tabI_u (h.tab hz)).2
  clear h1 h
  induction l with
  | nil => exact Nat.le_refl _
  | cons x r ih =>
   simp only [List.map_cons, List.sum_cons]
   have h3 : (ns.filter fun z => M.namedB z x.r.names).length * (7 * x.r.conds.length + 6) <= M.wg1 x.r := by
    unfold M.wg1
    exact Nat.mul_le_mul (hc x.r.names) (by omega)
   simp only [List.map_map] at ih ⊢
   omega
 exact Nat.le_trans h1 h2
theorem prog_len (ns : List Int) (k a : Int) (l : List P.Xr) (h : Nrs ns l) : 5 <= (progI ns k a (l.map P.Xr.r)).length /\ (progI ns k a (l.map P.Xr.r)).length <= M.wgt l := by
 have hb := bod_len ns k a (l.map P.Xr.r)
 have h2 := sum_wg ns l h
 have h3 : M.wgt l = 8 + (l.map fun x => M.wg1 x.r).sum := rfl
 unfold progI
 rw [List.length_append]
 simp only [List.length_cons, List.length_nil]
 omega
theorem prog_gd (ns : List Int) (k a : Int) (l : List P.Xr) (h : Nrs ns l) (hl : ∀ x ∈ l, Xok x.r) (hw : M.wgt l <= 100000000) : Gd 0 (progI ns k a (l.map P.Xr.r)) := by
 have hlm : ∀ x ∈ l.map P.Xr.r, Xok x := fun x hx => by obtain ⟨y, hy, rfl⟩ := List.mem_map.1 hx; exact hl y hy
 have hu : ∀ z ∈ ns, V.U32 z := fun z hz => (tabI_u (h.tab hz)).1
 have hlen := prog_len ns k a l h
 have hbl := bod_len ns k a (l.map P.Xr.r)
 have hsub : ∀ i j, i < j -> j <= ns.length -> (amI ns (fun z => verI z k a (l.map P.Xr.r)) (ansI k a) i j).length <= 4294967295 := by
  have hall : ∀ z ∈ ns, lenR z (l.map P.Xr.r) + 5 <= 100000000 := fun z hz => by
   have h1 := lenR_six z (l.map P.Xr.r) (by obtain ⟨x, hx, hn⟩ := named_of_nums h hz; exact ⟨x.r, List.mem_map.2 ⟨x, hx, rfl⟩, hn⟩)
   have h2 : ((l.map P.Xr.r).map fun x => if M.namedB z x.names = true then 7 * x.conds.length + 6 else 0).sum <= (l.map fun x => M.wg1 x.r).sum := by
    clear h1 hlen hbl hlm hl hw h
    induction l with
    | nil => exact Nat.le_refl _
    | cons x r ih =>
     simp only [List.map_cons, List.sum_cons]
     have h3 : (if M.namedB z x.r.names = true then 7 * x.r.conds.length + 6 else 0) <= M.wg1 x.r := by
      split
      ·rename_i hn
       have : 0 < x.r.names.length := by
        unfold M.namedB at hn
        obtain ⟨s, hs, _⟩ := List.any_eq_true.1 hn
        exact List.length_pos_of_mem hs
       unfold M.wg1
       have := Nat.mul_le_mul this (show 7 * x.r.conds.length + 6 <= 8 * x.r.conds.length + 8 by omega)
       omega
      ·exact Nat.zero_le _
     simp only [List.map_map] at ih ⊢
     omega
   have h3 : M.wgt l = 8 + (l.map fun x => M.wg1 x.r).sum := rfl
   omega
  intro i j h1 h2
  have := (am_len ns (fun z => verI z k a (l.map P.Xr.r)) (ansI k a) (fun z => lenR z (l.map P.Xr.r) + 1) (fun z => ver_len z k a _) (j - i) i j h1 h2 (Nat.le_refl _)).2
  have hs : ∀ ms : List Int, (∀ z ∈ ms, z ∈ ns) -> (ms.map fun z => lenR z (l.map P.Xr.r) + 1 + 4).sum <= ms.length * 100000000 := by
   intro ms
   induction ms with
   | nil => intro _; exact Nat.zero_le _
   | cons z r ih =>
    intro hm
    have h5 := ih fun y hy => hm y (List.mem_cons_of_mem _ hy)
    have h6 := hall z (hm z (List.mem_cons_self ..))
    simp only [List.map_cons, List.sum_cons, List.length_cons]
    omega
  have h7 := hs ((ns.drop i).take (j - i)) fun z hz => List.mem_of_mem_drop (List.mem_of_mem_take hz)
  have h8 : ((ns.drop i).take (j - i)).length <= 30 := by
   have := h.len
   rw [List.length_take, List.length_drop]
   omega
  omega
 have hb : Gd 0 (bodI ns k a (l.map P.Xr.r)) := by
  unfold bodI
  exact am_gd ns _ _ hu (ans_gd k a) (fun z b => ver_gd z k a b _ hlm) (fun z => ver_pos z k a _) hsub ns.length 0 0 ns.length (Nat.le_refl _) (by omega)
 unfold progI
 refine Gd.app ?_ hb
 refine ⟨⟨by unfold V.In.ok; decide, fault_ld 4 _ (by decide) (by decide) (by first | (simp only [List.length_nil]; omega) | (simp only [List.length_cons, List.length_nil]; omega) | (simp only [List.length_nil]; omega))⟩, ⟨by unfold V.In.ok; decide, fault_jump 21 _ 1 0 _ (.inl rfl) (by first | (simp only [List.length_nil]; omega) | (simp only [List.length_cons, List.length_nil]; omega) | (simp only [List.length_nil, List.length_append, List.length_cons]; omega) | (simp only [List.length_nil]; omega) | (simp only [List.length_nil, List.length_append]; omega)) (by first | (simp only [List.length_nil]; omega) | (simp only [List.length_cons, List.length_nil]; omega) | (simp only [List.length_nil]; omega))⟩, ⟨by unfold V.In.ok; decide, fault_ret _ _⟩, ⟨by unfold V.In.ok; decide, fault_ld 0 _ (by decide) (by decide) (by first | (simp only [List.length_nil]; omega) | (simp only [List.length_cons, List.length_nil]; omega) | (simp only [List.length_nil, List.length_append, List.length_cons]; omega) | (simp only [List.length_nil]; omega) | (simp only [List.length_nil, List.length_append]; omega))⟩, trivial⟩
theorem prog_chk (ns : List Int) (k a : Int) (l : List P.Xr) (h : Nrs ns l) (hl : ∀ x ∈ l, Xok x.r) (hw : M.wgt l <= 100000000) (h4 : (progI ns k a (l.map P.Xr.r)).length <= 4096) : V.chk (progI ns k a (l.map P.Xr.r)) = (0, -1) := by
 have hp := (prog_len ns k a l h).1
 unfold V.chk
 rw [if_neg (by omega), if_neg (by omega)]
 exact (prog_gd ns k a l h hl hw).ff 0
theorem prog_ans (d : V.Da) (hd : d.ok) (ns : List Int) (k a : Int) (l : List P.Xr) (h : Nrs ns l) (hl : ∀ x ∈ l, Xok x.r) (hw : M.wgt l <= 100000000) (h4 : (progI ns k a (l.map P.Xr.r)).length <= 4096) :
  V.errV (progI ns k a (l.map P.Xr.r)) = 0 /\ V.ansV (progI ns k a (l.map P.Xr.r)) (toV d) = meanZ d k a (l.map P.Xr.r) /\ (V.plV (progI ns k a (l.map P.Xr.r)) (toV d)).length <= 16 + mostR d.n (l.map P.Xr.r) := by
 have he : V.errV (progI ns k a (l.map P.Xr.r)) = 0 := by unfold V.errV; rw [prog_chk ns k a l h hl hw h4]
 have hg := prog_gd ns k a l h hl hw
 obtain ⟨n, hn, hx⟩ := prog_run d hd ns k a l h hl
 have hr := run_ex (progI ns k a (l.map P.Xr.r)) (toV d) hg.ok _ 0 V.St.zero (Nat.le_refl _)
 rw [List.drop_zero, hx, Nat.sub_zero] at hr
 refine ⟨he, ?_, ?_⟩
 ·unfold V.ansV V.allV
  rw [if_pos he]
  exact congrArg (·.2) hr
 ·unfold V.plV V.allV
  rw [if_pos he, List.length_map]
  have := congrArg (·.1) hr
  dsimp only at this
  omega
open V (below_new)
def Tld (w : World) (l : List V.In) (e : Ending) (w' : World) : Prop := ∃ v, e = .returned v /\ w'.ownsRow w.heap.size 60 4 v l.length (V.cellsI l) /\ Below w.heap.size w w'
theorem own_fresh (w : World) (base : Nat) (hb : base <= w.heap.size) (l : List V.In) (n : Nat) (hn : l.length = n) (hl : l.length <= 1000) (cs : Array Value) (hc : cs.toList = V.cellsI l) : (w.alloc (Obj.cells cs 60)).ownsRow base 60 4 (.slice (some ⟨w.heap.size, 0, none⟩) n n) n (V.cellsI l) := by
 subst hn
 have h4 := V.cellsI_length l
 have hs : cs.size = l.length * 4 := by rw [<- Array.length_toList, hc, h4]
 refine ⟨h4, .inr ⟨w.heap.size, l.length, cs, rfl, hb, heap_alloc_new _ _, Nat.le_refl _, by unfold maxLen; omega, hs, ?_⟩⟩
 rw [hc, List.take_of_length_le (by omega)]
theorem own_in (w : World) (base : Nat) (hb : base <= w.heap.size) (c t f k : Int) (g : Nat) (hg : g = w.heap.size) : (w.alloc (Obj.cells #[.int .u16 c, .int .u8 t, .int .u8 f, .int .u32 k] 60)).ownsRow base 60 4 (.slice (some ⟨g, 0, none⟩) 1 1) 1 (V.cellsI [⟨c, t, f, k⟩]) := by
 subst hg
 exact own_fresh w base hb [⟨c, t, f, k⟩] 1 rfl (by simp) _ rfl
theorem own_in2 (w : World) (base : Nat) (hb : base <= w.heap.size) (c t f k c' t' f' k' : Int) (g : Nat) (hg : g = w.heap.size) : (w.alloc (Obj.cells #[.int .u16 c, .int .u8 t, .int .u8 f, .int .u32 k, .int .u16 c', .int .u8 t', .int .u8 f', .int .u32 k'] 60)).ownsRow base 60 4 (.slice (some ⟨g, 0, none⟩) 2 2) 2 (V.cellsI [⟨c, t, f, k⟩, ⟨c', t', f', k'⟩]) := by
 subst hg
 exact own_fresh w base hb [⟨c, t, f, k⟩, ⟨c', t', f', k'⟩] 2 rfl (by simp) _ rfl
theorem own_slice {w : World} {base sz : Nat} {t : TypeId} {v : Value} {n : Nat} {xs : List Value} (h : w.ownsRow base t sz v n xs) : ∃ a cap, v = .slice a n cap := by
 rcases h.2 with ⟨rfl, rfl⟩ | ⟨g, cap, cur, rfl, _⟩
 ·exact ⟨none, 0, rfl⟩
 ·exact ⟨_, cap, rfl⟩
theorem own_nil (w : World) (base : Nat) : w.ownsRow base 60 4 (.slice none 0 0) 0 (V.cellsI []) := ⟨by simp [V.cellsI], .inl ⟨rfl, rfl⟩⟩
def Apart (v u : Value) : Prop := ∀ j, v.ownBlock = some j -> u.ownBlock ≠ some j
structure Grw (X Y : World) (base : Nat) (v v' : Value) (n : Nat) (l : List V.In) : Prop where
 own : Y.ownsRow base 60 4 v' n (V.cellsI l)
 grown : X.grownBy Y v.ownBlock
 blk : v'.ownBlock = v.ownBlock \/ v'.ownBlock = some X.heap.size
theorem run_app {w : World} (ty : TypeId) (base : Nat) (v : Value) (n : Nat) (l : List V.In) (hown : w.ownsRow base 60 4 v n (V.cellsI l))
  (base2 : Nat) (v2 : Value) (m : Nat) (k : List V.In) (hown2 : w.ownsRow base2 60 4 v2 m (V.cellsI k)) (hn : n + m <= 100000) (hbase : base <= w.heap.size) :
  ∃ v' w', (Builtin.append_ #[30, 30] ty #[v, v2]).run Tryz.prog w = .ok v' w' /\ Grw w w' base v v' (n + m) (l ++ k) := by
 obtain ⟨i0, hi, hz0, hz1, hz2⟩ := info_parts V.Tryz.info60
 rcases hown2.2 with ⟨rfl, rfl⟩ | ⟨g, cap, cur, rfl, _⟩
 ·have hk : k = [] := by
   have := hown2.1
   rw [V.cellsI_length] at this
   exact List.eq_nil_of_length_eq_zero (by omega)
  subst hk
  refine ⟨v, w, ?_, ⟨by simpa using hown, V.grow_refl _ _, .inl rfl⟩⟩
  exact run_append_owned_none w base 30 ty 60 i0 4 Tryz.underlying30 hi v n (V.cellsI l) hown
 ·obtain ⟨v', w', h0, h1, h2, _, h4⟩ := run_append_own_at (P := Tryz.prog) w base 30 ty 60 i0 _ 4 8 Tryz.underlying30 hi hz0 hz1 hz2 rfl (by decide) v n (V.cellsI l) hown ⟨g, 0, none⟩ m cap (V.cellsI k) hown2.1 (hown2.cells (g := g) rfl) (V.cellsI_kind k) (by unfold maxLen; omega) (by omega) hbase
  exact ⟨v', w', h0, ⟨by rw [V.cellsI_app]; exact h1, h2, h4⟩⟩
theorem app_rows {w : World} {ops : Array Oper} {rest : List Oper} {o : Oper} {a : Act} {Q : Exit -> Act -> World -> Prop} (hgd : o.guard = none) (s x : Operand)
  (ho : o.op = .call { callee := .builtin .append, args := #[s, x], argTypes := #[30, 30] })
  (base : Nat) (v : Value) (n : Nat) (l : List V.In) (hs : a.eval s = v) (hown : w.ownsRow base 60 4 v n (V.cellsI l))
  (base2 : Nat) (v2 : Value) (m : Nat) (k : List V.In) (hx : a.eval x = v2) (hown2 : w.ownsRow base2 60 4 v2 m (V.cellsI k))
  (hn : n + m <= 100000) (hbase : base <= w.heap.size)
  (h : ∀ v' w', Grw w w' base v v' (n + m) (l ++ k) -> wpList Tryz.prog ops Q rest (a.put o.dst v') w') : wpList Tryz.prog ops Q (o :: rest) a w := by
 obtain ⟨v', w', hrun, hG⟩ := run_app o.type base v n l hown base2 v2 m k hown2 hn hbase
 refine wpList_plain hgd fun K hK => ?_
 unfold Oper.wp execOp
 simp only [ho, resolve, invoke, builtin, Sem.run_bind, Sem.run_pure, Result.andThen_ok, List.map_toArray, List.map_cons, List.map_nil, hs, hx, hrun]
 exact hK _ _ (h v' w' hG)
theorem step_rows {w : World} {ops : Array Oper} {o : Oper} {a : Act} {K : Act -> World -> Prop} {Q : Exit -> Act -> World -> Prop} {E : Prop} (hgd : o.guard = none) (s x : Operand)
  (ho : o.op = .call { callee := .builtin .append, args := #[s, x], argTypes := #[30, 30] })
  (base : Nat) (v : Value) (n : Nat) (l : List V.In) (hs : a.eval s = v) (hown : w.ownsRow base 60 4 v n (V.cellsI l))
  (base2 : Nat) (v2 : Value) (m : Nat) (k : List V.In) (hx : a.eval x = v2) (hown2 : w.ownsRow base2 60 4 v2 m (V.cellsI k))
  (hn : n + m <= 100000) (hbase : base <= w.heap.size)
  (h : ∀ v' w', Grw w w' base v v' (n + m) (l ++ k) -> K (a.put o.dst v') w') :
  if Region.wanted o (yielded ops a.tmps) = true then Oper.wp Tryz.prog o a w K Q else E := by
 rw [if_pos (by simp [Region.wanted, hgd])]
 obtain ⟨v', w', hrun, hG⟩ := run_app o.type base v n l hown base2 v2 m k hown2 hn hbase
 unfold Oper.wp execOp
 simp only [ho, resolve, invoke, builtin, Sem.run_bind, Sem.run_pure, Result.andThen_ok, List.map_toArray, List.map_cons, List.map_nil, hs, hx, hrun]
 exact h _ _ hG
theorem Grw.below {X Y : World} {base : Nat} {v v' : Value} {n : Nat} {l : List V.In} (h : Grw X Y base v v' n l) {w : World} {n0 : Nat} {l0 : List V.In} (hown : X.ownsRow base 60 4 v n0 (V.cellsI l0)) (hb : Below base w X) (hB : base <= X.heap.size) : Below base w Y :=
 hb.grown h.grown hB (P.owns_block hown)
theorem Grw.kept {X Y : World} {base b2 : Nat} {v v' u : Value} {n m : Nat} {l : List V.In} {xs : List Value} (h : Grw X Y base v v' n l) (hu : X.ownsRow b2 60 4 u m xs) (ha : Apart v u) : Y.ownsRow b2 60 4 u m xs /\ Apart v' u := by
 refine ⟨hu.kept h.grown ?_, fun j hj e => ?_⟩
 ·cases hq : u.ownBlock with
  | none => exact .inl rfl
  | some j => exact .inr fun e => ha j e.symm hq
 ·rcases h.blk with hb | hb
  ·exact ha j (hb ▸ hj) e
  ·rw [hb] at hj
   cases hj
   have := V.own_lt hu _ e
   omega
def cI (x : V.In) : Array Value := #[.int .u16 x.c, .int .u8 x.t, .int .u8 x.f, .int .u32 x.k]
theorem below_setRow {B : Nat} {a w : World} (h : Below B a w) {g : Nat} (hg : B <= g) (cs : Array Value) : Below B a (w.setRow g cs) := M.below_setRow h hg cs
theorem below_two (w : World) (o p : Obj) : Below w.heap.size w ((w.alloc o).alloc p) := (below_new w o).alloc (below_new w o).size _
theorem size78 (x : V.In) : (Tryz.prog.info? 60).map (·.size) = some (cI x).size := by show (Tryz.prog.info? 60).map (·.size) = some 4; kernel_rfl
theorem cI_one (x : V.In) : (cI x).all (·.oneCell') = true := by simp [cI, Value.oneCell']
open P (at_op)
theorem answer_any (k a : Int) (w : World) : Calls Tryz.prog 49 #[.agg #[.int .i64 k, .int .i64 a]] w fun e w' => e = .returned (.agg (cI (ansI k a))) /\ Below w.heap.size w w' := by
 have HV : Hid (∀ W, Calls Tryz.prog 11 #[.agg #[.int .i64 k, .int .i64 a]] W fun e w' => e = .returned (.tuple #[.int .u32 (A.valZ k a), .int .i64 (A.errZ k a)]) /\ Below W.heap.size W w') := fun W => A.value_any k a W
 have HB : Hid (P.Blk ((w.alloc (Obj.cells #[.int .i64 k, .int .i64 a] 36)).alloc (Obj.cells #[.int .u16 0, .int .u8 0, .int .u8 0, .int .u32 0] 60)) (w.heap.size + 1) 60 [.int .u16 0, .int .u8 0, .int .u8 0, .int .u32 0]) := V.blk_new' w _ _ 60
 have HW : Hid (Below w.heap.size w ((w.alloc (Obj.cells #[.int .i64 k, .int .i64 a] 36)).alloc (Obj.cells #[.int .u16 0, .int .u8 0, .int .u8 0, .int .u32 0] 60))) := below_two w _ _
 have HS : Hid ((Tryz.prog.info? 60).map (·.size) = some (cI (ansI k a)).size) := size78 _
 have H1 : Hid ((cI (ansI k a)).all (·.oneCell') = true) := cI_one _
 unfold ansI cI at *
 dsimp only at *
 generalize A.valZ k a = v at *
 generalize A.errZ k a = er at *
 go_enter Tryz.func49, Tryz.ntmps49
 go_wp2_with (first | (go_at_call 11; refine (HV.out _).mono ?_; rintro e w1 ⟨rfl, b1⟩; have HB1 := HB.out.over b1; have HW1 : Hid (Below w.heap.size w w1) := HW.out.trans (b1.mono HW.out.size); clear b1) | (refine at_op (.store 60 (.tmp 2) (.tmp 11)) rfl ?_; refine wpList_store_row rfl 60 (.tmp 2) (.tmp 11) rfl (w.heap.size + 1) #[.int .u16 6, .int .u8 0, .int .u8 0, .int .u32 v] rfl rfl 60 _ HB1 HS.out rfl H1.out ?_))
 refine bodyPost_ret (v := .agg #[.int .u16 6, .int .u8 0, .int .u8 0, .int .u32 v]) ?_ rfl ⟨rfl, ?_⟩
 ·exact results_cell_row Tryz.results49 _ _ (w.heap.size + 1) 60 #[.int .u16 6, .int .u8 0, .int .u8 0, .int .u32 v] (0, 0) _ rfl (P.Blk.row HB1 _) Tryz.underlying60 rfl HS.out
 ·exact below_setRow HW1.out (Nat.le_succ _) _
theorem jump_any (c k t f : Int) (w : World) (ht : 0 <= t /\ t <= 255) (hf : 0 <= f /\ f <= 255) : Calls Tryz.prog 152 #[.int .u16 c, .int .u32 k, .int .i64 t, .int .i64 f] w fun e w' => e = .returned (.agg (cI ⟨c, t, f, k⟩)) /\ Below w.heap.size w w' := by
 have HB : Hid (P.Blk (w.alloc (Obj.cells #[.int .u16 0, .int .u8 0, .int .u8 0, .int .u32 0] 60)) w.heap.size 60 [.int .u16 0, .int .u8 0, .int .u8 0, .int .u32 0]) := P.blk_new w _ 60
 have HW : Hid (Below w.heap.size w (w.alloc (Obj.cells #[.int .u16 0, .int .u8 0, .int .u8 0, .int .u32 0] 60))) := below_new w _
 have HS : Hid ((Tryz.prog.info? 60).map (·.size) = some (cI ⟨c, t, f, k⟩).size) := size78 _
 have H1 : Hid ((cI ⟨c, t, f, k⟩).all (·.oneCell') = true) := cI_one _
 have e1 : IntKind.u8.wrap t = t := by rw [IntKind.wrap_u8]; omega
 have e2 : IntKind.u8.wrap f = f := by rw [IntKind.wrap_u8]; omega
 unfold cI at *
 dsimp only at *
 go_enter Tryz.func152, Tryz.ntmps152
 go_wp2_with (first | (refine at_op (.store 60 (.tmp 8) (.tmp 15)) rfl ?_; refine wpList_store_row rfl 60 (.tmp 8) (.tmp 15) rfl w.heap.size #[.int .u16 c, .int .u8 t, .int .u8 f, .int .u32 k] rfl rfl 60 _ HB.out HS.out rfl H1.out ?_))
 refine bodyPost_ret (v := .agg #[.int .u16 c, .int .u8 t, .int .u8 f, .int .u32 k]) ?_ rfl ⟨rfl, ?_⟩
 ·exact results_cell_row Tryz.results152 _ _ w.heap.size 60 #[.int .u16 c, .int .u8 t, .int .u8 f, .int .u32 k] (0, 0) _ rfl (P.Blk.row HB.out _) Tryz.underlying60 rfl HS.out
 ·exact below_setRow HW.out (Nat.le_refl _) _
theorem code_any (o : Int) (w : World) : Calls Tryz.prog 192 #[.int .i64 o] w fun e w' => e = .returned (.int .u16 (codeI o)) /\ w' = w := by
 by_cases h5 : o = 5
 ·subst h5
  go_enter Tryz.func192, Tryz.ntmps192
  go_wp2
  go_ret
  exact ⟨rfl, rfl⟩
 ·by_cases h6 : o = 6
  ·subst h6
   go_enter Tryz.func192, Tryz.ntmps192
   go_wp2
   go_ret
   exact ⟨rfl, rfl⟩
  ·have HC : Hid (codeI o = 21) := by unfold Hid codeI; rw [if_neg h5, if_neg h6]
   have e5 : (o == 5) = false := by simpa using h5
   have e6 : (o == 6) = false := by simpa using h6
   go_enter Tryz.func192, Tryz.ntmps192
   go_wp2
   go_ret
   exact ⟨by rw [HC.out]; rfl, rfl⟩
theorem hicode_any (o v : Int) (w : World) : Calls Tryz.prog 191 #[.int .i64 o, .int .u32 v] w fun e w' => e = .returned (.int .u16 (hiI o v)) /\ w' = w := by
 have HC : Hid (∀ W, Calls Tryz.prog 192 #[.int .i64 o] W fun e w' => e = .returned (.int .u16 (codeI o)) /\ w' = W) := code_any o
 by_cases h6 : o = 6
 ·subst h6
  by_cases hv : 0 < v
  ·have HH : Hid (hiI 6 v = 37) := by unfold Hid hiI; rw [if_pos ⟨rfl, hv⟩]
   go_enter Tryz.func191, Tryz.ntmps191
   go_wp2_with (first | (go_at_call 192; refine (HC.out _).mono ?_; rintro e w1 ⟨rfl, hw1⟩; subst w1))
   go_ret
   exact ⟨by rw [HH.out]; rfl, rfl⟩
  ·have HH : Hid (hiI 6 v = codeI 6) := by unfold Hid hiI; rw [if_neg (fun h => hv h.2)]
   generalize codeI 6 = cc at *
   go_enter Tryz.func191, Tryz.ntmps191
   go_wp2_with (first | (go_at_call 192; refine (HC.out _).mono ?_; rintro e w1 ⟨rfl, hw1⟩; subst w1))
   go_ret
   exact ⟨by rw [HH.out]; rfl, rfl⟩
 ·have HH : Hid (hiI o v = codeI o) := by unfold Hid hiI; rw [if_neg (fun h => h6 h.1)]
  have e6 : (o == 6) = false := by simpa using h6
  generalize codeI o = cc at *
  go_enter Tryz.func191, Tryz.ntmps191
  go_wp2_with (first | (go_at_call 192; refine (HC.out _).mono ?_; rintro e w1 ⟨rfl, hw1⟩; subst w1))
  go_ret
  exact ⟨by rw [HH.out]; rfl, rfl⟩
theorem word_any (p m : Int) (w : World) : Calls Tryz.prog 190 #[.int .u32 p, .int .u32 m] w fun e w' => Tld w (wordI p m) e w' := by
 unfold wordI
 by_cases hm : m = 4294967295
 ·rw [if_pos hm]
  subst hm
  have HO : Hid ((w.alloc (Obj.cells #[.int .u16 32, .int .u8 0, .int .u8 0, .int .u32 p] 60)).ownsRow w.heap.size 60 4 (.slice (some ⟨w.heap.size, 0, none⟩) 1 1) 1 (V.cellsI [⟨32, 0, 0, p⟩])) := own_fresh w _ (Nat.le_refl _) [⟨32, 0, 0, p⟩] 1 rfl (by simp) _ rfl
  go_enter Tryz.func190, Tryz.ntmps190
  go_wp2
  go_ret
  exact ⟨_, rfl, HO.out, below_new w _⟩
 ·rw [if_neg hm]
  have HO : Hid ((w.alloc (Obj.cells #[.int .u16 32, .int .u8 0, .int .u8 0, .int .u32 p] 60)).ownsRow w.heap.size 60 4 (.slice (some ⟨w.heap.size, 0, none⟩) 1 1) 1 (V.cellsI [⟨32, 0, 0, p⟩])) := own_fresh w _ (Nat.le_refl _) [⟨32, 0, 0, p⟩] 1 rfl (by simp) _ rfl
  have HW : Hid (Below w.heap.size w (w.alloc (Obj.cells #[.int .u16 32, .int .u8 0, .int .u8 0, .int .u32 p] 60))) := below_new w _
  have em : (m == 4294967295) = false := by simpa using hm
  go_enter Tryz.func190, Tryz.ntmps190
  have HX : Hid (w.heap.size <= (w.alloc (Obj.cells #[.int .u16 32, .int .u8 0, .int .u8 0, .int .u32 p] 60)).heap.size) := HW.out.size
  go_wp2_with (first | (at_builtin; refine app_rows rfl (.tmp 11) (.tmp 14) rfl w.heap.size _ 1 [⟨32, 0, 0, p⟩] rfl (HO.out.alloc _) w.heap.size _ 1 [⟨84, 0, 0, m⟩] rfl (own_in _ _ HX.out 84 0 0 m _ (by simp)) (by decide) (by simp; omega) ?_; intro v' w' hG; go_frame))
  go_ret
  exact ⟨_, rfl, hG.own, hG.below (HO.out.alloc _) (HW.out.alloc HW.out.size _) (by simp; omega)⟩
end Go.Proofs.YtcckipimfgmmdaaGreatDoor
