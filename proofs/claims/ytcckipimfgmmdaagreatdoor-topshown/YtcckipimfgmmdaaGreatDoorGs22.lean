/-
  KTest.
-/
import Derived.Test.YtcckipimfgmmdaaGreatDoorGs19
import Derived.Test.YtcckipimfgmmdaaGreatDoorGs20
namespace Go.Proofs.YtcckipimfgmmdaaGreatDoor
open Go.RowKit
def wordI (p m : Int) : List V.In := ⟨32, 0, 0, p⟩ :: (if m = 4294967295 then [] else [⟨84, 0, 0, m⟩])
def codeI (o : Int) : Int := if o = 5 then 37 else if o = 6 then 53 else 21
def hiI (o lv : Int) : Int := if o = 6 /\ 0 < lv then 37 else codeI o
def lowI (g : Int) (n : C.No) (yes no : Nat) : List V.In := wordI (16 + 8 * g) (V.lo n.m) ++ [⟨codeI n.o, yes, no, V.lo n.v⟩]
def highI (g : Int) (n : C.No) (yes no : Nat) : List V.In :=
 wordI (16 + 8 * g + 4) (V.hi n.m) ++ ((if n.o = 1 then [] else [⟨37, (1 + (lowI g n yes no).length + yes : Nat), 0, V.hi n.v⟩]) ++ [⟨21, 0, ((lowI g n yes no).length + no : Nat), V.hi n.v⟩])
def testY (g : Int) (n : C.No) (yes no : Nat) : List V.In :=
 if V.lo n.m = 0 then wordI (16 + 8 * g + 4) (V.hi n.m) ++ [⟨hiI n.o (V.lo n.v), yes, no, V.hi n.v⟩]
 else if V.hi n.m = 0 then lowI g n yes no else highI g n yes no ++ lowI g n yes no
def testI (g : Int) (n : C.No) (rest : Nat) : List V.In := if n.no = true then testY g n rest 0 else testY g n 0 rest
theorem code_ask (o : Int) : Ask (codeI o) := by
 unfold codeI Ask
 repeat' split
 all_goals simp
theorem hi_ask (o lv : Int) : Ask (hiI o lv) := by
 unfold hiI
 split
 ·exact .inr (.inl rfl)
 ·exact code_ask o
theorem word_len (p m : Int) : 1 <= (wordI p m).length /\ (wordI p m).length <= 2 := by
 unfold wordI
 split <;> simp
theorem low_len (g : Int) (n : C.No) (yes no : Nat) : 2 <= (lowI g n yes no).length /\ (lowI g n yes no).length <= 3 := by
 unfold lowI
 have := word_len (16 + 8 * g) (V.lo n.m)
 rw [List.length_append, List.length_singleton]
 omega
theorem high_len (g : Int) (n : C.No) (yes no : Nat) : (highI g n yes no).length <= 4 := by
 unfold highI
 have := word_len (16 + 8 * g + 4) (V.hi n.m)
 rw [List.length_append, List.length_append, List.length_singleton]
 split
 ·simp; omega
 ·simp; omega
theorem testY_len (g : Int) (n : C.No) (yes no : Nat) : 2 <= (testY g n yes no).length /\ (testY g n yes no).length <= 7 := by
 have h1 := word_len (16 + 8 * g + 4) (V.hi n.m)
 have h2 := low_len g n yes no
 have h3 := high_len g n yes no
 unfold testY
 repeat' split
 ·rw [List.length_append, List.length_singleton]; omega
 ·omega
 ·rw [List.length_append]; omega
theorem testI_len (g : Int) (n : C.No) (rest : Nat) : 2 <= (testI g n rest).length /\ (testI g n rest).length <= 7 := by
 unfold testI
 split
 ·exact testY_len ..
 ·exact testY_len ..
theorem testY_head (g : Int) (n : C.No) (yes no : Nat) : ∃ k r, testY g n yes no = ⟨32, 0, 0, k⟩ :: r := by
 unfold testY highI lowI wordI
 repeat' split
 all_goals exact ⟨_, _, rfl⟩
theorem testI_head (g : Int) (n : C.No) (rest : Nat) : ∃ k r, testI g n rest = ⟨32, 0, 0, k⟩ :: r := by
 unfold testI
 split
 ·exact testY_head ..
 ·exact testY_head ..
theorem and_all (x : Int) (h : V.U32 x) : bits BinOp.and IntKind.u32 x 4294967295 = x := by
 obtain ⟨h0, h1⟩ := h
 obtain ⟨n, rfl⟩ := Int.eq_ofNat_of_zero_le h0
 have h2 := u32_and_nat n 4294967295 (by omega) (by decide)
 have h3 : n &&& 4294967295 = n := by
  have := Nat.and_two_pow_sub_one_of_lt_two_pow (n := 32) (x := n) (by omega)
  exact this
 rw [h3] at h2
 exact h2
theorem word_run (d : V.Da) (hd : d.ok) (p m : Int) (s : V.St) : ∃ (n : Nat) (t : V.St), n <= 2 /\ t.a = bits BinOp.and IntKind.u32 (V.ldv d p) m /\ ∀ b, ex d (wordI p m ++ b) 0 s = ((ex d b 0 t).1 + n, (ex d b 0 t).2) := by
 unfold wordI
 by_cases h : m = 4294967295
 ·rw [if_pos h]
  refine ⟨1, { s with a := V.ldv d p }, by decide, ?_, fun b => ?_⟩
  ·rw [h, and_all _ (V.ldv_u d hd p)]
  ·exact ex_ld d p b s
 ·rw [if_neg h]
  refine ⟨2, { s with a := bits BinOp.and IntKind.u32 (V.ldv d p) m }, by decide, rfl, fun b => ?_⟩
  show ex d (⟨32, 0, 0, p⟩ :: ⟨84, 0, 0, m⟩ :: b) 0 s = _
  rw [ex_ld, ex_and]
theorem lo_an {x m : Int} (hx : V.U64 x) (hm : V.U64 m) : bits BinOp.and IntKind.u32 (V.lo x) (V.lo m) = V.lo (C.an x m) := by
 obtain ⟨a, rfl, ha⟩ := C.nat_of hx
 obtain ⟨b, rfl, hb⟩ := C.nat_of hm
 rw [C.an_nat a b ha hb]
 unfold V.lo
 have e1 : ((a : Int) % 4294967296) = ((a % 4294967296 : Nat) : Int) := by omega
 have e2 : ((b : Int) % 4294967296) = ((b % 4294967296 : Nat) : Int) := by omega
 have e3 : (((a &&& b : Nat) : Int) % 4294967296) = (((a &&& b) % 4294967296 : Nat) : Int) := by omega
 rw [e1, e2, e3, u32_and_nat _ _ (by omega) (by omega)]
 have := Nat.and_mod_two_pow (a := a) (b := b) (n := 32)
 rw [show (2 : Nat) ^ 32 = 4294967296 from rfl] at this
 rw [this]
theorem hi_an {x m : Int} (hx : V.U64 x) (hm : V.U64 m) : bits BinOp.and IntKind.u32 (V.hi x) (V.hi m) = V.hi (C.an x m) := by
 obtain ⟨a, rfl, ha⟩ := C.nat_of hx
 obtain ⟨b, rfl, hb⟩ := C.nat_of hm
 rw [C.an_nat a b ha hb]
 unfold V.hi
 have e1 : ((a : Int) / 4294967296) = ((a / 4294967296 : Nat) : Int) := by omega
 have e2 : ((b : Int) / 4294967296) = ((b / 4294967296 : Nat) : Int) := by omega
 have e3 : (((a &&& b : Nat) : Int) / 4294967296) = (((a &&& b) / 4294967296 : Nat) : Int) := by omega
 rw [e1, e2, e3, u32_and_nat _ _ (by omega) (by omega)]
 have := Nat.and_div_two_pow (a := a) (b := b) (n := 32)
 rw [show (2 : Nat) ^ 32 = 4294967296 from rfl] at this
 rw [this]
theorem ld_lo (d : V.Da) (hd : d.ok) (g : Int) (h0 : 0 <= g) (h5 : g < 6) : V.ldv d (16 + 8 * g) = V.lo (d.g.getD g.toNat 0) := by
 have h1 := (V.ld_in d (4 + 2 * g.toNat) (by omega)).1
 rw [show ((4 * (4 + 2 * g.toNat) : Nat) : Int) = 16 + 8 * g from by omega] at h1
 rw [h1, V.word_lo d hd g.toNat (by omega)]
theorem ld_hi (d : V.Da) (hd : d.ok) (g : Int) (h0 : 0 <= g) (h5 : g < 6) : V.ldv d (16 + 8 * g + 4) = V.hi (d.g.getD g.toNat 0) := by
 have h1 := (V.ld_in d (4 + 2 * g.toNat + 1) (by omega)).1
 rw [show ((4 * (4 + 2 * g.toNat + 1) : Nat) : Int) = 16 + 8 * g + 4 from by omega] at h1
 rw [h1, V.word_hi d hd g.toNat (by omega)]
theorem arg_u (d : V.Da) (hd : d.ok) (k : Nat) : V.U64 (d.g.getD k 0) := by
 by_cases h : k < d.g.length
 ·rw [List.getD_eq_getElem?_getD, List.getElem?_eq_getElem h]
  exact hd.2.2.2.2 _ (List.getElem_mem h)
 ·rw [List.getD_eq_getElem?_getD, List.getElem?_eq_none (by omega)]
  exact ⟨by decide, by decide⟩
structure Fit (n : C.No) : Prop where
 al : n.al = false
 ne : n.ne = false
 o : n.o = 1 \/ n.o = 5 \/ n.o = 6
 m : V.U64 n.m
 v : V.U64 n.v
 eq : n.o = 1 -> V.lo n.m = 0 -> V.lo n.v = 0
 eq' : n.o = 1 -> V.hi n.m = 0 -> V.hi n.v = 0
 le : n.o ≠ 1 -> n.v <= n.m
 bit : n.m ≠ 0
def heldY (n : C.No) (x : Int) : Bool := C.heldB n.o (C.an x n.m) n.v
theorem Fit.is {n : C.No} (h : Fit n) (x : Int) : C.isN n x = !(heldY n x == n.no) := by
 unfold C.isN heldY
 rw [h.al, h.ne]
 have : C.hasF n.o = true := by
  unfold C.hasF
  rcases h.o with h | h | h <;> rw [h] <;> rfl
 rw [this]
 rfl
theorem holds21 (a k : Int) : V.holdsV 21 a k = (a == k) := rfl
theorem holds37 (a k : Int) : V.holdsV 37 a k = decide (k < a) := rfl
theorem holds53 (a k : Int) : V.holdsV 53 a k = decide (k <= a) := rfl
theorem held1 (x v : Int) : C.heldB 1 x v = (x == v) := rfl
theorem held5 (x v : Int) : C.heldB 5 x v = decide (v < x) := rfl
theorem held6 (x v : Int) : C.heldB 6 x v = decide (v <= x) := by
 unfold C.heldB
 rw [if_neg (by decide), if_neg (by decide), if_neg (by decide), if_neg (by decide), if_neg (by decide)]
 simp
theorem low_run (d : V.Da) (hd : d.ok) (g : Int) (h0 : 0 <= g) (h5 : g < 6) (n : C.No) (hn : Fit n) (yes no : Nat) (s : V.St) :
  Fall d (lowI g n yes no) s 3 (if V.holdsV (codeI n.o) (V.lo (C.an (d.g.getD g.toNat 0) n.m)) (V.lo n.v) = true then yes else no) := by
 obtain ⟨k, t, hk, hta, hw⟩ := word_run d hd (16 + 8 * g) (V.lo n.m) s
 rw [ld_lo d hd g h0 h5, lo_an (arg_u d hd _) hn.m] at hta
 refine ⟨1 + k, t, by omega, fun b => ?_⟩
 unfold lowI
 rw [List.append_assoc, hw]
 show ((ex d (⟨codeI n.o, yes, no, V.lo n.v⟩ :: b) 0 t).1 + k, (ex d (⟨codeI n.o, yes, no, V.lo n.v⟩ :: b) 0 t).2) = _
 rw [ex_jump d _ _ yes no b _ (code_ask n.o), hta]
 exact congrArg (fun z => (z, _)) (by omega)
theorem halves_le {x y : Int} : x <= y ↔ V.hi x < V.hi y \/ (V.hi x = V.hi y /\ V.lo x <= V.lo y) := by
 unfold V.hi V.lo
 omega
theorem halves_lt {x y : Int} : x < y ↔ V.hi x < V.hi y \/ (V.hi x = V.hi y /\ V.lo x < V.lo y) := by
 unfold V.hi V.lo
 omega
theorem halves_eq {x y : Int} : x = y ↔ (V.hi x = V.hi y /\ V.lo x = V.lo y) := by
 unfold V.hi V.lo
 omega
theorem an_le {x m : Int} (hx : V.U64 x) (hm : V.U64 m) : 0 <= C.an x m /\ C.an x m <= m := C.an_bd hx hm
theorem testY_run (d : V.Da) (hd : d.ok) (g : Int) (h0 : 0 <= g) (h5 : g < 6) (n : C.No) (hn : Fit n) (yes no : Nat) (s : V.St) :
  Fall d (testY g n yes no) s 7 (if heldY n (d.g.getD g.toNat 0) = true then yes else no) := by
 have hx := arg_u d hd g.toNat
 generalize hX : d.g.getD g.toNat 0 = x at hx
 have hb := an_le hx hn.m
 have hloX := lo_an hx hn.m
 have hhiX := hi_an hx hn.m
 obtain ⟨k, t, hk, hta, hw⟩ := word_run d hd (16 + 8 * g + 4) (V.hi n.m) s
 rw [ld_hi d hd g h0 h5, hX, hhiX] at hta
 have hlz : V.lo n.m = 0 -> V.lo (C.an x n.m) = 0 := fun h => by
  rw [<- hloX, h]
  have := u32_and_nat (V.lo x).toNat 0 (by have := V.lo_u x; unfold V.U32 at this; omega) (by decide)
  rw [show (((V.lo x).toNat : Nat) : Int) = V.lo x from by have := (V.lo_u x).1; omega] at this
  simpa using this
 have hhz : V.hi n.m = 0 -> V.hi (C.an x n.m) = 0 := fun h => by
  unfold V.hi at h ⊢
  omega
 unfold testY
 by_cases hl : V.lo n.m = 0
 ·rw [if_pos hl]
  refine ⟨1 + k, t, by omega, fun b => ?_⟩
  rw [List.append_assoc, hw]
  show ((ex d (⟨hiI n.o (V.lo n.v), yes, no, V.hi n.v⟩ :: b) 0 t).1 + k, (ex d (⟨hiI n.o (V.lo n.v), yes, no, V.hi n.v⟩ :: b) 0 t).2) = _
  rw [ex_jump d _ _ yes no b _ (hi_ask ..), hta]
  have key : V.holdsV (hiI n.o (V.lo n.v)) (V.hi (C.an x n.m)) (V.hi n.v) = heldY n x := by
   have hz := hlz hl
   unfold heldY
   rcases hn.o with ho | ho | ho
   ·have hv := hn.eq ho hl
    rw [ho]
    show V.holdsV 21 _ _ = C.heldB 1 _ _
    rw [holds21, held1, Bool.eq_iff_iff, beq_iff_eq, beq_iff_eq, halves_eq (x := C.an x n.m), hz, hv]
    simp
   ·rw [ho]
    show V.holdsV 37 _ _ = C.heldB 5 _ _
    rw [holds37, held5, Bool.eq_iff_iff, decide_eq_true_iff, decide_eq_true_iff, halves_lt (x := n.v), hz]
    have := (V.lo_u n.v).1
    omega
   ·rw [ho, held6]
    unfold hiI
    have hlv := (V.lo_u n.v).1
    by_cases hp : 0 < V.lo n.v
    ·rw [if_pos ⟨rfl, hp⟩, holds37, Bool.eq_iff_iff, decide_eq_true_iff, decide_eq_true_iff, halves_le (x := n.v), hz]
     omega
    ·rw [if_neg (fun h => hp h.2)]
     show V.holdsV 53 _ _ = _
     rw [holds53, Bool.eq_iff_iff, decide_eq_true_iff, decide_eq_true_iff, halves_le (x := n.v), hz]
     omega
  rw [key]
  exact congrArg (fun z => (z, _)) (by omega)
 ·rw [if_neg hl]
  by_cases hh : V.hi n.m = 0
  ·rw [if_pos hh]
   obtain ⟨j, s', hj, hr⟩ := low_run d hd g h0 h5 n hn yes no s
   rw [hX] at hr
   refine ⟨j, s', by omega, fun b => ?_⟩
   rw [hr b]
   have key : V.holdsV (codeI n.o) (V.lo (C.an x n.m)) (V.lo n.v) = heldY n x := by
    have hz := hhz hh
    unfold heldY
    rcases hn.o with ho | ho | ho
    ·have hv := hn.eq' ho hh
     rw [ho]
     show V.holdsV 21 _ _ = C.heldB 1 _ _
     rw [holds21, held1, Bool.eq_iff_iff, beq_iff_eq, beq_iff_eq, halves_eq (x := C.an x n.m), hz, hv]
     simp
    ·have hv := hn.le (by rw [ho]; decide)
     have hvh : V.hi n.v = 0 := by have := hn.v.1; unfold V.hi at hh ⊢; omega
     rw [ho]
     show V.holdsV 37 _ _ = C.heldB 5 _ _
     rw [holds37, held5, Bool.eq_iff_iff, decide_eq_true_iff, decide_eq_true_iff, halves_lt (x := n.v), hz, hvh]
     omega
    ·have hv := hn.le (by rw [ho]; decide)
     have hvh : V.hi n.v = 0 := by have := hn.v.1; unfold V.hi at hh ⊢; omega
     rw [ho]
     show V.holdsV 53 _ _ = C.heldB 6 _ _
     rw [holds53, held6, Bool.eq_iff_iff, decide_eq_true_iff, decide_eq_true_iff, halves_le (x := n.v), hz, hvh]
     omega
   rw [key]
  ·rw [if_neg hh]
   generalize hL : lowI g n yes no = L
   have hlow : ∀ t : V.St, Fall d L t 3 (if V.holdsV (codeI n.o) (V.lo (C.an x n.m)) (V.lo n.v) = true then yes else no) := fun t => by
    have := low_run d hd g h0 h5 n hn yes no t
    rw [hX, hL] at this
    exact this
   have hH : highI g n yes no = wordI (16 + 8 * g + 4) (V.hi n.m) ++ ((if n.o = 1 then [] else [⟨37, (1 + L.length + yes : Nat), 0, V.hi n.v⟩]) ++ [⟨21, 0, (L.length + no : Nat), V.hi n.v⟩]) := by unfold highI; rw [hL]
   rw [hH]
   obtain ⟨j, s', hj, hr⟩ := hlow t
   -- the last jump, of the higher words that are not greater
   have last : ∀ b, ex d (⟨21, 0, (L.length + no : Nat), V.hi n.v⟩ :: (L ++ b)) 0 t = if V.hi (C.an x n.m) = V.hi n.v then ((ex d b (if V.holdsV (codeI n.o) (V.lo (C.an x n.m)) (V.lo n.v) = true then yes else no) s').1 + j + 1, (ex d b (if V.holdsV (codeI n.o) (V.lo (C.an x n.m)) (V.lo n.v) = true then yes else no) s').2) else ((ex d b no t).1 + 1, (ex d b no t).2) := fun b => by
    have := ex_jump d 21 (V.hi n.v) 0 (L.length + no) (L ++ b) t (.inl rfl)
    rw [show ((0 : Nat) : Int) = 0 from rfl] at this
    rw [this, holds21, hta]
    by_cases he : V.hi (C.an x n.m) = V.hi n.v
    ·rw [if_pos he, if_pos (by rw [he]; simp), hr b]
    ·rw [if_neg he, if_neg (by simpa using he), ex_app]
   rcases hn.o with ho | ho
   ·rw [if_pos ho, List.nil_append]
    by_cases he : V.hi (C.an x n.m) = V.hi n.v
    ·refine ⟨j + 1 + k, s', by omega, fun b => ?_⟩
     rw [List.append_assoc, List.append_assoc, hw]
     show ((ex d (⟨21, 0, (L.length + no : Nat), V.hi n.v⟩ :: (L ++ b)) 0 t).1 + k, (ex d (⟨21, 0, (L.length + no : Nat), V.hi n.v⟩ :: (L ++ b)) 0 t).2) = _
     rw [last b, if_pos he]
     have key : V.holdsV (codeI n.o) (V.lo (C.an x n.m)) (V.lo n.v) = heldY n x := by
      unfold heldY
      rw [ho]
      show V.holdsV 21 _ _ = C.heldB 1 _ _
      rw [holds21, held1, Bool.eq_iff_iff, beq_iff_eq, beq_iff_eq, halves_eq (x := C.an x n.m)]
      simp [he]
     rw [key]
     exact congrArg (fun z => (z, _)) (by omega)
    ·refine ⟨1 + k, t, by omega, fun b => ?_⟩
     rw [List.append_assoc, List.append_assoc, hw]
     show ((ex d (⟨21, 0, (L.length + no : Nat), V.hi n.v⟩ :: (L ++ b)) 0 t).1 + k, (ex d (⟨21, 0, (L.length + no : Nat), V.hi n.v⟩ :: (L ++ b)) 0 t).2) = _
     rw [last b, if_neg he]
     have key : heldY n x = false := by
      unfold heldY
      rw [ho, held1, beq_eq_false_iff_ne]
      exact fun e => he (by rw [e])
     rw [key, if_neg (by decide)]
     exact congrArg (fun z => (z, _)) (by omega)
   ·have ho1 : n.o ≠ 1 := by rcases ho with h | h <;> rw [h] <;> decide
    rw [if_neg ho1]
    have first : ∀ b, ex d (⟨37, (1 + L.length + yes : Nat), 0, V.hi n.v⟩ :: ⟨21, 0, (L.length + no : Nat), V.hi n.v⟩ :: (L ++ b)) 0 t = if V.hi n.v < V.hi (C.an x n.m) then ((ex d b yes t).1 + 1, (ex d b yes t).2) else ((ex d (⟨21, 0, (L.length + no : Nat), V.hi n.v⟩ :: (L ++ b)) 0 t).1 + 1, (ex d (⟨21, 0, (L.length + no : Nat), V.hi n.v⟩ :: (L ++ b)) 0 t).2) := fun b => by
     have := ex_jump d 37 (V.hi n.v) (1 + L.length + yes) 0 (⟨21, 0, (L.length + no : Nat), V.hi n.v⟩ :: (L ++ b)) t (.inr (.inl rfl))
     rw [show ((0 : Nat) : Int) = 0 from rfl] at this
     rw [this, holds37, hta]
     by_cases he : V.hi n.v < V.hi (C.an x n.m)
     ·rw [if_pos he, if_pos (by simpa using he), show 1 + L.length + yes = (L.length + yes) + 1 from by omega, ex_succ, ex_app]
     ·rw [if_neg he, if_neg (by simpa using he)]
    rcases Int.lt_trichotomy (V.hi n.v) (V.hi (C.an x n.m)) with he | he | he
    ·refine ⟨1 + k, t, by omega, fun b => ?_⟩
     rw [List.append_assoc, List.append_assoc, hw]
     show ((ex d (⟨37, (1 + L.length + yes : Nat), 0, V.hi n.v⟩ :: ⟨21, 0, (L.length + no : Nat), V.hi n.v⟩ :: (L ++ b)) 0 t).1 + k, (ex d (⟨37, (1 + L.length + yes : Nat), 0, V.hi n.v⟩ :: ⟨21, 0, (L.length + no : Nat), V.hi n.v⟩ :: (L ++ b)) 0 t).2) = _
     rw [first b, if_pos he]
     have key : heldY n x = true := by
      unfold heldY
      rcases ho with ho | ho
      ·rw [ho, held5, decide_eq_true_iff, halves_lt (x := n.v)]; omega
      ·rw [ho, held6, decide_eq_true_iff, halves_le (x := n.v)]; omega
     rw [key, if_pos rfl]
     exact congrArg (fun z => (z, _)) (by omega)
    ·refine ⟨j + 1 + 1 + k, s', by omega, fun b => ?_⟩
     rw [List.append_assoc, List.append_assoc, hw]
     show ((ex d (⟨37, (1 + L.length + yes : Nat), 0, V.hi n.v⟩ :: ⟨21, 0, (L.length + no : Nat), V.hi n.v⟩ :: (L ++ b)) 0 t).1 + k, (ex d (⟨37, (1 + L.length + yes : Nat), 0, V.hi n.v⟩ :: ⟨21, 0, (L.length + no : Nat), V.hi n.v⟩ :: (L ++ b)) 0 t).2) = _
     rw [first b, if_neg (by omega), last b, if_pos he.symm]
     have key : V.holdsV (codeI n.o) (V.lo (C.an x n.m)) (V.lo n.v) = heldY n x := by
      unfold heldY
      rcases ho with ho | ho
      ·rw [ho]
       show V.holdsV 37 _ _ = C.heldB 5 _ _
       rw [holds37, held5, Bool.eq_iff_iff, decide_eq_true_iff, decide_eq_true_iff, halves_lt (x := n.v)]
       omega
      ·rw [ho]
       show V.holdsV 53 _ _ = C.heldB 6 _ _
       rw [holds53, held6, Bool.eq_iff_iff, decide_eq_true_iff, decide_eq_true_iff, halves_le (x := n.v)]
       omega
     rw [key]
     exact congrArg (fun z => (z, _)) (by omega)
    ·refine ⟨1 + 1 + k, t, by omega, fun b => ?_⟩
     rw [List.append_assoc, List.append_assoc, hw]
     show ((ex d (⟨37, (1 + L.length + yes : Nat), 0, V.hi n.v⟩ :: ⟨21, 0, (L.length + no : Nat), V.hi n.v⟩ :: (L ++ b)) 0 t).1 + k, (ex d (⟨37, (1 + L.length + yes : Nat), 0, V.hi n.v⟩ :: ⟨21, 0, (L.length + no : Nat), V.hi n.v⟩ :: (L ++ b)) 0 t).2) = _
     rw [first b, if_neg (by omega), last b, if_neg (by omega)]
     have key : heldY n x = false := by
      unfold heldY
      rcases ho with ho | ho
      ·rw [ho, held5, decide_eq_false_iff_not, halves_lt (x := n.v)]; omega
      ·rw [ho, held6, decide_eq_false_iff_not, halves_le (x := n.v)]; omega
     rw [key, if_neg (by decide)]
     exact congrArg (fun z => (z, _)) (by omega)
theorem test_run (d : V.Da) (hd : d.ok) (g : Int) (h0 : 0 <= g) (h5 : g < 6) (n : C.No) (hn : Fit n) (rest : Nat) (s : V.St) :
  Fall d (testI g n rest) s 7 (if C.isN n (d.g.getD g.toNat 0) = true then 0 else rest) := by
 rw [hn.is]
 unfold testI
 cases hc : n.no with
 | true =>
  rw [if_pos rfl]
  have := testY_run d hd g h0 h5 n hn rest 0 s
  cases hh : heldY n (d.g.getD g.toNat 0) with
  | true => rw [hh, if_pos rfl] at this; exact this
  | false => rw [hh, if_neg (by decide)] at this; exact this
 | false =>
  rw [if_neg (by decide)]
  have := testY_run d hd g h0 h5 n hn 0 rest s
  cases hh : heldY n (d.g.getD g.toNat 0) with
  | true => rw [hh, if_pos rfl] at this; exact this
  | false => rw [hh, if_neg (by decide)] at this; exact this
theorem u32_ok {c k : Int} {t f : Nat} (hc : 0 <= c /\ c <= 65535) (ht : t <= 255) (hf : f <= 255) (hk : V.U32 k) : V.In.ok ⟨c, t, f, k⟩ := by
 unfold V.In.ok
 exact ⟨hc, by dsimp only; omega, by dsimp only; omega, hk⟩
theorem ask_bd {c : Int} (h : Ask c) : 0 <= c /\ c <= 65535 := by
 rcases h with rfl | rfl | rfl <;> decide
theorem word_gd (p m : Int) (b : Nat) (hb : 0 < b) (hp : p % 4 = 0) (h0 : 0 <= p) (h6 : p < 64) (hm : V.U32 m) : Gd b (wordI p m) := by
 have hpu : V.U32 p := ⟨h0, by omega⟩
 unfold wordI
 split
 ·exact ⟨⟨u32_ok (t := 0) (f := 0) (by decide) (by decide) (by decide) hpu, fault_ld p _ hp h6 (by omega)⟩, trivial⟩
 ·exact ⟨⟨u32_ok (t := 0) (f := 0) (by decide) (by decide) (by decide) hpu, fault_ld p _ hp h6 (by omega)⟩, ⟨u32_ok (t := 0) (f := 0) (by decide) (by decide) (by decide) hm, fault_and m _ (by omega)⟩, trivial⟩
theorem jump_gd (c k : Int) (t f b : Nat) (hc : Ask c) (ht : t <= 255) (hf : f <= 255) (hk : V.U32 k) (htb : t < b) (hfb : f < b) : Gd b [⟨c, t, f, k⟩] :=
 ⟨⟨u32_ok (ask_bd hc) ht hf hk, fault_jump c k t f _ hc (by omega) (by omega)⟩, trivial⟩
theorem testY_gd (g : Int) (h0 : 0 <= g) (h5 : g < 6) (n : C.No) (hn : Fit n) (yes no b : Nat) (hy : yes < b) (ho : no < b) (hy2 : yes <= 200) (ho2 : no <= 200) : Gd b (testY g n yes no) := by
 have hlow : Gd b (lowI g n yes no) := by
  unfold lowI
  exact Gd.app (word_gd _ _ _ (by simp; omega) (by omega) (by omega) (by omega) (V.lo_u _)) (jump_gd _ _ yes no _ (code_ask _) (by omega) (by omega) (V.lo_u _) hy ho)
 unfold testY
 split
 ·exact Gd.app (word_gd _ _ _ (by simp; omega) (by omega) (by omega) (by omega) (V.hi_u _ hn.m)) (jump_gd _ _ yes no _ (hi_ask ..) (by omega) (by omega) (V.hi_u _ hn.v) hy ho)
 ·split
  ·exact hlow
  ·refine Gd.app ?_ hlow
   have hL := low_len g n yes no
   unfold highI
   refine Gd.app (word_gd _ _ _ (by simp; omega) (by omega) (by omega) (by omega) (V.hi_u _ hn.m)) ?_
   have h21 : Gd ((lowI g n yes no).length + b) [⟨21, 0, ((lowI g n yes no).length + no : Nat), V.hi n.v⟩] :=
    jump_gd 21 _ 0 ((lowI g n yes no).length + no) _ (.inl rfl) (by omega) (by omega) (V.hi_u _ hn.v) (by omega) (by omega)
   split
   ·exact h21
   ·refine Gd.app ?_ h21
    exact jump_gd 37 _ (1 + (lowI g n yes no).length + yes) 0 _ (.inr (.inl rfl)) (by omega) (by omega) (V.hi_u _ hn.v) (by simp; omega) (by simp; omega)
theorem test_gd (g : Int) (h0 : 0 <= g) (h5 : g < 6) (n : C.No) (hn : Fit n) (rest b : Nat) (hy : rest < b) (hr : rest <= 200) : Gd b (testI g n rest) := by
 unfold testI
 split
 ·exact testY_gd g h0 h5 n hn rest 0 b hy (by omega) hr (by omega)
 ·exact testY_gd g h0 h5 n hn 0 rest b (by omega) hy (by omega) hr
end Go.Proofs.YtcckipimfgmmdaaGreatDoor
