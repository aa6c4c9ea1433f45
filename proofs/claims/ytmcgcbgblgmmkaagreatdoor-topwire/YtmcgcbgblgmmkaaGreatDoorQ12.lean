/-
  MNames MWrong MTabM MDec MGath MSrt0 MSrt1 MSrtN MSrtP MNumbM MWgt.
-/
import Derived.Test.YtmcgcbgblgmmkaaGreatDoorQ11
import Derived.Laws.EntriesVeiled
import Derived.Maps.OwnSet
import Derived.Sort.LotA
import Derived.Sort.LotB
import Derived.Sort.LotC
import Derived.CellFam
import Derived.Test.YtmcgcbgblgmmkaaGreatDoorMShelf
import Derived.Maps.RangeWalk
set_option maxRecDepth 100000
set_option maxHeartbeats 4000000
namespace Go.Proofs.YtmcgcbgblgmmkaaGreatDoor.M
open F (ret_int)
open F.D (ret_bool)
open Go.RowKit
theorem unknown_any (s : ByteArray) (w : World) : Calls Tryz.prog 114 #[.string s] w fun e w' => e = .returned (.bool (!knB s)) /\ Below w.heap.size w w' := by
 go_enter Tryz.func114, Tryz.ntmps114
 go_wp2_with (go_at_call 147; refine (nr_any _ _).mono ?_; rintro e w1 ⟨rfl, b1⟩)
 go_ret
 exact ⟨rfl, b1⟩
def ixOf (p : ByteArray -> Bool) (l : List ByteArray) : Int := match l.findIdx? p with | some i => (i : Int) | none => -1
theorem ixOf_hit {p : ByteArray -> Bool} {l : List ByteArray} {i : Nat} (h : i < l.length) (hp : p l[i] = true) (ha : ((l.take i).any p) = false) : ixOf p l = i := by
 unfold ixOf
 have : l.findIdx? p = some i := by
  rw [List.findIdx?_eq_some_iff_getElem]
  refine ⟨h, hp, fun j hj => ?_⟩
  rw [List.any_eq_false] at ha
  have := ha l[j] (by rw [List.mem_take_iff_getElem]; exact ⟨j, by omega, rfl⟩)
  simpa using this
 rw [this]
theorem ixOf_none {p : ByteArray -> Bool} {l : List ByteArray} (ha : l.any p = false) : ixOf p l = -1 := by
 unfold ixOf
 have : l.findIdx? p = none := by
  rw [List.findIdx?_eq_none_iff]
  rw [List.any_eq_false] at ha
  intro x hx
  simpa using ha x hx
 rw [this]
theorem ixOf_ge (p : ByteArray -> Bool) (l : List ByteArray) : decide (0 <= ixOf p l) = l.any p := by
 unfold ixOf
 cases h : l.findIdx? p with
 | none =>
  rw [List.findIdx?_eq_none_iff] at h
  have : l.any p = false := by rw [List.any_eq_false]; intro x hx; simp [h x hx]
  rw [this]
  rfl
 | some i =>
  rw [List.findIdx?_eq_some_iff_getElem] at h
  obtain ⟨hi, hp, _⟩ := h
  have : l.any p = true := by rw [List.any_eq_true]; exact ⟨_, List.getElem_mem hi, hp⟩
  rw [this]
  exact decide_eq_true (by show (0 : Int) <= (i : Int); omega)
theorem any_step {p : ByteArray -> Bool} {l : List ByteArray} {i : Nat} (h : i < l.length) (hp : p l[i] = false) (ht : (l.take i).any p = false) : (l.take (i + 1)).any p = false := by
 rw [List.take_succ_eq_append_getElem h, List.any_append, ht]
 simp [hp]
theorem any_end {p : ByteArray -> Bool} {l : List ByteArray} {i : Nat} (h : ¬ i < l.length) (ht : (l.take i).any p = false) : l.any p = false := by
 rwa [List.take_of_length_le (by omega)] at ht
theorem indexF_any (w : World) (v : Value) (l : List ByteArray) (h : StrR w v l) (hl : l.length <= 9000000) :
  Calls Tryz.prog 146 #[v, .func (.func 114) #[] #[]] w fun e w' => e = .returned (.int .i64 (ixOf (fun s => !knB s) l)) /\ Below w.heap.size w w' := by
 obtain ⟨p1, c1, rfl⟩ : ∃ p c, v = .slice p l.length c := by obtain ⟨p, c, e, _⟩ := h; exact ⟨p, c, e⟩
 have S1 : Hid (StrR w (.slice p1 l.length c1) l) := h
 clear h
 have HR : Hid (∀ i (hi : i < l.length), (!knB l[i]) = true -> ((l.take i).any fun s => !knB s) = false -> ixOf (fun s => !knB s) l = i) := fun i hi h1 h2 => ixOf_hit hi h1 h2
 have HN : Hid ((l.any fun s => !knB s) = false -> ixOf (fun s => !knB s) l = -1) := ixOf_none
 generalize ixOf (fun s => !knB s) l = R at *
 go_enter Tryz.func146, Tryz.ntmps146
 go_wp2
 go_loopw [8] (fun vi wr => ∃ i : Nat, vi = .int .i64 i /\ i <= l.length /\ ((l.take i).any fun s => !knB s) = false /\ Below w.heap.size w wr) (fun vi _ => l.length - (intOf vi).toNat)
 case atStart => exact ⟨0, rfl, Nat.zero_le _, rfl, Below.refl _ _⟩
 case round =>
  obtain ⟨i, rfl, hi, ht, hb⟩ := hrel
  have HT : Hid (((l.take i).any fun s => !knB s) = false) := ht
  have HB : Hid (Below w.heap.size w wr) := hb
  clear ht
  by_cases hlt : i < l.length
  ·have hi1 : (i : Int) < (l.length : Int) := by omega
   obtain ⟨b1, o1, rfl, e1⟩ := strR_at (S1.out.below hb) hlt
   have HX : Hid (∀ W, Calls Tryz.prog 114 #[.string l[i]] W fun e w' => e = .returned (.bool (!knB l[i])) /\ Below W.heap.size W w') := unknown_any _
   have HS : Hid ((!knB l[i]) = false -> ((l.take (i + 1)).any fun s => !knB s) = false) := fun hq => any_step (p := fun s => !knB s) hlt hq HT.out
   have HF : Hid ((!knB l[i]) = true -> R = i) := fun hq => HR.out i hlt hq HT.out
   clear hb HR HN
   generalize (!knB l[i]) = q at *
   generalize l[i] = s at *
   cases q with
   | true =>
    go_wp2_with (go_at_call 114; refine (HX.out _).mono ?_; rintro e w1 ⟨rfl, b1⟩)
    go_ret
    exact ⟨ret_int (HF.out trivial).symm, HB.out.trans (b1.mono HB.out.size)⟩
   | false =>
    go_wp2_with (go_at_call 114; refine (HX.out _).mono ?_; rintro e w1 ⟨rfl, b1⟩)
    go_roundw
    case rel => exact ⟨i + 1, by go_num, hlt, HS.out trivial, HB.out.trans (b1.mono HB.out.size)⟩
    case measure => simp [intOf]; omega
  ·have hge : ¬ (i : Int) < (l.length : Int) := by omega
   clear hb
   go_wp2
   go_ret
   exact ⟨ret_int (HN.out (any_end hlt HT.out)).symm, HB.out⟩
theorem containsF_any (w : World) (v : Value) (l : List ByteArray) (h : StrR w v l) (hl : l.length <= 9000000) :
  Calls Tryz.prog 113 #[v, .func (.func 114) #[] #[]] w fun e w' => e = .returned (.bool (l.any fun s => !knB s)) /\ Below w.heap.size w w' := by
 have HI : Hid (Calls Tryz.prog 146 #[v, .func (.func 114) #[] #[]] w fun e w' => e = .returned (.int .i64 (ixOf (fun s => !knB s) l)) /\ Below w.heap.size w w') := indexF_any w v l h hl
 have HG : Hid (decide (0 <= ixOf (fun s => !knB s) l) = l.any fun s => !knB s) := ixOf_ge _ _
 obtain ⟨p1, c1, rfl⟩ : ∃ p c, v = .slice p l.length c := by obtain ⟨p, c, e, _⟩ := h; exact ⟨p, c, e⟩
 clear h
 generalize ixOf (fun s => !knB s) l = R at *
 go_enter Tryz.func113, Tryz.ntmps113
 go_wp2_with (go_at_call 146; refine HI.out.mono ?_; rintro e w1 ⟨rfl, b1⟩)
 go_ret
 exact ⟨ret_bool HG.out, b1⟩
theorem index_any (w : World) (v : Value) (l : List ByteArray) (x : ByteArray) (h : StrR w v l) (hl : l.length <= 9000000) :
  Calls Tryz.prog 148 #[v, .string x] w fun e w' => e = .returned (.int .i64 (ixOf (fun s => eqS x s) l)) /\ w' = w := by
 obtain ⟨p1, c1, rfl⟩ : ∃ p c, v = .slice p l.length c := by obtain ⟨p, c, e, _⟩ := h; exact ⟨p, c, e⟩
 have S1 : Hid (StrR w (.slice p1 l.length c1) l) := h
 clear h
 have HR : Hid (∀ i (hi : i < l.length), eqS x l[i] = true -> ((l.take i).any fun s => eqS x s) = false -> ixOf (fun s => eqS x s) l = i) := fun i hi h1 h2 => ixOf_hit hi h1 h2
 have HN : Hid ((l.any fun s => eqS x s) = false -> ixOf (fun s => eqS x s) l = -1) := ixOf_none
 generalize ixOf (fun s => eqS x s) l = R at *
 go_enter Tryz.func148, Tryz.ntmps148
 go_wp2
 go_loop [8] (fun vi => ∃ i : Nat, vi = .int .i64 i /\ i <= l.length /\ ((l.take i).any fun s => eqS x s) = false) (fun vi => l.length - (intOf vi).toNat)
 case atStart => exact ⟨0, rfl, Nat.zero_le _, rfl⟩
 case round =>
  obtain ⟨i, rfl, hi, ht⟩ := hrel
  have HT : Hid (((l.take i).any fun s => eqS x s) = false) := ht
  clear ht
  by_cases hlt : i < l.length
  ·have hi1 : (i : Int) < (l.length : Int) := by omega
   obtain ⟨b1, o1, rfl, e1⟩ := strR_at S1.out hlt
   have HS : Hid (eqS x l[i] = false -> ((l.take (i + 1)).any fun s => eqS x s) = false) := fun hq => any_step (p := fun s => eqS x s) hlt hq HT.out
   have HF : Hid (eqS x l[i] = true -> R = i) := fun hq => HR.out i hlt hq HT.out
   clear HR HN
   generalize l[i] = s at *
   rcases Bool.eq_false_or_eq_true (eqS x s) with hq | hq
   ·have hq' : (x.toList == s.toList) = true := (eqS_to _ _).trans hq
    go_wp2
    go_ret
    exact ⟨ret_int (HF.out hq).symm, rfl⟩
   ·have hq' : (x.toList == s.toList) = false := (eqS_to _ _).trans hq
    go_wp2
    go_round
    case rel => exact ⟨i + 1, by go_num, hlt, HS.out hq⟩
    case measure => simp [intOf]; omega
  ·have hge : ¬ (i : Int) < (l.length : Int) := by omega
   go_wp2
   go_ret
   exact ⟨ret_int (HN.out (any_end hlt HT.out)).symm, rfl⟩
theorem contains_any (w : World) (v : Value) (l : List ByteArray) (x : ByteArray) (h : StrR w v l) (hl : l.length <= 9000000) :
  Calls Tryz.prog 115 #[v, .string x] w fun e w' => e = .returned (.bool (l.any fun s => eqS x s)) /\ w' = w := by
 have HI : Hid (Calls Tryz.prog 148 #[v, .string x] w fun e w' => e = .returned (.int .i64 (ixOf (fun s => eqS x s) l)) /\ w' = w) := index_any w v l x h hl
 have HG : Hid (decide (0 <= ixOf (fun s => eqS x s) l) = l.any fun s => eqS x s) := ixOf_ge _ _
 obtain ⟨p1, c1, rfl⟩ : ∃ p c, v = .slice p l.length c := by obtain ⟨p, c, e, _⟩ := h; exact ⟨p, c, e⟩
 clear h
 generalize ixOf (fun s => eqS x s) l = R at *
 go_enter Tryz.func115, Tryz.ntmps115
 go_wp2_with (go_at_call 148; refine HI.out.mono ?_; rintro e w1 ⟨rfl, rfl⟩)
 go_ret
 exact ⟨ret_bool HG.out, rfl⟩
open F.D (Blk blk_new)
def twAt (l : List ByteArray) (i : Nat) : Bool := match l[i]? with | some x => (l.take i).any fun s => eqS x s | none => false
def twB (l : List ByteArray) : Bool := (List.range l.length).any (twAt l)
def wrongN (l : List ByteArray) : Int := if (l.any fun s => !knB s) = true then 8 else if twB l = true then 9 else 0
theorem twAt_eq {l : List ByteArray} {i : Nat} (h : i < l.length) : twAt l i = (l.take i).any fun s => eqS l[i] s := by
 unfold twAt
 rw [List.getElem?_eq_getElem h]
theorem twB_hit {l : List ByteArray} {i : Nat} (h : i < l.length) (ht : twAt l i = true) : twB l = true := by
 unfold twB
 rw [List.any_eq_true]
 exact ⟨i, List.mem_range.2 h, ht⟩
theorem twB_none {l : List ByteArray} (h : ∀ i, i < l.length -> twAt l i = false) : twB l = false := by
 unfold twB
 rw [List.any_eq_false]
 intro i hi
 rw [h i (List.mem_range.1 hi)]
 decide
theorem StrR.take {w : World} {p : Option Addr} {l : List ByteArray} {c i : Nat} (h : StrR w (.slice p l.length c) l) (hi : i <= l.length) : StrR w (.slice p i c) (l.take i) := by
 obtain ⟨a, cap, e, h1, h2, hc⟩ := h
 cases e
 have hlen : (l.take i).length = i := by rw [List.length_take]; omega
 refine ⟨p, c, by rw [hlen], by omega, h2, fun h0 => ?_⟩
 obtain ⟨b, o, rfl, hx⟩ := hc (by omega)
 refine ⟨b, o, rfl, fun j s hj => hx j s ?_⟩
 rw [List.getElem?_take] at hj
 split at hj
 ·exact hj
 ·cases hj
theorem wrong_any (w : World) (v : Value) (l : List ByteArray) (h : StrR w v l) (hl : l.length <= 9000000) :
  Calls Tryz.prog 74 #[v] w fun e w' => e = .returned (.int .i64 (wrongN l)) /\ Below w.heap.size w w' := by
 obtain ⟨p1, c1, rfl⟩ : ∃ p c, v = .slice p l.length c := by obtain ⟨p, c, e, _⟩ := h; exact ⟨p, c, e⟩
 have hlc : l.length <= c1 := by obtain ⟨p, c, e, h1, _⟩ := h; cases e; exact h1
 have S1 : Hid (StrR w (.slice p1 l.length c1) l) := h
 have HU : Hid (Calls Tryz.prog 113 #[.slice p1 l.length c1, .func (.func 114) #[] #[]] w fun e w' => e = .returned (.bool (l.any fun s => !knB s)) /\ Below w.heap.size w w') := containsF_any w _ l h hl
 have HE : Hid (wrongN l = if (l.any fun s => !knB s) = true then 8 else if twB l = true then 9 else 0) := rfl
 clear h
 generalize wrongN l = R at *
 generalize (l.any fun s => !knB s) = U at *
 cases U with
 | true =>
  go_enter Tryz.func74, Tryz.ntmps74
  go_wp2_with (go_at_call 113; refine HU.out.mono ?_; rintro e w1 ⟨rfl, b1⟩)
  go_ret
  exact ⟨ret_int HE.out.symm, b1⟩
 | false =>
  go_enter Tryz.func74, Tryz.ntmps74
  go_wp2_with (go_at_call 113; refine HU.out.mono ?_; rintro e w1 ⟨rfl, b1⟩)
  have S2 : Hid (StrR w1 (.slice p1 l.length c1) l) := S1.out.below b1
  have B1 : Hid (Below w.heap.size w w1) := b1
  clear b1 S1
  go_loop [9] (fun vi => ∃ i : Nat, vi = .int .i64 i /\ i <= l.length /\ ∀ j, j < i -> twAt l j = false) (fun vi => l.length - (intOf vi).toNat)
  case atStart => exact ⟨0, rfl, Nat.zero_le _, fun j hj => absurd hj (Nat.not_lt_zero _)⟩
  case round =>
   obtain ⟨i, rfl, hi, ht⟩ := hrel
   have HT : Hid (∀ j, j < i -> twAt l j = false) := ht
   clear ht
   by_cases hlt : i < l.length
   ·have hi1 : (i : Int) < (l.length : Int) := by omega
    have S3 : Hid (StrR w1 (.slice p1 i c1) (l.take i)) := S2.out.take (Nat.le_of_lt hlt)
    obtain ⟨b1, o1, rfl, e1⟩ := strR_at S2.out hlt
    have HX : Hid (Calls Tryz.prog 115 #[.slice (some ⟨b1, o1, none⟩) i c1, .string l[i]] w1 fun e w' => e = .returned (.bool (twAt l i)) /\ w' = w1) := by
     rw [twAt_eq hlt]
     exact contains_any w1 _ _ _ S3.out (by rw [List.length_take]; omega)
    have HS : Hid (twAt l i = false -> ∀ j, j < i + 1 -> twAt l j = false) := fun hq j hj => by
     rcases Nat.lt_or_ge j i with h | h
     ·exact HT.out j h
     ·obtain rfl : j = i := by omega
      exact hq
    have HF : Hid (twAt l i = true -> twB l = true) := fun hq => twB_hit hlt hq
    clear S2 S3 HT
    generalize l[i] = s at *
    generalize twAt l i = q at *
    have hic : (i : Int) <= (c1 : Int) := by omega
    cases q with
    | true =>
     go_wp2_with (go_at_call 115; refine HX.out.mono ?_; rintro e w2 ⟨rfl, rfl⟩)
     go_ret
     exact ⟨ret_int (by rw [HE.out, if_neg (by decide), if_pos (HF.out trivial)]), B1.out⟩
    | false =>
     go_wp2_with (go_at_call 115; refine HX.out.mono ?_; rintro e w2 ⟨rfl, rfl⟩)
     go_round
     case rel => exact ⟨i + 1, by go_num, hlt, HS.out trivial⟩
     case measure => simp [intOf]; omega
   ·have hge : ¬ (i : Int) < (l.length : Int) := by omega
    go_wp2
    go_ret
    exact ⟨ret_int (by rw [HE.out, if_neg (by decide), if_neg (by rw [twB_none fun j hj => HT.out j (by omega)]; decide)]), B1.out⟩
def wrongFrom : Nat -> List Xl -> Int × Int
 | _, [] => (0, -1)
 | i, x :: r => if wrongN x.names = 0 then wrongFrom (i + 1) r else (wrongN x.names, i)
def checkP (k a : Int) (l : List Xl) : Int × Int := if rulesB k a l = true then wrongFrom 0 l else (1, -1)
theorem wrongFrom_step {l : List Xr} {i : Nat} (h : i < l.length) : wrongFrom i ((l.drop i).map Xr.r) = if wrongN l[i].r.names = 0 then wrongFrom (i + 1) ((l.drop (i + 1)).map Xr.r) else (wrongN l[i].r.names, (i : Int)) := by
 rw [List.drop_eq_getElem_cons h]
 rfl
theorem wrongFrom_end {l : List Xr} {i : Nat} (h : ¬ i < l.length) : wrongFrom i ((l.drop i).map Xr.r) = (0, -1) := by
 rw [List.drop_eq_nil_of_le (by omega)]
 rfl
theorem ret_ints {k k' : IntKind} {a b : Int} {c d : Int} (h : a = b) (h' : c = d) : Ending.returned (.tuple #[.int k a, .int k' c]) = .returned (.tuple #[.int k b, .int k' d]) := by rw [h, h']
theorem check_any (w : World) (k a : Int) (v : Value) (l : List Xr) (h : RlR w v l) (hl : l.length <= 1000) (hs : ∀ x ∈ l, x.r.names.length <= 9000000 /\ x.r.conds.length <= 9000000) :
  Calls Tryz.prog 36 #[.agg #[.int .i64 k, .int .i64 a, v]] w fun e w' => e = .returned (.tuple #[.int .i64 (checkP k a (l.map Xr.r)).1, .int .i64 (checkP k a (l.map Xr.r)).2]) /\ Below w.heap.size w w' := by
 obtain ⟨p1, c1, rfl⟩ : ∃ p c, v = .slice p l.length c := by obtain ⟨p, c, e, _⟩ := h; exact ⟨p, c, e⟩
 have be : Below w.heap.size w (w.alloc (Obj.cells #[.int .i64 k, .int .i64 a, .slice p1 l.length c1] 58)) := (Below.refl _ _).alloc (Nat.le_refl _) _
 have BE : Hid (Below w.heap.size w (w.alloc (Obj.cells #[.int .i64 k, .int .i64 a, .slice p1 l.length c1] 58))) := be
 have HK : Hid (Blk (w.alloc (Obj.cells #[.int .i64 k, .int .i64 a, .slice p1 l.length c1] 58)) w.heap.size 58 [.int .i64 k, .int .i64 a, .slice p1 l.length c1]) := blk_new w _ _
 have SN : Hid (RlR (w.alloc (Obj.cells #[.int .i64 k, .int .i64 a, .slice p1 l.length c1] 58)) (.slice p1 l.length c1) l) := h.below be
 have HA : Hid (∀ W, RlR W (.slice p1 l.length c1) l -> Calls Tryz.prog 73 #[.agg #[.int .i64 k, .int .i64 a, .slice p1 l.length c1]] W fun e w' => e = .returned (.bool (rulesB k a (l.map Xr.r))) /\ Below W.heap.size W w') := fun W h => right_any W k a _ l h hl hs
 have HE : Hid (checkP k a (l.map Xr.r) = if rulesB k a (l.map Xr.r) = true then wrongFrom 0 ((l.drop 0).map Xr.r) else (1, -1)) := rfl
 have HM : Hid (∀ x ∈ l, x.r.names.length <= 9000000 /\ x.r.conds.length <= 9000000) := hs
 clear h be hs
 generalize checkP k a (l.map Xr.r) = R at *
 generalize rulesB k a (l.map Xr.r) = RB at *
 cases RB with
 | false =>
  go_enter Tryz.func36, Tryz.ntmps36
  go_wp2_with fail
  generalize (w.alloc (Obj.cells #[.int .i64 k, .int .i64 a, .slice p1 l.length c1] 58)) = X at *
  refine (HA.out _ SN.out).mono ?_
  rintro e w1 ⟨rfl, b1⟩
  go_wp2_with fail
  go_ret2
  exact ⟨ret_ints (by rw [HE.out]; rfl) (by rw [HE.out]; rfl), BE.out.trans (b1.mono BE.out.size)⟩
 | true =>
  go_enter Tryz.func36, Tryz.ntmps36
  go_wp2_with fail
  generalize (w.alloc (Obj.cells #[.int .i64 k, .int .i64 a, .slice p1 l.length c1] 58)) = X at *
  refine (HA.out _ SN.out).mono ?_
  rintro e w1 ⟨rfl, b1⟩
  have t2 : w1.cell? ⟨w.heap.size, 2, none⟩ = some (.slice p1 l.length c1) := (HK.out.over b1).cell 2
  have S1 : Hid (RlR w1 (.slice p1 l.length c1) l) := SN.out.below b1
  have B1 : Hid (Below w.heap.size w w1) := BE.out.trans (b1.mono BE.out.size)
  have HE2 : Hid (R = wrongFrom 0 ((l.drop 0).map Xr.r)) := HE.out.trans (if_pos trivial)
  clear b1 BE HE SN HA HK
  go_wp2_with fail
  clear t2
  go_loopw [13] (fun vi wr => ∃ i : Nat, vi = .int .i64 i /\ i <= l.length /\ R = wrongFrom i ((l.drop i).map Xr.r) /\ Below w1.heap.size w1 wr) (fun vi _ => l.length - (intOf vi).toNat)
  case atStart => exact ⟨0, rfl, Nat.zero_le _, HE2.out, Below.refl _ _⟩
  case round =>
   obtain ⟨i, rfl, hi, ht, hb⟩ := hrel
   have HT : Hid (R = wrongFrom i ((l.drop i).map Xr.r)) := ht
   have HB : Hid (Below w1.heap.size w1 wr) := hb
   clear ht
   by_cases hlt : i < l.length
   ·have hi1 : (i : Int) < (l.length : Int) := by omega
    obtain ⟨b1, o1, rfl, e1⟩ := rlR_at (S1.out.below hb) hlt
    have hmem : l[i] ∈ l := List.getElem_mem hlt
    have HX : Hid (∀ W, Below w1.heap.size w1 W -> Calls Tryz.prog 74 #[l[i].vn] W fun e w' => e = .returned (.int .i64 (wrongN l[i].r.names)) /\ Below W.heap.size W w') := fun W hW => by
     obtain ⟨_, _, _, _, _, _, hr⟩ := S1.out.below hW
     exact wrong_any W _ _ (hr _ hmem).1 (HM.out _ hmem).1
    have HS : Hid (R = if wrongN l[i].r.names = 0 then wrongFrom (i + 1) ((l.drop (i + 1)).map Xr.r) else (wrongN l[i].r.names, (i : Int))) := HT.out.trans (wrongFrom_step hlt)
    obtain ⟨p3, n3, c3, e3⟩ : ∃ p n c, l[i].vn = .slice p n c := by obtain ⟨_, _, _, _, _, _, hr⟩ := S1.out; obtain ⟨p, c, e, _⟩ := (hr _ hmem).1; exact ⟨p, _, c, e⟩
    obtain ⟨p4, n4, c4, e4⟩ : ∃ p n c, l[i].vc = .slice p n c := by obtain ⟨_, _, _, _, _, _, hr⟩ := S1.out; obtain ⟨p, c, e, _⟩ := (hr _ hmem).2; exact ⟨p, _, c, e⟩
    clear hmem HT
    generalize l[i] = x at *
    obtain ⟨⟨xk, xa, ns, cs⟩, vn, vc⟩ := x
    obtain ⟨q0, q1, q2, q3⟩ := e1
    dsimp only at q0 q1 q2 q3 HX HS e3 e4
    subst e3 e4
    have BE : Hid (Below w1.heap.size w1 (wr.alloc (Obj.cells #[.int .i64 xk, .int .i64 xa, .slice p3 n3 c3, .slice p4 n4 c4] 150))) := HB.out.alloc HB.out.size _
    clear hb
    generalize wrongN ns = WN at *
    rcases Bool.eq_false_or_eq_true (WN == 0) with hq | hq
    ·obtain rfl : WN = 0 := by simpa using hq
     go_wp2_with (go_at_call 74; refine (HX.out _ BE.out).mono ?_; rintro e w2 ⟨rfl, b2⟩)
     go_roundw
     case rel => exact ⟨i + 1, by go_num, hlt, HS.out.trans (if_pos trivial), BE.out.trans (b2.mono BE.out.size)⟩
     case measure => simp [intOf]; omega
    ·have hn : ¬ WN = 0 := by simpa using hq
     have hn' : (WN != 0) = true := by simpa using hn
     have HS2 : Hid (R = (WN, (i : Int))) := HS.out.trans (if_neg hn)
     clear HS
     go_wp2_with (go_at_call 74; refine (HX.out _ BE.out).mono ?_; rintro e w2 ⟨rfl, b2⟩)
     go_ret2
     exact ⟨ret_ints (by rw [HS2.out]) (by rw [HS2.out]), B1.out.trans ((BE.out.trans (b2.mono BE.out.size)).mono B1.out.size)⟩
   ·have hge : ¬ (i : Int) < (l.length : Int) := by omega
    have HS2 : Hid (R = (0, -1)) := HT.out.trans (wrongFrom_end hlt)
    clear hb
    go_wp2
    go_ret2
    exact ⟨ret_ints (by rw [HS2.out]) (by rw [HS2.out]), B1.out.trans (HB.out.mono B1.out.size)⟩
theorem tab_names : (tab.all fun p => tab.all fun q => !(lst p.1 == lst q.1) || p.2 == q.2) = true := by kernel_rfl
theorem tab_nrs : (tab.all fun p => tab.all fun q => !(p.2 == q.2) || lst p.1 == lst q.1) = true := by kernel_rfl
theorem tab_name {p q : ByteArray × Nat} (hp : p ∈ tab) (hq : q ∈ tab) (h : p.1 = q.1) : p.2 = q.2 := by
 have h1 := List.all_eq_true.1 (List.all_eq_true.1 tab_names p hp) q hq
 rw [h] at h1
 simpa using h1
theorem tab_nr {p q : ByteArray × Nat} (hp : p ∈ tab) (hq : q ∈ tab) (h : p.2 = q.2) : p.1 = q.1 := by
 have h1 := List.all_eq_true.1 (List.all_eq_true.1 tab_nrs p hp) q hq
 rw [h] at h1
 have h2 : lst p.1 = lst q.1 := by simpa using h1
 rw [<- bar_lst p.1, h2, bar_lst]
theorem nr_iff {s : ByteArray} {z : Int} : (knB s && (nrI s == z)) = true ↔ ∃ p ∈ tab, p.1 = s /\ (p.2 : Int) = z := by
 unfold knB nrI nrOf
 cases h : tab.find? fun p => eqS p.1 s with
 | none =>
  rw [List.find?_eq_none] at h
  constructor
  ·intro h1; simp at h1
  ·rintro ⟨p, hp, rfl, _⟩
   exact absurd (eqS_self _) (h p hp)
 | some q =>
  have hq := List.mem_of_find?_eq_some h
  have he : q.1 = s := eqS_iff.1 (List.find?_some (p := fun p : ByteArray × Nat => eqS p.1 s) h)
  constructor
  ·intro h1
   exact ⟨q, hq, he, by simpa using h1⟩
  ·rintro ⟨p, hp, h1, rfl⟩
   have := tab_name hp hq (h1.trans he.symm)
   simp [this]
theorem nm_iff {s : ByteArray} {z : Int} : (isNr z && eqS (nmS z) s) = true ↔ ∃ p ∈ tab, p.1 = s /\ (p.2 : Int) = z := by
 unfold isNr nmS nameOf
 cases h : tab.find? fun p => ((p.2 : Int) == z) with
 | none =>
  rw [List.find?_eq_none] at h
  constructor
  ·intro h1; simp at h1
  ·rintro ⟨p, hp, _, rfl⟩
   exact absurd (by simp) (h p hp)
 | some q =>
  have hq := List.mem_of_find?_eq_some h
  have he : (q.2 : Int) = z := by simpa using List.find?_some (p := fun p : ByteArray × Nat => ((p.2 : Int) == z)) h
  constructor
  ·intro h1
   exact ⟨q, hq, eqS_iff.1 (by simpa using h1), he⟩
  ·rintro ⟨p, hp, rfl, h1⟩
   have : q.1 = p.1 := tab_nr hq hp (by omega)
   simp [this, eqS_self]
theorem spk (z : Int) (s : ByteArray) : (isNr z && eqS (nmS z) s) = (knB s && (nrI s == z)) := by
 rw [Bool.eq_iff_iff, nm_iff, nr_iff]
def hB (d : Da) (c : Xc) : Bool := holdN c.arg c.op c.mask c.val (d.g.getD c.arg.toNat 0)
def namedB (z : Int) (l : List ByteArray) : Bool := l.any fun s => eqS (nmS z) s
open Go.RowKit Go.Maps
def litN (z : Int) : Lit := .int .u32 z
def Mp (w : World) (B : Nat) (acc : List Int) : Prop := w.ownsMap Tryz.prog 31 (unitElem (H := Unit)) B acc.length (setOf (.agg []) (acc.map litN))
theorem Mp.lt {w : World} {B : Nat} {acc : List Int} (h : Mp w B acc) : B < w.heap.size := by
 obtain ⟨es, c, h1, _⟩ := h
 exact lt_of_block h1
theorem Mp.over {w w' : World} {B : Nat} {acc : List Int} (h : Mp w B acc) (hb : Below w.heap.size w w') : Mp w' B acc := by
 have hl := h.lt
 obtain ⟨es, c, h1, h2⟩ := h
 exact ⟨es, c, by rw [hb.block B hl]; exact h1, h2⟩
theorem Mp.made (w : World) : Mp (w.alloc (.map #[] 0)) w.heap.size [] := World.ownsMap_made _ _ _ _
theorem Mp.put {w : World} {B : Nat} {acc : List Int} {z : Int} (h : w.ownsMap Tryz.prog 31 (unitElem (H := Unit)) B (acc.length + 1) ((setOf (.agg []) (acc.map litN)).put (litN z) (.agg []))) : Mp w B (acc ++ [z]) := by
 unfold Mp
 rw [List.map_append, List.length_append]
 show w.ownsMap Tryz.prog 31 (unitElem (H := Unit)) B (acc.length + 1) (setOf (.agg []) (acc.map litN ++ [litN z]))
 rw [setOf_snoc]
 exact h
theorem lawU : Keyed Tryz.prog 31 := int_keyed Tryz.underlying31
theorem nrI_wf (s : ByteArray) : (Lit.int .u32 (nrI s)).wf = true := by
 have ht : (tab.all fun p => decide (p.2 <= 317)) = true := by kernel_rfl
 unfold nrI nrOf
 cases hq : tab.find? fun p => eqS p.1 s with
 | none => rfl
 | some p =>
  have hm := List.mem_of_find?_eq_some hq
  have hp := of_decide_eq_true (List.all_eq_true.1 ht p hm)
  show (Lit.int .u32 ((p.2 : Nat) : Int)).wf = true
  simp [Lit.wf, IntKind.min, IntKind.max, IntKind.signed, IntKind.bits]
  omega
def nums (ns : List ByteArray) : List Int := (ns.filter knB).map nrI
def numsR (l : List Xr) : List Int := l.flatMap fun x => nums x.r.names
theorem nums_yes {ns : List ByteArray} {k : Nat} (h : k < ns.length) (hk : knB ns[k] = true) : nums (ns.take (k + 1)) = nums (ns.take k) ++ [nrI ns[k]] := by
 unfold nums
 rw [List.take_succ_eq_append_getElem h, List.filter_append, List.map_append, List.filter_cons_of_pos hk]
 rfl
theorem nums_no {ns : List ByteArray} {k : Nat} (h : k < ns.length) (hk : knB ns[k] = false) : nums (ns.take (k + 1)) = nums (ns.take k) := by
 unfold nums
 rw [List.take_succ_eq_append_getElem h, List.filter_append, List.filter_cons_of_neg (by simp [hk]), List.filter_nil, List.append_nil]
theorem nums_le (ns : List ByteArray) (k : Nat) : (nums (ns.take k)).length <= (nums ns).length := by
 have e : nums ns = nums (ns.take k) ++ nums (ns.drop k) := by
  unfold nums
  rw [<- List.map_append, <- List.filter_append, List.take_append_drop]
 rw [e, List.length_append]
 omega
theorem numsR_step {l : List Xr} {i : Nat} (h : i < l.length) : numsR (l.take (i + 1)) = numsR (l.take i) ++ nums l[i].r.names := by
 unfold numsR
 rw [List.take_succ_eq_append_getElem h, List.flatMap_append, List.flatMap_cons, List.flatMap_nil, List.append_nil]
theorem numsR_le (l : List Xr) (i : Nat) : (numsR (l.take i)).length <= (numsR l).length := by
 have e : numsR l = numsR (l.take i) ++ numsR (l.drop i) := by
  unfold numsR
  rw [<- List.flatMap_append, List.take_append_drop]
 rw [e, List.length_append]
 omega
def GthR (w : World) (l : List Xr) (e : Ending) (w' : World) : Prop := ∃ B, w.heap.size <= B /\ e = .returned (.map (some B)) /\ Mp w' B (numsR l) /\ Below w.heap.size w w'
theorem gathered_any (w : World) (v : Value) (l : List Xr) (h : RlR w v l) (hl : l.length <= 1000) (hs : ∀ x ∈ l, x.r.names.length <= 9000000) (hN : (numsR l).length <= 9000000) :
  Calls Tryz.prog 116 #[v] w fun e w' => GthR w l e w' := by
 obtain ⟨p1, c1, rfl⟩ : ∃ p c, v = .slice p l.length c := by obtain ⟨p, c, e, _⟩ := h; exact ⟨p, c, e⟩
 have HNr : Hid (∀ s W, Calls Tryz.prog 147 #[.string s] W fun e w' => e = .returned (.tuple #[.int .u32 (nrI s), .bool (knB s)]) /\ Below W.heap.size W w') := nr_any
 have HM : Hid (∀ x ∈ l, x.r.names.length <= 9000000) := hs
 have S0 : Hid (RlR w (.slice p1 l.length c1) l) := h
 have M0 : Hid (Mp (w.alloc (.map #[] 0)) w.heap.size []) := Mp.made w
 have B0 : Hid (Below w.heap.size w (w.alloc (.map #[] 0))) := below_new w _
 have HNN : Hid ((numsR l).length <= 9000000) := hN
 clear h hs hN
 have hmm := @run_makeMap Tryz.prog
 go_enter Tryz.func116, Tryz.ntmps116
 go_wp2_with fail
 clear hmm
 go_loopw [13] (fun vi wr => ∃ i : Nat, vi = .int .i64 i /\ i <= l.length /\ Mp wr w.heap.size (numsR (l.take i)) /\ Below w.heap.size w wr) (fun vi _ => l.length - (intOf vi).toNat)
 case atStart => exact ⟨0, rfl, Nat.zero_le _, M0.out, B0.out⟩
 case round =>
  obtain ⟨i, rfl, hi, hmp, hb⟩ := hrel
  have HMP : Hid (Mp wr w.heap.size (numsR (l.take i))) := hmp
  have HB : Hid (Below w.heap.size w wr) := hb
  clear hmp
  by_cases hlt : i < l.length
  ·have hi1 : (i : Int) < (l.length : Int) := by omega
   obtain ⟨b1, o1, rfl, e1⟩ := rlR_at (S0.out.below hb) hlt
   have hmem : l[i] ∈ l := List.getElem_mem hlt
   have HST : Hid (numsR (l.take (i + 1)) = numsR (l.take i) ++ nums l[i].r.names) := numsR_step hlt
   have HLE : Hid ((numsR (l.take (i + 1))).length <= 9000000) := Nat.le_trans (numsR_le l (i + 1)) HNN.out
   have HSR : Hid (∀ W, Below w.heap.size w W -> StrR W l[i].vn l[i].r.names) := fun W hW => by
    obtain ⟨_, _, _, _, _, _, hr⟩ := S0.out.below hW
    exact (hr _ hmem).1
   have hln : l[i].r.names.length <= 9000000 := HM.out _ hmem
   obtain ⟨p3, c3, e3⟩ : ∃ p c, l[i].vn = .slice p l[i].r.names.length c := by obtain ⟨_, _, _, _, _, _, hr⟩ := S0.out; obtain ⟨p, c, e, _⟩ := (hr _ hmem).1; exact ⟨p, c, e⟩
   obtain ⟨p4, n4, c4, e4⟩ : ∃ p n c, l[i].vc = .slice p n c := by obtain ⟨_, _, _, _, _, _, hr⟩ := S0.out; obtain ⟨p, c, e, _⟩ := (hr _ hmem).2; exact ⟨p, _, c, e⟩
   clear hmem
   generalize l[i] = x at *
   obtain ⟨⟨xk, xa, ns, cs⟩, vn, vc⟩ := x
   obtain ⟨q0, q1, q2, q3⟩ := e1
   dsimp only at q0 q1 q2 q3 HST HSR hln e3 e4
   subst e3 e4
   have BE : Hid (Below w.heap.size w (wr.alloc (Obj.cells #[.int .i64 xk, .int .i64 xa, .slice p3 ns.length c3, .slice p4 n4 c4] 150))) := HB.out.alloc HB.out.size _
   have ME : Hid (Mp (wr.alloc (Obj.cells #[.int .i64 xk, .int .i64 xa, .slice p3 ns.length c3, .slice p4 n4 c4] 150)) w.heap.size (numsR (l.take i) ++ nums (ns.take 0))) := by
    show Mp _ _ _
    rw [show numsR (l.take i) ++ nums (ns.take 0) = numsR (l.take i) from by simp [nums]]
    exact HMP.out.over (below_new wr _)
   generalize numsR (l.take i) = acc at *
   clear hb
   go_wp2_with fail
   go_loopw [20] (fun vj wz => ∃ j : Nat, vj = .int .i64 j /\ j <= ns.length /\ Mp wz w.heap.size (acc ++ nums (ns.take j)) /\ Below w.heap.size w wz) (fun vj _ => ns.length - (intOf vj).toNat)
   case atStart => exact ⟨0, rfl, Nat.zero_le _, ME.out, BE.out⟩
   case round =>
    obtain ⟨j, rfl, hj, hmp, hb⟩ := hrel
    have HMP2 : Hid (Mp wr w.heap.size (acc ++ nums (ns.take j))) := hmp
    have HB2 : Hid (Below w.heap.size w wr) := hb
    clear hmp
    by_cases hlt2 : j < ns.length
    ·have hj1 : (j : Int) < (ns.length : Int) := by omega
     obtain ⟨b3, o3, rfl, e5⟩ := strR_at (HSR.out wr hb) hlt2
     have HX : Hid (∀ W, Calls Tryz.prog 147 #[.string ns[j]] W fun e w' => e = .returned (.tuple #[.int .u32 (nrI ns[j]), .bool (knB ns[j])]) /\ Below W.heap.size W w') := HNr.out ns[j]
     have HY : Hid (knB ns[j] = true -> nums (ns.take (j + 1)) = nums (ns.take j) ++ [nrI ns[j]]) := nums_yes hlt2
     have HZ : Hid (knB ns[j] = false -> nums (ns.take (j + 1)) = nums (ns.take j)) := nums_no hlt2
     have hkey : keyOf Tryz.prog 31 (.int .u32 (nrI ns[j])) = some (litN (nrI ns[j])) := keyOf_int_mk Tryz.underlying31 (nrI_wf _)
     have hle : (acc ++ nums (ns.take j)).length <= 9000000 := by
      have c1 := HLE.out
      rw [HST.out, List.length_append] at c1
      have c2 := nums_le ns j
      rw [List.length_append]
      omega
     clear hb
     generalize knB ns[j] = q at *
     generalize nrI ns[j] = z at *
     generalize ns[j] = s at *
     cases q with
     | true =>
      go_wp2_with (first | (go_at_call 147; refine (HX.out _).mono ?_; rintro e w1 ⟨rfl, b1⟩) | (at_mapUpdate; refine wpList_mapUpdate_own _ rfl _ _ _ 196 rfl 31 88 lawU Tryz.underlying196 (unitElem (H := Unit)) w.heap.size (acc ++ nums (ns.take j)).length _ rfl (HMP2.out.over b1) (by unfold maxLen; omega) _ _ _ rfl rfl hkey _ [] unitElem_mk ?_; intro w2 hown2 hgrow2) | go_in)
      have hB1 := HB2.out.trans (b1.mono HB2.out.size)
      exact ⟨⟨j + 1, by go_num, hlt2, by rw [HY.out trivial, <- List.append_assoc]; exact Mp.put hown2, hB1.grown hgrow2 hB1.size (fun j hj => by cases hj; exact Nat.le_refl _)⟩, by simp [intOf]; omega⟩
     | false =>
      go_wp2_with (first | (go_at_call 147; refine (HX.out _).mono ?_; rintro e w1 ⟨rfl, b1⟩))
      go_roundw
      case rel => exact ⟨j + 1, by go_num, hlt2, by rw [HZ.out trivial]; exact HMP2.out.over b1, HB2.out.trans (b1.mono HB2.out.size)⟩
      case measure => simp [intOf]; omega
    ·have hj1 : ¬ (j : Int) < (ns.length : Int) := by omega
     have HE : Hid (Mp wr w.heap.size (numsR (l.take (i + 1)))) := by
      show Mp _ _ _
      rw [HST.out]
      have := HMP2.out
      rw [List.take_of_length_le (by omega)] at this
      exact this
     clear hb
     go_wp2_with fail
     go_roundw
     case rel => exact ⟨i + 1, by go_num, hlt, HE.out, HB2.out⟩
     case measure => simp [intOf]; omega
  ·have hi1 : ¬ (i : Int) < (l.length : Int) := by omega
   clear hb
   go_wp2_with fail
   go_ret
   exact ⟨w.heap.size, Nat.le_refl _, rfl, by have := HMP.out; rw [List.take_of_length_le (by omega)] at this; exact this, HB.out⟩
def ltZ (x y : Int) : Bool := decide (x < y)
theorem swoZ : Go.Sort.SWO ltZ where
 irrefl x := decide_eq_false (by omega)
 trans x y z h1 h2 := by have := of_decide_eq_true h1; have := of_decide_eq_true h2; exact decide_eq_true (by omega)
 ntrans x y z h1 h2 := by have := of_decide_eq_false h1; have := of_decide_eq_false h2; exact decide_eq_false (by omega)
def cellsA (d : Array Int) : List Value := d.toList.map (Value.int .u32)
structure Sw (w0 : World) (g : Nat) (tl : List Value) (d : Array Int) (X : World) : Prop where
 blk : Blk X g 31 (cellsA d ++ tl)
 grow : w0.grownBy X (some g)
theorem cellsA_at (d : Array Int) (tl : List Value) (i : Nat) (h : i < d.size) : (cellsA d ++ tl)[i]? = some (.int .u32 d[i]!) := by
 unfold cellsA
 rw [List.getElem?_append_left (by simpa using h), List.getElem?_map, getElem!_pos d i h]
 simp [h]
theorem cellsA_len (d : Array Int) : (cellsA d).length = d.size := by simp [cellsA]
theorem cellsA_set (d : Array Int) (tl : List Value) (i : Nat) (x : Int) (h : i < d.size) : (cellsA d ++ tl).set i (.int .u32 x) = cellsA (d.setIfInBounds i x) ++ tl := by
 rw [List.set_append_left _ _ (by rw [cellsA_len]; exact h)]
 unfold cellsA
 rw [<- List.map_set, Array.toList_setIfInBounds]
section
variable {w0 w1 X Y : World} {g : Nat} {tl : List Value} {d d' : Array Int}
theorem Sw.refl (h : Blk X g 31 (cellsA d ++ tl)) : Sw X g tl d X := ⟨h, ⟨rfl, rfl, rfl, Nat.le_refl _, fun _ _ _ => rfl⟩⟩
theorem Sw.cell (h : Sw w0 g tl d X) (i : Nat) (hi : i < d.size) : X.cell? ⟨g, i, none⟩ = some (.int .u32 d[i]!) := (h.blk.cell i).trans (cellsA_at d tl i hi)
theorem Sw.f (h : Sw w0 g tl d X) (i : Nat) : X.frozen? ⟨g, i, none⟩ = false := h.blk.f i
theorem Sw.set (h : Sw w0 g tl d X) (i : Nat) (x : Int) (hi : i < d.size) : Sw w0 g tl (d.setIfInBounds i x) (X.setCell ⟨g, i, none⟩ (.int .u32 x)) := by
 refine ⟨?_, h.grow.os, h.grow.tape, h.grow.output, by have := h.grow.size; simpa using this, fun k hk hn => ?_⟩
 ·rw [<- cellsA_set d tl i x hi]
  exact h.blk.set i _
 ·rw [heap_setCell_other X ⟨g, i, none⟩ k _ (fun e => hn (by rw [e]))]
  exact h.grow.block k hk hn
theorem Sw.swap (h : Sw w0 g tl d X) (i j : Nat) (hi : i < d.size) (hj : j < d.size) : Sw w0 g tl (Go.Sort.swp d i j) ((X.setCell ⟨g, i, none⟩ (.int .u32 d[j]!)).setCell ⟨g, j, none⟩ (.int .u32 d[i]!)) :=
 (h.set i _ hi).set j _ (by simpa using hj)
theorem Sw.drew (h : Sw w0 g tl d X) : Sw w0 g tl d X.drew := ⟨h.blk, h.grow.os, h.grow.tape, h.grow.output, h.grow.size, h.grow.block⟩
theorem Sw.drewN (h : Sw w0 g tl d X) (n : Nat) : Sw w0 g tl d (X.drewN n) := by
 induction n with
 | zero => exact h
 | succ n ih => exact ih.drew
end
theorem isNaN_any (x : Int) (w : World) : Calls Tryz.prog 199 #[.int .u32 x] w fun e w' => e = .returned (.bool false) /\ w' = w := by
 go_enter Tryz.func199, Tryz.ntmps199
 go_wp2
 go_ret
 exact ⟨ret_bool (by simp), rfl⟩
theorem lessU_any (x y : Int) (w : World) : Calls Tryz.prog 177 #[.int .u32 x, .int .u32 y] w fun e w' => e = .returned (.bool (ltZ x y)) /\ w' = w := by
 go_enter Tryz.func177, Tryz.ntmps177
 go_wp2_with (go_at_call 199; refine (isNaN_any _ _).mono ?_; rintro e w1 ⟨rfl, rfl⟩)
 go_ret
 exact ⟨rfl, rfl⟩
open Go.Sort (insInner insOuter swp size_swp)
theorem insI_go {a j : Nat} {d : Array Int} (h : a < j) (hl : ltZ d[j]! d[j - 1]! = true) : insInner ltZ a j d = insInner ltZ a (j - 1) (swp d j (j - 1)) := by
 obtain ⟨m, rfl⟩ : ∃ m, j = m + 1 := ⟨j - 1, by omega⟩
 show (if (decide (m + 1 > a) && ltZ d[m + 1]! d[m]!) = true then _ else _) = _
 rw [if_pos]
 ·rfl
 ·rw [decide_eq_true (by omega)]
  exact hl
theorem insI_stop {a j : Nat} {d : Array Int} (h : j <= a \/ ltZ d[j]! d[j - 1]! = false) : insInner ltZ a j d = d := by
 cases j with
 | zero => rfl
 | succ m =>
  show (if (decide (m + 1 > a) && ltZ d[m + 1]! d[m]!) = true then _ else _) = _
  rw [if_neg]
  rcases h with h | h
  ·rw [decide_eq_false (by omega)]; simp
  ·simp only [Nat.add_sub_cancel] at h
   rw [h]; simp
theorem insO_go {a b i : Nat} {d : Array Int} (h : i < b) : insOuter ltZ a b i d = insOuter ltZ a b (i + 1) (insInner ltZ a i d) := by
 rw [insOuter, if_pos h]
theorem insO_stop {a b i : Nat} {d : Array Int} (h : ¬ i < b) : insOuter ltZ a b i d = d := by
 rw [insOuter, if_neg h]
theorem ins_any (g n cap a b : Nat) (tl : List Value) (d : Array Int) (w : World) (h : Blk w g 31 (cellsA d ++ tl)) (hd : d.size = n) (hab : a <= b) (hb : b <= n) (hn : n <= 1000) :
  Calls Tryz.prog 171 #[.slice (some ⟨g, 0, none⟩) n cap, .int .i64 a, .int .i64 b] w fun e w' => e = .returned (.tuple #[]) /\ Sw w g tl (Go.Sort.insertionSort ltZ d a b) w' := by
 have S0 : Hid (Sw w g tl d w) := Sw.refl h
 have HLs : Hid (∀ x y W, Calls Tryz.prog 177 #[.int .u32 x, .int .u32 y] W fun e w' => e = .returned (.bool (ltZ x y)) /\ w' = W) := lessU_any
 clear h
 go_enter Tryz.func171, Tryz.ntmps171
 go_wp2
 go_loopw [6] (fun vi wr => ∃ (i : Nat) (dk : Array Int), vi = .int .i64 i /\ a < i /\ i <= b + 1 /\ dk.size = n /\ Sw w g tl dk wr /\ insOuter ltZ a b i dk = insOuter ltZ a b (a + 1) d) (fun vi _ => b + 1 - (intOf vi).toNat)
 case atStart => exact ⟨a + 1, d, by go_num, by omega, by omega, hd, S0.out, rfl⟩
 case round =>
  obtain ⟨i, dk, rfl, hai, hib, hsk, hsw, hO⟩ := hrel
  have HO : Hid (insOuter ltZ a b i dk = insOuter ltZ a b (a + 1) d) := hO
  have S1 : Hid (Sw w g tl dk wr) := hsw
  clear hO hsw
  by_cases hlt : i < b
  ·have hi1 : (i : Int) < (b : Int) := by omega
   go_wp2_with fail
   go_loopw [7] (fun vj wz => ∃ (j : Nat) (dj : Array Int), vj = .int .i64 j /\ a <= j /\ j <= i /\ dj.size = n /\ Sw w g tl dj wz /\ insInner ltZ a j dj = insInner ltZ a i dk) (fun vj _ => (intOf vj).toNat)
   case atStart => exact ⟨i, dk, rfl, by omega, Nat.le_refl _, hsk, S1.out, rfl⟩
   case round =>
    obtain ⟨j, dj, rfl, haj, hji, hsj, hsw, hI⟩ := hrel
    have HI : Hid (insInner ltZ a j dj = insInner ltZ a i dk) := hI
    have S2 : Hid (Sw w g tl dj wr) := hsw
    have HOUT : Hid ((j <= a \/ ltZ dj[j]! dj[j - 1]! = false) -> insOuter ltZ a b (i + 1) dj = insOuter ltZ a b (a + 1) d) := fun hs => by
     rw [<- HO.out, insO_go hlt, <- HI.out, insI_stop hs]
    clear hI
    by_cases hja : a < j
    ·have hja1 : decide ((a : Int) < (j : Int)) = true := decide_eq_true (by omega)
     have hja2 : (a : Int) < (j : Int) := by omega
     have hjn : (j : Int) < (n : Int) := by omega
     have cj : wr.cell? ⟨g, j, none⟩ = some (.int .u32 dj[j]!) := hsw.cell j (by omega)
     have ck : wr.cell? ⟨g, j - 1, none⟩ = some (.int .u32 dj[j - 1]!) := hsw.cell (j - 1) (by omega)
     have fj : wr.frozen? ⟨g, j, none⟩ = false := hsw.f j
     have fk : wr.frozen? ⟨g, j - 1, none⟩ = false := hsw.f (j - 1)
     have SZ : Hid (∀ m, Sw w g tl (swp dj j (j - 1)) (((wr.drewN m).setCell ⟨g, j, none⟩ (.int .u32 dj[j - 1]!)).setCell ⟨g, j - 1, none⟩ (.int .u32 dj[j]!))) := fun m => (hsw.drewN m).swap j (j - 1) (by omega) (by omega)
     have HGO : Hid (ltZ dj[j]! dj[j - 1]! = true -> insInner ltZ a (j - 1) (swp dj j (j - 1)) = insInner ltZ a i dk) := fun hl => by rw [<- HI.out, insI_go hja hl]
     clear hsw
     generalize dj[j]! = xj at *
     generalize dj[j - 1]! = xk at *
     rcases Bool.eq_false_or_eq_true (ltZ xj xk) with hl | hl
     ·have HQ : Hid (∀ W, Calls Tryz.prog 177 #[.int .u32 xj, .int .u32 xk] W fun e w' => e = .returned (.bool true) /\ w' = W) := fun W => hl ▸ lessU_any xj xk W
      go_wp2_with fail
      go_quiet ((go_at_call 177; refine Calls.quiet_of_same (HQ.out _)))
      go_wp2_with fail
      go_big_region
      go_wp2_with fail
      go_roundw
      case rel => exact ⟨j - 1, swp dj j (j - 1), by congr 1; omega, by omega, by omega, by rw [size_swp]; exact hsj, SZ.out _, HGO.out hl⟩
      case measure => simp [intOf]; omega
     ·have HQ : Hid (∀ W, Calls Tryz.prog 177 #[.int .u32 xj, .int .u32 xk] W fun e w' => e = .returned (.bool false) /\ w' = W) := fun W => hl ▸ lessU_any xj xk W
      go_wp2_with fail
      go_quiet ((go_at_call 177; refine Calls.quiet_of_same (HQ.out _)))
      go_wp2_with fail
      go_roundw
      case rel => exact ⟨i + 1, dj, by go_num, by omega, by omega, hsj, S2.out.drewN _, HOUT.out (.inr hl)⟩
      case measure => simp [intOf]; omega
    ·have hja1 : decide ((a : Int) < (j : Int)) = false := decide_eq_false (by omega)
     have hja2 : ¬ (a : Int) < (j : Int) := by omega
     clear hsw
     go_wp2_with fail
     go_quiet (fail)
     go_wp2_with fail
     go_roundw
     case rel => exact ⟨i + 1, dj, by go_num, by omega, by omega, hsj, S2.out.drewN _, HOUT.out (.inl (by omega))⟩
     case measure => simp [intOf]; omega
  ·have hge : ¬ (i : Int) < (b : Int) := by omega
   go_wp2_with fail
   go_end0
   exact ⟨rfl, by unfold Go.Sort.insertionSort; rw [<- HO.out, insO_stop hlt]; exact S1.out⟩
open Go.Sort (PermIn SortedIn)
def Srd (w : World) (g a b : Nat) (tl : List Value) (d : Array Int) (e : Ending) (w' : World) : Prop :=
 e = .returned (.tuple #[]) /\ ∃ d', PermIn a b d d' /\ SortedIn ltZ a b d' /\ Sw w g tl d' w'
theorem pdq_few (g n cap : Nat) (tl : List Value) (hn : n <= 12) (l : Int) (d : Array Int) (w : World) (h : Blk w g 31 (cellsA d ++ tl)) (hd : d.size = n) :
  Calls Tryz.prog 149 #[.slice (some ⟨g, 0, none⟩) n cap, .int .i64 0, .int .i64 n, .int .i64 l] w fun e w' => Srd w g 0 n tl d e w' := by
 have HC : Hid (Calls Tryz.prog 171 #[.slice (some ⟨g, 0, none⟩) n cap, .int .i64 0, .int .i64 n] w fun e w' => e = .returned (.tuple #[]) /\ Sw w g tl (Go.Sort.insertionSort ltZ d 0 n) w') := ins_any g n cap 0 n tl d w h hd (Nat.zero_le _) (Nat.le_refl _) (by omega)
 have HI : Hid (PermIn 0 n d (Go.Sort.insertionSort ltZ d 0 n) /\ SortedIn ltZ 0 n (Go.Sort.insertionSort ltZ d 0 n)) := Go.Sort.insertionSort_holds swoZ d 0 n (Nat.zero_le _) (by rw [hd]; exact Nat.le_refl _)
 have hs1 : (n : Int) <= 12 := by omega
 clear h hd
 go_enter Tryz.func149, Tryz.ntmps149
 go_wp2_with fail
 go_loopw [1, 2] (fun v v2 wr => v = .int .i64 0 /\ v2 = .int .i64 n /\ wr = w) (fun _ _ _ => 0)
 case atStart => exact ⟨rfl, rfl, rfl⟩
 case round =>
  obtain ⟨rfl, rfl, hw⟩ := hrel
  subst hw
  go_wp2_with fail
  refine HC.out.mono ?_
  rintro e w1 ⟨rfl, s1⟩
  have S1 : Hid (Sw wr g tl (Go.Sort.insertionSort ltZ d 0 n) w1) := s1
  clear s1
  go_wp2_with fail
  (try simp only [Exit.inBlock, Exit.then])
  refine bodyPost_ret (results_none rfl _ _ _) rfl ?_
  exact ⟨rfl, _, HI.out.1, HI.out.2, S1.out⟩
theorem sort_any (g n cap : Nat) (tl : List Value) (d : Array Int) (w : World) (h : Blk w g 31 (cellsA d ++ tl)) (hd : d.size = n) (hn : n <= 12) :
  Calls Tryz.prog 117 #[.slice (some ⟨g, 0, none⟩) n cap] w fun e w' => Srd w g 0 n tl d e w' := by
 have HP : Hid (∀ l : Int, Calls Tryz.prog 149 #[.slice (some ⟨g, 0, none⟩) n cap, .int .i64 0, .int .i64 n, .int .i64 l] w fun e w' => Srd w g 0 n tl d e w') := fun l => pdq_few g n cap tl hn l d w h hd
 have HL : Hid (∀ W, Calls Tryz.prog 150 #[.int .u64 (n : Int)] W fun e w' => e = .returned (.int .i64 (Lib.bitLen (n : Int).toNat)) /\ w' = W) := fun W => Tryz.bits_Len n W (by omega) (by omega)
 clear h
 go_enter Tryz.func117, Tryz.ntmps117
 go_wp2_with (first | (go_at_call 150; refine (HL.out _).mono ?_; rintro e w1 ⟨rfl, hw⟩; subst w1))
 refine (HP.out _).mono ?_
 rintro e w1 ⟨rfl, hr⟩
 have HR : Hid (∃ d', PermIn 0 n d d' /\ SortedIn ltZ 0 n d' /\ Sw w g tl d' w1) := hr
 clear hr
 go_wp2_with fail
 go_end0
 exact ⟨rfl, HR.out⟩
theorem ins_nil (w : World) : Calls Tryz.prog 171 #[.slice none 0 0, .int .i64 0, .int .i64 0] w fun e w' => e = .returned (.tuple #[]) /\ w' = w := by
 go_enter Tryz.func171, Tryz.ntmps171
 go_wp2
 go_loopw [6] (fun vi wr => vi = .int .i64 1 /\ wr = w) (fun _ _ => 0)
 case atStart => exact ⟨rfl, rfl⟩
 case round =>
  obtain ⟨rfl, hw⟩ := hrel
  subst hw
  go_wp2_with fail
  go_end0
  exact ⟨rfl, rfl⟩
theorem pdq_nil (l : Int) (w : World) : Calls Tryz.prog 149 #[.slice none 0 0, .int .i64 0, .int .i64 0, .int .i64 l] w fun e w' => e = .returned (.tuple #[]) /\ w' = w := by
 have HI : Hid (∀ W, Calls Tryz.prog 171 #[.slice none 0 0, .int .i64 0, .int .i64 0] W fun e w' => e = .returned (.tuple #[]) /\ w' = W) := ins_nil
 go_enter Tryz.func149, Tryz.ntmps149
 go_wp2_with fail
 go_loopw [1, 2] (fun v v2 wr => v = .int .i64 0 /\ v2 = .int .i64 0 /\ wr = w) (fun _ _ _ => 0)
 case atStart => exact ⟨rfl, rfl, rfl⟩
 case round =>
  obtain ⟨rfl, rfl, hw⟩ := hrel
  subst hw
  go_wp2_with fail
  refine (HI.out _).mono ?_
  rintro e w1 ⟨rfl, rfl⟩
  go_wp2_with fail
  (try simp only [Exit.inBlock, Exit.then])
  refine bodyPost_ret (results_none rfl _ _ _) rfl ?_
  exact ⟨rfl, rfl⟩
theorem sort_nil (w : World) : Calls Tryz.prog 117 #[.slice none 0 0] w fun e w' => e = .returned (.tuple #[]) /\ w' = w := by
 have HP : Hid (∀ (l : Int) W, Calls Tryz.prog 149 #[.slice none 0 0, .int .i64 0, .int .i64 0, .int .i64 l] W fun e w' => e = .returned (.tuple #[]) /\ w' = W) := pdq_nil
 have HL : Hid (∀ W, Calls Tryz.prog 150 #[.int .u64 0] W fun e w' => e = .returned (.int .i64 (Lib.bitLen (0 : Int).toNat)) /\ w' = W) := fun W => Tryz.bits_Len 0 W (by omega) (by omega)
 go_enter Tryz.func117, Tryz.ntmps117
 go_wp2_with (first | (go_at_call 150; refine (HL.out _).mono ?_; rintro e w1 ⟨rfl, rfl⟩))
 refine (HP.out _ _).mono ?_
 rintro e w1 ⟨rfl, rfl⟩
 go_wp2_with fail
 go_end0
 exact ⟨rfl, rfl⟩
theorem ltZ_false {x y : Int} : ltZ x y = false ↔ y <= x := by unfold ltZ; rw [decide_eq_false_iff_not]; omega
def Dst (a b : Nat) (d : Array Int) : Prop := ∀ i j, a <= i -> i < j -> j < b -> d[i]! ≠ d[j]!
theorem dst_nodup (a b : Nat) (d : Array Int) (hb : b <= d.size) : Dst a b d ↔ (d.extract a b).toList.Nodup := by
 rw [Go.Sort.extract_toList d a b hb, List.Nodup, List.pairwise_map, List.pairwise_iff_getElem]
 constructor
 ·intro h i j hi hj hij
  simp only [List.getElem_range']
  simp only [List.length_range'] at hi hj
  exact h _ _ (by omega) (by omega) (by omega)
 ·intro h i j h1 h2 h3
  have := h (i - a) (j - a) (by simp; omega) (by simp; omega) (by omega)
  simp only [List.getElem_range'] at this
  rw [show a + 1 * (i - a) = i by omega, show a + 1 * (j - a) = j by omega] at this
  exact this
theorem Dst.perm {a b : Nat} {d d' : Array Int} (h : Dst a b d) (hp : PermIn a b d d') (hb : b <= d.size) : Dst a b d' := by
 rw [dst_nodup a b d' (by rw [hp.1]; exact hb)]
 exact hp.2.2.nodup_iff.2 ((dst_nodup a b d hb).1 h)
section
variable {a b x y n m : Nat} {d dk d2 d3 : Array Int}
end
abbrev setN (acc : List Int) : DataW Unit := setOf (.agg []) (acc.map litN)
theorem key_litN (acc : List Int) : ∀ x ∈ acc.map litN, WideAt.IsKeyLit x := by
 intro x hx
 obtain ⟨z, _, rfl⟩ := List.mem_map.1 hx
 exact trivial
theorem same_litN (x y : Int) : (litN x).sameKey (litN y) = decide (x = y) := by
 simp [litN, Lit.sameKey]
theorem has_setN (acc : List Int) (z : Int) : has (setN acc) (litN z) = true ↔ z ∈ acc := by
 rw [has_setOf _ _ _ (key_litN acc), List.any_map, List.any_eq_true]
 constructor
 ·rintro ⟨x, hx, h⟩
  have h2 : (litN x).sameKey (litN z) = true := h
  rw [same_litN] at h2
  exact of_decide_eq_true h2 ▸ hx
 ·intro h
  exact ⟨z, h, by show (litN z).sameKey (litN z) = true; rw [same_litN]; simp⟩
def ColN (acc : List Int) (left : Lit -> Bool) (ss : List Int) : Prop := ss.Nodup /\ ∀ x, x ∈ ss ↔ (x ∈ acc /\ left (litN x) = false)
theorem ColN.start (acc : List Int) : ColN acc (has (setN acc)) [] := ⟨List.nodup_nil, fun x => by
 constructor
 ·intro h; cases h
 ·rintro ⟨h1, h2⟩
  rw [(has_setN acc x).2 h1] at h2
  cases h2⟩
theorem ColN.step {acc ss : List Int} {left : Lit -> Bool} {x : Int} (h : ColN acc left ss) (hl : left (litN x) = true) (hx : x ∈ acc) : ColN acc (fun z => left z && !z.sameKey (litN x)) (ss ++ [x]) := by
 have hn : x ∉ ss := fun hm => by have := ((h.2 x).1 hm).2; rw [hl] at this; cases this
 refine ⟨List.nodup_append.2 ⟨h.1, by simp, fun a ha b hb => by rw [List.mem_singleton] at hb; subst hb; intro e; subst e; exact hn ha⟩, fun z => ?_⟩
 rw [List.mem_append, List.mem_singleton, h.2 z]
 show _ ↔ z ∈ acc /\ (left (litN z) && !(litN z).sameKey (litN x)) = false
 rw [same_litN]
 by_cases e : z = x
 ·subst e
  simp [hx]
 ·simp [e]
theorem ColN.done {acc ss : List Int} {left : Lit -> Bool} (h : ColN acc left ss) (hl : ∀ k, left k = false) (x : Int) : x ∈ ss ↔ x ∈ acc := by
 rw [h.2 x]
 exact ⟨fun h => h.1, fun h => ⟨h, hl _⟩⟩
theorem nodup_le : ∀ (l m : List Int), l.Nodup -> (∀ x ∈ l, x ∈ m) -> l.length <= m.length
 | [], _, _, _ => Nat.zero_le _
 | x :: l, m, hn, hs => by
  have hx : x ∈ m := hs x (List.mem_cons_self ..)
  have h1 := nodup_le l (m.erase x) (List.nodup_cons.1 hn).2 fun y hy => by
   have hne : y ≠ x := fun e => (List.nodup_cons.1 hn).1 (e ▸ hy)
   exact (List.mem_erase_of_ne hne).2 (hs y (List.mem_cons_of_mem _ hy))
  rw [List.length_erase_of_mem hx] at h1
  have h2 := List.length_pos_of_mem hx
  rw [List.length_cons]
  omega
def tabI : List Int := tab.map fun p => ((p.2 : Nat) : Int)
theorem nums_tab {ns : List ByteArray} {z : Int} (h : z ∈ nums ns) : z ∈ tabI := by
 unfold nums at h
 obtain ⟨s, hs, rfl⟩ := List.mem_map.1 h
 have hk := (List.mem_filter.1 hs).2
 unfold knB nrOf at hk
 unfold nrI nrOf
 cases hq : tab.find? fun p => eqS p.1 s with
 | none => rw [hq] at hk; cases hk
 | some p => exact List.mem_map.2 ⟨p, List.mem_of_find?_eq_some hq, rfl⟩
theorem numsR_tab {l : List Xr} {z : Int} (h : z ∈ numsR l) : z ∈ tabI := by
 obtain ⟨x, _, hx⟩ := List.mem_flatMap.1 h
 exact nums_tab hx
theorem tabI_len : tabI.length = 30 := rfl
theorem col_len {l : List Xr} {left : Lit -> Bool} {ss : List Int} (h : ColN (numsR l) left ss) : ss.length <= 30 :=
 tabI_len ▸ nodup_le ss tabI h.1 fun x hx => numsR_tab ((h.2 x).1 hx).1
def Rise (ts : List Int) : Prop := ts.Pairwise (· < ·)
theorem dst_of_nodup {ss : List Int} (h : ss.Nodup) : Dst 0 ss.length ss.toArray := by
 intro i j _ hij hj
 have h1 := List.pairwise_iff_getElem.1 h i j (by omega) hj hij
 rw [getElem!_pos ss.toArray i (by simpa using Nat.lt_trans hij hj), getElem!_pos ss.toArray j (by simpa using hj)]
 simpa using h1
theorem rise_of {ss : List Int} {d' : Array Int} (hn : ss.Nodup) (hp : PermIn 0 ss.length ss.toArray d') (hs : SortedIn ltZ 0 ss.length d') : Rise d'.toList /\ d'.toList.Perm ss /\ d'.size = ss.length := by
 have hsz : d'.size = ss.length := by have := hp.1; simpa using this
 have hD : Dst 0 ss.length d' := (dst_of_nodup hn).perm hp (by simp)
 refine ⟨List.pairwise_iff_getElem.2 fun i j hi hj hij => ?_, ?_, hsz⟩
 ·have hi' : i < d'.size := by simpa using hi
  have hj' : j < d'.size := by simpa using hj
  have h1 := hs i j (Nat.zero_le _) hij (by omega)
  have h2 := hD i j (Nat.zero_le _) hij (by omega)
  rw [getElem!_pos d' i hi', getElem!_pos d' j hj'] at h1 h2
  have h3 := ltZ_false.1 h1
  simp only [Array.getElem_toList]
  omega
 ·have h1 := hp.2.2
  rw [show d'.extract 0 ss.length = d' from by rw [<- hsz]; simp, show ss.toArray.extract 0 ss.length = ss.toArray from by simp] at h1
  exact h1
def NzR (w : World) (v : Value) (l : List Int) : Prop :=
 ∃ a cap, v = .slice a l.length cap /\ l.length <= cap /\ cap <= 9223372036854775807 /\ (0 < l.length -> ∃ b o, a = some ⟨b, o, none⟩ /\ ∀ (i : Nat) (x : Int), l[i]? = some x -> w.cell? ⟨b, o + i, none⟩ = some (.int .u32 x))
theorem NzR.below {w w' : World} {v : Value} {l : List Int} (h : NzR w v l) (hb : Below w.heap.size w w') : NzR w' v l := by
 obtain ⟨a, cap, rfl, h1, h2, hc⟩ := h
 refine ⟨a, cap, rfl, h1, h2, fun h0 => ?_⟩
 obtain ⟨b, o, e, hx⟩ := hc h0
 refine ⟨b, o, e, fun i x hi => ?_⟩
 have h3 := hx i x hi
 exact cellS h3 (hb.block b (World.block_lt_of_cell? w _ h3))
def wg1 (x : Xl) : Nat := x.names.length * (8 * x.conds.length + 8)
end Go.Proofs.YtmcgcbgblgmmkaaGreatDoor.M
