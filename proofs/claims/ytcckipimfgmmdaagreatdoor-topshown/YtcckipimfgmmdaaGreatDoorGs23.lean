/-
  MMath MMem MTab MTbl MNrs MNames MWrong MTabM MDec MRDecide MGath MSrt0 MSrt1.
-/
import Derived.Test.YtcckipimfgmmdaaGreatDoorGs20
import Derived.Test.YtcckipimfgmmdaaGreatDoorGs12
import Derived.Maps.OwnSet
import Derived.Sort.LotA
import Derived.Sort.LotB
import Derived.Sort.LotC
import Derived.BigRegion
import Derived.CellFam
import Derived.Test.YtcckipimfgmmdaaGreatDoorGs0
set_option maxHeartbeats 4000000
namespace Go.Proofs.YtcckipimfgmmdaaGreatDoor.M
open C (an heldB rightB)
open Go
def holdN (a o m v x : Int) : Bool := rightB a o && heldB o (an x m) v
open Go.RowKit
theorem below_drewN (w : World) (n : Nat) : Below w.heap.size w (w.drewN n) := by
 induction n with
 | zero => exact Below.refl _ _
 | succ n ih => exact ih.drew
section
variable {w : World} {b : Nat} {t : TypeId} {l : List Value}
end
section
variable {w : World} {b : Nat} {t : TypeId} {l : List Value}
end
theorem below_new (w : World) (o : Obj) : Below w.heap.size w (w.alloc o) := (Below.refl _ _).alloc (Nat.le_refl _) _
open P (bar_lst lst)
def tab : List (ByteArray × Nat) := [
 (⟨#[114, 101, 97, 100]⟩, 0),
 (⟨#[119, 114, 105, 116, 101]⟩, 1),
 (⟨#[111, 112, 101, 110]⟩, 2),
 (⟨#[99, 108, 111, 115, 101]⟩, 3),
 (⟨#[115, 116, 97, 116]⟩, 4),
 (⟨#[102, 115, 116, 97, 116]⟩, 5),
 (⟨#[108, 115, 116, 97, 116]⟩, 6),
 (⟨#[112, 111, 108, 108]⟩, 7),
 (⟨#[108, 115, 101, 101, 107]⟩, 8),
 (⟨#[109, 109, 97, 112]⟩, 9),
 (⟨#[109, 112, 114, 111, 116, 101, 99, 116]⟩, 10),
 (⟨#[109, 117, 110, 109, 97, 112]⟩, 11),
 (⟨#[98, 114, 107]⟩, 12),
 (⟨#[105, 111, 99, 116, 108]⟩, 16),
 (⟨#[97, 99, 99, 101, 115, 115]⟩, 21),
 (⟨#[112, 105, 112, 101]⟩, 22),
 (⟨#[100, 117, 112]⟩, 32),
 (⟨#[103, 101, 116, 112, 105, 100]⟩, 39),
 (⟨#[115, 111, 99, 107, 101, 116]⟩, 41),
 (⟨#[99, 111, 110, 110, 101, 99, 116]⟩, 42),
 (⟨#[102, 111, 114, 107]⟩, 57),
 (⟨#[101, 120, 101, 99, 118, 101]⟩, 59),
 (⟨#[101, 120, 105, 116]⟩, 60),
 (⟨#[119, 97, 105, 116, 52]⟩, 61),
 (⟨#[107, 105, 108, 108]⟩, 62),
 (⟨#[117, 110, 97, 109, 101]⟩, 63),
 (⟨#[109, 107, 100, 105, 114]⟩, 83),
 (⟨#[117, 110, 108, 105, 110, 107]⟩, 87),
 (⟨#[111, 112, 101, 110, 97, 116]⟩, 257),
 (⟨#[115, 101, 99, 99, 111, 109, 112]⟩, 317)]
def tabC : List Value := tab.flatMap fun p => [.string p.1, .int .u32 p.2]
def eqS (a b : ByteArray) : Bool := lst a == lst b
theorem eqS_to (a b : ByteArray) : (a.toList == b.toList) = eqS a b := by
 rw [ByteArray.toList_eq, ByteArray.toList_eq]
 rfl
theorem eqS_iff {a b : ByteArray} : eqS a b = true ↔ a = b := by
 unfold eqS
 rw [beq_iff_eq]
 constructor
 ·intro h
  rw [<- bar_lst a, h, bar_lst]
 ·rintro rfl; rfl
theorem eqS_self (a : ByteArray) : eqS a a = true := eqS_iff.2 rfl
def nrOf (s : ByteArray) : Option Nat := (tab.find? fun p => eqS p.1 s).map (·.2)
def nameOf (z : Int) : Option ByteArray := (tab.find? fun p => ((p.2 : Int) == z)).map (·.1)
def nrI (s : ByteArray) : Int := ((nrOf s).getD 0 : Nat)
def knB (s : ByteArray) : Bool := (nrOf s).isSome
def nmS (z : Int) : ByteArray := (nameOf z).getD ⟨#[]⟩
def isNr (z : Int) : Bool := (nameOf z).isSome
theorem tab_len : tab.length = 30 := rfl
theorem find_at {α : Type} {p : α -> Bool} {l : List α} {i : Nat} (h : i < l.length) (hp : p l[i] = true) (ha : ∀ j (hj : j < i), p (l[j]'(by omega)) = false) : l.find? p = some l[i] := by
 induction l generalizing i with
 | nil => simp at h
 | cons x l ih =>
  cases i with
  | zero => simp only [zE] at hp ⊢; rw [List.find?_cons_of_pos hp]
  | succ i =>
   have h0 := ha 0 (by omega)
   simp only [zE] at h0
   rw [List.find?_cons_of_neg (by rw [h0]; decide)]
   simp only [zF] at hp ⊢
   exact ih (by simpa using h) hp (fun j hj => by have := ha (j + 1) (by omega); simpa using this)
theorem find_none {α : Type} {p : α -> Bool} {l : List α} (ha : ∀ j (hj : j < l.length), p (l[j]'hj) = false) : l.find? p = none := by
 rw [List.find?_eq_none]
 intro x hx
 obtain ⟨j, hj, rfl⟩ := List.getElem_of_mem hx
 rw [ha j hj]
 decide
theorem index_tab (i : Nat) (hi : i < tab.length) (W : World) : (Instr.index 172 (.agg tabC.toArray) (.int .i64 i)).run Tryz.prog W = .ok (.agg #[.string tab[i].1, .int .u32 tab[i].2]) W := by
 match i, hi with
 | 0, _ => show _ = _; kernel_rfl
 | 1, _ => show _ = _; kernel_rfl
 | 2, _ => show _ = _; kernel_rfl
 | 3, _ => show _ = _; kernel_rfl
 | 4, _ => show _ = _; kernel_rfl
 | 5, _ => show _ = _; kernel_rfl
 | 6, _ => show _ = _; kernel_rfl
 | 7, _ => show _ = _; kernel_rfl
 | 8, _ => show _ = _; kernel_rfl
 | 9, _ => show _ = _; kernel_rfl
 | 10, _ => show _ = _; kernel_rfl
 | 11, _ => show _ = _; kernel_rfl
 | 12, _ => show _ = _; kernel_rfl
 | 13, _ => show _ = _; kernel_rfl
 | 14, _ => show _ = _; kernel_rfl
 | 15, _ => show _ = _; kernel_rfl
 | 16, _ => show _ = _; kernel_rfl
 | 17, _ => show _ = _; kernel_rfl
 | 18, _ => show _ = _; kernel_rfl
 | 19, _ => show _ = _; kernel_rfl
 | 20, _ => show _ = _; kernel_rfl
 | 21, _ => show _ = _; kernel_rfl
 | 22, _ => show _ = _; kernel_rfl
 | 23, _ => show _ = _; kernel_rfl
 | 24, _ => show _ = _; kernel_rfl
 | 25, _ => show _ = _; kernel_rfl
 | 26, _ => show _ = _; kernel_rfl
 | 27, _ => show _ = _; kernel_rfl
 | 28, _ => show _ = _; kernel_rfl
 | 29, _ => show _ = _; kernel_rfl
 | n + 30, h => exact absurd h (by rw [tab_len]; omega)
open P (Blk Blk.row blk_new)
theorem at_op {P : Program} {ops : Array Oper} {Q : Exit -> Act -> World -> Prop} {rest : List Oper} {o : Oper} {a : Act} {w : World} (op : Op) (_ho : o.op = op) (h : wpList P ops Q (o :: rest) a w) : wpList P ops Q (o :: rest) a w := h
theorem below_setRow {B : Nat} {a w : World} (h : Below B a w) {g : Nat} (hg : B <= g) (cs : Array Value) : Below B a (w.setRow g cs) :=
 h.trans ⟨rfl, rfl, rfl, by simp, fun k hk => setRow_other _ _ _ _ (by omega)⟩
theorem Tryz.sizeT : (Tryz.prog.info? 172).map (·.size) = some tabC.toArray.size := by kernel_rfl
theorem tab_one : tabC.toArray.all (·.oneCell') = true := by kernel_rfl
def zeroC : List Value := (List.range 30).flatMap fun _ => [.string ⟨#[]⟩, .int .u32 0]
set_option maxRecDepth 10000 in
theorem calls_any (w : World) : Calls Tryz.prog 95 #[] w fun e w' => e = .returned (.agg tabC.toArray) /\ Below w.heap.size w w' := by
 have HB : Hid (Below w.heap.size w (w.alloc (Obj.cells zeroC.toArray 172))) := below_new w _
 have HK : Hid (Blk (w.alloc (Obj.cells zeroC.toArray 172)) w.heap.size 172 zeroC) := blk_new w _ _
 go_enter Tryz.func95, Tryz.ntmps95
 go_wp2_with (refine at_op (.store 172 (.tmp 0) (.tmp 31)) rfl ?_; refine wpList_store_row rfl 172 (.tmp 0) (.tmp 31) rfl w.heap.size tabC.toArray rfl rfl 172 _ HK.out Tryz.sizeT rfl tab_one ?_)
 refine bodyPost_ret (v := .agg tabC.toArray) ?_ rfl ⟨rfl, ?_⟩
 ·exact results_cell_row Tryz.results95 _ _ w.heap.size 172 tabC.toArray (0, 0) _ rfl (Blk.row HK.out _) Tryz.underlying172 rfl Tryz.sizeT
 ·exact below_setRow HB.out (Nat.le_refl _) _
theorem nr_hit {s : ByteArray} {i : Nat} (hi : i < tab.length) (h : eqS tab[i].1 s = true) (ha : ∀ j (hj : j < i), eqS (tab[j]'(by omega)).1 s = false) : nrI s = tab[i].2 /\ knB s = true := by
 unfold nrI knB nrOf
 rw [find_at (p := fun p => eqS p.1 s) hi h ha]
 exact ⟨rfl, rfl⟩
theorem nr_none {s : ByteArray} (ha : ∀ j (hj : j < tab.length), eqS (tab[j]'hj).1 s = false) : nrI s = 0 /\ knB s = false := by
 unfold nrI knB nrOf
 rw [find_none (l := tab) (p := fun p => eqS p.1 s) ha]
 exact ⟨rfl, rfl⟩
theorem nm_hit {z : Int} {i : Nat} (hi : i < tab.length) (h : ((tab[i].2 : Int) == z) = true) (ha : ∀ j (hj : j < i), (((tab[j]'(by omega)).2 : Int) == z) = false) : nmS z = tab[i].1 /\ isNr z = true := by
 unfold nmS isNr nameOf
 rw [find_at (p := fun p => ((p.2 : Int) == z)) hi h ha]
 exact ⟨rfl, rfl⟩
theorem nm_none {z : Int} (ha : ∀ j (hj : j < tab.length), (((tab[j]'hj).2 : Int) == z) = false) : nmS z = ⟨#[]⟩ /\ isNr z = false := by
 unfold nmS isNr nameOf
 rw [find_none (l := tab) (p := fun p => ((p.2 : Int) == z)) ha]
 exact ⟨rfl, rfl⟩
theorem ret_two {k : IntKind} {a b : Int} {c d : Bool} (h : a = b) (h' : c = d) : Ending.returned (.tuple #[.int k a, .bool c]) = .returned (.tuple #[.int k b, .bool d]) := by rw [h, h']
theorem ret_twoS {a b : ByteArray} {c d : Bool} (h : a = b) (h' : c = d) : Ending.returned (.tuple #[.string a, .bool c]) = .returned (.tuple #[.string b, .bool d]) := by rw [h, h']
theorem nr_any (s : ByteArray) (w : World) : Calls Tryz.prog 122 #[.string s] w fun e w' => e = .returned (.tuple #[.int .u32 (nrI s), .bool (knB s)]) /\ Below w.heap.size w w' := by
 have HC : Hid (∀ W, Calls Tryz.prog 95 #[] W fun e w' => e = .returned (.agg tabC.toArray) /\ Below W.heap.size W w') := calls_any
 have HL : Hid (tab.length = 30) := tab_len
 generalize hT : tabC.toArray = TC at *
 go_enter Tryz.func122, Tryz.ntmps122
 go_wp2_with (go_at_call 95; refine (HC.out _).mono ?_; rintro e w1 ⟨rfl, b1⟩)
 go_loopw [7] (fun vi wr => ∃ i : Nat, vi = .int .i64 i /\ i <= 30 /\ (∀ j (hj : j < i) (hj2 : j < tab.length), eqS (tab[j]'hj2).1 s = false) /\ Below w.heap.size w wr) (fun vi _ => 30 - (intOf vi).toNat)
 case atStart => exact ⟨0, rfl, Nat.zero_le _, fun j hj => absurd hj (Nat.not_lt_zero _), b1⟩
 case round =>
  obtain ⟨i, rfl, hi, ha, hb⟩ := hrel
  have HA : Hid (∀ j (hj : j < i) (hj2 : j < tab.length), eqS (tab[j]'hj2).1 s = false) := ha
  have HB : Hid (Below w.heap.size w wr) := hb
  clear ha hb
  by_cases hlt : i < 30
  ·have hi1 : (i : Int) < 30 := by omega
   have hil : i < tab.length := by rw [HL.out]; exact hlt
   have hix : ∀ W : World, (Instr.index 172 (.agg TC) (.int .i64 i)).run Tryz.prog W = .ok (.agg #[.string tab[i].1, .int .u32 tab[i].2]) W := fun W => by rw [<- hT]; exact index_tab i hil W
   have HS : Hid (eqS tab[i].1 s = false -> ∀ j (hj : j < i + 1) (hj2 : j < tab.length), eqS (tab[j]'hj2).1 s = false) := fun hq j hj hj2 => by
    rcases Nat.lt_or_ge j i with h | h
    ·exact HA.out j h hj2
    ·obtain rfl : j = i := by omega
     exact hq
   have HF : Hid (eqS tab[i].1 s = true -> nrI s = tab[i].2 /\ knB s = true) := fun hq => nr_hit hil hq fun j hj => HA.out j hj _
   generalize tab[i] = p at *
   obtain ⟨nm, nr⟩ := p
   dsimp only at hix HS HF
   have BE : Hid (Below w.heap.size w (wr.alloc (Obj.cells #[.string nm, .int .u32 nr] 171))) := HB.out.alloc HB.out.size _
   clear HA hT HC
   rcases Bool.eq_false_or_eq_true (eqS nm s) with hq | hq
   ·have hq' : (nm.toList == s.toList) = true := (eqS_to _ _).trans hq
    go_wp2
    go_ret2
    exact ⟨ret_two (HF.out hq).1.symm (HF.out hq).2.symm, BE.out⟩
   ·have hq' : (nm.toList == s.toList) = false := (eqS_to _ _).trans hq
    go_wp2
    go_roundw
    case rel => exact ⟨i + 1, by go_num, hlt, HS.out hq, BE.out⟩
    case measure => simp [intOf]; omega
  ·have hge : ¬ (i : Int) < 30 := by omega
   have hF := nr_none (s := s) fun j hj => HA.out j (by have := HL.out; omega) hj
   have HF : Hid (nrI s = 0 /\ knB s = false) := hF
   clear hF HA
   go_wp2
   go_ret2
   exact ⟨ret_two HF.out.1.symm HF.out.2.symm, HB.out⟩
theorem name_any (z : Int) (w : World) : Calls Tryz.prog 53 #[.int .u32 z] w fun e w' => e = .returned (.tuple #[.string (nmS z), .bool (isNr z)]) /\ Below w.heap.size w w' := by
 have HC : Hid (∀ W, Calls Tryz.prog 95 #[] W fun e w' => e = .returned (.agg tabC.toArray) /\ Below W.heap.size W w') := calls_any
 have HL : Hid (tab.length = 30) := tab_len
 generalize hT : tabC.toArray = TC at *
 go_enter Tryz.func53, Tryz.ntmps53
 go_wp2_with (go_at_call 95; refine (HC.out _).mono ?_; rintro e w1 ⟨rfl, b1⟩)
 go_loopw [7] (fun vi wr => ∃ i : Nat, vi = .int .i64 i /\ i <= 30 /\ (∀ j (hj : j < i) (hj2 : j < tab.length), (((tab[j]'hj2).2 : Int) == z) = false) /\ Below w.heap.size w wr) (fun vi _ => 30 - (intOf vi).toNat)
 case atStart => exact ⟨0, rfl, Nat.zero_le _, fun j hj => absurd hj (Nat.not_lt_zero _), b1⟩
 case round =>
  obtain ⟨i, rfl, hi, ha, hb⟩ := hrel
  have HA : Hid (∀ j (hj : j < i) (hj2 : j < tab.length), (((tab[j]'hj2).2 : Int) == z) = false) := ha
  have HB : Hid (Below w.heap.size w wr) := hb
  clear ha hb
  by_cases hlt : i < 30
  ·have hi1 : (i : Int) < 30 := by omega
   have hil : i < tab.length := by rw [HL.out]; exact hlt
   have hix : ∀ W : World, (Instr.index 172 (.agg TC) (.int .i64 i)).run Tryz.prog W = .ok (.agg #[.string tab[i].1, .int .u32 tab[i].2]) W := fun W => by rw [<- hT]; exact index_tab i hil W
   have HS : Hid (((tab[i].2 : Int) == z) = false -> ∀ j (hj : j < i + 1) (hj2 : j < tab.length), (((tab[j]'hj2).2 : Int) == z) = false) := fun hq j hj hj2 => by
    rcases Nat.lt_or_ge j i with h | h
    ·exact HA.out j h hj2
    ·obtain rfl : j = i := by omega
     exact hq
   have HF : Hid (((tab[i].2 : Int) == z) = true -> nmS z = tab[i].1 /\ isNr z = true) := fun hq => nm_hit hil hq fun j hj => HA.out j hj _
   generalize tab[i] = p at *
   obtain ⟨nm, nr⟩ := p
   dsimp only at hix HS HF
   have BE : Hid (Below w.heap.size w (wr.alloc (Obj.cells #[.string nm, .int .u32 nr] 171))) := HB.out.alloc HB.out.size _
   clear HA hT HC
   generalize (nr : Int) = nz at *
   rcases Bool.eq_false_or_eq_true (nz == z) with hq | hq
   ·go_wp2
    go_ret2
    exact ⟨ret_twoS (HF.out hq).1.symm (HF.out hq).2.symm, BE.out⟩
   ·go_wp2
    go_roundw
    case rel => exact ⟨i + 1, by go_num, hlt, HS.out hq, BE.out⟩
    case measure => simp [intOf]; omega
  ·have hge : ¬ (i : Int) < 30 := by omega
   have hF := nm_none (z := z) fun j hj => HA.out j (by have := HL.out; omega) hj
   have HF : Hid (nmS z = ⟨#[]⟩ /\ isNr z = false) := hF
   clear hF HA
   go_wp2
   go_ret2
   exact ⟨ret_twoS HF.out.1.symm HF.out.2.symm, HB.out⟩
open P (StrR ret_bool ret_int strR_at)
theorem unknown_any (s : ByteArray) (w : World) : Calls Tryz.prog 85 #[.string s] w fun e w' => e = .returned (.bool (!knB s)) /\ Below w.heap.size w w' := by
 go_enter Tryz.func85, Tryz.ntmps85
 go_wp2_with (go_at_call 122; refine (nr_any _ _).mono ?_; rintro e w1 ⟨rfl, b1⟩)
 go_ret
 exact ⟨rfl, b1⟩
def ixOf (p : ByteArray -> Bool) (l : List ByteArray) : Int := match l.findIdx? p with | some i => (i : Int) | none => -1
theorem ixOf_hit {p : ByteArray -> Bool} {l : List ByteArray} {i : Nat} (h : i < l.length) (hp : p l[i] = true) (ha : ((l.take i).any p) = false) : ixOf p l = i := by
 unfold ixOf
 have : l.findIdx? p = some i := by
  rw [List.findIdx?_eq_some_iff_getElem]
  refine ⟨h, hp, fun j hj => ?_⟩
  rw [List.any_eq_false] at ha
  have := ha l[j] (by rw [List.mem_take_iff_getElem]; exact ⟨j, by omega, rfl⟩)
  simpa using this
 rw [this]
theorem ixOf_none {p : ByteArray -> Bool} {l : List ByteArray} (ha : l.any p = false) : ixOf p l = -1 := by
 unfold ixOf
 have : l.findIdx? p = none := by
  rw [List.findIdx?_eq_none_iff]
  rw [List.any_eq_false] at ha
  intro x hx
  simpa using ha x hx
 rw [this]
theorem ixOf_ge (p : ByteArray -> Bool) (l : List ByteArray) : decide (0 <= ixOf p l) = l.any p := by
 unfold ixOf
 cases h : l.findIdx? p with
 | none =>
  rw [List.findIdx?_eq_none_iff] at h
  have : l.any p = false := by rw [List.any_eq_false]; intro x hx; simp [h x hx]
  rw [this]
  rfl
 | some i =>
  rw [List.findIdx?_eq_some_iff_getElem] at h
  obtain ⟨hi, hp, _⟩ := h
  have : l.any p = true := by rw [List.any_eq_true]; exact ⟨_, List.getElem_mem hi, hp⟩
  rw [this]
  exact decide_eq_true (by show (0 : Int) <= (i : Int); omega)
theorem any_step {p : ByteArray -> Bool} {l : List ByteArray} {i : Nat} (h : i < l.length) (hp : p l[i] = false) (ht : (l.take i).any p = false) : (l.take (i + 1)).any p = false := by
 rw [List.take_succ_eq_append_getElem h, List.any_append, ht]
 simp [hp]
theorem any_end {p : ByteArray -> Bool} {l : List ByteArray} {i : Nat} (h : ¬ i < l.length) (ht : (l.take i).any p = false) : l.any p = false := by
 rwa [List.take_of_length_le (by omega)] at ht
theorem indexF_any (w : World) (v : Value) (l : List ByteArray) (h : StrR w v l) (hl : l.length <= 9000000) :
  Calls Tryz.prog 121 #[v, .func (.func 85) #[] #[]] w fun e w' => e = .returned (.int .i64 (ixOf (fun s => !knB s) l)) /\ Below w.heap.size w w' := by
 obtain ⟨p1, c1, rfl⟩ : ∃ p c, v = .slice p l.length c := by obtain ⟨p, c, e, _⟩ := h; exact ⟨p, c, e⟩
 have S1 : Hid (StrR w (.slice p1 l.length c1) l) := h
 clear h
 have HR : Hid (∀ i (hi : i < l.length), (!knB l[i]) = true -> ((l.take i).any fun s => !knB s) = false -> ixOf (fun s => !knB s) l = i) := fun i hi h1 h2 => ixOf_hit hi h1 h2
 have HN : Hid ((l.any fun s => !knB s) = false -> ixOf (fun s => !knB s) l = -1) := ixOf_none
 generalize ixOf (fun s => !knB s) l = R at *
 go_enter Tryz.func121, Tryz.ntmps121
 go_wp2
 go_loopw [8] (fun vi wr => ∃ i : Nat, vi = .int .i64 i /\ i <= l.length /\ ((l.take i).any fun s => !knB s) = false /\ Below w.heap.size w wr) (fun vi _ => l.length - (intOf vi).toNat)
 case atStart => exact ⟨0, rfl, Nat.zero_le _, rfl, Below.refl _ _⟩
 case round =>
  obtain ⟨i, rfl, hi, ht, hb⟩ := hrel
  have HT : Hid (((l.take i).any fun s => !knB s) = false) := ht
  have HB : Hid (Below w.heap.size w wr) := hb
  clear ht
  by_cases hlt : i < l.length
  ·have hi1 : (i : Int) < (l.length : Int) := by omega
   obtain ⟨b1, o1, rfl, e1⟩ := strR_at (S1.out.below hb) hlt
   have HX : Hid (∀ W, Calls Tryz.prog 85 #[.string l[i]] W fun e w' => e = .returned (.bool (!knB l[i])) /\ Below W.heap.size W w') := unknown_any _
   have HS : Hid ((!knB l[i]) = false -> ((l.take (i + 1)).any fun s => !knB s) = false) := fun hq => any_step (p := fun s => !knB s) hlt hq HT.out
   have HF : Hid ((!knB l[i]) = true -> R = i) := fun hq => HR.out i hlt hq HT.out
   clear hb HR HN
   generalize (!knB l[i]) = q at *
   generalize l[i] = s at *
   cases q with
   | true =>
    go_wp2_with (go_at_call 85; refine (HX.out _).mono ?_; rintro e w1 ⟨rfl, b1⟩)
    go_ret
    exact ⟨ret_int (HF.out trivial).symm, HB.out.trans (b1.mono HB.out.size)⟩
   | false =>
    go_wp2_with (go_at_call 85; refine (HX.out _).mono ?_; rintro e w1 ⟨rfl, b1⟩)
    go_roundw
    case rel => exact ⟨i + 1, by go_num, hlt, HS.out trivial, HB.out.trans (b1.mono HB.out.size)⟩
    case measure => simp [intOf]; omega
  ·have hge : ¬ (i : Int) < (l.length : Int) := by omega
   clear hb
   go_wp2
   go_ret
   exact ⟨ret_int (HN.out (any_end hlt HT.out)).symm, HB.out⟩
theorem containsF_any (w : World) (v : Value) (l : List ByteArray) (h : StrR w v l) (hl : l.length <= 9000000) :
  Calls Tryz.prog 84 #[v, .func (.func 85) #[] #[]] w fun e w' => e = .returned (.bool (l.any fun s => !knB s)) /\ Below w.heap.size w w' := by
 have HI : Hid (Calls Tryz.prog 121 #[v, .func (.func 85) #[] #[]] w fun e w' => e = .returned (.int .i64 (ixOf (fun s => !knB s) l)) /\ Below w.heap.size w w') := indexF_any w v l h hl
 have HG : Hid (decide (0 <= ixOf (fun s => !knB s) l) = l.any fun s => !knB s) := ixOf_ge _ _
 obtain ⟨p1, c1, rfl⟩ : ∃ p c, v = .slice p l.length c := by obtain ⟨p, c, e, _⟩ := h; exact ⟨p, c, e⟩
 clear h
 generalize ixOf (fun s => !knB s) l = R at *
 go_enter Tryz.func84, Tryz.ntmps84
 go_wp2_with (go_at_call 121; refine HI.out.mono ?_; rintro e w1 ⟨rfl, b1⟩)
 go_ret
 exact ⟨ret_bool HG.out, b1⟩
theorem index_any (w : World) (v : Value) (l : List ByteArray) (x : ByteArray) (h : StrR w v l) (hl : l.length <= 9000000) :
  Calls Tryz.prog 96 #[v, .string x] w fun e w' => e = .returned (.int .i64 (ixOf (fun s => eqS x s) l)) /\ w' = w := by
 obtain ⟨p1, c1, rfl⟩ : ∃ p c, v = .slice p l.length c := by obtain ⟨p, c, e, _⟩ := h; exact ⟨p, c, e⟩
 have S1 : Hid (StrR w (.slice p1 l.length c1) l) := h
 clear h
 have HR : Hid (∀ i (hi : i < l.length), eqS x l[i] = true -> ((l.take i).any fun s => eqS x s) = false -> ixOf (fun s => eqS x s) l = i) := fun i hi h1 h2 => ixOf_hit hi h1 h2
 have HN : Hid ((l.any fun s => eqS x s) = false -> ixOf (fun s => eqS x s) l = -1) := ixOf_none
 generalize ixOf (fun s => eqS x s) l = R at *
 go_enter Tryz.func96, Tryz.ntmps96
 go_wp2
 go_loop [8] (fun vi => ∃ i : Nat, vi = .int .i64 i /\ i <= l.length /\ ((l.take i).any fun s => eqS x s) = false) (fun vi => l.length - (intOf vi).toNat)
 case atStart => exact ⟨0, rfl, Nat.zero_le _, rfl⟩
 case round =>
  obtain ⟨i, rfl, hi, ht⟩ := hrel
  have HT : Hid (((l.take i).any fun s => eqS x s) = false) := ht
  clear ht
  by_cases hlt : i < l.length
  ·have hi1 : (i : Int) < (l.length : Int) := by omega
   obtain ⟨b1, o1, rfl, e1⟩ := strR_at S1.out hlt
   have HS : Hid (eqS x l[i] = false -> ((l.take (i + 1)).any fun s => eqS x s) = false) := fun hq => any_step (p := fun s => eqS x s) hlt hq HT.out
   have HF : Hid (eqS x l[i] = true -> R = i) := fun hq => HR.out i hlt hq HT.out
   clear HR HN
   generalize l[i] = s at *
   rcases Bool.eq_false_or_eq_true (eqS x s) with hq | hq
   ·have hq' : (x.toList == s.toList) = true := (eqS_to _ _).trans hq
    go_wp2
    go_ret
    exact ⟨ret_int (HF.out hq).symm, rfl⟩
   ·have hq' : (x.toList == s.toList) = false := (eqS_to _ _).trans hq
    go_wp2
    go_round
    case rel => exact ⟨i + 1, by go_num, hlt, HS.out hq⟩
    case measure => simp [intOf]; omega
  ·have hge : ¬ (i : Int) < (l.length : Int) := by omega
   go_wp2
   go_ret
   exact ⟨ret_int (HN.out (any_end hlt HT.out)).symm, rfl⟩
theorem contains_any (w : World) (v : Value) (l : List ByteArray) (x : ByteArray) (h : StrR w v l) (hl : l.length <= 9000000) :
  Calls Tryz.prog 54 #[v, .string x] w fun e w' => e = .returned (.bool (l.any fun s => eqS x s)) /\ w' = w := by
 have HI : Hid (Calls Tryz.prog 96 #[v, .string x] w fun e w' => e = .returned (.int .i64 (ixOf (fun s => eqS x s) l)) /\ w' = w) := index_any w v l x h hl
 have HG : Hid (decide (0 <= ixOf (fun s => eqS x s) l) = l.any fun s => eqS x s) := ixOf_ge _ _
 obtain ⟨p1, c1, rfl⟩ : ∃ p c, v = .slice p l.length c := by obtain ⟨p, c, e, _⟩ := h; exact ⟨p, c, e⟩
 clear h
 generalize ixOf (fun s => eqS x s) l = R at *
 go_enter Tryz.func54, Tryz.ntmps54
 go_wp2_with (go_at_call 96; refine HI.out.mono ?_; rintro e w1 ⟨rfl, rfl⟩)
 go_ret
 exact ⟨ret_bool HG.out, rfl⟩
open P (RlR Xl Xr Xr.r right_any rlR_at rulesB)
def twAt (l : List ByteArray) (i : Nat) : Bool := match l[i]? with | some x => (l.take i).any fun s => eqS x s | none => false
def twB (l : List ByteArray) : Bool := (List.range l.length).any (twAt l)
def wrongN (l : List ByteArray) : Int := if (l.any fun s => !knB s) = true then 8 else if twB l = true then 9 else 0
theorem twAt_eq {l : List ByteArray} {i : Nat} (h : i < l.length) : twAt l i = (l.take i).any fun s => eqS l[i] s := by
 unfold twAt
 rw [List.getElem?_eq_getElem h]
theorem twB_hit {l : List ByteArray} {i : Nat} (h : i < l.length) (ht : twAt l i = true) : twB l = true := by
 unfold twB
 rw [List.any_eq_true]
 exact ⟨i, List.mem_range.2 h, ht⟩
theorem twB_none {l : List ByteArray} (h : ∀ i, i < l.length -> twAt l i = false) : twB l = false := by
 unfold twB
 rw [List.any_eq_false]
 intro i hi
 rw [h i (List.mem_range.1 hi)]
 decide
end Go.Proofs.YtcckipimfgmmdaaGreatDoor.M
namespace Go.Proofs.YtcckipimfgmmdaaGreatDoor.P
open Go.RowKit
theorem StrR.take {w : World} {p : Option Addr} {l : List ByteArray} {c i : Nat} (h : StrR w (.slice p l.length c) l) (hi : i <= l.length) : StrR w (.slice p i c) (l.take i) := by
 obtain ⟨a, cap, e, h1, h2, hc⟩ := h
 cases e
 have hlen : (l.take i).length = i := by rw [List.length_take]; omega
 refine ⟨p, c, by rw [hlen], by omega, h2, fun h0 => ?_⟩
 obtain ⟨b, o, rfl, hx⟩ := hc (by omega)
 refine ⟨b, o, rfl, fun j s hj => hx j s ?_⟩
 rw [List.getElem?_take] at hj
 split at hj
 ·exact hj
 ·cases hj
end Go.Proofs.YtcckipimfgmmdaaGreatDoor.P
namespace Go.Proofs.YtcckipimfgmmdaaGreatDoor.M
open P (Blk RlR StrR Xl Xr Xr.r blk_new ret_int right_any rlR_at rulesB strR_at)
open Go.RowKit
open P (StrR.take)
theorem wrong_any (w : World) (v : Value) (l : List ByteArray) (h : StrR w v l) (hl : l.length <= 9000000) :
  Calls Tryz.prog 48 #[v] w fun e w' => e = .returned (.int .i64 (wrongN l)) /\ Below w.heap.size w w' := by
 obtain ⟨p1, c1, rfl⟩ : ∃ p c, v = .slice p l.length c := by obtain ⟨p, c, e, _⟩ := h; exact ⟨p, c, e⟩
 have hlc : l.length <= c1 := by obtain ⟨p, c, e, h1, _⟩ := h; cases e; exact h1
 have S1 : Hid (StrR w (.slice p1 l.length c1) l) := h
 have HU : Hid (Calls Tryz.prog 84 #[.slice p1 l.length c1, .func (.func 85) #[] #[]] w fun e w' => e = .returned (.bool (l.any fun s => !knB s)) /\ Below w.heap.size w w') := containsF_any w _ l h hl
 have HE : Hid (wrongN l = if (l.any fun s => !knB s) = true then 8 else if twB l = true then 9 else 0) := rfl
 clear h
 generalize wrongN l = R at *
 generalize (l.any fun s => !knB s) = U at *
 cases U with
 | true =>
  go_enter Tryz.func48, Tryz.ntmps48
  go_wp2_with (go_at_call 84; refine HU.out.mono ?_; rintro e w1 ⟨rfl, b1⟩)
  go_ret
  exact ⟨ret_int HE.out.symm, b1⟩
 | false =>
  go_enter Tryz.func48, Tryz.ntmps48
  go_wp2_with (go_at_call 84; refine HU.out.mono ?_; rintro e w1 ⟨rfl, b1⟩)
  have S2 : Hid (StrR w1 (.slice p1 l.length c1) l) := S1.out.below b1
  have B1 : Hid (Below w.heap.size w w1) := b1
  clear b1 S1
  go_loop [9] (fun vi => ∃ i : Nat, vi = .int .i64 i /\ i <= l.length /\ ∀ j, j < i -> twAt l j = false) (fun vi => l.length - (intOf vi).toNat)
  case atStart => exact ⟨0, rfl, Nat.zero_le _, fun j hj => absurd hj (Nat.not_lt_zero _)⟩
  case round =>
   obtain ⟨i, rfl, hi, ht⟩ := hrel
   have HT : Hid (∀ j, j < i -> twAt l j = false) := ht
   clear ht
   by_cases hlt : i < l.length
   ·have hi1 : (i : Int) < (l.length : Int) := by omega
    have S3 : Hid (StrR w1 (.slice p1 i c1) (l.take i)) := S2.out.take (Nat.le_of_lt hlt)
    obtain ⟨b1, o1, rfl, e1⟩ := strR_at S2.out hlt
    have HX : Hid (Calls Tryz.prog 54 #[.slice (some ⟨b1, o1, none⟩) i c1, .string l[i]] w1 fun e w' => e = .returned (.bool (twAt l i)) /\ w' = w1) := by
     rw [twAt_eq hlt]
     exact contains_any w1 _ _ _ S3.out (by rw [List.length_take]; omega)
    have HS : Hid (twAt l i = false -> ∀ j, j < i + 1 -> twAt l j = false) := fun hq j hj => by
     rcases Nat.lt_or_ge j i with h | h
     ·exact HT.out j h
     ·obtain rfl : j = i := by omega
      exact hq
    have HF : Hid (twAt l i = true -> twB l = true) := fun hq => twB_hit hlt hq
    clear S2 S3 HT
    generalize l[i] = s at *
    generalize twAt l i = q at *
    have hic : (i : Int) <= (c1 : Int) := by omega
    cases q with
    | true =>
     go_wp2_with (go_at_call 54; refine HX.out.mono ?_; rintro e w2 ⟨rfl, rfl⟩)
     go_ret
     exact ⟨ret_int (by rw [HE.out, if_neg (by decide), if_pos (HF.out trivial)]), B1.out⟩
    | false =>
     go_wp2_with (go_at_call 54; refine HX.out.mono ?_; rintro e w2 ⟨rfl, rfl⟩)
     go_round
     case rel => exact ⟨i + 1, by go_num, hlt, HS.out trivial⟩
     case measure => simp [intOf]; omega
   ·have hge : ¬ (i : Int) < (l.length : Int) := by omega
    go_wp2
    go_ret
    exact ⟨ret_int (by rw [HE.out, if_neg (by decide), if_neg (by rw [twB_none fun j hj => HT.out j (by omega)]; decide)]), B1.out⟩
def wrongFrom : Nat -> List Xl -> Int × Int
 | _, [] => (0, -1)
 | i, x :: r => if wrongN x.names = 0 then wrongFrom (i + 1) r else (wrongN x.names, i)
def checkP (k a : Int) (l : List Xl) : Int × Int := if rulesB k a l = true then wrongFrom 0 l else (1, -1)
theorem wrongFrom_step {l : List Xr} {i : Nat} (h : i < l.length) : wrongFrom i ((l.drop i).map Xr.r) = if wrongN l[i].r.names = 0 then wrongFrom (i + 1) ((l.drop (i + 1)).map Xr.r) else (wrongN l[i].r.names, (i : Int)) := by
 rw [List.drop_eq_getElem_cons h]
 rfl
theorem wrongFrom_end {l : List Xr} {i : Nat} (h : ¬ i < l.length) : wrongFrom i ((l.drop i).map Xr.r) = (0, -1) := by
 rw [List.drop_eq_nil_of_le (by omega)]
 rfl
theorem ret_ints {k k' : IntKind} {a b : Int} {c d : Int} (h : a = b) (h' : c = d) : Ending.returned (.tuple #[.int k a, .int k' c]) = .returned (.tuple #[.int k b, .int k' d]) := by rw [h, h']
theorem check_any (w : World) (k a : Int) (v : Value) (l : List Xr) (h : RlR w v l) (hl : l.length <= 1000) (hs : ∀ x ∈ l, x.r.names.length <= 9000000 /\ x.r.conds.length <= 9000000) :
  Calls Tryz.prog 24 #[.agg #[.int .i64 k, .int .i64 a, v]] w fun e w' => e = .returned (.tuple #[.int .i64 (checkP k a (l.map Xr.r)).1, .int .i64 (checkP k a (l.map Xr.r)).2]) /\ Below w.heap.size w w' := by
 obtain ⟨p1, c1, rfl⟩ : ∃ p c, v = .slice p l.length c := by obtain ⟨p, c, e, _⟩ := h; exact ⟨p, c, e⟩
 have be : Below w.heap.size w (w.alloc (Obj.cells #[.int .i64 k, .int .i64 a, .slice p1 l.length c1] 39)) := (Below.refl _ _).alloc (Nat.le_refl _) _
 have BE : Hid (Below w.heap.size w (w.alloc (Obj.cells #[.int .i64 k, .int .i64 a, .slice p1 l.length c1] 39))) := be
 have HK : Hid (Blk (w.alloc (Obj.cells #[.int .i64 k, .int .i64 a, .slice p1 l.length c1] 39)) w.heap.size 39 [.int .i64 k, .int .i64 a, .slice p1 l.length c1]) := blk_new w _ _
 have SN : Hid (RlR (w.alloc (Obj.cells #[.int .i64 k, .int .i64 a, .slice p1 l.length c1] 39)) (.slice p1 l.length c1) l) := h.below be
 have HA : Hid (∀ W, RlR W (.slice p1 l.length c1) l -> Calls Tryz.prog 31 #[.agg #[.int .i64 k, .int .i64 a, .slice p1 l.length c1]] W fun e w' => e = .returned (.bool (rulesB k a (l.map Xr.r))) /\ Below W.heap.size W w') := fun W h => right_any W k a _ l h hl hs
 have HE : Hid (checkP k a (l.map Xr.r) = if rulesB k a (l.map Xr.r) = true then wrongFrom 0 ((l.drop 0).map Xr.r) else (1, -1)) := rfl
 have HM : Hid (∀ x ∈ l, x.r.names.length <= 9000000 /\ x.r.conds.length <= 9000000) := hs
 clear h be hs
 generalize checkP k a (l.map Xr.r) = R at *
 generalize rulesB k a (l.map Xr.r) = RB at *
 cases RB with
 | false =>
  go_enter Tryz.func24, Tryz.ntmps24
  go_wp2_with fail
  generalize (w.alloc (Obj.cells #[.int .i64 k, .int .i64 a, .slice p1 l.length c1] 39)) = X at *
  refine (HA.out _ SN.out).mono ?_
  rintro e w1 ⟨rfl, b1⟩
  go_wp2_with fail
  go_ret2
  exact ⟨ret_ints (by rw [HE.out]; rfl) (by rw [HE.out]; rfl), BE.out.trans (b1.mono BE.out.size)⟩
 | true =>
  go_enter Tryz.func24, Tryz.ntmps24
  go_wp2_with fail
  generalize (w.alloc (Obj.cells #[.int .i64 k, .int .i64 a, .slice p1 l.length c1] 39)) = X at *
  refine (HA.out _ SN.out).mono ?_
  rintro e w1 ⟨rfl, b1⟩
  have t2 : w1.cell? ⟨w.heap.size, 2, none⟩ = some (.slice p1 l.length c1) := (HK.out.over b1).cell 2
  have S1 : Hid (RlR w1 (.slice p1 l.length c1) l) := SN.out.below b1
  have B1 : Hid (Below w.heap.size w w1) := BE.out.trans (b1.mono BE.out.size)
  have HE2 : Hid (R = wrongFrom 0 ((l.drop 0).map Xr.r)) := HE.out.trans (if_pos trivial)
  clear b1 BE HE SN HA HK
  go_wp2_with fail
  clear t2
  go_loopw [13] (fun vi wr => ∃ i : Nat, vi = .int .i64 i /\ i <= l.length /\ R = wrongFrom i ((l.drop i).map Xr.r) /\ Below w1.heap.size w1 wr) (fun vi _ => l.length - (intOf vi).toNat)
  case atStart => exact ⟨0, rfl, Nat.zero_le _, HE2.out, Below.refl _ _⟩
  case round =>
   obtain ⟨i, rfl, hi, ht, hb⟩ := hrel
   have HT : Hid (R = wrongFrom i ((l.drop i).map Xr.r)) := ht
   have HB : Hid (Below w1.heap.size w1 wr) := hb
   clear ht
   by_cases hlt : i < l.length
   ·have hi1 : (i : Int) < (l.length : Int) := by omega
    obtain ⟨b1, o1, rfl, e1⟩ := rlR_at (S1.out.below hb) hlt
    have hmem : l[i] ∈ l := List.getElem_mem hlt
    have HX : Hid (∀ W, Below w1.heap.size w1 W -> Calls Tryz.prog 48 #[l[i].vn] W fun e w' => e = .returned (.int .i64 (wrongN l[i].r.names)) /\ Below W.heap.size W w') := fun W hW => by
     obtain ⟨_, _, _, _, _, _, hr⟩ := S1.out.below hW
     exact wrong_any W _ _ (hr _ hmem).1 (HM.out _ hmem).1
    have HS : Hid (R = if wrongN l[i].r.names = 0 then wrongFrom (i + 1) ((l.drop (i + 1)).map Xr.r) else (wrongN l[i].r.names, (i : Int))) := HT.out.trans (wrongFrom_step hlt)
    obtain ⟨p3, n3, c3, e3⟩ : ∃ p n c, l[i].vn = .slice p n c := by obtain ⟨_, _, _, _, _, _, hr⟩ := S1.out; obtain ⟨p, c, e, _⟩ := (hr _ hmem).1; exact ⟨p, _, c, e⟩
    obtain ⟨p4, n4, c4, e4⟩ : ∃ p n c, l[i].vc = .slice p n c := by obtain ⟨_, _, _, _, _, _, hr⟩ := S1.out; obtain ⟨p, c, e, _⟩ := (hr _ hmem).2; exact ⟨p, _, c, e⟩
    clear hmem HT
    generalize l[i] = x at *
    obtain ⟨⟨xk, xa, ns, cs⟩, vn, vc⟩ := x
    obtain ⟨q0, q1, q2, q3⟩ := e1
    dsimp only at q0 q1 q2 q3 HX HS e3 e4
    subst e3 e4
    have BE : Hid (Below w1.heap.size w1 (wr.alloc (Obj.cells #[.int .i64 xk, .int .i64 xa, .slice p3 n3 c3, .slice p4 n4 c4] 87))) := HB.out.alloc HB.out.size _
    clear hb
    generalize wrongN ns = WN at *
    rcases Bool.eq_false_or_eq_true (WN == 0) with hq | hq
    ·obtain rfl : WN = 0 := by simpa using hq
     go_wp2_with (go_at_call 48; refine (HX.out _ BE.out).mono ?_; rintro e w2 ⟨rfl, b2⟩)
     go_roundw
     case rel => exact ⟨i + 1, by go_num, hlt, HS.out.trans (if_pos trivial), BE.out.trans (b2.mono BE.out.size)⟩
     case measure => simp [intOf]; omega
    ·have hn : ¬ WN = 0 := by simpa using hq
     have hn' : (WN != 0) = true := by simpa using hn
     have HS2 : Hid (R = (WN, (i : Int))) := HS.out.trans (if_neg hn)
     clear HS
     go_wp2_with (go_at_call 48; refine (HX.out _ BE.out).mono ?_; rintro e w2 ⟨rfl, b2⟩)
     go_ret2
     exact ⟨ret_ints (by rw [HS2.out]) (by rw [HS2.out]), B1.out.trans ((BE.out.trans (b2.mono BE.out.size)).mono B1.out.size)⟩
   ·have hge : ¬ (i : Int) < (l.length : Int) := by omega
    have HS2 : Hid (R = (0, -1)) := HT.out.trans (wrongFrom_end hlt)
    clear hb
    go_wp2
    go_ret2
    exact ⟨ret_ints (by rw [HS2.out]) (by rw [HS2.out]), B1.out.trans (HB.out.mono B1.out.size)⟩
open P (bar_lst lst)
theorem tab_names : (tab.all fun p => tab.all fun q => !(lst p.1 == lst q.1) || p.2 == q.2) = true := by kernel_rfl
theorem tab_nrs : (tab.all fun p => tab.all fun q => !(p.2 == q.2) || lst p.1 == lst q.1) = true := by kernel_rfl
theorem tab_name {p q : ByteArray × Nat} (hp : p ∈ tab) (hq : q ∈ tab) (h : p.1 = q.1) : p.2 = q.2 := by
 have h1 := List.all_eq_true.1 (List.all_eq_true.1 tab_names p hp) q hq
 rw [h] at h1
 simpa using h1
theorem tab_nr {p q : ByteArray × Nat} (hp : p ∈ tab) (hq : q ∈ tab) (h : p.2 = q.2) : p.1 = q.1 := by
 have h1 := List.all_eq_true.1 (List.all_eq_true.1 tab_nrs p hp) q hq
 rw [h] at h1
 have h2 : lst p.1 = lst q.1 := by simpa using h1
 rw [<- bar_lst p.1, h2, bar_lst]
theorem nr_iff {s : ByteArray} {z : Int} : (knB s && (nrI s == z)) = true ↔ ∃ p ∈ tab, p.1 = s /\ (p.2 : Int) = z := by
 unfold knB nrI nrOf
 cases h : tab.find? fun p => eqS p.1 s with
 | none =>
  rw [List.find?_eq_none] at h
  constructor
  ·intro h1; simp at h1
  ·rintro ⟨p, hp, rfl, _⟩
   exact absurd (eqS_self _) (h p hp)
 | some q =>
  have hq := List.mem_of_find?_eq_some h
  have he : q.1 = s := eqS_iff.1 (List.find?_some (p := fun p : ByteArray × Nat => eqS p.1 s) h)
  constructor
  ·intro h1
   exact ⟨q, hq, he, by simpa using h1⟩
  ·rintro ⟨p, hp, h1, rfl⟩
   have := tab_name hp hq (h1.trans he.symm)
   simp [this]
theorem nm_iff {s : ByteArray} {z : Int} : (isNr z && eqS (nmS z) s) = true ↔ ∃ p ∈ tab, p.1 = s /\ (p.2 : Int) = z := by
 unfold isNr nmS nameOf
 cases h : tab.find? fun p => ((p.2 : Int) == z) with
 | none =>
  rw [List.find?_eq_none] at h
  constructor
  ·intro h1; simp at h1
  ·rintro ⟨p, hp, _, rfl⟩
   exact absurd (by simp) (h p hp)
 | some q =>
  have hq := List.mem_of_find?_eq_some h
  have he : (q.2 : Int) = z := by simpa using List.find?_some (p := fun p : ByteArray × Nat => ((p.2 : Int) == z)) h
  constructor
  ·intro h1
   exact ⟨q, hq, eqS_iff.1 (by simpa using h1), he⟩
  ·rintro ⟨p, hp, rfl, h1⟩
   have : q.1 = p.1 := tab_nr hq hp (by omega)
   simp [this, eqS_self]
theorem spk (z : Int) (s : ByteArray) : (isNr z && eqS (nmS z) s) = (knB s && (nrI s == z)) := by
 rw [Bool.eq_iff_iff, nm_iff, nr_iff]
open P (Xc)
open V (Da)
def hB (d : Da) (c : Xc) : Bool := holdN c.arg c.op c.mask c.val (d.g.getD c.arg.toNat 0)
def namedB (z : Int) (l : List ByteArray) : Bool := l.any fun s => eqS (nmS z) s
def meetB (d : Da) (x : Xl) : Bool := namedB d.n x.names && x.conds.all (hB d)
def verdF (d : Da) (k a : Int) : List Xl -> Int × Int
 | [] => (k, a)
 | x :: r => if meetB d x = true then (x.k, x.a) else verdF d k a r
def verdP (d : Da) (k a : Int) (l : List Xl) : Int × Int := if isNr d.n = true then verdF d k a l else (k, a)
theorem nine_of (d : Da) (h : d.ok) : ∃ d1 d2 d3 d4 d5 d6 d7 d8, d.cells = [.int .u32 d.n, d1, d2, d3, d4, d5, d6, d7, d8] := by
 obtain ⟨n, a, p, g⟩ := d
 obtain ⟨_, _, _, h6, _⟩ := h
 match g, h6 with
 | [g0, g1, g2, g3, g4, g5], _ => exact ⟨_, _, _, _, _, _, _, _, rfl⟩
open Go.RowKit Go.Maps
def litN (z : Int) : Lit := .int .u32 z
def Mp (w : World) (B : Nat) (acc : List Int) : Prop := w.ownsMap Tryz.prog 23 (unitElem (H := Unit)) B acc.length (setOf (.agg []) (acc.map litN))
theorem Mp.lt {w : World} {B : Nat} {acc : List Int} (h : Mp w B acc) : B < w.heap.size := by
 obtain ⟨es, c, h1, _⟩ := h
 exact lt_of_block h1
theorem Mp.over {w w' : World} {B : Nat} {acc : List Int} (h : Mp w B acc) (hb : Below w.heap.size w w') : Mp w' B acc := by
 have hl := h.lt
 obtain ⟨es, c, h1, h2⟩ := h
 exact ⟨es, c, by rw [hb.block B hl]; exact h1, h2⟩
theorem Mp.made (w : World) : Mp (w.alloc (.map #[] 0)) w.heap.size [] := World.ownsMap_made _ _ _ _
theorem Mp.put {w : World} {B : Nat} {acc : List Int} {z : Int} (h : w.ownsMap Tryz.prog 23 (unitElem (H := Unit)) B (acc.length + 1) ((setOf (.agg []) (acc.map litN)).put (litN z) (.agg []))) : Mp w B (acc ++ [z]) := by
 unfold Mp
 rw [List.map_append, List.length_append]
 show w.ownsMap Tryz.prog 23 (unitElem (H := Unit)) B (acc.length + 1) (setOf (.agg []) (acc.map litN ++ [litN z]))
 rw [setOf_snoc]
 exact h
set_option maxRecDepth 100000 in
theorem lawU : Keyed Tryz.prog 23 := int_keyed Tryz.underlying23
theorem nrI_wf (s : ByteArray) : (Lit.int .u32 (nrI s)).wf = true := by
 have ht : (tab.all fun p => decide (p.2 <= 317)) = true := by kernel_rfl
 unfold nrI nrOf
 cases hq : tab.find? fun p => eqS p.1 s with
 | none => rfl
 | some p =>
  have hm := List.mem_of_find?_eq_some hq
  have hp := of_decide_eq_true (List.all_eq_true.1 ht p hm)
  show (Lit.int .u32 ((p.2 : Nat) : Int)).wf = true
  simp [Lit.wf, IntKind.min, IntKind.max, IntKind.signed, IntKind.bits]
  omega
def nums (ns : List ByteArray) : List Int := (ns.filter knB).map nrI
def numsR (l : List Xr) : List Int := l.flatMap fun x => nums x.r.names
theorem nums_yes {ns : List ByteArray} {k : Nat} (h : k < ns.length) (hk : knB ns[k] = true) : nums (ns.take (k + 1)) = nums (ns.take k) ++ [nrI ns[k]] := by
 unfold nums
 rw [List.take_succ_eq_append_getElem h, List.filter_append, List.map_append, List.filter_cons_of_pos hk]
 rfl
theorem nums_no {ns : List ByteArray} {k : Nat} (h : k < ns.length) (hk : knB ns[k] = false) : nums (ns.take (k + 1)) = nums (ns.take k) := by
 unfold nums
 rw [List.take_succ_eq_append_getElem h, List.filter_append, List.filter_cons_of_neg (by simp [hk]), List.filter_nil, List.append_nil]
theorem nums_le (ns : List ByteArray) (k : Nat) : (nums (ns.take k)).length <= (nums ns).length := by
 have e : nums ns = nums (ns.take k) ++ nums (ns.drop k) := by
  unfold nums
  rw [<- List.map_append, <- List.filter_append, List.take_append_drop]
 rw [e, List.length_append]
 omega
theorem numsR_step {l : List Xr} {i : Nat} (h : i < l.length) : numsR (l.take (i + 1)) = numsR (l.take i) ++ nums l[i].r.names := by
 unfold numsR
 rw [List.take_succ_eq_append_getElem h, List.flatMap_append, List.flatMap_cons, List.flatMap_nil, List.append_nil]
theorem numsR_le (l : List Xr) (i : Nat) : (numsR (l.take i)).length <= (numsR l).length := by
 have e : numsR l = numsR (l.take i) ++ numsR (l.drop i) := by
  unfold numsR
  rw [<- List.flatMap_append, List.take_append_drop]
 rw [e, List.length_append]
 omega
def GthR (w : World) (l : List Xr) (e : Ending) (w' : World) : Prop := ∃ B, w.heap.size <= B /\ e = .returned (.map (some B)) /\ Mp w' B (numsR l) /\ Below w.heap.size w w'
set_option maxRecDepth 100000 in
theorem gathered_any (w : World) (v : Value) (l : List Xr) (h : RlR w v l) (hl : l.length <= 1000) (hs : ∀ x ∈ l, x.r.names.length <= 9000000) (hN : (numsR l).length <= 9000000) :
  Calls Tryz.prog 86 #[v] w fun e w' => GthR w l e w' := by
 obtain ⟨p1, c1, rfl⟩ : ∃ p c, v = .slice p l.length c := by obtain ⟨p, c, e, _⟩ := h; exact ⟨p, c, e⟩
 have HNr : Hid (∀ s W, Calls Tryz.prog 122 #[.string s] W fun e w' => e = .returned (.tuple #[.int .u32 (nrI s), .bool (knB s)]) /\ Below W.heap.size W w') := nr_any
 have HM : Hid (∀ x ∈ l, x.r.names.length <= 9000000) := hs
 have S0 : Hid (RlR w (.slice p1 l.length c1) l) := h
 have M0 : Hid (Mp (w.alloc (.map #[] 0)) w.heap.size []) := Mp.made w
 have B0 : Hid (Below w.heap.size w (w.alloc (.map #[] 0))) := below_new w _
 have HNN : Hid ((numsR l).length <= 9000000) := hN
 clear h hs hN
 have hmm := @run_makeMap Tryz.prog
 go_enter Tryz.func86, Tryz.ntmps86
 go_wp2_with fail
 clear hmm
 go_loopw [13] (fun vi wr => ∃ i : Nat, vi = .int .i64 i /\ i <= l.length /\ Mp wr w.heap.size (numsR (l.take i)) /\ Below w.heap.size w wr) (fun vi _ => l.length - (intOf vi).toNat)
 case atStart => exact ⟨0, rfl, Nat.zero_le _, M0.out, B0.out⟩
 case round =>
  obtain ⟨i, rfl, hi, hmp, hb⟩ := hrel
  have HMP : Hid (Mp wr w.heap.size (numsR (l.take i))) := hmp
  have HB : Hid (Below w.heap.size w wr) := hb
  clear hmp
  by_cases hlt : i < l.length
  ·have hi1 : (i : Int) < (l.length : Int) := by omega
   obtain ⟨b1, o1, rfl, e1⟩ := rlR_at (S0.out.below hb) hlt
   have hmem : l[i] ∈ l := List.getElem_mem hlt
   have HST : Hid (numsR (l.take (i + 1)) = numsR (l.take i) ++ nums l[i].r.names) := numsR_step hlt
   have HLE : Hid ((numsR (l.take (i + 1))).length <= 9000000) := Nat.le_trans (numsR_le l (i + 1)) HNN.out
   have HSR : Hid (∀ W, Below w.heap.size w W -> StrR W l[i].vn l[i].r.names) := fun W hW => by
    obtain ⟨_, _, _, _, _, _, hr⟩ := S0.out.below hW
    exact (hr _ hmem).1
   have hln : l[i].r.names.length <= 9000000 := HM.out _ hmem
   obtain ⟨p3, c3, e3⟩ : ∃ p c, l[i].vn = .slice p l[i].r.names.length c := by obtain ⟨_, _, _, _, _, _, hr⟩ := S0.out; obtain ⟨p, c, e, _⟩ := (hr _ hmem).1; exact ⟨p, c, e⟩
   obtain ⟨p4, n4, c4, e4⟩ : ∃ p n c, l[i].vc = .slice p n c := by obtain ⟨_, _, _, _, _, _, hr⟩ := S0.out; obtain ⟨p, c, e, _⟩ := (hr _ hmem).2; exact ⟨p, _, c, e⟩
   clear hmem
   generalize l[i] = x at *
   obtain ⟨⟨xk, xa, ns, cs⟩, vn, vc⟩ := x
   obtain ⟨q0, q1, q2, q3⟩ := e1
   dsimp only at q0 q1 q2 q3 HST HSR hln e3 e4
   subst e3 e4
   have BE : Hid (Below w.heap.size w (wr.alloc (Obj.cells #[.int .i64 xk, .int .i64 xa, .slice p3 ns.length c3, .slice p4 n4 c4] 87))) := HB.out.alloc HB.out.size _
   have ME : Hid (Mp (wr.alloc (Obj.cells #[.int .i64 xk, .int .i64 xa, .slice p3 ns.length c3, .slice p4 n4 c4] 87)) w.heap.size (numsR (l.take i) ++ nums (ns.take 0))) := by
    show Mp _ _ _
    rw [show numsR (l.take i) ++ nums (ns.take 0) = numsR (l.take i) from by simp [nums]]
    exact HMP.out.over (below_new wr _)
   generalize numsR (l.take i) = acc at *
   clear hb
   go_wp2_with fail
   go_loopw [20] (fun vj wz => ∃ j : Nat, vj = .int .i64 j /\ j <= ns.length /\ Mp wz w.heap.size (acc ++ nums (ns.take j)) /\ Below w.heap.size w wz) (fun vj _ => ns.length - (intOf vj).toNat)
   case atStart => exact ⟨0, rfl, Nat.zero_le _, ME.out, BE.out⟩
   case round =>
    obtain ⟨j, rfl, hj, hmp, hb⟩ := hrel
    have HMP2 : Hid (Mp wr w.heap.size (acc ++ nums (ns.take j))) := hmp
    have HB2 : Hid (Below w.heap.size w wr) := hb
    clear hmp
    by_cases hlt2 : j < ns.length
    ·have hj1 : (j : Int) < (ns.length : Int) := by omega
     obtain ⟨b3, o3, rfl, e5⟩ := strR_at (HSR.out wr hb) hlt2
     have HX : Hid (∀ W, Calls Tryz.prog 122 #[.string ns[j]] W fun e w' => e = .returned (.tuple #[.int .u32 (nrI ns[j]), .bool (knB ns[j])]) /\ Below W.heap.size W w') := HNr.out ns[j]
     have HY : Hid (knB ns[j] = true -> nums (ns.take (j + 1)) = nums (ns.take j) ++ [nrI ns[j]]) := nums_yes hlt2
     have HZ : Hid (knB ns[j] = false -> nums (ns.take (j + 1)) = nums (ns.take j)) := nums_no hlt2
     have hkey : keyOf Tryz.prog 23 (.int .u32 (nrI ns[j])) = some (litN (nrI ns[j])) := keyOf_int_mk Tryz.underlying23 (nrI_wf _)
     have hle : (acc ++ nums (ns.take j)).length <= 9000000 := by
      have c1 := HLE.out
      rw [HST.out, List.length_append] at c1
      have c2 := nums_le ns j
      rw [List.length_append]
      omega
     clear hb
     generalize knB ns[j] = q at *
     generalize nrI ns[j] = z at *
     generalize ns[j] = s at *
     cases q with
     | true =>
      go_wp2_with (first | (go_at_call 122; refine (HX.out _).mono ?_; rintro e w1 ⟨rfl, b1⟩) | (at_mapUpdate; refine wpList_mapUpdate_own _ rfl _ _ _ 160 rfl 23 195 lawU Tryz.underlying160 (unitElem (H := Unit)) w.heap.size (acc ++ nums (ns.take j)).length _ rfl (HMP2.out.over b1) (by unfold maxLen; omega) _ _ _ rfl rfl hkey _ [] unitElem_mk ?_; intro w2 hown2 hgrow2) | go_in)
      have hB1 := HB2.out.trans (b1.mono HB2.out.size)
      exact ⟨⟨j + 1, by go_num, hlt2, by rw [HY.out trivial, <- List.append_assoc]; exact Mp.put hown2, hB1.grown hgrow2 hB1.size (fun j hj => by cases hj; exact Nat.le_refl _)⟩, by simp [intOf]; omega⟩
     | false =>
      go_wp2_with (first | (go_at_call 122; refine (HX.out _).mono ?_; rintro e w1 ⟨rfl, b1⟩))
      go_roundw
      case rel => exact ⟨j + 1, by go_num, hlt2, by rw [HZ.out trivial]; exact HMP2.out.over b1, HB2.out.trans (b1.mono HB2.out.size)⟩
      case measure => simp [intOf]; omega
    ·have hj1 : ¬ (j : Int) < (ns.length : Int) := by omega
     have HE : Hid (Mp wr w.heap.size (numsR (l.take (i + 1)))) := by
      show Mp _ _ _
      rw [HST.out]
      have := HMP2.out
      rw [List.take_of_length_le (by omega)] at this
      exact this
     clear hb
     go_wp2_with fail
     go_roundw
     case rel => exact ⟨i + 1, by go_num, hlt, HE.out, HB2.out⟩
     case measure => simp [intOf]; omega
  ·have hi1 : ¬ (i : Int) < (l.length : Int) := by omega
   clear hb
   go_wp2_with fail
   go_ret
   exact ⟨w.heap.size, Nat.le_refl _, rfl, by have := HMP.out; rw [List.take_of_length_le (by omega)] at this; exact this, HB.out⟩
open P (ret_bool)
def ltZ (x y : Int) : Bool := decide (x < y)
theorem swoZ : Go.Sort.SWO ltZ where
 irrefl x := decide_eq_false (by omega)
 trans x y z h1 h2 := by have := of_decide_eq_true h1; have := of_decide_eq_true h2; exact decide_eq_true (by omega)
 ntrans x y z h1 h2 := by have := of_decide_eq_false h1; have := of_decide_eq_false h2; exact decide_eq_false (by omega)
def cellsA (d : Array Int) : List Value := d.toList.map (Value.int .u32)
structure Sw (w0 : World) (g : Nat) (tl : List Value) (d : Array Int) (X : World) : Prop where
 blk : Blk X g 23 (cellsA d ++ tl)
 grow : w0.grownBy X (some g)
theorem cellsA_at (d : Array Int) (tl : List Value) (i : Nat) (h : i < d.size) : (cellsA d ++ tl)[i]? = some (.int .u32 d[i]!) := by
 unfold cellsA
 rw [List.getElem?_append_left (by simpa using h), List.getElem?_map, getElem!_pos d i h]
 simp [h]
theorem cellsA_len (d : Array Int) : (cellsA d).length = d.size := by simp [cellsA]
theorem cellsA_set (d : Array Int) (tl : List Value) (i : Nat) (x : Int) (h : i < d.size) : (cellsA d ++ tl).set i (.int .u32 x) = cellsA (d.setIfInBounds i x) ++ tl := by
 rw [List.set_append_left _ _ (by rw [cellsA_len]; exact h)]
 unfold cellsA
 rw [<- List.map_set, Array.toList_setIfInBounds]
section
variable {w0 w1 X Y : World} {g : Nat} {tl : List Value} {d d' : Array Int}
theorem Sw.refl (h : Blk X g 23 (cellsA d ++ tl)) : Sw X g tl d X := ⟨h, ⟨rfl, rfl, rfl, Nat.le_refl _, fun _ _ _ => rfl⟩⟩
theorem Sw.cell (h : Sw w0 g tl d X) (i : Nat) (hi : i < d.size) : X.cell? ⟨g, i, none⟩ = some (.int .u32 d[i]!) := (h.blk.cell i).trans (cellsA_at d tl i hi)
theorem Sw.f (h : Sw w0 g tl d X) (i : Nat) : X.frozen? ⟨g, i, none⟩ = false := h.blk.f i
theorem Sw.set (h : Sw w0 g tl d X) (i : Nat) (x : Int) (hi : i < d.size) : Sw w0 g tl (d.setIfInBounds i x) (X.setCell ⟨g, i, none⟩ (.int .u32 x)) := by
 refine ⟨?_, h.grow.os, h.grow.tape, h.grow.output, by have := h.grow.size; simpa using this, fun k hk hn => ?_⟩
 ·rw [<- cellsA_set d tl i x hi]
  exact h.blk.set i _
 ·rw [heap_setCell_other X ⟨g, i, none⟩ k _ (fun e => hn (by rw [e]))]
  exact h.grow.block k hk hn
theorem Sw.swap (h : Sw w0 g tl d X) (i j : Nat) (hi : i < d.size) (hj : j < d.size) : Sw w0 g tl (Go.Sort.swp d i j) ((X.setCell ⟨g, i, none⟩ (.int .u32 d[j]!)).setCell ⟨g, j, none⟩ (.int .u32 d[i]!)) :=
 (h.set i _ hi).set j _ (by simpa using hj)
theorem Sw.drew (h : Sw w0 g tl d X) : Sw w0 g tl d X.drew := ⟨h.blk, h.grow.os, h.grow.tape, h.grow.output, h.grow.size, h.grow.block⟩
theorem Sw.drewN (h : Sw w0 g tl d X) (n : Nat) : Sw w0 g tl d (X.drewN n) := by
 induction n with
 | zero => exact h
 | succ n ih => exact ih.drew
theorem Sw.over (h : Sw w0 g tl d X) (hb : Below X.heap.size X Y) : Sw w0 g tl d Y :=
 ⟨h.blk.over hb, hb.os.trans h.grow.os, hb.tape.trans h.grow.tape, hb.output.trans h.grow.output, Nat.le_trans h.grow.size hb.size, fun k hk hn => (hb.block k (Nat.lt_of_lt_of_le hk h.grow.size)).trans (h.grow.block k hk hn)⟩
theorem Sw.trans (h : Sw w0 g tl d X) (h' : Sw X g tl d' Y) : Sw w0 g tl d' Y :=
 ⟨h'.blk, h'.grow.os.trans h.grow.os, h'.grow.tape.trans h.grow.tape, h'.grow.output.trans h.grow.output, Nat.le_trans h.grow.size h'.grow.size, fun k hk hn => (h'.grow.block k (Nat.lt_of_lt_of_le hk h.grow.size) hn).trans (h.grow.block k hk hn)⟩
end
theorem isNaN_any (x : Int) (w : World) : Calls Tryz.prog 166 #[.int .u32 x] w fun e w' => e = .returned (.bool false) /\ w' = w := by
 go_enter Tryz.func166, Tryz.ntmps166
 go_wp2
 go_ret
 exact ⟨ret_bool (by simp), rfl⟩
theorem lessU_any (x y : Int) (w : World) : Calls Tryz.prog 147 #[.int .u32 x, .int .u32 y] w fun e w' => e = .returned (.bool (ltZ x y)) /\ w' = w := by
 go_enter Tryz.func147, Tryz.ntmps147
 go_wp2_with (go_at_call 166; refine (isNaN_any _ _).mono ?_; rintro e w1 ⟨rfl, rfl⟩)
 go_ret
 exact ⟨rfl, rfl⟩
open Go.Sort (insInner insOuter swp size_swp)
theorem insI_go {a j : Nat} {d : Array Int} (h : a < j) (hl : ltZ d[j]! d[j - 1]! = true) : insInner ltZ a j d = insInner ltZ a (j - 1) (swp d j (j - 1)) := by
 obtain ⟨m, rfl⟩ : ∃ m, j = m + 1 := ⟨j - 1, by omega⟩
 show (if (decide (m + 1 > a) && ltZ d[m + 1]! d[m]!) = true then _ else _) = _
 rw [if_pos]
 ·rfl
 ·rw [decide_eq_true (by omega)]
  exact hl
theorem insI_stop {a j : Nat} {d : Array Int} (h : j <= a \/ ltZ d[j]! d[j - 1]! = false) : insInner ltZ a j d = d := by
 cases j with
 | zero => rfl
 | succ m =>
  show (if (decide (m + 1 > a) && ltZ d[m + 1]! d[m]!) = true then _ else _) = _
  rw [if_neg]
  rcases h with h | h
  ·rw [decide_eq_false (by omega)]; simp
  ·simp only [Nat.add_sub_cancel] at h
   rw [h]; simp
theorem insO_go {a b i : Nat} {d : Array Int} (h : i < b) : insOuter ltZ a b i d = insOuter ltZ a b (i + 1) (insInner ltZ a i d) := by
 rw [insOuter, if_pos h]
theorem insO_stop {a b i : Nat} {d : Array Int} (h : ¬ i < b) : insOuter ltZ a b i d = d := by
 rw [insOuter, if_neg h]
set_option maxRecDepth 8000 in
theorem ins_any (g n cap a b : Nat) (tl : List Value) (d : Array Int) (w : World) (h : Blk w g 23 (cellsA d ++ tl)) (hd : d.size = n) (hab : a <= b) (hb : b <= n) (hn : n <= 1000) :
  Calls Tryz.prog 141 #[.slice (some ⟨g, 0, none⟩) n cap, .int .i64 a, .int .i64 b] w fun e w' => e = .returned (.tuple #[]) /\ Sw w g tl (Go.Sort.insertionSort ltZ d a b) w' := by
 have S0 : Hid (Sw w g tl d w) := Sw.refl h
 have HLs : Hid (∀ x y W, Calls Tryz.prog 147 #[.int .u32 x, .int .u32 y] W fun e w' => e = .returned (.bool (ltZ x y)) /\ w' = W) := lessU_any
 clear h
 go_enter Tryz.func141, Tryz.ntmps141
 go_wp2
 go_loopw [6] (fun vi wr => ∃ (i : Nat) (dk : Array Int), vi = .int .i64 i /\ a < i /\ i <= b + 1 /\ dk.size = n /\ Sw w g tl dk wr /\ insOuter ltZ a b i dk = insOuter ltZ a b (a + 1) d) (fun vi _ => b + 1 - (intOf vi).toNat)
 case atStart => exact ⟨a + 1, d, by go_num, by omega, by omega, hd, S0.out, rfl⟩
 case round =>
  obtain ⟨i, dk, rfl, hai, hib, hsk, hsw, hO⟩ := hrel
  have HO : Hid (insOuter ltZ a b i dk = insOuter ltZ a b (a + 1) d) := hO
  have S1 : Hid (Sw w g tl dk wr) := hsw
  clear hO hsw
  by_cases hlt : i < b
  ·have hi1 : (i : Int) < (b : Int) := by omega
   go_wp2_with fail
   go_loopw [7] (fun vj wz => ∃ (j : Nat) (dj : Array Int), vj = .int .i64 j /\ a <= j /\ j <= i /\ dj.size = n /\ Sw w g tl dj wz /\ insInner ltZ a j dj = insInner ltZ a i dk) (fun vj _ => (intOf vj).toNat)
   case atStart => exact ⟨i, dk, rfl, by omega, Nat.le_refl _, hsk, S1.out, rfl⟩
   case round =>
    obtain ⟨j, dj, rfl, haj, hji, hsj, hsw, hI⟩ := hrel
    have HI : Hid (insInner ltZ a j dj = insInner ltZ a i dk) := hI
    have S2 : Hid (Sw w g tl dj wr) := hsw
    have HOUT : Hid ((j <= a \/ ltZ dj[j]! dj[j - 1]! = false) -> insOuter ltZ a b (i + 1) dj = insOuter ltZ a b (a + 1) d) := fun hs => by
     rw [<- HO.out, insO_go hlt, <- HI.out, insI_stop hs]
    clear hI
    by_cases hja : a < j
    ·have hja1 : decide ((a : Int) < (j : Int)) = true := decide_eq_true (by omega)
     have hja2 : (a : Int) < (j : Int) := by omega
     have hjn : (j : Int) < (n : Int) := by omega
     have cj : wr.cell? ⟨g, j, none⟩ = some (.int .u32 dj[j]!) := hsw.cell j (by omega)
     have ck : wr.cell? ⟨g, j - 1, none⟩ = some (.int .u32 dj[j - 1]!) := hsw.cell (j - 1) (by omega)
     have fj : wr.frozen? ⟨g, j, none⟩ = false := hsw.f j
     have fk : wr.frozen? ⟨g, j - 1, none⟩ = false := hsw.f (j - 1)
     have SZ : Hid (∀ m, Sw w g tl (swp dj j (j - 1)) (((wr.drewN m).setCell ⟨g, j, none⟩ (.int .u32 dj[j - 1]!)).setCell ⟨g, j - 1, none⟩ (.int .u32 dj[j]!))) := fun m => (hsw.drewN m).swap j (j - 1) (by omega) (by omega)
     have HGO : Hid (ltZ dj[j]! dj[j - 1]! = true -> insInner ltZ a (j - 1) (swp dj j (j - 1)) = insInner ltZ a i dk) := fun hl => by rw [<- HI.out, insI_go hja hl]
     clear hsw
     generalize dj[j]! = xj at *
     generalize dj[j - 1]! = xk at *
     rcases Bool.eq_false_or_eq_true (ltZ xj xk) with hl | hl
     ·have HQ : Hid (∀ W, Calls Tryz.prog 147 #[.int .u32 xj, .int .u32 xk] W fun e w' => e = .returned (.bool true) /\ w' = W) := fun W => hl ▸ lessU_any xj xk W
      go_wp2_with fail
      go_quiet ((go_at_call 147; refine Calls.quiet_of_same (HQ.out _)))
      go_wp2_with fail
      go_big_region
      go_wp2_with fail
      go_roundw
      case rel => exact ⟨j - 1, swp dj j (j - 1), by congr 1; omega, by omega, by omega, by rw [size_swp]; exact hsj, SZ.out _, HGO.out hl⟩
      case measure => simp [intOf]; omega
     ·have HQ : Hid (∀ W, Calls Tryz.prog 147 #[.int .u32 xj, .int .u32 xk] W fun e w' => e = .returned (.bool false) /\ w' = W) := fun W => hl ▸ lessU_any xj xk W
      go_wp2_with fail
      go_quiet ((go_at_call 147; refine Calls.quiet_of_same (HQ.out _)))
      go_wp2_with fail
      go_roundw
      case rel => exact ⟨i + 1, dj, by go_num, by omega, by omega, hsj, S2.out.drewN _, HOUT.out (.inr hl)⟩
      case measure => simp [intOf]; omega
    ·have hja1 : decide ((a : Int) < (j : Int)) = false := decide_eq_false (by omega)
     have hja2 : ¬ (a : Int) < (j : Int) := by omega
     clear hsw
     go_wp2_with fail
     go_quiet (fail)
     go_wp2_with fail
     go_roundw
     case rel => exact ⟨i + 1, dj, by go_num, by omega, by omega, hsj, S2.out.drewN _, HOUT.out (.inl (by omega))⟩
     case measure => simp [intOf]; omega
  ·have hge : ¬ (i : Int) < (b : Int) := by omega
   go_wp2_with fail
   go_end0
   exact ⟨rfl, by unfold Go.Sort.insertionSort; rw [<- HO.out, insO_stop hlt]; exact S1.out⟩
end Go.Proofs.YtcckipimfgmmdaaGreatDoor.M
