/-
  LDMath LDMem LLkMath LLkMem LLkAdd LLkRem LLkTurn LLkWay LLkBef LLkSpoil LLkSend LLkTake LLkAwk.
-/
import Derived.Deep.RegionLaw
import Derived.Test.YtmcgcbgblgmmkaaGreatDoorQ7
import Derived.Lib.SlBytesConst
import Derived.Test.YtmcgcbgblgmmkaaGreatDoorQ0
set_option maxRecDepth 100000
set_option maxHeartbeats 4000000
namespace Go.Proofs.YtmcgcbgblgmmkaaGreatDoor.L.D
def U32 (x : Int) : Prop := 0 <= x /\ x <= 4294967295
def Byt (l : List Int) : Prop := ∀ z ∈ l, 0 <= z /\ z <= 255
def hi (x : Int) : Int := x / 4294967296
theorem getD_u {ws : List Int} (h : ∀ z ∈ ws, U32 z) (k : Nat) : U32 (ws.getD k 0) := by
 rw [List.getD_eq_getElem?_getD]
 by_cases hk : k < ws.length
 ·rw [List.getElem?_eq_getElem hk]; exact h _ (List.getElem_mem hk)
 ·rw [List.getElem?_eq_none (by omega)]; exact ⟨by decide, by decide⟩
theorem byt_get {l : List Int} (h : Byt l) (k : Nat) : 0 <= l.getD k 0 /\ l.getD k 0 <= 255 := by
 rw [List.getD_eq_getElem?_getD]
 by_cases hk : k < l.length
 ·have := h _ (List.getElem_mem hk)
  rw [List.getElem?_eq_getElem hk]; exact this
 ·rw [List.getElem?_eq_none (by omega)]; simp
open Go.RowKit
def Bs (w : World) (a : Option Addr) (len : Nat) (l : List Int) : Prop :=
 l.length = len /\ Byt l /\
 (0 < len -> ∃ b off, a = some ⟨b, off, none⟩ /\ ∀ i, i < len -> w.cell? ⟨b, off + i, none⟩ = some (.int .u8 (l.getD i 0)))
theorem Bs.below {w w' : World} {a : Option Addr} {len : Nat} {l : List Int} (h : Bs w a len l) (hb : Below w.heap.size w w') : Bs w' a len l := by
 refine ⟨h.1, h.2.1, fun h0 => ?_⟩
 obtain ⟨b, off, ha, hc⟩ := h.2.2 h0
 refine ⟨b, off, ha, fun i hi => ?_⟩
 rw [hb.cell (p := ⟨b, off + i, none⟩) (World.block_lt_of_cell? w _ (hc i hi))]
 exact hc i hi
theorem run_convert_bytes_zero (w : World) (p : Option Addr) (c : Nat) : (convert 37 9 (.slice p 0 c)).run Tryz.prog w = .ok (.string (strOfNums [])) w := by
 rw [run_convert_bytes_string w 37 9 5 _ 0 c Tryz.underlying37 Tryz.underlying5 Tryz.underlying9]
 cases p <;> simp [Conv.bytesToString, loadCells]
 all_goals rfl
theorem run_text {w : World} {a : Option Addr} {len : Nat} {l : List Int} (h : Bs w a len l) (cap : Nat) : (convert 37 9 (.slice a len cap)).run Tryz.prog w = .ok (.string (strOfNums l)) w := by
 rcases Nat.eq_zero_or_pos len with rfl | h0
 ·obtain rfl : l = [] := List.eq_nil_of_length_eq_zero h.1
  exact run_convert_bytes_zero w a cap
 ·obtain ⟨b, off, rfl, hc⟩ := h.2.2 h0
  exact run_convert_bytes_arg w 37 5 Tryz.underlying37 Tryz.underlying5 b off len cap l h.1 hc 9 Tryz.underlying9
theorem size_alloc' (w : World) (o : Obj) : (w.alloc o).heap.size = w.heap.size + 1 := by
 show (w.heap.push o).size = _
 simp
def Blk (w : World) (b : Nat) (t : TypeId) (l : List Value) : Prop := w.heap[b]? = some (.cells l.toArray t (0, 0))
section
variable {w : World} {b : Nat} {t : TypeId} {l : List Value}
theorem Blk.cell (h : Blk w b t l) (i : Nat) : w.cell? ⟨b, i, none⟩ = l[i]? := by
 rw [cell_of_row w b i _ _ _ h]
 simp
theorem Blk.f (h : Blk w b t l) (i : Nat) : w.frozen? ⟨b, i, none⟩ = false := frozen_of_row w b i _ _ h
theorem Blk.lt (h : Blk w b t l) : b < w.heap.size := lt_of_block h
theorem Blk.below {w' : World} {B : Nat} (h : Blk w b t l) (hb : Below B w w') (hB : b < B) : Blk w' b t l := by unfold Blk; rw [hb.block b hB]; exact h
theorem Blk.over {w' : World} (h : Blk w b t l) (hb : Below w.heap.size w w') : Blk w' b t l := h.below hb h.lt
theorem Blk.drew (h : Blk w b t l) : Blk w.drew b t l := h
theorem Blk.set (h : Blk w b t l) (i : Nat) (v : Value) : Blk (w.setCell ⟨b, i, none⟩ v) b t (l.set i v) := by
 have := heap_setCell_same w b i _ _ v h
 unfold Blk
 rw [this]
 simp
end
theorem blk_new (w : World) (cs : Array Value) (t : TypeId) : Blk (w.alloc (Obj.cells cs t)) w.heap.size t cs.toList := by
 unfold Blk
 rw [heap_alloc_new]
end Go.Proofs.YtmcgcbgblgmmkaaGreatDoor.L.D
namespace Go.Proofs.YtmcgcbgblgmmkaaGreatDoor.L
open Go.RowKit D
def okF (f : List Int) : Prop := Byt f /\ 0 < f.length /\ f.length <= 1024
def okR (l : List (List Int)) : Prop := l.length <= 64 /\ ∀ f ∈ l, okF f
structure Lk where
 u : List (List Int)
 d : List (List Int)
def Lk.sel (s : Lk) (up : Bool) : List (List Int) := if up then s.u else s.d
def Lk.put (s : Lk) (up : Bool) (l : List (List Int)) : Lk := if up then { s with u := l } else { s with d := l }
def Lk.ok (s : Lk) : Prop := okR s.u /\ okR s.d
def maySend (l : List (List Int)) (f : List Int) : Bool := decide (l.length < 64 /\ 0 < f.length /\ f.length <= 1024)
def Lk.send (s : Lk) (up : Bool) (f : List Int) : Lk := if maySend (s.sel up) f then s.put up (s.sel up ++ [f]) else s
def hasN (l : List (List Int)) (n : Int) : Bool := decide (0 <= n /\ n < (l.length : Int))
def Lk.take (s : Lk) (up : Bool) (n : Int) : Lk := if hasN (s.sel up) n then s.put up ((s.sel up).eraseIdx n.toNat) else s
def Lk.way (s : Lk) (n : Int) : Bool := decide (n < (s.u.length : Int))
def Lk.at (s : Lk) (n : Int) : Int := if n < (s.u.length : Int) then n else n - (s.u.length : Int)
def Lk.has (s : Lk) (n : Int) : Bool := hasN (s.sel (s.way n)) (s.at n)
def Lk.frame (s : Lk) (n : Int) : List Int := (s.sel (s.way n)).getD (s.at n).toNat []
def Lk.mayTwice (s : Lk) (n : Int) : Bool := s.has n && decide ((s.sel (s.way n)).length < 64)
def Lk.twice (s : Lk) (n : Int) : Lk := if s.mayTwice n then s.put (s.way n) (s.sel (s.way n) ++ [s.frame n]) else s
theorem okR_nil : okR [] := ⟨by decide, fun f h => by cases h⟩
theorem okR_snoc {l : List (List Int)} {f : List Int} (h : okR l) (hl : l.length < 64) (hf : okF f) : okR (l ++ [f]) :=
 ⟨by rw [List.length_append, List.length_singleton]; omega, fun g hg => (List.mem_append.1 hg).elim (h.2 g) fun e => by rw [List.mem_singleton] at e; rw [e]; exact hf⟩
theorem okR_erase {l : List (List Int)} (h : okR l) (n : Nat) : okR (l.eraseIdx n) :=
 ⟨Nat.le_trans (List.length_eraseIdx_le ..) h.1, fun g hg => h.2 g (List.mem_of_mem_eraseIdx hg)⟩
theorem okR_set {l : List (List Int)} {f : List Int} (h : okR l) (n : Nat) (hf : okF f) : okR (l.set n f) :=
 ⟨by rw [List.length_set]; exact h.1, fun g hg => (List.mem_or_eq_of_mem_set hg).elim (h.2 g) fun e => by rw [e]; exact hf⟩
theorem okR_get {l : List (List Int)} (h : okR l) {n : Nat} (hn : n < l.length) : okF (l.getD n []) := by
 rw [List.getD_eq_getElem?_getD, List.getElem?_eq_getElem hn]
 exact h.2 _ (List.getElem_mem hn)
theorem hasN_lt {l : List (List Int)} {n : Int} (h : hasN l n = true) : 0 <= n /\ n.toNat < l.length := by
 have := of_decide_eq_true h
 omega
theorem Lk.ok_sel {s : Lk} (h : s.ok) (up : Bool) : okR (s.sel up) := by cases up; exact h.2; exact h.1
theorem Lk.ok_put {s : Lk} (h : s.ok) (up : Bool) {l : List (List Int)} (hl : okR l) : (s.put up l).ok := by cases up; exact ⟨h.1, hl⟩; exact ⟨hl, h.2⟩
theorem Lk.ok_frame {s : Lk} (h : s.ok) {n : Int} (hn : s.has n = true) : okF (s.frame n) := okR_get (Lk.ok_sel h _) (hasN_lt hn).2
def strC (l : List (List Int)) : List Value := l.map fun f => .string (strOfNums f)
def rowC (l : List (List Int)) : List Value := strC l ++ (List.replicate (64 - l.length) (.string (strOfNums [])) ++ [.int .i64 (l.length : Int)])
theorem strC_len (l : List (List Int)) : (strC l).length = l.length := by simp [strC]
theorem rowC_len {l : List (List Int)} (h : l.length <= 64) : (rowC l).length = 65 := by
 simp [rowC, strC_len]
 omega
structure Row (w : World) (b : Nat) (A : List Value) (l : List (List Int)) (Z : List Value) : Prop where
 blk : Blk w b 29 (A ++ (rowC l ++ Z))
 le : l.length <= 64
section
variable {w : World} {b : Nat} {A Z : List Value} {l : List (List Int)}
theorem Row.at (h : Row w b A l Z) (i : Nat) (hi : i < 65) : w.cell? ⟨b, A.length + i, none⟩ = (rowC l)[i]? := by
 rw [h.blk.cell, List.getElem?_append_right (by omega), Nat.add_sub_cancel_left, List.getElem?_append_left (by rw [rowC_len h.le]; exact hi)]
theorem Row.many (h : Row w b A l Z) : w.cell? ⟨b, A.length + 64, none⟩ = some (.int .i64 (l.length : Int)) := by
 rw [h.at 64 (by decide)]
 unfold rowC
 have := h.le
 rw [List.getElem?_append_right (by rw [strC_len]; omega), List.getElem?_append_right (by rw [strC_len, List.length_replicate]; omega), strC_len, List.length_replicate, show 64 - l.length - (64 - l.length) = 0 by omega]
 rfl
theorem Row.frame (h : Row w b A l Z) {i : Nat} (hi : i < l.length) : w.cell? ⟨b, A.length + i, none⟩ = some (.string (strOfNums (l.getD i []))) := by
 have := h.le
 rw [h.at i (by omega)]
 unfold rowC strC
 rw [List.getElem?_append_left (by simpa using hi), List.getElem?_map, List.getElem?_eq_getElem hi, List.getD_eq_getElem?_getD, List.getElem?_eq_getElem hi]
 rfl
theorem Row.some (h : Row w b A l Z) {i : Nat} (hi : i < 65) : ∃ v, w.cell? ⟨b, A.length + i, none⟩ = Option.some v := by
 rw [h.at i hi, List.getElem?_eq_getElem (by rw [rowC_len h.le]; exact hi)]
 exact ⟨_, rfl⟩
theorem Row.f (h : Row w b A l Z) (i : Nat) : w.frozen? ⟨b, i, none⟩ = false := h.blk.f i
end
structure Kb (b : Nat) (w w' : World) : Prop where
 os : w'.os = w.os
 tape : w'.tape = w.tape
 output : w'.output = w.output
 size : w.heap.size <= w'.heap.size
 block : ∀ k, k < w.heap.size -> k ≠ b -> w'.heap[k]? = w.heap[k]?
theorem Kb.refl (b : Nat) (w : World) : Kb b w w := ⟨rfl, rfl, rfl, Nat.le_refl _, fun _ _ _ => rfl⟩
theorem Kb.trans {b : Nat} {u w w' : World} (h : Kb b u w) (k : Kb b w w') : Kb b u w' :=
 ⟨k.os.trans h.os, k.tape.trans h.tape, k.output.trans h.output, Nat.le_trans h.size k.size, fun i hi hx => (k.block i (Nat.lt_of_lt_of_le hi h.size) hx).trans (h.block i hi hx)⟩
theorem kb_below {b : Nat} {w w' : World} (h : Below w.heap.size w w') : Kb b w w' := ⟨h.os, h.tape, h.output, h.size, fun i hi _ => h.block i hi⟩
theorem Kb.below {b B : Nat} {w w' : World} (h : Kb b w w') (hB : B <= w.heap.size) (hb : B <= b) : Below B w w' := ⟨h.os, h.tape, h.output, h.size, fun i hi => h.block i (by omega) (by omega)⟩
theorem kb_set (w : World) (b i : Nat) (v : Value) : Kb b w (w.setCell ⟨b, i, none⟩ v) :=
 ⟨by simp [World.setCell], by simp [World.setCell], by simp [World.setCell], by simp, fun k _ hx => heap_setCell_other w ⟨b, i, none⟩ k v hx⟩
theorem Row.drew {w : World} {b : Nat} {A Z : List Value} {l : List (List Int)} (h : Row w b A l Z) : Row w.drew b A l Z := ⟨h.blk.drew, h.le⟩
theorem add_cells (A Z : List Value) (l : List (List Int)) (f : List Int) (hl : l.length < 64) :
  ((A ++ (rowC l ++ Z)).set (A.length + l.length) (.string (strOfNums f))).set (A.length + 64) (.int .i64 ((l.length + 1 : Nat) : Int)) = A ++ (rowC (l ++ [f]) ++ Z) := by
 rw [List.set_append_right _ _ (by omega), Nat.add_sub_cancel_left, List.set_append_right _ _ (by omega), Nat.add_sub_cancel_left]
 congr 1
 obtain ⟨k, hk⟩ : ∃ k, 64 - l.length = k + 1 := ⟨64 - l.length - 1, by omega⟩
 unfold rowC
 rw [List.append_assoc, List.set_append_right _ _ (by rw [strC_len]; omega), strC_len, Nat.sub_self, hk, List.replicate_succ, List.cons_append, List.cons_append, zB, List.set_append_right _ _ (by rw [strC_len]; omega), strC_len, show 64 - l.length = k + 1 from hk, zC, List.append_assoc,
  List.set_append_right _ _ (by rw [List.length_replicate]; omega), List.length_replicate, Nat.sub_self]
 simp [strC]
 omega
theorem has_any (w : World) (b : Nat) (A Z : List Value) (l : List (List Int)) (h : Row w b A l Z) (n : Int) :
  Calls Tryz.prog 27 #[.pointer (some ⟨b, A.length, none⟩), .int .i64 n] w fun e w' => e = .returned (.bool (hasN l n)) /\ w' = w := by
 have hm := h.many
 have hle : (l.length : Int) <= 64 := by have := h.le; omega
 clear h
 unfold hasN
 generalize A.length = o at *
 generalize l.length = k at *
 by_cases h0 : n < 0
 ·have h1 : decide (0 <= n /\ n < (k : Int)) = false := by simp; omega
  rw [h1]
  have h2 : ¬ (0 : Int) <= n := by omega
  go_enter Tryz.func27, Tryz.ntmps27
  go_wp2
  go_ret
  exact ⟨rfl, rfl⟩
 ·have h2 : (0 : Int) <= n := by omega
  by_cases h3 : n < (k : Int)
  ·have h1 : decide (0 <= n /\ n < (k : Int)) = true := by simp; omega
   rw [h1]
   go_enter Tryz.func27, Tryz.ntmps27
   go_wp2
   go_ret
   exact ⟨rfl, rfl⟩
  ·have h1 : decide (0 <= n /\ n < (k : Int)) = false := by simp; omega
   rw [h1]
   go_enter Tryz.func27, Tryz.ntmps27
   go_wp2
   go_ret
   exact ⟨rfl, rfl⟩
theorem add_no (w : World) (b : Nat) (A Z : List Value) (l : List (List Int)) (h : Row w b A l Z) (hl : l.length = 64) (f : List Int) :
  Calls Tryz.prog 25 #[.pointer (some ⟨b, A.length, none⟩), .string (strOfNums f)] w fun e w' => e = .returned (.bool false) /\ w' = w := by
 have hm := h.many
 rw [hl] at hm
 clear h hl
 generalize A.length = o at *
 generalize strOfNums f = s at *
 go_enter Tryz.func25, Tryz.ntmps25
 go_wp2
 go_ret
 exact ⟨rfl, rfl⟩
theorem add_yes (w : World) (b : Nat) (A Z : List Value) (l : List (List Int)) (h : Row w b A l Z) (hl : l.length < 64) (f : List Int) :
  Calls Tryz.prog 25 #[.pointer (some ⟨b, A.length, none⟩), .string (strOfNums f)] w fun e w' => e = .returned (.bool true) /\ Row w' b A (l ++ [f]) Z /\ Kb b w w' := by
 have hm := h.many
 have HR : Hid (Row w b A l Z) := h
 obtain ⟨v0, hv0⟩ := h.some (i := l.length) (by omega)
 have hf0 := h.f (A.length + l.length)
 have hf1 := h.f (A.length + 64)
 have HL : Hid (l.length < 64) := hl
 have HS : Hid (((A ++ (rowC l ++ Z)).set (A.length + l.length) (.string (strOfNums f))).set (A.length + 64) (.int .i64 ((l.length + 1 : Nat) : Int)) = A ++ (rowC (l ++ [f]) ++ Z)) := add_cells A Z l f hl
 have hq : ((l.length : Int) == 64) = false := by simp; omega
 have hi0 : (l.length : Int) < 64 := by omega
 clear h hl
 generalize hk : l.length = k at *
 generalize ho : A.length = o at *
 generalize strOfNums f = s at *
 go_enter Tryz.func25, Tryz.ntmps25
 go_upto_region 3 with fail
 go_region
 have HB1 : Hid (Blk (w.setCell ⟨b, o + k, none⟩ (.string s)).drew b 29 ((A ++ (rowC l ++ Z)).set (o + k) (.string s))) := (HR.out.blk.set (o + k) (.string s)).drew
 have HK1 : Hid (Kb b w (w.setCell ⟨b, o + k, none⟩ (.string s)).drew) := (kb_set w b (o + k) (.string s)).trans (kb_below (Below.refl _ _).drew)
 have hm1 : (w.setCell ⟨b, o + k, none⟩ (.string s)).drew.cell? ⟨b, o + 64, none⟩ = some (.int .i64 (k : Int)) := by
  rw [HB1.out.cell, List.getElem?_set_ne (by have := HL.out; omega), <- HR.out.blk.cell]
  exact hm
 have hf2 := HB1.out.f (o + 64)
 clear hm hf0 hf1 hv0
 generalize (w.setCell ⟨b, o + k, none⟩ (.string s)).drew = w1 at *
 go_wp2
 go_ret
 have e : (k : Int) + 1 = ((k + 1 : Nat) : Int) := by omega
 rw [e]
 refine ⟨rfl, ⟨?_, by rw [List.length_append, List.length_singleton, hk]; exact HL.out⟩, HK1.out.trans (kb_set w1 b (o + 64) _)⟩
 rw [<- HS.out]
 exact HB1.out.set (o + 64) _
theorem split_at {l : List (List Int)} {n : Nat} (h : n < l.length) : ∃ p x q, l = p ++ x :: q /\ p.length = n /\ l.eraseIdx n = p ++ q /\ l.drop (n + 1) = q := by
 refine ⟨l.take n, l[n], l.drop (n + 1), ?_, by rw [List.length_take]; omega, List.eraseIdx_eq_take_drop_succ l n, rfl⟩
 rw [List.getElem_cons_drop, List.take_append_drop]
theorem last_cell (x : Value) (q : List Value) (T : List Value) : ∃ y, (x :: (q ++ T)).drop q.length = y :: T := by
 induction q generalizing x with
 | nil => exact ⟨x, rfl⟩
 | cons a q ih =>
  obtain ⟨y, hy⟩ := ih a
  exact ⟨y, hy⟩
theorem set_past (X Y : List Value) (i : Nat) (v : Value) : (X ++ Y).set (X.length + i) v = X ++ Y.set i v := by
 rw [List.set_append_right _ _ (by omega), Nat.add_sub_cancel_left]
theorem drop_past (X Y : List Value) (i : Nat) : (X ++ Y).drop (X.length + i) = Y.drop i := by
 rw [List.drop_append, List.drop_eq_nil_of_le (by omega), Nat.add_sub_cancel_left, List.nil_append]
theorem rem_cells (A Z : List Value) (l : List (List Int)) (n : Nat) (hl : l.length <= 64) (hn : n < l.length) :
  ((splice (A ++ (rowC l ++ Z)) (A.length + n) (strC (l.drop (n + 1)))).set (A.length + 64) (.int .i64 ((l.length : Int) - 1))).set (A.length + (l.length - 1)) (.string (strOfNums [])) = A ++ (rowC (l.eraseIdx n) ++ Z) := by
 obtain ⟨p, x, q, rfl, hp, he, hd⟩ := split_at hn
 rw [he, hd]
 subst hp
 have e0 : (p ++ x :: q).length = p.length + q.length + 1 := by simp; omega
 rw [e0] at hl
 obtain ⟨r, hr⟩ : ∃ r, (64 : Nat) = p.length + (q.length + (r + 1)) := ⟨63 - p.length - q.length, by omega⟩
 have hr1 : 64 - (p.length + q.length + 1) = r := by omega
 obtain ⟨y, hy⟩ := last_cell (.string (strOfNums x)) (strC q) (List.replicate r (.string (strOfNums [])) ++ (.int .i64 ((p.length + q.length + 1 : Nat) : Int)) :: Z)
 have e1 : rowC (p ++ x :: q) ++ Z = strC p ++ (.string (strOfNums x) :: (strC q ++ (List.replicate r (.string (strOfNums [])) ++ (.int .i64 ((p.length + q.length + 1 : Nat) : Int)) :: Z))) := by
  unfold rowC
  rw [e0, hr1]
  simp [strC]
 have e2 : splice (A ++ (rowC (p ++ x :: q) ++ Z)) (A.length + p.length) (strC q) = A ++ (strC p ++ (strC q ++ y :: (List.replicate r (.string (strOfNums [])) ++ (.int .i64 ((p.length + q.length + 1 : Nat) : Int)) :: Z))) := by
  unfold splice
  rw [e1, List.take_append, List.take_of_length_le (by omega), Nat.add_sub_cancel_left, List.take_append, List.take_of_length_le (by rw [strC_len]; omega), strC_len, Nat.sub_self, List.take_zero, List.append_nil]
  rw [strC_len, show A.length + p.length + q.length = A.length + ((strC p).length + (strC q).length) by rw [strC_len, strC_len]; omega, drop_past, drop_past, hy]
  simp
 have e3 := set_past (List.replicate r (.string (strOfNums []))) ((.int .i64 ((p.length + q.length + 1 : Nat) : Int)) :: Z) 0 (.int .i64 (((p.length + q.length + 1 : Nat) : Int) - 1))
 simp only [List.length_replicate, Nat.add_zero, zB] at e3
 rw [e2, e0, show (64 : Nat) = (strC p).length + ((strC q).length + (r + 1)) by rw [strC_len, strC_len]; exact hr, show A.length + (p.length + q.length + 1 - 1) = A.length + ((strC p).length + ((strC q).length + 0)) by rw [strC_len, strC_len]; omega]
 simp only [set_past, zC]
 rw [e3]
 simp only [zB]
 have e4 : (((p.length + q.length + 1 : Nat) : Int) - 1) = ((p.length + q.length : Nat) : Int) := by omega
 have e5 : 64 - (p.length + q.length) = r + 1 := by omega
 unfold rowC
 rw [List.length_append, e4, e5, List.replicate_succ]
 simp [strC]
theorem step_copy_b {ops : Array Oper} {o : Oper} {a : Act} {w : World} {K : Act -> World -> Prop} {Q : Exit -> Act -> World -> Prop} {E : Prop} (hgd : o.guard = none) (d s : Operand)
  (ho : o.op = .call { callee := .builtin .copy, args := #[d, s], argTypes := #[130, 130] })
  (sp : Option Addr) (dLen dCap sLen sCap : Nat) (g off : Nat) (hd : a.eval d = .slice (some ⟨g, off, none⟩) dLen dCap) (hs : a.eval s = .slice sp sLen sCap)
  (cur : List Value) (hg : Blk w g 29 cur) (cs : List Value) (hn : cs.length = Nat.min sLen dLen)
  (hpos : 0 < cs.length -> ∃ ad, sp = some ad /\ ∀ (j : Nat) v, cs[j]? = some v -> w.cell? (ad.add j) = some v)
  (hfit : off + cs.length <= cur.length) (h1 : ∀ v ∈ cs, v.oneCell' = true)
  (h : ∀ w', Hid (Blk w' g 29 (splice cur off cs)) -> Kb g w w' -> K (a.put o.dst (goInt cs.length)) w') :
  if Region.wanted o (yielded ops a.tmps) = true then Oper.wp Tryz.prog o a w K Q else E := by
 have hsz : (Tryz.prog.info? 9).map (·.size) = some 1 := by kernel_rfl
 rw [if_pos (by simp [Region.wanted, hgd])]
 by_cases h0 : cs.length = 0
 ·obtain rfl : cs = [] := List.eq_nil_of_length_eq_zero h0
  have hrun := run_copy_none (P := Tryz.prog) w 130 130 o.type 9 (some ⟨g, off, none⟩) sp dLen dCap sLen sCap Tryz.underlying130 hsz (by simpa using hn.symm)
  unfold Oper.wp
  simp [execOp, ho, resolve, invoke, builtin, hd, hs, hrun, Result.andThen]
  exact h w (show Blk _ _ _ _ by simpa [splice] using hg) (Kb.refl _ _)
 ·obtain ⟨ad, rfl, hsrc⟩ := hpos (by omega)
  have hrun := run_copy_row (P := Tryz.prog) w 130 130 o.type 9 g off dLen dCap ad sLen sCap cur.toArray 29 cs Tryz.underlying130 hsz hg hn hsrc (by simpa using hfit) h1
  unfold Oper.wp
  simp [execOp, ho, resolve, invoke, builtin, hd, hs, hrun, Result.andThen]
  exact h _ (show Blk _ _ _ _ by unfold Blk; simpa [splice] using setRow_heap w g _ _ 29 _ hg) ⟨rfl, rfl, rfl, by simp [World.setRow], fun k hk hne => setRow_other w g k _ hne⟩
theorem splice_out (L cs : List Value) (off i : Nat) (h : off + cs.length <= i) (h1 : off <= L.length) : (splice L off cs)[i]? = L[i]? := by
 unfold splice
 rw [List.getElem?_append_right (by rw [List.length_take]; omega), List.length_take, Nat.min_eq_left h1, List.getElem?_append_right (by omega), List.getElem?_drop]
 congr 1
 omega
theorem sl_lo (w : World) (b o n : Nat) (hn : n < 64) : (Instr.sliceAt 25 (.pointer (some ⟨b, o, none⟩)) (some (.int .i64 n)) none none).run Tryz.prog w = .ok (.slice (some ⟨b, o + n, none⟩) (64 - n) (64 - n)) w := by
 have hal : Tryz.prog.arrayLen 25 = 64 := by kernel_rfl
 have hu : Tryz.prog.underlying 25 = some (.array (Tryz.prog.arrayLen 25) (Tryz.prog.elem 25)) := by kernel_rfl
 have hsz : (sizeOf (Tryz.prog.elem 25)).run Tryz.prog w = .ok 1 w := by kernel_rfl
 rw [run_sliceAt_array_l w 25 ⟨b, o, none⟩ hu .i64 n (by omega) (by rw [hal]; omega), hsz, hal]
 simp only [Result.andThen_ok, slicedAt, Int.toNat_natCast]
 rw [if_neg (by omega), Nat.mul_one, Addr.add_lit]
theorem sl_hi (b o n k : Nat) (hn : n <= k) (hk : k <= 64) : ∃ sp sc, (∀ W, (Instr.sliceAt 25 (.pointer (some ⟨b, o, none⟩)) (some (.int .i64 n)) (some (.int .i64 k)) none).run Tryz.prog W = .ok (.slice (some sp) (k - n) sc) W) /\ (0 < k - n -> sp = ⟨b, o + n, none⟩) := by
 have hal : Tryz.prog.arrayLen 25 = 64 := by kernel_rfl
 have hu : Tryz.prog.underlying 25 = some (.array (Tryz.prog.arrayLen 25) (Tryz.prog.elem 25)) := by kernel_rfl
 refine ⟨if 64 = n then ⟨b, o, none⟩ else ⟨b, o + n, none⟩, 64 - n, fun W => ?_, fun h => if_neg (by omega)⟩
 have hsz : (sizeOf (Tryz.prog.elem 25)).run Tryz.prog W = .ok 1 W := by kernel_rfl
 rw [run_sliceAt_array_lh W 25 ⟨b, o, none⟩ hu .i64 .i64 n k (by omega) (by omega) (by rw [hal]; omega), hsz, hal]
 simp only [Result.andThen_ok, slicedAt, Int.toNat_natCast, Nat.mul_one, Addr.add_lit]
theorem remove_any (w : World) (b : Nat) (A Z : List Value) (l : List (List Int)) (h : Row w b A l Z) (n : Nat) (hn : n < l.length) :
  Calls Tryz.prog 28 #[.pointer (some ⟨b, A.length, none⟩), .int .i64 n] w fun e w' => e = .returned (.tuple #[]) /\ Row w' b A (l.eraseIdx n) Z /\ Kb b w w' := by
 have hm := h.many
 have hm0 := h.drew.many
 have HR : Hid (Row w b A l Z) := h
 have HL : Hid (n < l.length /\ l.length <= 64) := ⟨hn, h.le⟩
 have hle := h.le
 have HS := rem_cells A Z l n h.le hn
 have HSS : Hid (((splice (A ++ (rowC l ++ Z)) (A.length + n) (strC (l.drop (n + 1)))).set (A.length + 64) (.int .i64 ((l.length : Int) - 1))).set (A.length + (l.length - 1)) (.string (strOfNums [])) = A ++ (rowC (l.eraseIdx n) ++ Z)) := HS
 have hfr := fun i => h.f i
 have hf0 := h.f (A.length + 64)
 have hs1 := fun W => sl_lo W b A.length n (by omega)
 obtain ⟨sp, sc, hs2, hsp⟩ := sl_hi b A.length (n + 1) l.length (by omega) h.le
 rw [show ((n + 1 : Nat) : Int) = IntKind.i64.wrap ((n : Int) + 1) by rw [IntKind.wrap_i64]; omega] at hs2
 have HSP : Hid (0 < l.length - (n + 1) -> sp = ⟨b, A.length + (n + 1), none⟩) := hsp
 have hn2 : (n : Int) + 1 <= 64 := by omega
 have HQ : Hid ((strC (l.drop (n + 1))).length = Nat.min (l.length - (n + 1)) (64 - n) /\ A.length + n + (strC (l.drop (n + 1))).length <= (A ++ (rowC l ++ Z)).length) := by
  refine ⟨by rw [strC_len, List.length_drop]; exact (Nat.min_eq_left (by omega)).symm, ?_⟩
  rw [List.length_append, List.length_append, rowC_len h.le, strC_len, List.length_drop]
  omega
 have HQ3 : Hid ((strC (l.drop (n + 1))).length = l.length - (n + 1)) := by unfold Hid; rw [strC_len, List.length_drop]
 have HQ2 : Hid (∀ (j : Nat) v, (strC (l.drop (n + 1)))[j]? = some v -> w.drew.cell? ((⟨b, A.length + (n + 1), none⟩ : Addr).add j) = some v) := fun j v hj => by
  have hjl := (List.getElem?_eq_some_iff.1 hj).1
  rw [strC_len, List.length_drop] at hjl
  rw [Addr.add_lit, Nat.add_assoc, h.drew.frame (by omega)]
  unfold strC at hj
  rw [List.getElem?_map, List.getElem?_drop, List.getElem?_eq_getElem (by omega)] at hj
  cases hj
  rw [List.getD_eq_getElem?_getD, List.getElem?_eq_getElem (by omega)]
  rfl
 clear h HS hsp hn
 generalize hk : l.length = k at *
 generalize ho : A.length = o at *
 generalize hD : l.drop (n + 1) = q at *
 go_enter Tryz.func28, Tryz.ntmps28
 go_upto_region 0 with fail
 go_region_law (refine step_copy_b rfl _ _ rfl (some sp) (64 - n) (64 - n) (k - (n + 1)) sc b (o + n) rfl rfl (A ++ (rowC l ++ Z)) HR.out.blk.drew (strC q) HQ.out.1 (fun h0 => ⟨sp, rfl, by rw [HSP.out (by have := HQ.out.1; rw [this] at h0; exact Nat.lt_of_lt_of_le h0 (Nat.min_le_left _ _))]; exact HQ2.out⟩) HQ.out.2 (fun v hv => by unfold strC at hv; obtain ⟨f, _, rfl⟩ := List.mem_map.1 hv; rfl) ?_; intro w1 HB1 hk1)
 have hm1 : w1.cell? ⟨b, o + 64, none⟩ = some (.int .i64 (k : Int)) := by
  rw [Blk.cell HB1.out, splice_out _ _ _ _ (by have := HL.out; have := HQ3.out; omega) (by have := HQ.out.2; omega), <- HR.out.blk.cell]
  exact hm
 have hf1 := Blk.f HB1.out (o + 64)
 clear hm hm0 hf0 hs1 hs2
 have hlen : (splice (A ++ (rowC l ++ Z)) (o + n) (strC q)).length = (A ++ (rowC l ++ Z)).length := length_splice _ _ _ HQ.out.2
 have HLen : Hid (o + 65 <= (splice (A ++ (rowC l ++ Z)) (o + n) (strC q)).length) := by
  unfold Hid
  rw [hlen, List.length_append, List.length_append, rowC_len HR.out.le]
  omega
 clear hlen
 obtain ⟨j, hj⟩ : ∃ j, k = j + 1 := ⟨k - 1, by have := HL.out; omega⟩
 have hj1 : (k : Int) - 1 = (j : Int) := by omega
 have HB2 : Hid (Blk (w1.setCell ⟨b, o + 64, none⟩ (.int .i64 ((k : Int) - 1))) b 29 ((splice (A ++ (rowC l ++ Z)) (o + n) (strC q)).set (o + 64) (.int .i64 ((k : Int) - 1)))) := HB1.out.set _ _
 have HK2 : Hid (Kb b w (w1.setCell ⟨b, o + 64, none⟩ (.int .i64 ((k : Int) - 1)))) := ((kb_below (Below.refl _ _).drew).trans hk1).trans (kb_set _ _ _ _)
 go_upto_region 2 with fail
 have HSK : Hid (((splice (A ++ (rowC l ++ Z)) (o + n) (strC q)).set (o + 64) (.int .i64 ((k : Int) - 1))).set (o + (k - 1)) (.string (strOfNums [])) = A ++ (rowC (l.eraseIdx n) ++ Z)) := HSS.out
 rw [hj1] at HB2 HK2 HSK
 have hm2 : (w1.setCell ⟨b, o + 64, none⟩ (.int .i64 (j : Int))).cell? ⟨b, o + 64, none⟩ = some (.int .i64 (j : Int)) := by
  rw [HB2.out.cell, List.getElem?_set_self (by have := HLen.out; omega)]
 have hf2 := HB2.out.f (o + j)
 obtain ⟨v3, hv3⟩ : ∃ v, (w1.setCell ⟨b, o + 64, none⟩ (.int .i64 (j : Int))).cell? ⟨b, o + j, none⟩ = some v := by
  rw [HB2.out.cell, List.getElem?_eq_getElem (by rw [List.length_set]; have := HLen.out; have := HL.out; omega)]
  exact ⟨_, rfl⟩
 clear hm1 hf1 hk1
 generalize w1.setCell ⟨b, o + 64, none⟩ (.int .i64 (j : Int)) = w2 at *
 have hj64 : (j : Int) < 64 := by have := HL.out; omega
 go_region
 go_wp2
 go_end0
 have e0 : (Value.string { data := #[] }) = .string (strOfNums []) := rfl
 refine ⟨rfl, ⟨?_, Nat.le_trans (List.length_eraseIdx_le ..) HR.out.le⟩, (HK2.out.trans (kb_set _ _ _ _)).trans (kb_below (Below.refl _ _).drew)⟩
 have h1 := (HB2.out.set (o + j) (.string (strOfNums []))).drew
 rw [show o + (k - 1) = o + j by omega] at HSK
 rw [HSK.out] at h1
 rw [e0]
 exact h1
structure Mk (w w' : World) (f : List Int) : Prop where
 bel : Below w.heap.size w w'
 bs : Bs w' (some ⟨w.heap.size, 0, none⟩) f.length f
 fz : ∀ i, i < f.length -> w'.frozen? ⟨w.heap.size, i, none⟩ = false
 lt : w.heap.size < w'.heap.size
theorem u8_back (z : Int) (h : 0 <= z /\ z <= 255) : ((UInt8.ofNat z.toNat).toNat : Int) = z := by
 rw [UInt8.toNat_ofNat']
 omega
theorem to_bytes (w : World) (f : List Int) (hf : Byt f) : ∃ c w', (convert 9 37 (.string (strOfNums f))).run Tryz.prog w = .ok (.slice (some ⟨w.heap.size, 0, none⟩) f.length c) w' /\ Mk w w' f := by
 have h := run_bytes_of_string (P := Tryz.prog) w 9 37 5 (strOfNums f) Tryz.underlying9 Tryz.underlying37 Tryz.underlying5
 rw [strOfNums_size] at h
 refine ⟨_, _, h, ⟨(Below.refl _ _).drew.alloc (Nat.le_refl _) _, ⟨rfl, hf, fun _ => ⟨_, _, rfl, fun i hi => ?_⟩⟩, fun i hi => ?_, by rw [size_alloc']; exact Nat.lt_succ_self _⟩⟩
 ·have h1 : (w.drew.alloc (.cells (bytesRow (strOfNums f) (grownCap w f.length 0 5)) 5 ((bytesRow (strOfNums f) (grownCap w f.length 0 5)).size, (bytesRow (strOfNums f) (grownCap w f.length 0 5)).size + 1))).heap[w.heap.size]? = some (.cells (bytesRow (strOfNums f) (grownCap w f.length 0 5)) 5 ((bytesRow (strOfNums f) (grownCap w f.length 0 5)).size, (bytesRow (strOfNums f) (grownCap w f.length 0 5)).size + 1)) := heap_alloc_new w.drew _
  unfold World.cell?
  simp only [Nat.zero_add]
  rw [h1]
  simp only [bytesRow]
  have e : (strOfNums f).data.size = f.length := strOfNums_size f
  rw [Array.getElem?_append_left (by rw [Array.size_map, e]; exact hi), Array.getElem?_map]
  have e2 : (strOfNums f).data[i]? = some (UInt8.ofNat (f.getD i 0).toNat) := by
   unfold strOfNums
   rw [List.getElem?_toArray, List.getElem?_map, List.getElem?_eq_getElem hi, List.getD_eq_getElem?_getD, List.getElem?_eq_getElem hi]
   rfl
  rw [e2]
  simp only [Option.map_some]
  rw [u8_back _ (byt_get hf i)]
  rfl
 ·have h1 : (w.drew.alloc (.cells (bytesRow (strOfNums f) (grownCap w f.length 0 5)) 5 ((bytesRow (strOfNums f) (grownCap w f.length 0 5)).size, (bytesRow (strOfNums f) (grownCap w f.length 0 5)).size + 1))).heap[w.heap.size]? = some (.cells (bytesRow (strOfNums f) (grownCap w f.length 0 5)) 5 ((bytesRow (strOfNums f) (grownCap w f.length 0 5)).size, (bytesRow (strOfNums f) (grownCap w f.length 0 5)).size + 1)) := heap_alloc_new w.drew _
  have hs : f.length <= (bytesRow (strOfNums f) (grownCap w f.length 0 5)).size := by
   have e : (strOfNums f).data.size = f.length := strOfNums_size f
   simp only [bytesRow, Array.size_append, Array.size_map, e]
   omega
  unfold World.frozen?
  rw [h1]
  simp
  omega
structure LkV (w : World) (b : Nat) (s : Lk) : Prop where
 blk : Blk w b 29 (rowC s.u ++ rowC s.d)
 ok : s.ok
theorem LkV.over {w w' : World} {b : Nat} {s : Lk} (h : LkV w b s) (hb : Below w.heap.size w w') : LkV w' b s := ⟨h.blk.over hb, h.ok⟩
def offs (up : Bool) : Nat := if up then 0 else 65
def wayV (up : Bool) : Value := .iface (if up then 120 else 122) (.agg #[])
theorem LkV.row {w : World} {b : Nat} {s : Lk} (h : LkV w b s) (up : Bool) : ∃ A Z, A.length = offs up /\ Row w b A (s.sel up) Z /\ ∀ (w' : World) (l : List (List Int)), okR l -> Row w' b A l Z -> LkV w' b (s.put up l) := by
 cases up with
 | true => exact ⟨[], rowC s.d, rfl, ⟨h.blk, h.ok.1.1⟩, fun w' l hl hr => ⟨hr.blk, Lk.ok_put h.ok true hl⟩⟩
 | false =>
  refine ⟨rowC s.u, [], rowC_len h.ok.1.1, ⟨by rw [List.append_nil]; exact h.blk, h.ok.2.1⟩, fun w' l hl hr => ⟨?_, Lk.ok_put h.ok false hl⟩⟩
  have := hr.blk
  rwa [List.append_nil] at this
theorem wayOf_any (up : Bool) (w : World) : Calls Tryz.prog 24 #[.bool up] w fun e w' => e = .returned (wayV up) /\ w' = w := by
 cases up with
 | true =>
  go_enter Tryz.func24, Tryz.ntmps24
  go_wp2
  go_ret
  exact ⟨rfl, rfl⟩
 | false =>
  go_enter Tryz.func24, Tryz.ntmps24
  go_wp2
  go_ret
  exact ⟨rfl, rfl⟩
theorem row_any (b : Nat) (up : Bool) (w : World) : Calls Tryz.prog 23 #[.pointer (some ⟨b, 0, none⟩), wayV up] w fun e w' => e = .returned (.pointer (some ⟨b, offs up, none⟩)) /\ Below w.heap.size w w' := by
 have hb1 : Below w.heap.size w (w.alloc (.cells #[] 120)) := (Below.refl _ _).alloc (Nat.le_refl _) _
 cases up with
 | true =>
  have hta : ∀ W : World, (Instr.typeAssert (.iface 120 (.agg #[])) 84 120 true).run Tryz.prog W = .ok (.tuple #[.agg #[], .bool true]) W := fun W => by kernel_rfl
  unfold wayV offs
  rw [if_pos rfl, if_pos rfl]
  go_enter Tryz.func23, Tryz.ntmps23
  go_wp2
  go_ret
  exact ⟨rfl, hb1⟩
 | false =>
  have hta : ∀ W : World, (Instr.typeAssert (.iface 122 (.agg #[])) 84 120 true).run Tryz.prog W = .ok (.tuple #[.agg #[], .bool false]) W := fun W => by kernel_rfl
  unfold wayV offs
  rw [if_neg (by decide), if_neg (by decide)]
  go_enter Tryz.func23, Tryz.ntmps23
  go_wp2
  go_ret
  exact ⟨rfl, hb1⟩
theorem find_any (b : Nat) (s : Lk) (w : World) (h : LkV w b s) (n : Int) (hn : n < 9223372036854775808) :
  Calls Tryz.prog 52 #[.pointer (some ⟨b, 0, none⟩), .int .i64 n] w fun e w' => e = .returned (.tuple #[wayV (s.way n), .int .i64 (s.at n)]) /\ Below w.heap.size w w' := by
 obtain ⟨A, Z, hA, hR, _⟩ := h.row true
 have hm := hR.many
 have hm1 := hR.drew.many
 rw [hA] at hm hm1
 have hlen : ((s.sel true).length : Int) <= 64 := by have := hR.le; omega
 change w.cell? ⟨b, 0 + 64, none⟩ = some (.int .i64 (s.u.length : Int)) at hm
 change w.drew.cell? ⟨b, 0 + 64, none⟩ = some (.int .i64 (s.u.length : Int)) at hm1
 change (s.u.length : Int) <= 64 at hlen
 rw [Nat.zero_add] at hm hm1
 clear h hR hA
 unfold Lk.way Lk.at
 generalize s.u.length = k at *
 by_cases hlt : n < (k : Int)
 ·have e : decide (n < (k : Int)) = true := by simp; omega
  rw [e, if_pos hlt]
  go_enter Tryz.func52, Tryz.ntmps52
  go_wp2
  go_ret2
  exact ⟨rfl, Below.refl _ _⟩
 ·have e : decide (n < (k : Int)) = false := by simp; omega
  rw [e, if_neg hlt]
  go_enter Tryz.func52, Tryz.ntmps52
  go_upto_region 3 with fail
  go_region
  go_wp2
  go_ret2
  exact ⟨rfl, (Below.refl _ _).drew⟩
theorem hasL_any (w : World) (b : Nat) (s : Lk) (up : Bool) (h : LkV w b s) (n : Int) :
  Calls Tryz.prog 27 #[.pointer (some ⟨b, offs up, none⟩), .int .i64 n] w fun e w' => e = .returned (.bool (hasN (s.sel up) n)) /\ w' = w := by
 obtain ⟨A, Z, hA, hR, _⟩ := h.row up
 rw [<- hA]
 exact has_any w b A Z _ hR n
theorem removeL_any (w : World) (b : Nat) (s : Lk) (up : Bool) (h : LkV w b s) (n : Int) (hn : hasN (s.sel up) n = true) :
  Calls Tryz.prog 28 #[.pointer (some ⟨b, offs up, none⟩), .int .i64 n] w fun e w' => e = .returned (.tuple #[]) /\ LkV w' b (s.take up n) /\ Kb b w w' := by
 obtain ⟨A, Z, hA, hR, hB⟩ := h.row up
 have h1 := hasN_lt hn
 obtain ⟨m, rfl⟩ : ∃ m : Nat, n = (m : Int) := ⟨n.toNat, by omega⟩
 rw [<- hA]
 refine (remove_any w b A Z _ hR m (by simpa using h1.2)).mono fun e w' ⟨h2, h3, h4⟩ => ⟨h2, ?_, h4⟩
 unfold Lk.take
 rw [if_pos hn]
 exact hB w' _ (okR_erase (Lk.ok_sel h.ok up) _) h3
theorem addL_any (w : World) (b : Nat) (s : Lk) (up : Bool) (h : LkV w b s) (f : List Int) (hf : okF f) :
  Calls Tryz.prog 25 #[.pointer (some ⟨b, offs up, none⟩), .string (strOfNums f)] w fun e w' => e = .returned (.bool (decide ((s.sel up).length < 64))) /\ LkV w' b (if (s.sel up).length < 64 then s.put up (s.sel up ++ [f]) else s) /\ Kb b w w' := by
 obtain ⟨A, Z, hA, hR, hB⟩ := h.row up
 rw [<- hA]
 by_cases hl : (s.sel up).length < 64
 ·refine (add_yes w b A Z _ hR hl f).mono fun e w' ⟨h2, h3, h4⟩ => ⟨by rw [h2, decide_eq_true hl], ?_, h4⟩
  rw [if_pos hl]
  exact hB w' _ (okR_snoc (Lk.ok_sel h.ok up) hl hf) h3
 ·refine (add_no w b A Z _ hR (by have := hR.le; omega) f).mono fun e w' ⟨h2, h3⟩ => ⟨by rw [h2, decide_eq_false hl], ?_, by rw [h3]; exact Kb.refl _ _⟩
  rw [if_neg hl, h3]
  exact h
theorem LkV.cell {w : World} {b : Nat} {s : Lk} (h : LkV w b s) (up : Bool) (n : Int) (hn : hasN (s.sel up) n = true) : ∃ k : Nat, n = (k : Int) /\ k < 64 /\ w.cell? ⟨b, offs up + k, none⟩ = some (.string (strOfNums ((s.sel up).getD k []))) /\
  ∀ (w' : World) (f : List Int), okF f -> Blk w' b 29 ((rowC s.u ++ rowC s.d).set (offs up + k) (.string (strOfNums f))) -> LkV w' b (s.put up ((s.sel up).set k f)) := by
 have h1 := hasN_lt hn
 refine ⟨n.toNat, by omega, by have := (Lk.ok_sel h.ok up).1; omega, ?_, fun w' f hf hw => ?_⟩
 ·obtain ⟨A, Z, hA, hR, _⟩ := h.row up
  rw [<- hA]
  exact hR.frame h1.2
 ·refine ⟨?_, Lk.ok_put h.ok up (okR_set (Lk.ok_sel h.ok up) _ hf)⟩
  have key : ∀ (l : List (List Int)) (T : List Value) (i : Nat), i < l.length -> (rowC l ++ T).set i (.string (strOfNums f)) = rowC (l.set i f) ++ T := fun l T i hi => by
   have hs : (strC l).set i (.string (strOfNums f)) = strC (l.set i f) := by unfold strC; rw [List.map_set]
   unfold rowC
   rw [List.append_assoc, List.set_append_left _ _ (by rw [strC_len]; exact hi), hs, List.length_set]
   simp only [List.append_assoc]
  cases up with
  | true =>
   have e := key s.u (rowC s.d) n.toNat h1.2
   rw [show offs true + n.toNat = n.toNat from Nat.zero_add _, e] at hw
   exact hw
  | false =>
   have e := key s.d [] n.toNat h1.2
   rw [List.append_nil, List.append_nil] at e
   have hl := rowC_len h.ok.1.1
   rw [show offs false + n.toNat = (rowC s.u).length + n.toNat by rw [hl]; rfl, set_past, e] at hw
   exact hw
theorem twice_bef (b : Nat) (s : Lk) (w : World) (h : LkV w b s) (n : Int) (hn : n < 9223372036854775808) :
  Calls Tryz.prog 26 #[.pointer (some ⟨b, 0, none⟩), .int .i64 n, .iface 89 (.agg #[])] w fun e w' => e = .returned (.bool (s.mayTwice n)) /\ LkV w' b (s.twice n) /\ Kb b w w' := by
 have hta : ∀ W : World, (Instr.typeAssert (.iface 89 (.agg #[])) 123 126 true).run Tryz.prog W = .ok (.tuple #[.agg #[], .bool false]) W := fun W => by kernel_rfl
 have htb : ∀ W : World, (Instr.typeAssert (.iface 89 (.agg #[])) 123 89 true).run Tryz.prog W = .ok (.tuple #[.agg #[], .bool true]) W := fun W => by kernel_rfl
 have HF : Hid (Calls Tryz.prog 52 #[.pointer (some ⟨b, 0, none⟩), .int .i64 n] w fun e w' => e = .returned (.tuple #[wayV (s.way n), .int .i64 (s.at n)]) /\ Below w.heap.size w w') := find_any b s w h n hn
 have HL : Hid (LkV w b s) := h
 have HO : Hid (hasN (s.sel (s.way n)) (s.at n) = true -> okF (s.frame n)) := fun e => Lk.ok_frame h.ok e
 clear h
 have HD : Hid (s.has n = hasN (s.sel (s.way n)) (s.at n)) := rfl
 have HM : Hid (s.mayTwice n = (s.has n && decide ((s.sel (s.way n)).length < 64))) := rfl
 have HE : Hid (s.twice n = if s.mayTwice n then s.put (s.way n) (s.sel (s.way n) ++ [s.frame n]) else s) := rfl
 have HG : Hid (s.frame n = (s.sel (s.way n)).getD (s.at n).toNat []) := rfl
 generalize s.mayTwice n = q2 at *
 generalize s.has n = q at *
 generalize s.twice n = s' at *
 generalize s.frame n = f at *
 generalize s.at n = z at *
 generalize s.way n = up at *
 go_enter Tryz.func26, Tryz.ntmps26
 go_upto_region 2 with (go_at_call 52; refine HF.out.mono ?_; rintro e w1 ⟨rfl, hb1⟩)
 have HL1 : Hid (LkV w1 b s) := HL.out.over hb1
 go_upto_region 3 with (go_at_call 23; refine (row_any b up w1).mono ?_; rintro e w2 ⟨rfl, hb2⟩)
 have HL2 : Hid (LkV w2 b s) := HL1.out.over hb2
 have HB2 : Hid (Below w.heap.size w w2) := hb1.trans (hb2.mono hb1.size)
 have HH : Hid (Calls Tryz.prog 27 #[.pointer (some ⟨b, offs up, none⟩), .int .i64 z] w2 fun e w' => e = .returned (.bool q) /\ w' = w2) := by
  have := hasL_any w2 b s up HL2.out z
  rw [<- HD.out] at this
  exact this
 clear hb1 hb2
 cases q with
 | false =>
  go_wp2_with (go_at_call 27; refine HH.out.mono ?_; rintro e w3 ⟨rfl, rfl⟩)
  go_ret
  have h1 := HM.out
  rw [Bool.false_and] at h1
  refine ⟨by rw [h1]; rfl, ?_, kb_below HB2.out⟩
  rw [HE.out, h1, if_neg (by decide)]
  exact HL2.out
 | true =>
  have hb3 : Below w2.heap.size w2 (w2.alloc (.cells #[] 89)) := (Below.refl _ _).alloc (Nat.le_refl _) _
  have HL3 : Hid (LkV (w2.alloc (.cells #[] 89)) b s) := HL2.out.over hb3
  have HB3 : Hid (Below w.heap.size w (w2.alloc (.cells #[] 89))) := HB2.out.trans (hb3.mono HB2.out.size)
  obtain ⟨k, rfl, hk64, hc, _⟩ := HL3.out.cell up z HD.out.symm
  rw [show (s.sel up).getD k [] = f from HG.out.symm] at hc
  have HA : Hid (Calls Tryz.prog 25 #[.pointer (some ⟨b, offs up, none⟩), .string (strOfNums f)] (w2.alloc (.cells #[] 89)) fun e w' => e = .returned (.bool (decide ((s.sel up).length < 64))) /\ LkV w' b (if (s.sel up).length < 64 then s.put up (s.sel up ++ [f]) else s) /\ Kb b (w2.alloc (.cells #[] 89)) w') := addL_any _ b s up HL3.out f (HO.out HD.out.symm)
  have hki : (k : Int) < 64 := by omega
  clear hb3
  go_upto_region 11 with (go_at_call 27; refine HH.out.mono ?_; rintro e w3 ⟨rfl, rfl⟩)
  generalize w3.alloc (.cells #[] 89) = w4 at *
  generalize strOfNums f = sf at *
  generalize offs up = o at *
  go_wp2_with (go_at_call 25; refine HA.out.mono ?_; rintro e w5 ⟨rfl, h5, k5⟩)
  go_ret
  have h1 := HM.out
  rw [Bool.true_and] at h1
  refine ⟨by rw [h1]; rfl, ?_, (kb_below HB3.out).trans k5⟩
  rw [HE.out, h1]
  by_cases hl : (s.sel up).length < 64
  ·rw [decide_eq_true hl, if_pos rfl]
   rw [if_pos hl] at h5
   exact h5
  ·rw [decide_eq_false hl, if_neg (by decide)]
   rw [if_neg hl] at h5
   exact h5
open G (wpAnyL_done wpAnyL_one wpAnyL_take wp_region_late)
theorem may_no {l : List (List Int)} {f : List Int} (h : ¬ (0 < f.length /\ f.length <= 1024)) : maySend l f = false := decide_eq_false fun e => h e.2
theorem Lk.send_no {s : Lk} {up : Bool} {f : List Int} (h : maySend (s.sel up) f = false) : s.send up f = s := by
 unfold Lk.send
 rw [h, if_neg (by decide)]
theorem send_any (b : Nat) (s : Lk) (up : Bool) (a : Option Addr) (len c : Nat) (f : List Int) (w : World) (h : LkV w b s) (hb : Bs w a len f) :
  Calls Tryz.prog 7 #[.pointer (some ⟨b, 0, none⟩), .bool up, .slice a len c] w fun e w' => e = .returned (.bool (maySend (s.sel up) f)) /\ LkV w' b (s.send up f) /\ Kb b w w' := by
 have HL : Hid (LkV w b s) := h
 have HB : Hid (Bs w a len f) := hb
 have hlen := hb.1
 clear h hb
 by_cases h0 : len = 0
 ·have HN : Hid (maySend (s.sel up) f = false) := may_no (by omega)
  rw [HN.out, Lk.send_no HN.out]
  subst h0
  go_enter Tryz.func7, Tryz.ntmps7
  go_wp2
  go_ret
  exact ⟨rfl, HL.out, Kb.refl _ _⟩
 ·have h1 : ((len : Int) == 0) = false := beq_eq_false_iff_ne.2 (by omega)
  have h2 : ¬ (len : Int) = 0 := by omega
  by_cases h3 : 1024 < len
  ·have HN : Hid (maySend (s.sel up) f = false) := may_no (by omega)
   rw [HN.out, Lk.send_no HN.out]
   have h4 : (1024 : Int) < (len : Int) := by omega
   clear hlen
   go_enter Tryz.func7, Tryz.ntmps7
   go_wp2
   go_ret
   exact ⟨rfl, HL.out, Kb.refl _ _⟩
  have h4 : ¬ (1024 : Int) < (len : Int) := by omega
  have HQ : Hid (maySend (s.sel up) f = decide ((s.sel up).length < 64)) := by
   unfold Hid maySend
   by_cases hl : (s.sel up).length < 64
   ·rw [decide_eq_true hl, decide_eq_true ⟨hl, by omega, by omega⟩]
   ·rw [decide_eq_false hl, decide_eq_false fun e => hl e.1]
  have HE : Hid (s.send up f = if maySend (s.sel up) f then s.put up (s.sel up ++ [f]) else s) := rfl
  have hx := run_text (HB.out.below (Below.refl _ _).drew) c
  clear hlen
  generalize maySend (s.sel up) f = q at *
  generalize s.send up f = s' at *
  go_enter Tryz.func7, Tryz.ntmps7
  have hS4 : (fun X => (convert 37 9 (.slice a len c)).run Tryz.prog X = .ok (.string (strOfNums f)) X /\ Hid (Bs X a len f) /\ Hid (LkV X b s) /\ Hid (Below w.heap.size w X)) w.drew := ⟨hx, HB.out.below (Below.refl _ _).drew, HL.out.over (Below.refl _ _).drew, (Below.refl _ _).drew⟩
  clear hx
  go_upto_region 3 with fail
  refine wp_region_late (E := [6, 7]) (S := (fun X => (convert 37 9 (.slice a len c)).run Tryz.prog X = .ok (.string (strOfNums f)) X /\ Hid (Bs X a len f) /\ Hid (LkV X b s) /\ Hid (Below w.heap.size w X))) (by kernel_rfl) (hS4) (fun hHeld => ?_)
  simp only [List.size_toArray, List.length_cons, List.length_nil, Nat.reduceAdd]
  refine wpAnyL_take [3, 6, 7] (i := 0) (v := ?_) (by kernel_rfl) (by kernel_rfl) (by kernel_rfl) rfl (by kernel_rfl) (by kernel_rfl) (by kernel_rfl) (fun _ _ _ h => h) (Or.inl ⟨by rfl, ?_⟩) hHeld ?_
  rotate_left
  ·(intro w hSw; (try dsimp only at hSw); obtain ⟨s0, s1, s2, s3⟩ := hSw; go_simp; try with_reducible rfl)
  try simp only [Act.put, zA, zB, zC, zD, zE]
  refine wpAnyL_take [2, 3, 6, 7] (i := 1) (v := ?_) (by kernel_rfl) (by kernel_rfl) (by kernel_rfl) rfl (by kernel_rfl) (by kernel_rfl) (by kernel_rfl) (fun _ _ _ h => h) (Or.inl ⟨by rfl, ?_⟩) hHeld ?_
  rotate_left
  ·(intro w hSw; (try dsimp only at hSw); obtain ⟨s0, s1, s2, s3⟩ := hSw; go_simp; try with_reducible rfl)
  try simp only [Act.put, zA, zB, zC, zD, zE, zF]
  refine wpAnyL_take [5, 6, 7] (i := 4) (v := ?_) (by kernel_rfl) (by kernel_rfl) (by kernel_rfl) rfl (by kernel_rfl) (by kernel_rfl) (by kernel_rfl) (fun _ _ _ h => h) (Or.inl ⟨by rfl, ?_⟩) hHeld ?_
  rotate_left
  ·(intro w hSw; (try dsimp only at hSw); obtain ⟨s0, s1, s2, s3⟩ := hSw; go_simp; try with_reducible rfl)
  try simp only [Act.put, zA, zB, zC, zD, zE, zF]
  refine wpAnyL_take [6, 7] (i := 5) (v := ?_) (by kernel_rfl) (by kernel_rfl) (by kernel_rfl) rfl (by kernel_rfl) (by kernel_rfl) (by kernel_rfl) (fun _ _ _ h => h) (Or.inl ⟨by rfl, ?_⟩) hHeld ?_
  rotate_left
  ·(intro w hSw; (try dsimp only at hSw); obtain ⟨s0, s1, s2, s3⟩ := hSw; go_simp; try with_reducible rfl)
  try simp only [Act.put, zA, zB, zC, zD, zE, zF]
  refine wpAnyL_one (i := 2) (by kernel_rfl) rfl (fun K hK => ?_)
  go_simp
  go_at_call 24
  refine (wayOf_any up _).mono ?_
  rintro e w5 ⟨rfl, rfl⟩
  refine hK.out _ _ (fun _ => hHeld) ?_
  replace hHeld := hHeld
  clear hK K
  try simp only [Act.put, zA, zB, zC, zD, zE, zF]
  refine wpAnyL_one (i := 3) (by kernel_rfl) rfl (fun K hK => ?_)
  go_simp
  obtain ⟨s0, s1, s2, s3⟩ := hHeld
  go_at_call 23
  refine (row_any b up _).mono ?_
  rintro e w5 ⟨rfl, hb5⟩
  have b5 := s1.out.below hb5
  have s5 : (fun X => (convert 37 9 (.slice a len c)).run Tryz.prog X = .ok (.string (strOfNums f)) X /\ Hid (Bs X a len f) /\ Hid (LkV X b s) /\ Hid (Below w.heap.size w X)) w5 := ⟨run_text b5 c, b5, s2.out.over hb5, s3.out.trans (hb5.mono s3.out.size)⟩
  clear s0 s1 s2 s3 b5
  refine hK.out _ _ (fun _ => s5) ?_
  replace hHeld := s5
  clear hK K
  try simp only [Act.put, zA, zB, zC, zD, zE, zF]
  refine wpAnyL_one (i := 6) (by kernel_rfl) rfl (fun K hK => ?_)
  go_simp
  obtain ⟨s0, s1, s2, s3⟩ := hHeld
  have HA := addL_any w5 b s up s2.out f ⟨HB.out.2.1, by have := HB.out.1; omega, by have := HB.out.1; omega⟩
  go_at_call 25
  refine HA.mono ?_
  rintro e w6 ⟨rfl, h6, k6⟩
  clear HA
  refine hK.out _ _ (fun h => by cases h) ?_
  clear hK K
  try simp only [Act.put, zA, zB, zC, zD, zE, zF]
  refine wpAnyL_one (i := 7) (by kernel_rfl) rfl (fun K hK => ?_)
  go_simp
  refine hK.out _ _ (fun h => by cases h) ?_
  clear hK K
  try simp only [Act.put, zA, zB, zC, zD, zE, zF]
  refine wpAnyL_done (by kernel_rfl) ?_ _
  go_wp2
  go_ret
  refine ⟨by rw [HQ.out]; rfl, ?_, (kb_below s3.out).trans k6⟩
  rw [HE.out, HQ.out]
  by_cases hl : (s.sel up).length < 64
  ·rw [decide_eq_true hl, if_pos rfl]
   rw [if_pos hl] at h6
   exact h6
  ·rw [decide_eq_false hl, if_neg (by decide)]
   rw [if_neg hl] at h6
   exact h6
theorem twice_any (b : Nat) (s : Lk) (w : World) (h : LkV w b s) (n : Int) (hn : n < 9223372036854775808) :
  Calls Tryz.prog 8 #[.pointer (some ⟨b, 0, none⟩), .int .i64 n] w fun e w' => e = .returned (.bool (s.mayTwice n)) /\ LkV w' b (s.twice n) /\ Kb b w w' := by
 have HB := twice_bef b s w h n hn
 go_enter Tryz.func8, Tryz.ntmps8
 go_wp2_with (go_at_call 26; refine HB.mono ?_; rintro e w1 ⟨rfl, h1, k1⟩)
 go_ret
 exact ⟨rfl, h1, k1⟩
def lk0 : Lk := ⟨[], []⟩
theorem lk0_ok : lk0.ok := ⟨okR_nil, okR_nil⟩
def zeroLk : Array Value := (rowC [] ++ rowC []).toArray
theorem lk_new (w : World) : LkV (w.alloc (.cells zeroLk 29)) w.heap.size lk0 := ⟨blk_new w zeroLk 29, lk0_ok⟩
def PcV (w : World) (v : Value) (l : List Int) : Prop := ∃ a cap, v = .slice a l.length cap /\ Bs w a l.length l /\ (a = none -> cap = 0)
def New (B : Nat) (v : Value) : Prop := ∀ k, v.ownBlock = some k -> B <= k
theorem pc_nil (w : World) : PcV w (.slice none 0 0) [] := ⟨none, 0, rfl, ⟨rfl, (fun _ h => by cases h), fun h => absurd h (by decide)⟩, fun _ => rfl⟩
def Lk.came (s : Lk) (up : Bool) (n : Int) : List Int := if hasN (s.sel up) n then (s.sel up).getD n.toNat [] else []
theorem take_any (b : Nat) (s : Lk) (up : Bool) (n : Int) (w : World) (h : LkV w b s) :
  Calls Tryz.prog 9 #[.pointer (some ⟨b, 0, none⟩), .bool up, .int .i64 n] w fun e w' => ∃ v, e = .returned (.tuple #[v, .bool (hasN (s.sel up) n)]) /\ PcV w' v (s.came up n) /\ New w.heap.size v /\ LkV w' b (s.take up n) /\ Kb b w w' := by
 have HL : Hid (LkV w b s) := h
 clear h
 have HC : Hid (s.came up n = if hasN (s.sel up) n then (s.sel up).getD n.toNat [] else []) := rfl
 have HE : Hid (hasN (s.sel up) n = false -> s.take up n = s) := fun e => by unfold Lk.take; rw [e, if_neg (by decide)]
 have HH : Hid (∀ W, LkV W b s -> Calls Tryz.prog 27 #[.pointer (some ⟨b, offs up, none⟩), .int .i64 n] W fun e w' => e = .returned (.bool (hasN (s.sel up) n)) /\ w' = W) := fun W hW => hasL_any W b s up hW n
 have HR : Hid (∀ W, LkV W b s -> hasN (s.sel up) n = true -> Calls Tryz.prog 28 #[.pointer (some ⟨b, offs up, none⟩), .int .i64 n] W fun e w' => e = .returned (.tuple #[]) /\ LkV w' b (s.take up n) /\ Kb b W w') := fun W hW hq => removeL_any W b s up hW n hq
 have HK : Hid (∀ W, LkV W b s -> hasN (s.sel up) n = true -> ∃ k : Nat, n = (k : Int) /\ k < 64 /\ W.cell? ⟨b, offs up + k, none⟩ = some (.string (strOfNums ((s.sel up).getD k []))) /\ okF ((s.sel up).getD k []) /\ b < W.heap.size) := fun W hW hq => by
  obtain ⟨k, rfl, h1, h2, _⟩ := hW.cell up n hq
  exact ⟨k, rfl, h1, h2, okR_get (Lk.ok_sel hW.ok up) (by have := hasN_lt hq; simpa using this.2), hW.blk.lt⟩
 generalize s.take up n = s' at *
 generalize s.came up n = f at *
 generalize hasN (s.sel up) n = q at *
 go_enter Tryz.func9, Tryz.ntmps9
 go_upto_region 2 with (first
  | (go_at_call 24; refine (wayOf_any up _).mono ?_; rintro e w1 ⟨rfl, hw1⟩; subst w1)
  | (go_at_call 23; refine (row_any b up _).mono ?_; rintro e w2 ⟨rfl, hb2⟩))
 have HL2 : Hid (LkV w2 b s) := HL.out.over hb2
 have HB2 : Hid (Below w.heap.size w w2) := hb2
 clear hb2
 cases q with
 | false =>
  go_wp2_with (go_at_call 27; refine (HH.out w2 HL2.out).mono ?_; rintro e w3 ⟨rfl, rfl⟩)
  go_ret2
  rw [HC.out, if_neg (by decide), HE.out trivial]
  exact ⟨_, rfl, pc_nil _, (fun k e => by cases e), HL2.out, kb_below HB2.out⟩
 | true =>
  obtain ⟨k, rfl, hk, hc, hok, hbl⟩ := HK.out w2 HL2.out rfl
  have HF : Hid (f = (s.sel up).getD k []) := by
   unfold Hid
   rw [HC.out, if_pos rfl]
   rfl
  rw [<- HF.out] at hc hok
  obtain ⟨c, w4, hrun, hM⟩ := to_bytes w2 f hok.1
  have HM : Hid (Mk w2 w4 f) := hM
  have HL4 : Hid (LkV w4 b s) := HL2.out.over hM.bel
  have HR4 : Hid (Calls Tryz.prog 28 #[.pointer (some ⟨b, offs up, none⟩), .int .i64 k] w4 fun e w' => e = .returned (.tuple #[]) /\ LkV w' b s' /\ Kb b w4 w') := HR.out w4 HL4.out rfl
  have HX : Hid (b < w2.heap.size) := hbl
  have hki : (k : Int) < 64 := by omega
  clear hM hbl hok
  generalize hsf : strOfNums f = sf at *
  generalize offs up = o at *
  go_wp2_with (first
   | (go_at_call 27; refine (HH.out w2 HL2.out).mono ?_; rintro e w3 ⟨rfl, rfl⟩)
   | (go_at_call 28; refine HR4.out.mono ?_; rintro e w5 ⟨rfl, h5, k5⟩))
  go_ret2
  refine ⟨_, rfl, ⟨_, c, rfl, ?_, fun e => by cases e⟩, fun i e => ?_, h5, ((kb_below HB2.out).trans (kb_below HM.out.bel)).trans k5⟩
  ·refine ⟨rfl, HM.out.bs.2.1, fun h0 => ?_⟩
   obtain ⟨g, off, e, hcs⟩ := HM.out.bs.2.2 h0
   cases e
   refine ⟨_, _, rfl, fun i hi => ?_⟩
   have := hcs i hi
   rw [World.cell?_of_block (k5.block _ HM.out.lt (Nat.ne_of_gt HX.out))]
   exact this
  ·cases e
   exact HB2.out.size
section
variable {b : Nat} {s s' : Lk} {up q : Bool} {w : World}
theorem send_to (h : LkV w b s) {a : Option Addr} {len c : Nat} {f : List Int} (hb : Bs w a len f) (hq : maySend (s.sel up) f = q) (hs : s.send up f = s') :
  Calls Tryz.prog 7 #[.pointer (some ⟨b, 0, none⟩), .bool up, .slice a len c] w fun e w' => e = .returned (.bool q) /\ LkV w' b s' /\ Kb b w w' := by subst hq hs; exact send_any b s up a len c f w h hb
theorem twice_to (h : LkV w b s) {n : Int} (hn : n < 9223372036854775808) (hq : s.mayTwice n = q) (hs : s.twice n = s') :
  Calls Tryz.prog 8 #[.pointer (some ⟨b, 0, none⟩), .int .i64 n] w fun e w' => e = .returned (.bool q) /\ LkV w' b s' /\ Kb b w w' := by subst hq hs; exact twice_any b s w h n hn
theorem take_to (h : LkV w b s) {n : Int} {f : List Int} (hq : hasN (s.sel up) n = q) (hf : s.came up n = f) (hs : s.take up n = s') :
  Calls Tryz.prog 9 #[.pointer (some ⟨b, 0, none⟩), .bool up, .int .i64 n] w fun e w' => ∃ v, e = .returned (.tuple #[v, .bool q]) /\ PcV w' v f /\ New w.heap.size v /\ LkV w' b s' /\ Kb b w w' := by subst hq hf hs; exact take_any b s up n w h
end
theorem zero_run (W : World) : (zeroValue 29).run Tryz.prog W = .ok (.agg zeroLk) W := by kernel_rfl
end Go.Proofs.YtmcgcbgblgmmkaaGreatDoor.L
