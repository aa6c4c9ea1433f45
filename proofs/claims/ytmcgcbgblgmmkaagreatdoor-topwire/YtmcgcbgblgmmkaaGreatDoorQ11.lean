/-
  MMath MMem MSize MSBase MSRight MSAll MApp MTab MTbl MNrs.
-/
import Derived.Laws.RangeAny
import Derived.Laws.Strings2
import Derived.Test.YtmcgcbgblgmmkaaGreatDoorChecked
import Derived.Laws.OwnMore
import Derived.Laws.StructEq
import Derived.Laws.RangeString
import Derived.Laws.IdiomStrings
import Derived.Test.YtmcgcbgblgmmkaaGreatDoorQ1
import Derived.Deep.Slices
import Derived.Maps.AppendAt
import Derived.Test.YtmcgcbgblgmmkaaGreatDoorQ0
set_option maxRecDepth 100000
set_option maxHeartbeats 1000000
namespace Go.Proofs.YtmcgcbgblgmmkaaGreatDoor.M
open Go
def bar (l : (List UInt8)) : ByteArray := ⟨l.toArray⟩
def lst (s : ByteArray) : (List UInt8) := s.data.toList
theorem bar_lst (s : ByteArray) : bar (lst s) = s := by cases s; simp [bar, lst]
theorem lst_length (s : ByteArray) : (lst s).length = s.size := Array.length_toList
theorem lst_at (s : ByteArray) (i : Nat) (h : i < s.size) : (lst s)[i]? = some (s[i]'h) := by
 rw [List.getElem?_eq_getElem (by rw [lst_length]; exact h)]
 rfl
def loN (n : Nat) : Bool := decide (97 <= n) && decide (n <= 122)
def dgN (n : Nat) : Bool := decide (48 <= n) && decide (n <= 57)
def wN (n : Nat) : Bool := loN n || dgN n || n == 95
def ofW (c : UInt8) : Bool := wN c.toNat
theorem wN_high {n : Nat} (h : 128 <= n) : wN n = false := by
 have h1 : ¬ n <= 122 := by omega
 have h2 : ¬ n <= 57 := by omega
 have h3 : ¬ n = 95 := by omega
 simp [wN, loN, dgN, h1, h2, h3]
theorem take_while_eq (p : UInt8 -> Bool) (l : (List UInt8)) (n : Nat) (hn : n <= l.length) (h : ∀ i c, i < n -> l[i]? = some c -> p c = true) (h' : ∀ c, l[n]? = some c -> p c = false) : (l.takeWhile p).length = n := by
 induction l generalizing n with
 | nil => simp at hn; rw [hn]; rfl
 | cons d r ih =>
  cases n with
  | zero =>
   have := h' d rfl
   rw [List.takeWhile_cons, if_neg (by rw [this]; decide)]
   rfl
  | succ n =>
   have h0 := h 0 d (by omega) rfl
   rw [List.takeWhile_cons, if_pos h0, List.length_cons]
   rw [ih n (by simpa using hn) (fun i c hi hc => h (i + 1) c (by omega) (by simpa using hc)) (fun c hc => h' c (by simpa using hc))]
theorem get_byte (s : ByteArray) (i : Nat) (h : i < s.size) : s.get! i = s[i]'h := by
 simp [ByteArray.get!, getElem!_pos, h]
 rfl
theorem decode_tail (s : ByteArray) (pos : Nat) (_h : pos < s.size) : ∀ k, 1 <= k -> k < (Utf8.decode s pos).2 -> ∃ c, (lst s)[pos + k]? = some c /\ 128 <= c.toNat := by
 intro k h1 h2
 have key : (decide (pos + k < s.size) && (s.get! (pos + k)).toNat / 64 == 2) = true -> ∃ c, (lst s)[pos + k]? = some c /\ 128 <= c.toNat := by
  intro hk
  simp at hk
  refine ⟨_, lst_at s _ hk.1, ?_⟩
  rw [get_byte s _ hk.1] at hk
  omega
 apply key
 simp only [Utf8.decode] at h2
 repeat' split at h2
 all_goals first | omega | skip
 all_goals simp only [Bool.and_eq_true] at *
 ·have : k = 1 := by change k < 2 at h2; omega
  subst this
  simp_all
 ·have : k = 1 \/ k = 2 := by change k < 3 at h2; omega
  rcases this with rfl | rfl <;> simp_all
 ·have : k = 1 \/ k = 2 \/ k = 3 := by change k < 4 at h2; omega
  rcases this with rfl | rfl | rfl <;> simp_all
theorem width_pos (s : ByteArray) (pos : Nat) (h : pos < s.size) : 1 <= (Utf8.decode s pos).2 := by
 by_cases ha : (s[pos]'h).toNat < 128
 ·rw [decode_ascii s pos h ha]
  exact Nat.le_refl _
 ·exact (decode_high s pos h (by omega)).2
theorem width_le (s : ByteArray) (pos : Nat) (h : pos < s.size) : pos + (Utf8.decode s pos).2 <= s.size := by
 rcases Nat.lt_or_ge 1 (Utf8.decode s pos).2 with h1 | h1
 ·obtain ⟨c, hc, _⟩ := decode_tail s pos h ((Utf8.decode s pos).2 - 1) (by omega) (by omega)
  have := (List.getElem?_eq_some_iff.1 hc).1
  rw [lst_length] at this
  omega
 ·omega
theorem drop_cons (s : ByteArray) (pos : Nat) (h : pos < s.size) : (lst s).drop pos = s[pos]'h :: (lst s).drop (pos + 1) := by
 rw [List.drop_eq_getElem_cons (by rw [lst_length]; exact h)]
 rfl
def rightB (a o : Int) : Bool := decide (0 <= a) && decide (a < 6) && decide (1 <= o) && decide (o <= 6)
def heldB (o x v : Int) : Bool :=
 if (o == 1) = true then x == v else if (o == 2) = true then !(x == v) else if (o == 3) = true then decide (x < v) else if (o == 4) = true then decide (x <= v) else if (o == 5) = true then decide (v < x) else o == 6 && decide (v <= x)
def an (x m : Int) : Int := bits BinOp.and IntKind.u64 x m
def holdN (a o m v x : Int) : Bool := rightB a o && heldB o (an x m) v
end Go.Proofs.YtmcgcbgblgmmkaaGreatDoor.M
namespace Go.Proofs.YtmcgcbgblgmmkaaGreatDoor.F.D
open Go.RowKit
theorem Blk.row {w : World} {b : Nat} {t : TypeId} {l : List Value} (h : Blk w b t l) (cs : Array Value) : Blk (w.setRow b cs) b t cs.toList := by
 unfold Blk
 rw [setRow_heap w b _ cs _ _ h]
end Go.Proofs.YtmcgcbgblgmmkaaGreatDoor.F.D
namespace Go.Proofs.YtmcgcbgblgmmkaaGreatDoor.M
open F.D (Blk)
open Go.RowKit
section
variable {w : World} {b : Nat} {t : TypeId} {l : List Value}
open F.D (Blk.row)
end
section
variable {w : World} {b : Nat} {t : TypeId} {l : List Value}
end
theorem below_new (w : World) (o : Obj) : Below w.heap.size w (w.alloc o) := (Below.refl _ _).alloc (Nat.le_refl _) _
structure Da where
 n : Int
 a : Int
 p : Int
 g : List Int
open F (ret_int)
open F.D (ret_bool)
theorem lo_any (n : Nat) (w : World) : Calls Tryz.prog 95 #[.int .i32 n] w fun e w' => e = .returned (.bool (loN n)) /\ w' = w := by
 rcases Bool.eq_false_or_eq_true (decide (97 <= (n : Int))) with h1 | h1
 ·go_enter Tryz.func95, Tryz.ntmps95
  go_wp2
  go_ret
  exact ⟨ret_bool (by unfold loN; rw [show decide (97 <= n) = true from by simp at h1 ⊢; omega]; simp; omega), rfl⟩
 ·go_enter Tryz.func95, Tryz.ntmps95
  go_wp2
  go_ret
  exact ⟨ret_bool (by unfold loN; rw [show decide (97 <= n) = false from by simp at h1 ⊢; omega]; rfl), rfl⟩
theorem dg_any (n : Nat) (w : World) : Calls Tryz.prog 98 #[.int .i32 n] w fun e w' => e = .returned (.bool (dgN n)) /\ w' = w := by
 rcases Bool.eq_false_or_eq_true (decide (48 <= (n : Int))) with h1 | h1
 ·go_enter Tryz.func98, Tryz.ntmps98
  go_wp2
  go_ret
  exact ⟨ret_bool (by unfold dgN; rw [show decide (48 <= n) = true from by simp at h1 ⊢; omega]; simp; omega), rfl⟩
 ·go_enter Tryz.func98, Tryz.ntmps98
  go_wp2
  go_ret
  exact ⟨ret_bool (by unfold dgN; rw [show decide (48 <= n) = false from by simp at h1 ⊢; omega]; rfl), rfl⟩
theorem w_any (n : Nat) (w : World) : Calls Tryz.prog 97 #[.int .i32 n] w fun e w' => e = .returned (.bool (wN n)) /\ w' = w := by
 rcases Bool.eq_false_or_eq_true (loN n) with h1 | h1
 ·go_enter Tryz.func97, Tryz.ntmps97
  go_wp2_with (first | (go_at_call 95; refine (lo_any n _).mono ?_; rintro e w' ⟨rfl, rfl⟩; rw [h1]) | (go_at_call 98; refine (dg_any n _).mono ?_; rintro e w' ⟨rfl, rfl⟩))
  go_ret
  exact ⟨ret_bool (by unfold wN; rw [h1]; rfl), rfl⟩
 ·rcases Bool.eq_false_or_eq_true (dgN n) with h2 | h2
  ·go_enter Tryz.func97, Tryz.ntmps97
   go_wp2_with (first | (go_at_call 95; refine (lo_any n _).mono ?_; rintro e w' ⟨rfl, rfl⟩; rw [h1]) | (go_at_call 98; refine (dg_any n _).mono ?_; rintro e w' ⟨rfl, rfl⟩; rw [h2]))
   go_ret
   exact ⟨ret_bool (by unfold wN; rw [h1, h2]; rfl), rfl⟩
  ·go_enter Tryz.func97, Tryz.ntmps97
   go_wp2_with (first | (go_at_call 95; refine (lo_any n _).mono ?_; rintro e w' ⟨rfl, rfl⟩; rw [h1]) | (go_at_call 98; refine (dg_any n _).mono ?_; rintro e w' ⟨rfl, rfl⟩; rw [h2]))
   go_ret
   refine ⟨ret_bool ?_, rfl⟩
   unfold wN
   rw [h1, h2]
   rcases Bool.eq_false_or_eq_true (n == 95) with h3 | h3 <;> rw [h3] <;> simp at h3 ⊢ <;> omega
def Run (p : UInt8 -> Bool) (l : (List UInt8)) (pos : Nat) : Prop := pos <= l.length /\ ∀ i c, i < pos -> l[i]? = some c -> p c = true
theorem Run.last {p : UInt8 -> Bool} {s : ByteArray} {pos : Nat} (h : Run p (lst s) pos) (hp : ¬ pos < s.size) : ((lst s).takeWhile p).length = s.size := by
 have h1 := h.1
 rw [lst_length] at h1
 obtain rfl : pos = s.size := by omega
 exact take_while_eq p _ _ h.1 h.2 (fun c hc => by have := (List.getElem?_eq_some_iff.1 hc).1; rw [lst_length] at this; omega)
theorem Run.stop {p : UInt8 -> Bool} {s : ByteArray} {pos : Nat} (h : Run p (lst s) pos) (hp : pos < s.size) (hn : p (s[pos]'hp) = false) : ((lst s).takeWhile p).length = pos :=
 take_while_eq p _ _ h.1 h.2 (fun c hc => by rw [lst_at s pos hp] at hc; cases hc; exact hn)
structure Kind (q : Nat -> Bool) (b : Bool) : Prop where
 high : ∀ n, 128 <= n -> q n = b
theorem Kind.rune {q : Nat -> Bool} {b : Bool} (h : Kind q b) (s : ByteArray) (pos : Nat) (hp : pos < s.size) : q (Utf8.decode s pos).1 = q (s[pos]'hp).toNat := by
 rcases Nat.lt_or_ge (s[pos]'hp).toNat 128 with ha | ha
 ·rw [decode_ascii s pos hp ha]
 ·rw [h.high _ ha, h.high _ (decode_high s pos hp ha).1]
theorem Kind.step {q : Nat -> Bool} {b : Bool} (h : Kind q b) {s : ByteArray} {pos : Nat} (hr : Run (fun c => q c.toNat) (lst s) pos) (hp : pos < s.size) (hq : q (Utf8.decode s pos).1 = true) : Run (fun c => q c.toNat) (lst s) (pos + (Utf8.decode s pos).2) := by
 refine ⟨by rw [lst_length]; exact width_le s pos hp, fun i c hi hc => ?_⟩
 rcases Nat.lt_trichotomy i pos with h1 | h1 | h1
 ·exact hr.2 i c h1 hc
 ·subst h1
  rw [lst_at s i hp] at hc
  cases hc
  show q _ = true
  rw [<- h.rune s i hp]
  exact hq
 ·obtain ⟨d, hd, hd1⟩ := decode_tail s pos hp (i - pos) (by omega) (by omega)
  rw [show pos + (i - pos) = i from by omega, hc] at hd
  cases hd
  show q _ = true
  rw [h.high _ hd1]
  rcases Nat.lt_or_ge (s[pos]'hp).toNat 128 with ha | ha
  ·rw [decode_ascii s pos hp ha] at hi
   simp at hi
   omega
  ·rw [h.high _ (decode_high s pos hp ha).1] at hq
   exact hq
theorem kindW : Kind wN false := ⟨fun _ h => wN_high h⟩
theorem sizeW_any (s : ByteArray) (w : World) :
  Calls Tryz.prog 66 #[.string s, .func (.func 97) #[] #[]] w fun e w' => e = .returned (.int .i64 ((lst s).takeWhile ofW).length) /\ Below w.heap.size w w' := by
 go_enter Tryz.func66, Tryz.ntmps66
 go_wp2
 go_loopw [4] (fun n w' => n = .int .i64 0 /\ ∃ pos, w' = w.iter s pos /\ Run ofW (lst s) pos) (fun _ w' => s.size - w'.iterPos w.heap.size)
 case atStart => exact ⟨rfl, 0, rfl, Nat.zero_le _, fun i c h => by omega⟩
 case round =>
  obtain ⟨rfl, pos, rfl, hr⟩ := hrel
  have hbe : Below w.heap.size w (w.iter s pos) := (Below.refl _ _).alloc (Nat.le_refl _) _
  by_cases hp : pos < s.size
  ·have hnx : ∀ ty, (Instr.next (.pointer (some ⟨w.heap.size, 0, none⟩)) true ty).run Tryz.prog (w.iter s pos) = _ := fun ty => run_next_any w s pos ty hp
   have hwd := width_pos s pos hp
   rcases Bool.eq_false_or_eq_true (wN (Utf8.decode s pos).1) with hq | hq
   ·go_wp2_with (go_at_call 97; refine (w_any _ _).mono ?_; rintro e w' ⟨rfl, rfl⟩; rw [hq])
    go_roundw
    case rel => exact ⟨rfl, _, rfl, kindW.step hr hp hq⟩
    case measure => simp; omega
   ·go_wp2_with (go_at_call 97; refine (w_any _ _).mono ?_; rintro e w' ⟨rfl, rfl⟩; rw [hq])
    go_ret
    exact ⟨ret_int (by rw [hr.stop hp (by rw [kindW.rune s pos hp] at hq; exact hq)]), (Below.refl _ _).alloc (Nat.le_refl _) _⟩
  ·have hnx : ∀ ty, (Instr.next (.pointer (some ⟨w.heap.size, 0, none⟩)) true ty).run Tryz.prog (w.iter s pos) = _ := fun ty => run_next_end w s pos ty hp
   go_wp2
   go_ret
   exact ⟨ret_int (by rw [hr.last hp]), hbe⟩
structure Xc where
 arg : Int
 op : Int
 mask : Int
 val : Int
structure Xl where
 k : Int
 a : Int
 names : List ByteArray
 conds : List Xc
structure Xr where
 r : Xl
 vn : Value
 vc : Value
theorem cellS {w w' : World} {a : Addr} {v : Value} (h : w.cell? a = some v) (hb : w'.heap[a.block]? = w.heap[a.block]?) : w'.cell? a = some v := by
 rw [World.cell?_of_block hb]
 exact h
def StrR (w : World) (v : Value) (l : List ByteArray) : Prop :=
 ∃ a cap, v = .slice a l.length cap /\ l.length <= cap /\ cap <= 9223372036854775807 /\ (0 < l.length -> ∃ b o, a = some ⟨b, o, none⟩ /\ ∀ (i : Nat) (s : ByteArray), l[i]? = some s -> w.cell? ⟨b, o + i, none⟩ = some (.string s))
def Xc.at (x : Xc) (w : World) (b o : Nat) : Prop :=
 w.cell? ⟨b, o, none⟩ = some (.int .i64 x.arg) /\ w.cell? ⟨b, o + 1, none⟩ = some (.int .i64 x.op) /\ w.cell? ⟨b, o + 2, none⟩ = some (.int .u64 x.mask) /\ w.cell? ⟨b, o + 3, none⟩ = some (.int .u64 x.val)
def CdR (w : World) (v : Value) (l : List Xc) : Prop :=
 ∃ a cap, v = .slice a l.length cap /\ l.length <= cap /\ cap <= 9223372036854775807 /\ (0 < l.length -> ∃ b o, a = some ⟨b, o, none⟩ /\ ∀ (i : Nat) (x : Xc), l[i]? = some x -> x.at w b (o + i * 4))
def Xr.at (x : Xr) (w : World) (b o : Nat) : Prop :=
 w.cell? ⟨b, o, none⟩ = some (.int .i64 x.r.k) /\ w.cell? ⟨b, o + 1, none⟩ = some (.int .i64 x.r.a) /\ w.cell? ⟨b, o + 2, none⟩ = some x.vn /\ w.cell? ⟨b, o + 3, none⟩ = some x.vc
def RlR (w : World) (v : Value) (l : List Xr) : Prop :=
 ∃ a cap, v = .slice a l.length cap /\ l.length <= cap /\ cap <= 9223372036854775807 /\ (0 < l.length -> ∃ b o, a = some ⟨b, o, none⟩ /\ ∀ (i : Nat) (x : Xr), l[i]? = some x -> x.at w b (o + i * 4)) /\ ∀ x ∈ l, StrR w x.vn x.r.names /\ CdR w x.vc x.r.conds
theorem Xc.at.below {x : Xc} {w w' : World} {b o : Nat} (h : x.at w b o) (hb : Below w.heap.size w w') : x.at w' b o := by
 have q := hb.block b (World.block_lt_of_cell? w _ h.1)
 exact ⟨cellS h.1 q, cellS h.2.1 q, cellS h.2.2.1 q, cellS h.2.2.2 q⟩
theorem Xr.at.below {x : Xr} {w w' : World} {b o : Nat} (h : x.at w b o) (hb : Below w.heap.size w w') : x.at w' b o := by
 have q := hb.block b (World.block_lt_of_cell? w _ h.1)
 exact ⟨cellS h.1 q, cellS h.2.1 q, cellS h.2.2.1 q, cellS h.2.2.2 q⟩
theorem StrR.below {w w' : World} {v : Value} {l : List ByteArray} (h : StrR w v l) (hb : Below w.heap.size w w') : StrR w' v l := by
 obtain ⟨a, cap, rfl, h1, h2, hc⟩ := h
 refine ⟨a, cap, rfl, h1, h2, fun h0 => ?_⟩
 obtain ⟨b, o, rfl, hx⟩ := hc h0
 exact ⟨b, o, rfl, fun i x hi => cellS (hx i x hi) (hb.block b (World.block_lt_of_cell? w _ (hx i x hi)))⟩
theorem CdR.below {w w' : World} {v : Value} {l : List Xc} (h : CdR w v l) (hb : Below w.heap.size w w') : CdR w' v l := by
 obtain ⟨a, cap, rfl, h1, h2, hc⟩ := h
 refine ⟨a, cap, rfl, h1, h2, fun h0 => ?_⟩
 obtain ⟨b, o, rfl, hx⟩ := hc h0
 exact ⟨b, o, rfl, fun i x hi => (hx i x hi).below hb⟩
theorem RlR.below {w w' : World} {v : Value} {l : List Xr} (h : RlR w v l) (hb : Below w.heap.size w w') : RlR w' v l := by
 obtain ⟨a, cap, rfl, h1, h2, hc, hr⟩ := h
 refine ⟨a, cap, rfl, h1, h2, fun h0 => ?_, fun x hx => ⟨(hr x hx).1.below hb, (hr x hx).2.below hb⟩⟩
 obtain ⟨b, o, rfl, hx⟩ := hc h0
 exact ⟨b, o, rfl, fun i x hi => (hx i x hi).below hb⟩
theorem strR_at {w : World} {p : Option Addr} {n c i : Nat} {l : List ByteArray} (h : StrR w (.slice p n c) l) (hi : i < l.length) : ∃ b o, p = some ⟨b, o, none⟩ /\ w.cell? ⟨b, o + i, none⟩ = some (.string l[i]) := by
 obtain ⟨a, cap, e, _, _, hc⟩ := h
 cases e
 obtain ⟨b, o, hb, hx⟩ := hc (by omega)
 exact ⟨b, o, hb, hx i _ (List.getElem?_eq_getElem hi)⟩
theorem cdR_at {w : World} {p : Option Addr} {n c i : Nat} {l : List Xc} (h : CdR w (.slice p n c) l) (hi : i < l.length) : ∃ b o, p = some ⟨b, o, none⟩ /\ l[i].at w b (o + i * 4) := by
 obtain ⟨a, cap, e, _, _, hc⟩ := h
 cases e
 obtain ⟨b, o, hb, hx⟩ := hc (by omega)
 exact ⟨b, o, hb, hx i _ (List.getElem?_eq_getElem hi)⟩
theorem rlR_at {w : World} {p : Option Addr} {n c i : Nat} {l : List Xr} (h : RlR w (.slice p n c) l) (hi : i < l.length) : ∃ b o, p = some ⟨b, o, none⟩ /\ l[i].at w b (o + i * 4) := by
 obtain ⟨a, cap, e, _, _, hc, _⟩ := h
 cases e
 obtain ⟨b, o, hb, hx⟩ := hc (by omega)
 exact ⟨b, o, hb, hx i _ (List.getElem?_eq_getElem hi)⟩
def isWd (l : (List UInt8)) : Bool :=
 match l with
 | [] => false
 | c :: r => loN c.toNat && decide (((c :: r).takeWhile ofW).length = (c :: r).length)
theorem isWd_at (s : ByteArray) (h : 0 < s.size) : isWd (lst s) = (loN (s[0]'h).toNat && decide (((lst s).takeWhile ofW).length = s.size)) := by
 have hc := drop_cons s 0 h
 rw [List.drop_zero] at hc
 rw [<- lst_length s]
 rw [hc]
 rfl
theorem ibd' (a b : Nat) : ((a : Int) == (b : Int)) = decide (a = b) := by
 rw [Bool.eq_iff_iff]
 simp
 omega
theorem is_any (s : ByteArray) (w : World) :
  Calls Tryz.prog 143 #[.string s] w fun e w' => e = .returned (.bool (isWd (lst s))) /\ Below w.heap.size w w' := by
 by_cases h0 : 0 < s.size
 ·have hemp : s.toList.isEmpty = false := by
   rw [show s.toList = lst s from ByteArray.toList_eq s]
   cases h : lst s with
   | nil => have := lst_length s; rw [h] at this; simp at this; omega
   | cons c r => rfl
  have HI : Hid (isWd (lst s) = (loN (s[0]'h0).toNat && decide (((lst s).takeWhile ofW).length = s.size))) := isWd_at s h0
  have HQ : Hid (∀ W, Calls Tryz.prog 66 #[.string s, .func (.func 97) #[] #[]] W fun e w' => e = .returned (.int .i64 ((lst s).takeWhile ofW).length) /\ Below W.heap.size W w') := sizeW_any s
  generalize ((lst s).takeWhile ofW).length = L at *
  have hb : (s[0]'h0).toNat < 256 := (s[0]'h0).toNat_lt
  rcases Bool.eq_false_or_eq_true (loN (s[0]'h0).toNat) with hl | hl
  ·go_enter Tryz.func143, Tryz.ntmps143
   go_wp2_with (first | (go_at_call 95; refine (lo_any _ _).mono ?_; rintro e w1 ⟨rfl, rfl⟩; rw [hl]) | (go_at_call 66; refine (HQ.out _).mono ?_; rintro e w1 ⟨rfl, b1⟩))
   go_ret
   refine ⟨ret_bool ?_, b1⟩
   rw [HI.out, hl]
   exact ibd' L s.size
  ·go_enter Tryz.func143, Tryz.ntmps143
   go_wp2_with (first | (go_at_call 95; refine (lo_any _ _).mono ?_; rintro e w1 ⟨rfl, rfl⟩; rw [hl]) | (go_at_call 66; refine (HQ.out _).mono ?_; rintro e w1 ⟨rfl, b1⟩))
   go_ret
   refine ⟨ret_bool ?_, Below.refl _ _⟩
   rw [HI.out, hl]
   rfl
 ·have e : s = ⟨#[]⟩ := ByteArray.ext (Array.eq_empty_of_size_eq_zero (by show s.data.size = 0; have : s.size = s.data.size := rfl; omega))
  subst e
  go_enter Tryz.func143, Tryz.ntmps143
  go_wp2
  go_ret
  exact ⟨rfl, Below.refl _ _⟩
def hasN (k : Int) : Bool := k == 3 || k == 4 || k == 6
theorem hasArg_any (k : Int) (w : World) : Calls Tryz.prog 141 #[.int .i64 k] w fun e w' => e = .returned (.bool (hasN k)) /\ w' = w := by
 unfold hasN
 rcases Bool.eq_false_or_eq_true (k == 3) with h1 | h1
 ·go_enter Tryz.func141, Tryz.ntmps141
  go_wp2
  go_ret
  exact ⟨ret_bool (by rw [h1]; rfl), rfl⟩
 ·rcases Bool.eq_false_or_eq_true (k == 4) with h2 | h2
  ·go_enter Tryz.func141, Tryz.ntmps141
   go_wp2
   go_ret
   exact ⟨ret_bool (by rw [h1, h2]; rfl), rfl⟩
  ·go_enter Tryz.func141, Tryz.ntmps141
   go_wp2
   go_ret
   exact ⟨ret_bool (by rw [h1, h2]; rfl), rfl⟩
def actB (k a : Int) : Bool := decide (1 <= k) && decide (k <= 8) && (if hasN k then decide (0 <= a) && decide (a <= 65535) else a == 0)
theorem actB_mk {k a : Int} (h1 : 1 <= k) (h2 : k <= 8) : actB k a = (if hasN k then decide (0 <= a) && decide (a <= 65535) else a == 0) := by
 unfold actB
 rw [decide_eq_true h1, decide_eq_true h2]
 rfl
theorem actB_no {k a : Int} (h : k < 1 \/ 8 < k) : actB k a = false := by
 unfold actB
 rcases h with h | h
 ·rw [decide_eq_false (by omega : ¬ 1 <= k)]; rfl
 ·rw [decide_eq_false (by omega : ¬ k <= 8)]; simp
theorem actR_any (k a : Int) (w : World) : Calls Tryz.prog 110 #[.agg #[.int .i64 k, .int .i64 a]] w fun e w' => e = .returned (.bool (actB k a)) /\ Below w.heap.size w w' := by
 have be : Below w.heap.size w (w.alloc (Obj.cells #[.int .i64 k, .int .i64 a] 55)) := (Below.refl _ _).alloc (Nat.le_refl _) _
 by_cases h1 : k < 1
 ·have HE : Hid (actB k a = false) := actB_no (.inl h1)
  have hd : decide (k < 1) = true := decide_eq_true h1
  go_enter Tryz.func110, Tryz.ntmps110
  go_wp2
  go_ret
  exact ⟨ret_bool HE.out.symm, be⟩
 ·have hd : decide (k < 1) = false := decide_eq_false h1
  by_cases h2 : 8 < k
  ·have HE : Hid (actB k a = false) := actB_no (.inr h2)
   have hd2 : decide (8 < k) = true := decide_eq_true h2
   go_enter Tryz.func110, Tryz.ntmps110
   go_wp2
   go_ret
   exact ⟨ret_bool HE.out.symm, be⟩
  ·have hd2 : decide (8 < k) = false := decide_eq_false h2
   have HE : Hid (actB k a = (if hasN k then decide (0 <= a) && decide (a <= 65535) else a == 0)) := actB_mk (by omega) (by omega)
   rcases Bool.eq_false_or_eq_true (hasN k) with h3 | h3
   ·by_cases h4 : 0 <= a
    ·have h5 : decide (0 <= a) = true := decide_eq_true h4
     go_enter Tryz.func110, Tryz.ntmps110
     go_wp2_with (go_at_call 141; refine (hasArg_any _ _).mono ?_; rintro e w1 ⟨rfl, rfl⟩; rw [h3])
     go_ret
     exact ⟨ret_bool (by rw [HE.out, h3, h5]; rfl), be⟩
    ·have h5 : decide (0 <= a) = false := decide_eq_false h4
     go_enter Tryz.func110, Tryz.ntmps110
     go_wp2_with (go_at_call 141; refine (hasArg_any _ _).mono ?_; rintro e w1 ⟨rfl, rfl⟩; rw [h3])
     go_ret
     exact ⟨ret_bool (by rw [HE.out, h3, h5]; rfl), be⟩
   ·go_enter Tryz.func110, Tryz.ntmps110
    go_wp2_with (go_at_call 141; refine (hasArg_any _ _).mono ?_; rintro e w1 ⟨rfl, rfl⟩; rw [h3])
    go_ret
    exact ⟨ret_bool (by rw [HE.out, h3]; rfl), be⟩
def condB (x : Xc) : Bool := decide (0 <= x.arg) && decide (x.arg < 6) && decide (1 <= x.op) && decide (x.op <= 6)
theorem condR_any (x : Xc) (w : World) : Calls Tryz.prog 145 #[.agg #[.int .i64 x.arg, .int .i64 x.op, .int .u64 x.mask, .int .u64 x.val]] w fun e w' => e = .returned (.bool (condB x)) /\ Below w.heap.size w w' := by
 have be : Below w.heap.size w (w.alloc (Obj.cells #[.int .i64 x.arg, .int .i64 x.op, .int .u64 x.mask, .int .u64 x.val] 222)) := (Below.refl _ _).alloc (Nat.le_refl _) _
 obtain ⟨g, o, m, v⟩ := x
 unfold condB
 dsimp only at be ⊢
 rcases Bool.eq_false_or_eq_true (decide (0 <= g)) with h1 | h1
 ·rcases Bool.eq_false_or_eq_true (decide (g < 6)) with h2 | h2
  ·rcases Bool.eq_false_or_eq_true (decide (1 <= o)) with h3 | h3
   ·go_enter Tryz.func145, Tryz.ntmps145
    go_wp2
    go_ret
    exact ⟨ret_bool (by rw [h1, h2, h3]; rfl), be⟩
   ·go_enter Tryz.func145, Tryz.ntmps145
    go_wp2
    go_ret
    exact ⟨ret_bool (by rw [h1, h2, h3]; rfl), be⟩
  ·go_enter Tryz.func145, Tryz.ntmps145
   go_wp2
   go_ret
   exact ⟨ret_bool (by rw [h1, h2]; rfl), be⟩
 ·go_enter Tryz.func145, Tryz.ntmps145
  go_wp2
  go_ret
  exact ⟨ret_bool (by rw [h1]; rfl), be⟩
open F.D (blk_new)
theorem all_step {α : Type} {p : α -> Bool} {l : List α} {i : Nat} (h : i < l.length) (hp : p l[i] = true) (ht : (l.take i).all p = true) : (l.take (i + 1)).all p = true := by
 rw [List.take_succ_eq_append_getElem h, List.all_append, ht]
 simp [hp]
theorem all_stop {α : Type} {p : α -> Bool} {l : List α} {i : Nat} (h : i < l.length) (hp : p l[i] = false) : l.all p = false := by
 rw [List.all_eq_false]
 exact ⟨l[i], List.getElem_mem h, by simp [hp]⟩
theorem all_end {α : Type} {p : α -> Bool} {l : List α} {i : Nat} (h : ¬ i < l.length) (ht : (l.take i).all p = true) : l.all p = true := by
 rw [List.take_of_length_le (by omega)] at ht
 exact ht
theorem allS_any (w : World) (v : Value) (l : List ByteArray) (h : StrR w v l) (hl : l.length <= 1000) :
  Calls Tryz.prog 142 #[v, .func (.func 143) #[] #[]] w fun e w' => e = .returned (.bool (l.all fun s => isWd (lst s))) /\ Below w.heap.size w w' := by
 obtain ⟨p1, c1, rfl⟩ : ∃ p c, v = .slice p l.length c := by obtain ⟨p, c, e, _⟩ := h; exact ⟨p, c, e⟩
 have S1 : Hid (StrR w (.slice p1 l.length c1) l) := h
 have HI : Hid (∀ s W, Calls Tryz.prog 143 #[.string s] W fun e w' => e = .returned (.bool (isWd (lst s))) /\ Below W.heap.size W w') := is_any
 clear h
 generalize hR : (l.all fun s => isWd (lst s)) = R
 have HR : Hid ((l.all fun s => isWd (lst s)) = R) := hR
 clear hR
 go_enter Tryz.func142, Tryz.ntmps142
 go_wp2
 go_loopw [9] (fun vi wr => ∃ i : Nat, vi = .int .i64 i /\ i <= l.length /\ ((l.take i).all fun s => isWd (lst s)) = true /\ Below w.heap.size w wr) (fun vi _ => l.length - (intOf vi).toNat)
 case atStart => exact ⟨0, rfl, Nat.zero_le _, rfl, Below.refl _ _⟩
 case round =>
  obtain ⟨i, rfl, hi, ht, hb⟩ := hrel
  have HT : Hid (((l.take i).all fun s => isWd (lst s)) = true) := ht
  have HB : Hid (Below w.heap.size w wr) := hb
  clear ht
  by_cases hlt : i < l.length
  ·have hi1 : (i : Int) < (l.length : Int) := by omega
   obtain ⟨b1, o1, rfl, e1⟩ := strR_at (S1.out.below hb) hlt
   have HX : Hid (Calls Tryz.prog 143 #[.string l[i]] wr fun e w' => e = .returned (.bool (isWd (lst l[i]))) /\ Below wr.heap.size wr w') := HI.out _ _
   have HS : Hid (isWd (lst l[i]) = true -> ((l.take (i + 1)).all fun s => isWd (lst s)) = true) := fun hq => all_step (p := fun s => isWd (lst s)) hlt hq HT.out
   have HF : Hid (isWd (lst l[i]) = false -> R = false) := fun hq => HR.out.symm.trans (all_stop (p := fun s => isWd (lst s)) hlt hq)
   generalize l[i] = x at *
   clear hb
   rcases Bool.eq_false_or_eq_true (isWd (lst x)) with hq | hq
   ·go_wp2_with (go_at_call 143; refine HX.out.mono ?_; rintro e w1 ⟨rfl, b1⟩; rw [hq])
    go_roundw
    case rel => exact ⟨i + 1, by go_num, hlt, HS.out hq, HB.out.trans (b1.mono HB.out.size)⟩
    case measure => simp [intOf]; omega
   ·go_wp2_with (go_at_call 143; refine HX.out.mono ?_; rintro e w1 ⟨rfl, b1⟩; rw [hq])
    go_ret
    exact ⟨ret_bool (HF.out hq).symm, HB.out.trans (b1.mono HB.out.size)⟩
  ·have hge : ¬ (i : Int) < (l.length : Int) := by omega
   clear hb
   go_wp2
   go_ret
   exact ⟨ret_bool (by rw [<- HR.out]; exact (all_end hlt HT.out).symm), HB.out⟩
theorem allC_any (w : World) (v : Value) (l : List Xc) (h : CdR w v l) (hl : l.length <= 1000) :
  Calls Tryz.prog 144 #[v, .func (.func 145) #[] #[]] w fun e w' => e = .returned (.bool (l.all condB)) /\ Below w.heap.size w w' := by
 obtain ⟨p1, c1, rfl⟩ : ∃ p c, v = .slice p l.length c := by obtain ⟨p, c, e, _⟩ := h; exact ⟨p, c, e⟩
 have S1 : Hid (CdR w (.slice p1 l.length c1) l) := h
 clear h
 generalize hR : (l.all condB) = R
 have HR : Hid ((l.all condB) = R) := hR
 clear hR
 go_enter Tryz.func144, Tryz.ntmps144
 go_wp2
 go_loopw [9] (fun vi wr => ∃ i : Nat, vi = .int .i64 i /\ i <= l.length /\ ((l.take i).all condB) = true /\ Below w.heap.size w wr) (fun vi _ => l.length - (intOf vi).toNat)
 case atStart => exact ⟨0, rfl, Nat.zero_le _, rfl, Below.refl _ _⟩
 case round =>
  obtain ⟨i, rfl, hi, ht, hb⟩ := hrel
  have HT : Hid (((l.take i).all condB) = true) := ht
  have HB : Hid (Below w.heap.size w wr) := hb
  clear ht
  by_cases hlt : i < l.length
  ·have hi1 : (i : Int) < (l.length : Int) := by omega
   obtain ⟨b1, o1, rfl, e1⟩ := cdR_at (S1.out.below hb) hlt
   have HX : Hid (∀ W, Calls Tryz.prog 145 #[.agg #[.int .i64 l[i].arg, .int .i64 l[i].op, .int .u64 l[i].mask, .int .u64 l[i].val]] W fun e w' => e = .returned (.bool (condB l[i])) /\ Below W.heap.size W w') := condR_any _
   have HS : Hid (condB l[i] = true -> ((l.take (i + 1)).all condB) = true) := fun hq => all_step hlt hq HT.out
   have HF : Hid (condB l[i] = false -> R = false) := fun hq => HR.out.symm.trans (all_stop hlt hq)
   have BE : Hid (Below w.heap.size w (wr.alloc (Obj.cells #[.int .i64 l[i].arg, .int .i64 l[i].op, .int .u64 l[i].mask, .int .u64 l[i].val] 222))) := HB.out.alloc HB.out.size _
   generalize l[i] = x at *
   obtain ⟨q0, q1, q2, q3⟩ := e1
   clear hb
   rcases Bool.eq_false_or_eq_true (condB x) with hq | hq
   ·go_wp2_with (go_at_call 145; refine (HX.out _).mono ?_; rintro e w1 ⟨rfl, b1⟩; rw [hq])
    go_roundw
    case rel => exact ⟨i + 1, by go_num, hlt, HS.out hq, BE.out.trans (b1.mono BE.out.size)⟩
    case measure => simp [intOf]; omega
   ·go_wp2_with (go_at_call 145; refine (HX.out _).mono ?_; rintro e w1 ⟨rfl, b1⟩; rw [hq])
    go_ret
    exact ⟨ret_bool (HF.out hq).symm, BE.out.trans (b1.mono BE.out.size)⟩
  ·have hge : ¬ (i : Int) < (l.length : Int) := by omega
   clear hb
   go_wp2
   go_ret
   exact ⟨ret_bool (by rw [<- HR.out]; exact (all_end hlt HT.out).symm), HB.out⟩
def ruleB (x : Xl) : Bool := decide (1 <= x.names.length) && decide (x.names.length <= 16) && decide (x.conds.length <= 8) && (actB x.k x.a && x.names.all (fun s => isWd (lst s)) && x.conds.all condB)
theorem ruleB_mk {x : Xl} (h1 : 1 <= x.names.length) (h2 : x.names.length <= 16) (h3 : x.conds.length <= 8) : ruleB x = (actB x.k x.a && x.names.all (fun s => isWd (lst s)) && x.conds.all condB) := by
 unfold ruleB
 rw [decide_eq_true h1, decide_eq_true h2, decide_eq_true h3]
 rfl
theorem ruleB_no {x : Xl} (h : x.names.length < 1 \/ 16 < x.names.length \/ 8 < x.conds.length) : ruleB x = false := by
 unfold ruleB
 rcases h with h | h | h
 ·rw [decide_eq_false (by omega : ¬ 1 <= x.names.length)]; rfl
 ·rw [decide_eq_false (by omega : ¬ x.names.length <= 16)]; simp
 ·rw [decide_eq_false (by omega : ¬ x.conds.length <= 8)]; simp
theorem rightRule_any (w : World) (x : Xr) (hn : StrR w x.vn x.r.names) (hc : CdR w x.vc x.r.conds) (h1 : x.r.names.length <= 9000000) (h2 : x.r.conds.length <= 9000000) :
  Calls Tryz.prog 112 #[.agg #[.int .i64 x.r.k, .int .i64 x.r.a, x.vn, x.vc]] w fun e w' => e = .returned (.bool (ruleB x.r)) /\ Below w.heap.size w w' := by
 obtain ⟨⟨k, a, ns, cs⟩, vn, vc⟩ := x
 dsimp only at hn hc h1 h2 ⊢
 obtain ⟨p1, c1, rfl⟩ : ∃ p c, vn = .slice p ns.length c := by obtain ⟨p, c, e, _⟩ := hn; exact ⟨p, c, e⟩
 obtain ⟨p2, c2, rfl⟩ : ∃ p c, vc = .slice p cs.length c := by obtain ⟨p, c, e, _⟩ := hc; exact ⟨p, c, e⟩
 have be : Below w.heap.size w (w.alloc (Obj.cells #[.int .i64 k, .int .i64 a, .slice p1 ns.length c1, .slice p2 cs.length c2] 150)) := (Below.refl _ _).alloc (Nat.le_refl _) _
 have K0 := blk_new w #[.int .i64 k, .int .i64 a, .slice p1 ns.length c1, .slice p2 cs.length c2] 150
 have BE : Hid (Below w.heap.size w (w.alloc (Obj.cells #[.int .i64 k, .int .i64 a, .slice p1 ns.length c1, .slice p2 cs.length c2] 150))) := be
 have HK : Hid (Blk (w.alloc (Obj.cells #[.int .i64 k, .int .i64 a, .slice p1 ns.length c1, .slice p2 cs.length c2] 150)) w.heap.size 150 [.int .i64 k, .int .i64 a, .slice p1 ns.length c1, .slice p2 cs.length c2]) := K0
 have SN : Hid (StrR (w.alloc (Obj.cells #[.int .i64 k, .int .i64 a, .slice p1 ns.length c1, .slice p2 cs.length c2] 150)) (.slice p1 ns.length c1) ns) := hn.below be
 have SC : Hid (CdR (w.alloc (Obj.cells #[.int .i64 k, .int .i64 a, .slice p1 ns.length c1, .slice p2 cs.length c2] 150)) (.slice p2 cs.length c2) cs) := hc.below be
 clear hn hc K0 be
 by_cases g1 : ns.length < 1
 ·have HE : Hid (ruleB ⟨k, a, ns, cs⟩ = false) := ruleB_no (.inl g1)
  have hd : decide ((ns.length : Int) < 1) = true := decide_eq_true (by omega)
  have hd' : (ns.length : Int) < 1 := by omega
  clear g1 SN SC HK
  go_enter Tryz.func112, Tryz.ntmps112
  go_wp2
  go_ret
  exact ⟨ret_bool HE.out.symm, BE.out⟩
 ·have hd : decide ((ns.length : Int) < 1) = false := decide_eq_false (by omega)
  have hd' : ¬ (ns.length : Int) < 1 := by omega
  by_cases g2 : 16 < ns.length
  ·have HE : Hid (ruleB ⟨k, a, ns, cs⟩ = false) := ruleB_no (.inr (.inl g2))
   have hd2 : decide (16 < (ns.length : Int)) = true := decide_eq_true (by omega)
   clear SN SC HK
   go_enter Tryz.func112, Tryz.ntmps112
   go_wp2
   go_ret
   exact ⟨ret_bool HE.out.symm, BE.out⟩
  ·have hd2 : decide (16 < (ns.length : Int)) = false := decide_eq_false (by omega)
   by_cases g3 : 8 < cs.length
   ·have HE : Hid (ruleB ⟨k, a, ns, cs⟩ = false) := ruleB_no (.inr (.inr g3))
    have hd3 : decide (8 < (cs.length : Int)) = true := decide_eq_true (by omega)
    clear SN SC HK
    go_enter Tryz.func112, Tryz.ntmps112
    go_wp2
    go_ret
    exact ⟨ret_bool HE.out.symm, BE.out⟩
   ·have hd3 : decide (8 < (cs.length : Int)) = false := decide_eq_false (by omega)
    have HE : Hid (ruleB ⟨k, a, ns, cs⟩ = (actB k a && ns.all (fun s => isWd (lst s)) && cs.all condB)) := ruleB_mk (x := ⟨k, a, ns, cs⟩) (by show 1 <= ns.length; omega) (by show ns.length <= 16; omega) (by show cs.length <= 8; omega)
    have HNS : Hid (ns.length <= 1000) := by show ns.length <= 1000; omega
    have HCS : Hid (cs.length <= 1000) := by show cs.length <= 1000; omega
    have HA : Hid (∀ W, Calls Tryz.prog 110 #[.agg #[.int .i64 k, .int .i64 a]] W fun e w' => e = .returned (.bool (actB k a)) /\ Below W.heap.size W w') := actR_any k a
    have HB : Hid (∀ W, StrR W (.slice p1 ns.length c1) ns -> Calls Tryz.prog 142 #[.slice p1 ns.length c1, .func (.func 143) #[] #[]] W fun e w' => e = .returned (.bool (ns.all fun s => isWd (lst s))) /\ Below W.heap.size W w') := fun W h => allS_any W _ ns h HNS.out
    have HC : Hid (∀ W, CdR W (.slice p2 cs.length c2) cs -> Calls Tryz.prog 144 #[.slice p2 cs.length c2, .func (.func 145) #[] #[]] W fun e w' => e = .returned (.bool (cs.all condB)) /\ Below W.heap.size W w') := fun W h => allC_any W _ cs h HCS.out
    generalize (ns.all fun s => isWd (lst s)) = RN at *
    generalize cs.all condB = RC at *
    generalize actB k a = RA at *
    clear HNS HCS g1 g2 g3 h1 h2
    rcases Bool.eq_false_or_eq_true RA with rfl | rfl
    ·rcases Bool.eq_false_or_eq_true RN with rfl | rfl
     all_goals
      go_enter Tryz.func112, Tryz.ntmps112
      go_wp2_with fail
      generalize (w.alloc (Obj.cells #[.int .i64 k, .int .i64 a, .slice p1 ns.length c1, .slice p2 cs.length c2] 150)) = X at *
      refine (HA.out _).mono ?_
      rintro e w1 ⟨rfl, b1⟩
      have t2 : w1.cell? ⟨w.heap.size, 2, none⟩ = some (.slice p1 ns.length c1) := (HK.out.over b1).cell 2
      go_wp2_with fail
      refine (HB.out _ (SN.out.below b1)).mono ?_
      rintro e w2 ⟨rfl, b2⟩
      have HB2 : Hid (Below X.heap.size X w2) := b1.trans (b2.mono b1.size)
      clear t2 b1 b2
      have t3 : w2.cell? ⟨w.heap.size, 3, none⟩ = some (.slice p2 cs.length c2) := (HK.out.over HB2.out).cell 3
     ·go_wp2_with fail
      refine (HC.out _ (SC.out.below HB2.out)).mono ?_
      rintro e w3 ⟨rfl, b3⟩
      go_wp2_with fail
      go_ret
      exact ⟨ret_bool (by rw [HE.out]; rfl), BE.out.trans ((HB2.out.trans (b3.mono HB2.out.size)).mono BE.out.size)⟩
     ·go_wp2_with fail
      go_ret
      exact ⟨ret_bool (by rw [HE.out]; rfl), BE.out.trans (HB2.out.mono BE.out.size)⟩
    ·go_enter Tryz.func112, Tryz.ntmps112
     go_wp2_with fail
     generalize (w.alloc (Obj.cells #[.int .i64 k, .int .i64 a, .slice p1 ns.length c1, .slice p2 cs.length c2] 150)) = X at *
     refine (HA.out _).mono ?_
     rintro e w1 ⟨rfl, b1⟩
     go_wp2_with fail
     go_ret
     exact ⟨ret_bool (by rw [HE.out]; rfl), BE.out.trans (b1.mono BE.out.size)⟩
theorem allR_any (w : World) (v : Value) (l : List Xr) (h : RlR w v l) (hl : l.length <= 1000) (hs : ∀ x ∈ l, x.r.names.length <= 9000000 /\ x.r.conds.length <= 9000000) :
  Calls Tryz.prog 111 #[v, .func (.func 112) #[] #[]] w fun e w' => e = .returned (.bool (l.all fun x => ruleB x.r)) /\ Below w.heap.size w w' := by
 obtain ⟨p1, c1, rfl⟩ : ∃ p c, v = .slice p l.length c := by obtain ⟨p, c, e, _⟩ := h; exact ⟨p, c, e⟩
 have S1 : Hid (RlR w (.slice p1 l.length c1) l) := h
 have HM : Hid (∀ x ∈ l, x.r.names.length <= 9000000 /\ x.r.conds.length <= 9000000) := hs
 clear h hs
 generalize hR : (l.all fun x => ruleB x.r) = R
 have HR : Hid ((l.all fun x => ruleB x.r) = R) := hR
 clear hR
 go_enter Tryz.func111, Tryz.ntmps111
 go_wp2
 go_loopw [9] (fun vi wr => ∃ i : Nat, vi = .int .i64 i /\ i <= l.length /\ ((l.take i).all fun x => ruleB x.r) = true /\ Below w.heap.size w wr) (fun vi _ => l.length - (intOf vi).toNat)
 case atStart => exact ⟨0, rfl, Nat.zero_le _, rfl, Below.refl _ _⟩
 case round =>
  obtain ⟨i, rfl, hi, ht, hb⟩ := hrel
  have HT : Hid (((l.take i).all fun x => ruleB x.r) = true) := ht
  have HB : Hid (Below w.heap.size w wr) := hb
  clear ht
  by_cases hlt : i < l.length
  ·have hi1 : (i : Int) < (l.length : Int) := by omega
   obtain ⟨b1, o1, rfl, e1⟩ := rlR_at (S1.out.below hb) hlt
   have hmem : l[i] ∈ l := List.getElem_mem hlt
   have HX : Hid (∀ W, Below w.heap.size w W -> Calls Tryz.prog 112 #[.agg #[.int .i64 l[i].r.k, .int .i64 l[i].r.a, l[i].vn, l[i].vc]] W fun e w' => e = .returned (.bool (ruleB l[i].r)) /\ Below W.heap.size W w') := fun W hW => by
    obtain ⟨_, _, _, _, _, _, hr⟩ := S1.out.below hW
    exact rightRule_any W l[i] (hr _ hmem).1 (hr _ hmem).2 (HM.out _ hmem).1 (HM.out _ hmem).2
   have HS : Hid (ruleB l[i].r = true -> ((l.take (i + 1)).all fun x => ruleB x.r) = true) := fun hq => all_step (p := fun x => ruleB x.r) hlt hq HT.out
   have HF : Hid (ruleB l[i].r = false -> R = false) := fun hq => HR.out.symm.trans (all_stop (p := fun x => ruleB x.r) hlt hq)
   obtain ⟨p3, n3, c3, e3⟩ : ∃ p n c, l[i].vn = .slice p n c := by obtain ⟨_, _, _, _, _, _, hr⟩ := S1.out; obtain ⟨p, c, e, _⟩ := (hr _ hmem).1; exact ⟨p, _, c, e⟩
   obtain ⟨p4, n4, c4, e4⟩ : ∃ p n c, l[i].vc = .slice p n c := by obtain ⟨_, _, _, _, _, _, hr⟩ := S1.out; obtain ⟨p, c, e, _⟩ := (hr _ hmem).2; exact ⟨p, _, c, e⟩
   clear hmem
   generalize l[i] = x at *
   obtain ⟨⟨k, a, ns, cs⟩, vn, vc⟩ := x
   obtain ⟨q0, q1, q2, q3⟩ := e1
   dsimp only at q0 q1 q2 q3 HX HS HF e3 e4
   subst e3 e4
   have BE : Hid (Below w.heap.size w (wr.alloc (Obj.cells #[.int .i64 k, .int .i64 a, .slice p3 n3 c3, .slice p4 n4 c4] 150))) := HB.out.alloc HB.out.size _
   clear hb
   generalize ruleB ⟨k, a, ns, cs⟩ = RB at *
   rcases Bool.eq_false_or_eq_true RB with rfl | rfl
   ·go_wp2_with (go_at_call 112; refine (HX.out _ BE.out).mono ?_; rintro e w1 ⟨rfl, b1⟩)
    go_roundw
    case rel => exact ⟨i + 1, by go_num, hlt, HS.out trivial, BE.out.trans (b1.mono BE.out.size)⟩
    case measure => simp [intOf]; omega
   ·go_wp2_with (go_at_call 112; refine (HX.out _ BE.out).mono ?_; rintro e w1 ⟨rfl, b1⟩)
    go_ret
    exact ⟨ret_bool (HF.out trivial).symm, BE.out.trans (b1.mono BE.out.size)⟩
  ·have hge : ¬ (i : Int) < (l.length : Int) := by omega
   clear hb
   go_wp2
   go_ret
   exact ⟨ret_bool (by rw [<- HR.out]; exact (all_end hlt HT.out).symm), HB.out⟩
def rulesB (k a : Int) (l : List Xl) : Bool := actB k a && decide (l.length <= 64) && l.all ruleB
theorem right_any (w : World) (k a : Int) (v : Value) (l : List Xr) (h : RlR w v l) (hl : l.length <= 1000) (hs : ∀ x ∈ l, x.r.names.length <= 9000000 /\ x.r.conds.length <= 9000000) :
  Calls Tryz.prog 73 #[.agg #[.int .i64 k, .int .i64 a, v]] w fun e w' => e = .returned (.bool (rulesB k a (l.map Xr.r))) /\ Below w.heap.size w w' := by
 obtain ⟨p1, c1, rfl⟩ : ∃ p c, v = .slice p l.length c := by obtain ⟨p, c, e, _⟩ := h; exact ⟨p, c, e⟩
 have be : Below w.heap.size w (w.alloc (Obj.cells #[.int .i64 k, .int .i64 a, .slice p1 l.length c1] 58)) := (Below.refl _ _).alloc (Nat.le_refl _) _
 have BE : Hid (Below w.heap.size w (w.alloc (Obj.cells #[.int .i64 k, .int .i64 a, .slice p1 l.length c1] 58))) := be
 have HK : Hid (Blk (w.alloc (Obj.cells #[.int .i64 k, .int .i64 a, .slice p1 l.length c1] 58)) w.heap.size 58 [.int .i64 k, .int .i64 a, .slice p1 l.length c1]) := blk_new w _ _
 have SN : Hid (RlR (w.alloc (Obj.cells #[.int .i64 k, .int .i64 a, .slice p1 l.length c1] 58)) (.slice p1 l.length c1) l) := h.below be
 have HA : Hid (∀ W, Calls Tryz.prog 110 #[.agg #[.int .i64 k, .int .i64 a]] W fun e w' => e = .returned (.bool (actB k a)) /\ Below W.heap.size W w') := actR_any k a
 have HB : Hid (∀ W, RlR W (.slice p1 l.length c1) l -> Calls Tryz.prog 111 #[.slice p1 l.length c1, .func (.func 112) #[] #[]] W fun e w' => e = .returned (.bool (l.all fun x => ruleB x.r)) /\ Below W.heap.size W w') := fun W h => allR_any W _ l h hl hs
 have HE : Hid (rulesB k a (l.map Xr.r) = (actB k a && decide (l.length <= 64) && l.all fun x => ruleB x.r)) := by
  show rulesB k a (l.map Xr.r) = _
  unfold rulesB
  rw [List.length_map, List.all_map]
  rfl
 clear h be hs
 generalize (l.all fun x => ruleB x.r) = RN at *
 generalize actB k a = RA at *
 rcases Bool.eq_false_or_eq_true RA with rfl | rfl
 ·by_cases g1 : l.length <= 64
  ·have hd : decide ((l.length : Int) <= 64) = true := decide_eq_true (by omega)
   have HD : Hid (decide (l.length <= 64) = true) := decide_eq_true g1
   go_enter Tryz.func73, Tryz.ntmps73
   go_wp2_with fail
   generalize (w.alloc (Obj.cells #[.int .i64 k, .int .i64 a, .slice p1 l.length c1] 58)) = X at *
   refine (HA.out _).mono ?_
   rintro e w1 ⟨rfl, b1⟩
   have t2 : w1.cell? ⟨w.heap.size, 2, none⟩ = some (.slice p1 l.length c1) := (HK.out.over b1).cell 2
   go_wp2_with fail
   refine (HB.out _ (SN.out.below b1)).mono ?_
   rintro e w2 ⟨rfl, b2⟩
   go_wp2_with fail
   go_ret
   exact ⟨ret_bool (by rw [HE.out, HD.out]; rfl), BE.out.trans ((b1.trans (b2.mono b1.size)).mono BE.out.size)⟩
  ·have hd : decide ((l.length : Int) <= 64) = false := decide_eq_false (by omega)
   have HD : Hid (decide (l.length <= 64) = false) := decide_eq_false g1
   go_enter Tryz.func73, Tryz.ntmps73
   go_wp2_with fail
   generalize (w.alloc (Obj.cells #[.int .i64 k, .int .i64 a, .slice p1 l.length c1] 58)) = X at *
   refine (HA.out _).mono ?_
   rintro e w1 ⟨rfl, b1⟩
   have t2 : w1.cell? ⟨w.heap.size, 2, none⟩ = some (.slice p1 l.length c1) := (HK.out.over b1).cell 2
   go_wp2_with fail
   go_ret
   exact ⟨ret_bool (by rw [HE.out, HD.out]; rfl), BE.out.trans (b1.mono BE.out.size)⟩
 ·go_enter Tryz.func73, Tryz.ntmps73
  go_wp2_with fail
  generalize (w.alloc (Obj.cells #[.int .i64 k, .int .i64 a, .slice p1 l.length c1] 58)) = X at *
  refine (HA.out _).mono ?_
  rintro e w1 ⟨rfl, b1⟩
  go_wp2_with fail
  go_ret
  exact ⟨ret_bool (by rw [HE.out]; rfl), BE.out.trans (b1.mono BE.out.size)⟩
theorem info_parts {t : TypeId} {z : Option Value} {s b : Nat} (h : (Tryz.prog.info? t).map (fun i => (i.zero, i.size, i.bytes)) = some (z, s, b)) : ∃ i, Tryz.prog.info? t = some i /\ i.zero = z /\ i.size = s /\ i.bytes = b := by
 cases hi : Tryz.prog.info? t with
 | none => rw [hi] at h; cases h
 | some i =>
  rw [hi] at h
  simp at h
  exact ⟨i, rfl, h.1, h.2.1, h.2.2⟩
section
variable {t sz B b n n' : Nat} {t' : TypeId} {a X Y : World} {v v' : Value} {xs xs' l : List Value}
end
def tab : List (ByteArray × Nat) := [
 (⟨#[114, 101, 97, 100]⟩, 0),
 (⟨#[119, 114, 105, 116, 101]⟩, 1),
 (⟨#[111, 112, 101, 110]⟩, 2),
 (⟨#[99, 108, 111, 115, 101]⟩, 3),
 (⟨#[115, 116, 97, 116]⟩, 4),
 (⟨#[102, 115, 116, 97, 116]⟩, 5),
 (⟨#[108, 115, 116, 97, 116]⟩, 6),
 (⟨#[112, 111, 108, 108]⟩, 7),
 (⟨#[108, 115, 101, 101, 107]⟩, 8),
 (⟨#[109, 109, 97, 112]⟩, 9),
 (⟨#[109, 112, 114, 111, 116, 101, 99, 116]⟩, 10),
 (⟨#[109, 117, 110, 109, 97, 112]⟩, 11),
 (⟨#[98, 114, 107]⟩, 12),
 (⟨#[105, 111, 99, 116, 108]⟩, 16),
 (⟨#[97, 99, 99, 101, 115, 115]⟩, 21),
 (⟨#[112, 105, 112, 101]⟩, 22),
 (⟨#[100, 117, 112]⟩, 32),
 (⟨#[103, 101, 116, 112, 105, 100]⟩, 39),
 (⟨#[115, 111, 99, 107, 101, 116]⟩, 41),
 (⟨#[99, 111, 110, 110, 101, 99, 116]⟩, 42),
 (⟨#[102, 111, 114, 107]⟩, 57),
 (⟨#[101, 120, 101, 99, 118, 101]⟩, 59),
 (⟨#[101, 120, 105, 116]⟩, 60),
 (⟨#[119, 97, 105, 116, 52]⟩, 61),
 (⟨#[107, 105, 108, 108]⟩, 62),
 (⟨#[117, 110, 97, 109, 101]⟩, 63),
 (⟨#[109, 107, 100, 105, 114]⟩, 83),
 (⟨#[117, 110, 108, 105, 110, 107]⟩, 87),
 (⟨#[111, 112, 101, 110, 97, 116]⟩, 257),
 (⟨#[115, 101, 99, 99, 111, 109, 112]⟩, 317)]
def tabC : List Value := tab.flatMap fun p => [.string p.1, .int .u32 p.2]
def eqS (a b : ByteArray) : Bool := lst a == lst b
theorem eqS_to (a b : ByteArray) : (a.toList == b.toList) = eqS a b := by
 rw [ByteArray.toList_eq, ByteArray.toList_eq]
 rfl
theorem eqS_iff {a b : ByteArray} : eqS a b = true ↔ a = b := by
 unfold eqS
 rw [beq_iff_eq]
 constructor
 ·intro h
  rw [<- bar_lst a, h, bar_lst]
 ·rintro rfl; rfl
theorem eqS_self (a : ByteArray) : eqS a a = true := eqS_iff.2 rfl
def nrOf (s : ByteArray) : Option Nat := (tab.find? fun p => eqS p.1 s).map (·.2)
def nameOf (z : Int) : Option ByteArray := (tab.find? fun p => ((p.2 : Int) == z)).map (·.1)
def nrI (s : ByteArray) : Int := ((nrOf s).getD 0 : Nat)
def knB (s : ByteArray) : Bool := (nrOf s).isSome
def nmS (z : Int) : ByteArray := (nameOf z).getD ⟨#[]⟩
def isNr (z : Int) : Bool := (nameOf z).isSome
theorem tab_len : tab.length = 30 := rfl
theorem find_at {α : Type} {p : α -> Bool} {l : List α} {i : Nat} (h : i < l.length) (hp : p l[i] = true) (ha : ∀ j (hj : j < i), p (l[j]'(by omega)) = false) : l.find? p = some l[i] := by
 induction l generalizing i with
 | nil => simp at h
 | cons x l ih =>
  cases i with
  | zero => simp only [zE] at hp ⊢; rw [List.find?_cons_of_pos hp]
  | succ i =>
   have h0 := ha 0 (by omega)
   simp only [zE] at h0
   rw [List.find?_cons_of_neg (by rw [h0]; decide)]
   simp only [zF] at hp ⊢
   exact ih (by simpa using h) hp (fun j hj => by have := ha (j + 1) (by omega); simpa using this)
theorem find_none {α : Type} {p : α -> Bool} {l : List α} (ha : ∀ j (hj : j < l.length), p (l[j]'hj) = false) : l.find? p = none := by
 rw [List.find?_eq_none]
 intro x hx
 obtain ⟨j, hj, rfl⟩ := List.getElem_of_mem hx
 rw [ha j hj]
 decide
theorem index_tab (i : Nat) (hi : i < tab.length) (W : World) : (Instr.index 254 (.agg tabC.toArray) (.int .i64 i)).run Tryz.prog W = .ok (.agg #[.string tab[i].1, .int .u32 tab[i].2]) W := by
 match i, hi with
 | 0, _ => show _ = _; kernel_rfl
 | 1, _ => show _ = _; kernel_rfl
 | 2, _ => show _ = _; kernel_rfl
 | 3, _ => show _ = _; kernel_rfl
 | 4, _ => show _ = _; kernel_rfl
 | 5, _ => show _ = _; kernel_rfl
 | 6, _ => show _ = _; kernel_rfl
 | 7, _ => show _ = _; kernel_rfl
 | 8, _ => show _ = _; kernel_rfl
 | 9, _ => show _ = _; kernel_rfl
 | 10, _ => show _ = _; kernel_rfl
 | 11, _ => show _ = _; kernel_rfl
 | 12, _ => show _ = _; kernel_rfl
 | 13, _ => show _ = _; kernel_rfl
 | 14, _ => show _ = _; kernel_rfl
 | 15, _ => show _ = _; kernel_rfl
 | 16, _ => show _ = _; kernel_rfl
 | 17, _ => show _ = _; kernel_rfl
 | 18, _ => show _ = _; kernel_rfl
 | 19, _ => show _ = _; kernel_rfl
 | 20, _ => show _ = _; kernel_rfl
 | 21, _ => show _ = _; kernel_rfl
 | 22, _ => show _ = _; kernel_rfl
 | 23, _ => show _ = _; kernel_rfl
 | 24, _ => show _ = _; kernel_rfl
 | 25, _ => show _ = _; kernel_rfl
 | 26, _ => show _ = _; kernel_rfl
 | 27, _ => show _ = _; kernel_rfl
 | 28, _ => show _ = _; kernel_rfl
 | 29, _ => show _ = _; kernel_rfl
 | n + 30, h => exact absurd h (by rw [tab_len]; omega)
theorem at_op {P : Program} {ops : Array Oper} {Q : Exit -> Act -> World -> Prop} {rest : List Oper} {o : Oper} {a : Act} {w : World} (op : Op) (_ho : o.op = op) (h : wpList P ops Q (o :: rest) a w) : wpList P ops Q (o :: rest) a w := h
theorem below_setRow {B : Nat} {a w : World} (h : Below B a w) {g : Nat} (hg : B <= g) (cs : Array Value) : Below B a (w.setRow g cs) :=
 h.trans ⟨rfl, rfl, rfl, by simp, fun k hk => setRow_other _ _ _ _ (by omega)⟩
theorem Tryz.sizeT : (Tryz.prog.info? 254).map (·.size) = some tabC.toArray.size := by kernel_rfl
theorem tab_one : tabC.toArray.all (·.oneCell') = true := by kernel_rfl
def zeroC : List Value := (List.range 30).flatMap fun _ => [.string ⟨#[]⟩, .int .u32 0]
theorem calls_any (w : World) : Calls Tryz.prog 170 #[] w fun e w' => e = .returned (.agg tabC.toArray) /\ Below w.heap.size w w' := by
 have HB : Hid (Below w.heap.size w (w.alloc (Obj.cells zeroC.toArray 254))) := below_new w _
 have HK : Hid (Blk (w.alloc (Obj.cells zeroC.toArray 254)) w.heap.size 254 zeroC) := blk_new w _ _
 go_enter Tryz.func170, Tryz.ntmps170
 go_wp2_with (refine at_op (.store 254 (.tmp 0) (.tmp 31)) rfl ?_; refine wpList_store_row rfl 254 (.tmp 0) (.tmp 31) rfl w.heap.size tabC.toArray rfl rfl 254 _ HK.out Tryz.sizeT rfl tab_one ?_)
 refine bodyPost_ret (v := .agg tabC.toArray) ?_ rfl ⟨rfl, ?_⟩
 ·exact results_cell_row Tryz.results170 _ _ w.heap.size 254 tabC.toArray (0, 0) _ rfl (Blk.row HK.out _) Tryz.underlying254 rfl Tryz.sizeT
 ·exact below_setRow HB.out (Nat.le_refl _) _
theorem nr_hit {s : ByteArray} {i : Nat} (hi : i < tab.length) (h : eqS tab[i].1 s = true) (ha : ∀ j (hj : j < i), eqS (tab[j]'(by omega)).1 s = false) : nrI s = tab[i].2 /\ knB s = true := by
 unfold nrI knB nrOf
 rw [find_at (p := fun p => eqS p.1 s) hi h ha]
 exact ⟨rfl, rfl⟩
theorem nr_none {s : ByteArray} (ha : ∀ j (hj : j < tab.length), eqS (tab[j]'hj).1 s = false) : nrI s = 0 /\ knB s = false := by
 unfold nrI knB nrOf
 rw [find_none (l := tab) (p := fun p => eqS p.1 s) ha]
 exact ⟨rfl, rfl⟩
theorem nm_hit {z : Int} {i : Nat} (hi : i < tab.length) (h : ((tab[i].2 : Int) == z) = true) (ha : ∀ j (hj : j < i), (((tab[j]'(by omega)).2 : Int) == z) = false) : nmS z = tab[i].1 /\ isNr z = true := by
 unfold nmS isNr nameOf
 rw [find_at (p := fun p => ((p.2 : Int) == z)) hi h ha]
 exact ⟨rfl, rfl⟩
theorem nm_none {z : Int} (ha : ∀ j (hj : j < tab.length), (((tab[j]'hj).2 : Int) == z) = false) : nmS z = ⟨#[]⟩ /\ isNr z = false := by
 unfold nmS isNr nameOf
 rw [find_none (l := tab) (p := fun p => ((p.2 : Int) == z)) ha]
 exact ⟨rfl, rfl⟩
theorem ret_two {k : IntKind} {a b : Int} {c d : Bool} (h : a = b) (h' : c = d) : Ending.returned (.tuple #[.int k a, .bool c]) = .returned (.tuple #[.int k b, .bool d]) := by rw [h, h']
theorem ret_twoS {a b : ByteArray} {c d : Bool} (h : a = b) (h' : c = d) : Ending.returned (.tuple #[.string a, .bool c]) = .returned (.tuple #[.string b, .bool d]) := by rw [h, h']
theorem nr_any (s : ByteArray) (w : World) : Calls Tryz.prog 147 #[.string s] w fun e w' => e = .returned (.tuple #[.int .u32 (nrI s), .bool (knB s)]) /\ Below w.heap.size w w' := by
 have HC : Hid (∀ W, Calls Tryz.prog 170 #[] W fun e w' => e = .returned (.agg tabC.toArray) /\ Below W.heap.size W w') := calls_any
 have HL : Hid (tab.length = 30) := tab_len
 generalize hT : tabC.toArray = TC at *
 go_enter Tryz.func147, Tryz.ntmps147
 go_wp2_with (go_at_call 170; refine (HC.out _).mono ?_; rintro e w1 ⟨rfl, b1⟩)
 go_loopw [7] (fun vi wr => ∃ i : Nat, vi = .int .i64 i /\ i <= 30 /\ (∀ j (hj : j < i) (hj2 : j < tab.length), eqS (tab[j]'hj2).1 s = false) /\ Below w.heap.size w wr) (fun vi _ => 30 - (intOf vi).toNat)
 case atStart => exact ⟨0, rfl, Nat.zero_le _, fun j hj => absurd hj (Nat.not_lt_zero _), b1⟩
 case round =>
  obtain ⟨i, rfl, hi, ha, hb⟩ := hrel
  have HA : Hid (∀ j (hj : j < i) (hj2 : j < tab.length), eqS (tab[j]'hj2).1 s = false) := ha
  have HB : Hid (Below w.heap.size w wr) := hb
  clear ha hb
  by_cases hlt : i < 30
  ·have hi1 : (i : Int) < 30 := by omega
   have hil : i < tab.length := by rw [HL.out]; exact hlt
   have hix : ∀ W : World, (Instr.index 254 (.agg TC) (.int .i64 i)).run Tryz.prog W = .ok (.agg #[.string tab[i].1, .int .u32 tab[i].2]) W := fun W => by rw [<- hT]; exact index_tab i hil W
   have HS : Hid (eqS tab[i].1 s = false -> ∀ j (hj : j < i + 1) (hj2 : j < tab.length), eqS (tab[j]'hj2).1 s = false) := fun hq j hj hj2 => by
    rcases Nat.lt_or_ge j i with h | h
    ·exact HA.out j h hj2
    ·obtain rfl : j = i := by omega
     exact hq
   have HF : Hid (eqS tab[i].1 s = true -> nrI s = tab[i].2 /\ knB s = true) := fun hq => nr_hit hil hq fun j hj => HA.out j hj _
   generalize tab[i] = p at *
   obtain ⟨nm, nr⟩ := p
   dsimp only at hix HS HF
   have BE : Hid (Below w.heap.size w (wr.alloc (Obj.cells #[.string nm, .int .u32 nr] 253))) := HB.out.alloc HB.out.size _
   clear HA hT HC
   rcases Bool.eq_false_or_eq_true (eqS nm s) with hq | hq
   ·have hq' : (nm.toList == s.toList) = true := (eqS_to _ _).trans hq
    go_wp2
    go_ret2
    exact ⟨ret_two (HF.out hq).1.symm (HF.out hq).2.symm, BE.out⟩
   ·have hq' : (nm.toList == s.toList) = false := (eqS_to _ _).trans hq
    go_wp2
    go_roundw
    case rel => exact ⟨i + 1, by go_num, hlt, HS.out hq, BE.out⟩
    case measure => simp [intOf]; omega
  ·have hge : ¬ (i : Int) < 30 := by omega
   have hF := nr_none (s := s) fun j hj => HA.out j (by have := HL.out; omega) hj
   have HF : Hid (nrI s = 0 /\ knB s = false) := hF
   clear hF HA
   go_wp2
   go_ret2
   exact ⟨ret_two HF.out.1.symm HF.out.2.symm, HB.out⟩
theorem name_any (z : Int) (w : World) : Calls Tryz.prog 183 #[.int .u32 z] w fun e w' => e = .returned (.tuple #[.string (nmS z), .bool (isNr z)]) /\ Below w.heap.size w w' := by
 have HC : Hid (∀ W, Calls Tryz.prog 170 #[] W fun e w' => e = .returned (.agg tabC.toArray) /\ Below W.heap.size W w') := calls_any
 have HL : Hid (tab.length = 30) := tab_len
 generalize hT : tabC.toArray = TC at *
 go_enter Tryz.func183, Tryz.ntmps183
 go_wp2_with (go_at_call 170; refine (HC.out _).mono ?_; rintro e w1 ⟨rfl, b1⟩)
 go_loopw [7] (fun vi wr => ∃ i : Nat, vi = .int .i64 i /\ i <= 30 /\ (∀ j (hj : j < i) (hj2 : j < tab.length), (((tab[j]'hj2).2 : Int) == z) = false) /\ Below w.heap.size w wr) (fun vi _ => 30 - (intOf vi).toNat)
 case atStart => exact ⟨0, rfl, Nat.zero_le _, fun j hj => absurd hj (Nat.not_lt_zero _), b1⟩
 case round =>
  obtain ⟨i, rfl, hi, ha, hb⟩ := hrel
  have HA : Hid (∀ j (hj : j < i) (hj2 : j < tab.length), (((tab[j]'hj2).2 : Int) == z) = false) := ha
  have HB : Hid (Below w.heap.size w wr) := hb
  clear ha hb
  by_cases hlt : i < 30
  ·have hi1 : (i : Int) < 30 := by omega
   have hil : i < tab.length := by rw [HL.out]; exact hlt
   have hix : ∀ W : World, (Instr.index 254 (.agg TC) (.int .i64 i)).run Tryz.prog W = .ok (.agg #[.string tab[i].1, .int .u32 tab[i].2]) W := fun W => by rw [<- hT]; exact index_tab i hil W
   have HS : Hid (((tab[i].2 : Int) == z) = false -> ∀ j (hj : j < i + 1) (hj2 : j < tab.length), (((tab[j]'hj2).2 : Int) == z) = false) := fun hq j hj hj2 => by
    rcases Nat.lt_or_ge j i with h | h
    ·exact HA.out j h hj2
    ·obtain rfl : j = i := by omega
     exact hq
   have HF : Hid (((tab[i].2 : Int) == z) = true -> nmS z = tab[i].1 /\ isNr z = true) := fun hq => nm_hit hil hq fun j hj => HA.out j hj _
   generalize tab[i] = p at *
   obtain ⟨nm, nr⟩ := p
   dsimp only at hix HS HF
   have BE : Hid (Below w.heap.size w (wr.alloc (Obj.cells #[.string nm, .int .u32 nr] 253))) := HB.out.alloc HB.out.size _
   clear HA hT HC
   generalize (nr : Int) = nz at *
   rcases Bool.eq_false_or_eq_true (nz == z) with hq | hq
   ·go_wp2
    go_ret2
    exact ⟨ret_twoS (HF.out hq).1.symm (HF.out hq).2.symm, BE.out⟩
   ·go_wp2
    go_roundw
    case rel => exact ⟨i + 1, by go_num, hlt, HS.out hq, BE.out⟩
    case measure => simp [intOf]; omega
  ·have hge : ¬ (i : Int) < 30 := by omega
   have hF := nm_none (z := z) fun j hj => HA.out j (by have := HL.out; omega) hj
   have HF : Hid (nmS z = ⟨#[]⟩ /\ isNr z = false) := hF
   clear hF HA
   go_wp2
   go_ret2
   exact ⟨ret_twoS HF.out.1.symm HF.out.2.symm, HB.out⟩
end Go.Proofs.YtmcgcbgblgmmkaaGreatDoor.M
