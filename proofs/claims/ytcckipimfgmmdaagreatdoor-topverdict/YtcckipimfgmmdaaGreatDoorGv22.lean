/-
  Texts of this seat, joined: MMath, MMem, MSize, MSBase, MSRight.
-/
import Derived.Laws.RangeAny
import Derived.Laws.Strings2
import Derived.WalkKit
import Derived.Test.YtcckipimfgmmdaaGreatDoorChecked
import Derived.WalkSpells
import Derived.WalkLawsBesides
import Derived.Laws.AppendOwnNone
import Derived.Laws.MakeOwn
import Derived.Laws.OwnMore
import Derived.Laws.Rows
import Derived.Laws.Tables
import Derived.Laws.CopyOwn
import Derived.Laws.StructEq
import Derived.Laws.RangeString
import Derived.Laws.IdiomStrings
import Derived.Deep.Slices

namespace Go.Proofs.YtcckipimfgmmdaaGreatDoor.M
open Go

def bar (l : (List UInt8)) : ByteArray := ⟨l.toArray⟩
def lst (s : ByteArray) : (List UInt8) := s.data.toList

theorem bar_lst (s : ByteArray) : bar (lst s) = s := by cases s; simp [bar, lst]
theorem lst_length (s : ByteArray) : (lst s).length = s.size := Array.length_toList
theorem lst_at (s : ByteArray) (i : Nat) (h : i < s.size) : (lst s)[i]? = some (s[i]'h) := by
  rw [List.getElem?_eq_getElem (by rw [lst_length]; exact h)]
  rfl
def loN (n : Nat) : Bool := decide (97 ≤ n) && decide (n ≤ 122)
def dgN (n : Nat) : Bool := decide (48 ≤ n) && decide (n ≤ 57)
def wN (n : Nat) : Bool := loN n || dgN n || n == 95
def ofW (c : UInt8) : Bool := wN c.toNat
theorem wN_high {n : Nat} (h : 128 ≤ n) : wN n = false := by
  have h1 : ¬ n ≤ 122 := by omega
  have h2 : ¬ n ≤ 57 := by omega
  have h3 : ¬ n = 95 := by omega
  simp [wN, loN, dgN, h1, h2, h3]
theorem take_while_eq (p : UInt8 → Bool) (l : (List UInt8)) (n : Nat) (hn : n ≤ l.length) (h : ∀ i c, i < n → l[i]? = some c → p c = true) (h' : ∀ c, l[n]? = some c → p c = false) : (l.takeWhile p).length = n := by
  induction l generalizing n with
  | nil => simp at hn; rw [hn]; rfl
  | cons d r ih =>
    cases n with
    | zero =>
      have := h' d rfl
      rw [List.takeWhile_cons, if_neg (by rw [this]; decide)]
      rfl
    | succ n =>
      have h0 := h 0 d (by omega) rfl
      rw [List.takeWhile_cons, if_pos h0, List.length_cons]
      rw [ih n (by simpa using hn) (fun i c hi hc => h (i + 1) c (by omega) (by simpa using hc)) (fun c hc => h' c (by simpa using hc))]

theorem get_byte (s : ByteArray) (i : Nat) (h : i < s.size) : s.get! i = s[i]'h := by
  simp [ByteArray.get!, getElem!_pos, h]
  rfl

theorem decode_tail (s : ByteArray) (pos : Nat) (_h : pos < s.size) : ∀ k, 1 ≤ k → k < (Utf8.decode s pos).2 → ∃ c, (lst s)[pos + k]? = some c ∧ 128 ≤ c.toNat := by
  intro k h1 h2
  have key : (decide (pos + k < s.size) && (s.get! (pos + k)).toNat / 64 == 2) = true → ∃ c, (lst s)[pos + k]? = some c ∧ 128 ≤ c.toNat := by
    intro hk
    simp at hk
    refine ⟨_, lst_at s _ hk.1, ?_⟩
    rw [get_byte s _ hk.1] at hk
    omega
  apply key
  simp only [Utf8.decode] at h2
  repeat' split at h2
  all_goals first | omega | skip
  all_goals simp only [Bool.and_eq_true] at *
  · have : k = 1 := by change k < 2 at h2; omega
    subst this
    simp_all
  · have : k = 1 ∨ k = 2 := by change k < 3 at h2; omega
    rcases this with rfl | rfl <;> simp_all
  · have : k = 1 ∨ k = 2 ∨ k = 3 := by change k < 4 at h2; omega
    rcases this with rfl | rfl | rfl <;> simp_all

theorem width_pos (s : ByteArray) (pos : Nat) (h : pos < s.size) : 1 ≤ (Utf8.decode s pos).2 := by
  by_cases ha : (s[pos]'h).toNat < 128
  · rw [decode_ascii s pos h ha]
    exact Nat.le_refl _
  · exact (decode_high s pos h (by omega)).2

theorem width_le (s : ByteArray) (pos : Nat) (h : pos < s.size) : pos + (Utf8.decode s pos).2 ≤ s.size := by
  rcases Nat.lt_or_ge 1 (Utf8.decode s pos).2 with h1 | h1
  · obtain ⟨c, hc, _⟩ := decode_tail s pos h ((Utf8.decode s pos).2 - 1) (by omega) (by omega)
    have := (List.getElem?_eq_some_iff.1 hc).1
    rw [lst_length] at this
    omega
  · omega

theorem drop_cons (s : ByteArray) (pos : Nat) (h : pos < s.size) : (lst s).drop pos = s[pos]'h :: (lst s).drop (pos + 1) := by
  rw [List.drop_eq_getElem_cons (by rw [lst_length]; exact h)]
  rfl

def U32 (x : Int) : Prop := 0 ≤ x ∧ x ≤ 4294967295
def U64 (x : Int) : Prop := 0 ≤ x ∧ x ≤ 18446744073709551615

def rightB (a o : Int) : Bool := decide (0 ≤ a) && decide (a < 6) && decide (1 ≤ o) && decide (o ≤ 6)

def heldB (o x v : Int) : Bool :=
  if (o == 1) = true then x == v else if (o == 2) = true then !(x == v) else if (o == 3) = true then decide (x < v) else if (o == 4) = true then decide (x ≤ v) else if (o == 5) = true then decide (v < x) else o == 6 && decide (v ≤ x)

def an (x m : Int) : Int := bits BinOp.and IntKind.u64 x m

def holdN (a o m v x : Int) : Bool := rightB a o && heldB o (an x m) v

theorem right_bd {a o : Int} (h : rightB a o = true) : 0 ≤ a ∧ a < 6 ∧ 1 ≤ o ∧ o ≤ 6 := by
  simp only [rightB, Bool.and_eq_true, decide_eq_true_eq] at h
  omega

theorem six {o : Int} (h1 : 1 ≤ o) (h6 : o ≤ 6) : o = 1 ∨ o = 2 ∨ o = 3 ∨ o = 4 ∨ o = 5 ∨ o = 6 := by omega

end Go.Proofs.YtcckipimfgmmdaaGreatDoor.M

namespace Go.Proofs.YtcckipimfgmmdaaGreatDoor.M
open Go.RowKit

theorem ret_int {k : IntKind} {a b : Int} (h : a = b) : Ending.returned (.int k a) = .returned (.int k b) := by rw [h]
theorem ret_bool {a b : Bool} (h : a = b) : Ending.returned (.bool a) = .returned (.bool b) := by rw [h]

theorem size_alloc' (w : World) (o : Obj) : (w.alloc o).heap.size = w.heap.size + 1 := by
  show (w.heap.push o).size = _
  simp

theorem below_drewN (w : World) (n : Nat) : Below w.heap.size w (w.drewN n) := by
  induction n with
  | zero => exact Below.refl _ _
  | succ n ih => exact ih.drew

def Blk (w : World) (b : Nat) (t : TypeId) (l : List Value) : Prop := w.heap[b]? = some (.cells l.toArray t (0, 0))

section
variable {w : World} {b : Nat} {t : TypeId} {l : List Value}
theorem Blk.cell (h : Blk w b t l) (i : Nat) : w.cell? ⟨b, i, none⟩ = l[i]? := by
  rw [cell_of_row w b i _ _ _ h]
  simp
theorem Blk.f (h : Blk w b t l) (i : Nat) : w.frozen? ⟨b, i, none⟩ = false := frozen_of_row w b i _ _ h
theorem Blk.lt (h : Blk w b t l) : b < w.heap.size := lt_of_block h
theorem Blk.below {w' : World} {B : Nat} (h : Blk w b t l) (hb : Below B w w') (hB : b < B) : Blk w' b t l := by unfold Blk; rw [hb.block b hB]; exact h
theorem Blk.over {w' : World} (h : Blk w b t l) (hb : Below w.heap.size w w') : Blk w' b t l := h.below hb h.lt
theorem Blk.set (h : Blk w b t l) (i : Nat) (v : Value) : Blk (w.setCell ⟨b, i, none⟩ v) b t (l.set i v) := by
  have := heap_setCell_same w b i _ _ v h
  unfold Blk
  rw [this]
  simp
theorem Blk.other (h : Blk w b t l) (a : Addr) (v : Value) (hne : b ≠ a.block) : Blk (w.setCell a v) b t l := by
  unfold Blk
  rw [heap_setCell_other w a b v hne]
  exact h
theorem Blk.row (h : Blk w b t l) (cs : Array Value) : Blk (w.setRow b cs) b t cs.toList := by
  unfold Blk
  rw [setRow_heap w b _ cs _ _ h]
theorem Blk.alloc (h : Blk w b t l) (o : Obj) : Blk (w.alloc o) b t l := by
  unfold Blk
  have hb : Below w.heap.size w (w.alloc o) := (Below.refl _ _).alloc (Nat.le_refl _) _
  rw [hb.block b h.lt]
  exact h
end

theorem blk_new (w : World) (cs : Array Value) (t : TypeId) : Blk (w.alloc (Obj.cells cs t)) w.heap.size t cs.toList := by
  unfold Blk
  rw [heap_alloc_new]

section
variable {w : World} {b : Nat} {t : TypeId} {l : List Value}
theorem Blk.drew (h : Blk w b t l) : Blk w.drew b t l := h
end

theorem Tryz.sizeD : (Tryz.prog.info? 27).map (·.size) = some 9 := by kernel_rfl

theorem blk_new' (w : World) (o : Obj) (cs : Array Value) (t : TypeId) : Blk ((w.alloc o).alloc (Obj.cells cs t)) (w.heap.size + 1) t cs.toList := by
  have := blk_new (w.alloc o) cs t
  rw [size_alloc'] at this
  exact this

theorem below_new (w : World) (o : Obj) : Below w.heap.size w (w.alloc o) := (Below.refl _ _).alloc (Nat.le_refl _) _

structure Da where
  n : Int
  a : Int
  p : Int
  g : List Int

def Da.ok (d : Da) : Prop := U32 d.n ∧ U32 d.a ∧ U64 d.p ∧ d.g.length = 6 ∧ ∀ z ∈ d.g, U64 z

def Da.cells (d : Da) : List Value := .int .u32 d.n :: .int .u32 d.a :: .int .u64 d.p :: d.g.map (Value.int .u64)
def Da.val (d : Da) : Value := .agg d.cells.toArray

theorem Da.cells_len (d : Da) (h : d.ok) : d.cells.length = 9 := by simp [Da.cells, h.2.2.2.1]
theorem Da.size (d : Da) (h : d.ok) : (Tryz.prog.info? 27).map (·.size) = some d.cells.toArray.size := by rw [Tryz.sizeD]; simp [d.cells_len h]

theorem Da.arg (d : Da) (h : d.ok) (k : Nat) (hk : k < 6) : d.cells[3 + k]? = some (.int .u64 (d.g.getD k 0)) ∧ U64 (d.g.getD k 0) := by
  have hl := h.2.2.2.1
  have e : d.g[k]? = some (d.g.getD k 0) := by
    rw [List.getD_eq_getElem?_getD, List.getElem?_eq_getElem (show k < d.g.length by omega)]
    rfl
  refine ⟨?_, h.2.2.2.2 _ (List.mem_of_getElem? e)⟩
  rw [Nat.add_comm]
  unfold Da.cells
  rw [List.getElem?_cons_succ, List.getElem?_cons_succ, List.getElem?_cons_succ, List.getElem?_map, e]
  rfl

theorem room_below (w : World) (o o' : Obj) : Below w.heap.size w ((w.alloc o).alloc o') := (below_new w o).alloc (below_new w o).size _

end Go.Proofs.YtcckipimfgmmdaaGreatDoor.M

namespace Go.Proofs.YtcckipimfgmmdaaGreatDoor.M
open Go.RowKit

theorem lo_any (n : Nat) (w : World) : Calls Tryz.prog 69 #[.int .i32 n] w fun e w' => e = .returned (.bool (loN n)) ∧ w' = w := by
  rcases Bool.eq_false_or_eq_true (decide (97 ≤ (n : Int))) with h1 | h1
  · go_enter Tryz.func69, Tryz.ntmps69
    go_wp2
    go_ret
    exact ⟨ret_bool (by unfold loN; rw [show decide (97 ≤ n) = true from by simp at h1 ⊢; omega]; simp; omega), rfl⟩
  · go_enter Tryz.func69, Tryz.ntmps69
    go_wp2
    go_ret
    exact ⟨ret_bool (by unfold loN; rw [show decide (97 ≤ n) = false from by simp at h1 ⊢; omega]; rfl), rfl⟩

theorem dg_any (n : Nat) (w : World) : Calls Tryz.prog 72 #[.int .i32 n] w fun e w' => e = .returned (.bool (dgN n)) ∧ w' = w := by
  rcases Bool.eq_false_or_eq_true (decide (48 ≤ (n : Int))) with h1 | h1
  · go_enter Tryz.func72, Tryz.ntmps72
    go_wp2
    go_ret
    exact ⟨ret_bool (by unfold dgN; rw [show decide (48 ≤ n) = true from by simp at h1 ⊢; omega]; simp; omega), rfl⟩
  · go_enter Tryz.func72, Tryz.ntmps72
    go_wp2
    go_ret
    exact ⟨ret_bool (by unfold dgN; rw [show decide (48 ≤ n) = false from by simp at h1 ⊢; omega]; rfl), rfl⟩

theorem w_any (n : Nat) (w : World) : Calls Tryz.prog 71 #[.int .i32 n] w fun e w' => e = .returned (.bool (wN n)) ∧ w' = w := by
  rcases Bool.eq_false_or_eq_true (loN n) with h1 | h1
  · go_enter Tryz.func71, Tryz.ntmps71
    go_wp2_with (first | (go_at_call 69; refine (lo_any n _).mono ?_; rintro e w' ⟨rfl, rfl⟩; rw [h1]) | (go_at_call 72; refine (dg_any n _).mono ?_; rintro e w' ⟨rfl, rfl⟩))
    go_ret
    exact ⟨ret_bool (by unfold wN; rw [h1]; rfl), rfl⟩
  · rcases Bool.eq_false_or_eq_true (dgN n) with h2 | h2
    · go_enter Tryz.func71, Tryz.ntmps71
      go_wp2_with (first | (go_at_call 69; refine (lo_any n _).mono ?_; rintro e w' ⟨rfl, rfl⟩; rw [h1]) | (go_at_call 72; refine (dg_any n _).mono ?_; rintro e w' ⟨rfl, rfl⟩; rw [h2]))
      go_ret
      exact ⟨ret_bool (by unfold wN; rw [h1, h2]; rfl), rfl⟩
    · go_enter Tryz.func71, Tryz.ntmps71
      go_wp2_with (first | (go_at_call 69; refine (lo_any n _).mono ?_; rintro e w' ⟨rfl, rfl⟩; rw [h1]) | (go_at_call 72; refine (dg_any n _).mono ?_; rintro e w' ⟨rfl, rfl⟩; rw [h2]))
      go_ret
      refine ⟨ret_bool ?_, rfl⟩
      unfold wN
      rw [h1, h2]
      rcases Bool.eq_false_or_eq_true (n == 95) with h3 | h3 <;> rw [h3] <;> simp at h3 ⊢ <;> omega

theorem ib {n : Nat} {k : Int} {m : Nat} (h : k = m) : ((n : Int) == k) = (n == m) := by
  subst h
  rcases Bool.eq_false_or_eq_true (n == m) with h3 | h3 <;> rw [h3] <;> simp at h3 ⊢ <;> omega

def Run (p : UInt8 → Bool) (l : (List UInt8)) (pos : Nat) : Prop := pos ≤ l.length ∧ ∀ i c, i < pos → l[i]? = some c → p c = true

theorem Run.last {p : UInt8 → Bool} {s : ByteArray} {pos : Nat} (h : Run p (lst s) pos) (hp : ¬ pos < s.size) : ((lst s).takeWhile p).length = s.size := by
  have h1 := h.1
  rw [lst_length] at h1
  obtain rfl : pos = s.size := by omega
  exact take_while_eq p _ _ h.1 h.2 (fun c hc => by have := (List.getElem?_eq_some_iff.1 hc).1; rw [lst_length] at this; omega)

theorem Run.stop {p : UInt8 → Bool} {s : ByteArray} {pos : Nat} (h : Run p (lst s) pos) (hp : pos < s.size) (hn : p (s[pos]'hp) = false) : ((lst s).takeWhile p).length = pos :=
  take_while_eq p _ _ h.1 h.2 (fun c hc => by rw [lst_at s pos hp] at hc; cases hc; exact hn)

structure Kind (q : Nat → Bool) (b : Bool) : Prop where
  high : ∀ n, 128 ≤ n → q n = b

theorem Kind.rune {q : Nat → Bool} {b : Bool} (h : Kind q b) (s : ByteArray) (pos : Nat) (hp : pos < s.size) : q (Utf8.decode s pos).1 = q (s[pos]'hp).toNat := by
  rcases Nat.lt_or_ge (s[pos]'hp).toNat 128 with ha | ha
  · rw [decode_ascii s pos hp ha]
  · rw [h.high _ ha, h.high _ (decode_high s pos hp ha).1]

theorem Kind.step {q : Nat → Bool} {b : Bool} (h : Kind q b) {s : ByteArray} {pos : Nat} (hr : Run (fun c => q c.toNat) (lst s) pos) (hp : pos < s.size) (hq : q (Utf8.decode s pos).1 = true) : Run (fun c => q c.toNat) (lst s) (pos + (Utf8.decode s pos).2) := by
  refine ⟨by rw [lst_length]; exact width_le s pos hp, fun i c hi hc => ?_⟩
  rcases Nat.lt_trichotomy i pos with h1 | h1 | h1
  · exact hr.2 i c h1 hc
  · subst h1
    rw [lst_at s i hp] at hc
    cases hc
    show q _ = true
    rw [← h.rune s i hp]
    exact hq
  · obtain ⟨d, hd, hd1⟩ := decode_tail s pos hp (i - pos) (by omega) (by omega)
    rw [show pos + (i - pos) = i from by omega, hc] at hd
    cases hd
    show q _ = true
    rw [h.high _ hd1]
    rcases Nat.lt_or_ge (s[pos]'hp).toNat 128 with ha | ha
    · rw [decode_ascii s pos hp ha] at hi
      simp at hi
      omega
    · rw [h.high _ (decode_high s pos hp ha).1] at hq
      exact hq

theorem kindW : Kind wN false := ⟨fun _ h => wN_high h⟩
set_option maxHeartbeats 800000 in
theorem sizeW_any (s : ByteArray) (w : World) :
    Calls Tryz.prog 41 #[.string s, .func (.func 71) #[] #[]] w fun e w' => e = .returned (.int .i64 ((lst s).takeWhile ofW).length) ∧ Below w.heap.size w w' := by
  go_enter Tryz.func41, Tryz.ntmps41
  go_wp2
  go_loopw [4] (fun n w' => n = .int .i64 0 ∧ ∃ pos, w' = w.iter s pos ∧ Run ofW (lst s) pos) (fun _ w' => s.size - w'.iterPos w.heap.size)
  case atStart => exact ⟨rfl, 0, rfl, Nat.zero_le _, fun i c h => by omega⟩
  case round =>
    obtain ⟨rfl, pos, rfl, hr⟩ := hrel
    have hbe : Below w.heap.size w (w.iter s pos) := (Below.refl _ _).alloc (Nat.le_refl _) _
    by_cases hp : pos < s.size
    · have hnx : ∀ ty, (Instr.next (.pointer (some ⟨w.heap.size, 0, none⟩)) true ty).run Tryz.prog (w.iter s pos) = _ := fun ty => run_next_any w s pos ty hp
      have hwd := width_pos s pos hp
      rcases Bool.eq_false_or_eq_true (wN (Utf8.decode s pos).1) with hq | hq
      · go_wp2_with (go_at_call 71; refine (w_any _ _).mono ?_; rintro e w' ⟨rfl, rfl⟩; rw [hq])
        go_roundw
        case rel => exact ⟨rfl, _, rfl, kindW.step hr hp hq⟩
        case measure => simp; omega
      · go_wp2_with (go_at_call 71; refine (w_any _ _).mono ?_; rintro e w' ⟨rfl, rfl⟩; rw [hq])
        go_ret
        exact ⟨ret_int (by rw [hr.stop hp (by rw [kindW.rune s pos hp] at hq; exact hq)]), (Below.refl _ _).alloc (Nat.le_refl _) _⟩
    · have hnx : ∀ ty, (Instr.next (.pointer (some ⟨w.heap.size, 0, none⟩)) true ty).run Tryz.prog (w.iter s pos) = _ := fun ty => run_next_end w s pos ty hp
      go_wp2
      go_ret
      exact ⟨ret_int (by rw [hr.last hp]), hbe⟩

end Go.Proofs.YtcckipimfgmmdaaGreatDoor.M

namespace Go.Proofs.YtcckipimfgmmdaaGreatDoor.M
open Go.RowKit

structure Xc where
  arg : Int
  op : Int
  mask : Int
  val : Int
structure Xl where
  k : Int
  a : Int
  names : List ByteArray
  conds : List Xc
structure Xr where
  r : Xl
  vn : Value
  vc : Value

theorem cellS {w w' : World} {a : Addr} {v : Value} (h : w.cell? a = some v) (hb : w'.heap[a.block]? = w.heap[a.block]?) : w'.cell? a = some v := by
  rw [World.cell?_of_block hb]
  exact h

def StrR (w : World) (v : Value) (l : List ByteArray) : Prop :=
  ∃ a cap, v = .slice a l.length cap ∧ l.length ≤ cap ∧ cap ≤ 9223372036854775807 ∧ (0 < l.length → ∃ b o, a = some ⟨b, o, none⟩ ∧ ∀ (i : Nat) (s : ByteArray), l[i]? = some s → w.cell? ⟨b, o + i, none⟩ = some (.string s))

def Xc.at (x : Xc) (w : World) (b o : Nat) : Prop :=
  w.cell? ⟨b, o, none⟩ = some (.int .i64 x.arg) ∧ w.cell? ⟨b, o + 1, none⟩ = some (.int .i64 x.op) ∧ w.cell? ⟨b, o + 2, none⟩ = some (.int .u64 x.mask) ∧ w.cell? ⟨b, o + 3, none⟩ = some (.int .u64 x.val)
def CdR (w : World) (v : Value) (l : List Xc) : Prop :=
  ∃ a cap, v = .slice a l.length cap ∧ l.length ≤ cap ∧ cap ≤ 9223372036854775807 ∧ (0 < l.length → ∃ b o, a = some ⟨b, o, none⟩ ∧ ∀ (i : Nat) (x : Xc), l[i]? = some x → x.at w b (o + i * 4))

def Xr.at (x : Xr) (w : World) (b o : Nat) : Prop :=
  w.cell? ⟨b, o, none⟩ = some (.int .i64 x.r.k) ∧ w.cell? ⟨b, o + 1, none⟩ = some (.int .i64 x.r.a) ∧ w.cell? ⟨b, o + 2, none⟩ = some x.vn ∧ w.cell? ⟨b, o + 3, none⟩ = some x.vc
def RlR (w : World) (v : Value) (l : List Xr) : Prop :=
  ∃ a cap, v = .slice a l.length cap ∧ l.length ≤ cap ∧ cap ≤ 9223372036854775807 ∧ (0 < l.length → ∃ b o, a = some ⟨b, o, none⟩ ∧ ∀ (i : Nat) (x : Xr), l[i]? = some x → x.at w b (o + i * 4)) ∧ ∀ x ∈ l, StrR w x.vn x.r.names ∧ CdR w x.vc x.r.conds

theorem Xc.at.below {x : Xc} {w w' : World} {b o : Nat} (h : x.at w b o) (hb : Below w.heap.size w w') : x.at w' b o := by
  have q := hb.block b (World.block_lt_of_cell? w _ h.1)
  exact ⟨cellS h.1 q, cellS h.2.1 q, cellS h.2.2.1 q, cellS h.2.2.2 q⟩
theorem Xr.at.below {x : Xr} {w w' : World} {b o : Nat} (h : x.at w b o) (hb : Below w.heap.size w w') : x.at w' b o := by
  have q := hb.block b (World.block_lt_of_cell? w _ h.1)
  exact ⟨cellS h.1 q, cellS h.2.1 q, cellS h.2.2.1 q, cellS h.2.2.2 q⟩
theorem StrR.below {w w' : World} {v : Value} {l : List ByteArray} (h : StrR w v l) (hb : Below w.heap.size w w') : StrR w' v l := by
  obtain ⟨a, cap, rfl, h1, h2, hc⟩ := h
  refine ⟨a, cap, rfl, h1, h2, fun h0 => ?_⟩
  obtain ⟨b, o, rfl, hx⟩ := hc h0
  exact ⟨b, o, rfl, fun i x hi => cellS (hx i x hi) (hb.block b (World.block_lt_of_cell? w _ (hx i x hi)))⟩
theorem CdR.below {w w' : World} {v : Value} {l : List Xc} (h : CdR w v l) (hb : Below w.heap.size w w') : CdR w' v l := by
  obtain ⟨a, cap, rfl, h1, h2, hc⟩ := h
  refine ⟨a, cap, rfl, h1, h2, fun h0 => ?_⟩
  obtain ⟨b, o, rfl, hx⟩ := hc h0
  exact ⟨b, o, rfl, fun i x hi => (hx i x hi).below hb⟩
theorem RlR.below {w w' : World} {v : Value} {l : List Xr} (h : RlR w v l) (hb : Below w.heap.size w w') : RlR w' v l := by
  obtain ⟨a, cap, rfl, h1, h2, hc, hr⟩ := h
  refine ⟨a, cap, rfl, h1, h2, fun h0 => ?_, fun x hx => ⟨(hr x hx).1.below hb, (hr x hx).2.below hb⟩⟩
  obtain ⟨b, o, rfl, hx⟩ := hc h0
  exact ⟨b, o, rfl, fun i x hi => (hx i x hi).below hb⟩

theorem strR_at {w : World} {p : Option Addr} {n c i : Nat} {l : List ByteArray} (h : StrR w (.slice p n c) l) (hi : i < l.length) : ∃ b o, p = some ⟨b, o, none⟩ ∧ w.cell? ⟨b, o + i, none⟩ = some (.string l[i]) := by
  obtain ⟨a, cap, e, _, _, hc⟩ := h
  cases e
  obtain ⟨b, o, hb, hx⟩ := hc (by omega)
  exact ⟨b, o, hb, hx i _ (List.getElem?_eq_getElem hi)⟩
theorem cdR_at {w : World} {p : Option Addr} {n c i : Nat} {l : List Xc} (h : CdR w (.slice p n c) l) (hi : i < l.length) : ∃ b o, p = some ⟨b, o, none⟩ ∧ l[i].at w b (o + i * 4) := by
  obtain ⟨a, cap, e, _, _, hc⟩ := h
  cases e
  obtain ⟨b, o, hb, hx⟩ := hc (by omega)
  exact ⟨b, o, hb, hx i _ (List.getElem?_eq_getElem hi)⟩
theorem rlR_at {w : World} {p : Option Addr} {n c i : Nat} {l : List Xr} (h : RlR w (.slice p n c) l) (hi : i < l.length) : ∃ b o, p = some ⟨b, o, none⟩ ∧ l[i].at w b (o + i * 4) := by
  obtain ⟨a, cap, e, _, _, hc, _⟩ := h
  cases e
  obtain ⟨b, o, hb, hx⟩ := hc (by omega)
  exact ⟨b, o, hb, hx i _ (List.getElem?_eq_getElem hi)⟩

theorem owns_new {w : World} {base : Nat} (t : TypeId) (l : List Value) (hb : base ≤ w.heap.size) (h0 : 0 < l.length) (hl : l.length ≤ 1000) : (w.alloc (Obj.cells l.toArray t)).ownsRow base t 1 (.slice (some ⟨w.heap.size, 0, none⟩) l.length l.length) l.length l := by
  refine ⟨by omega, .inr ⟨w.heap.size, l.length, l.toArray, rfl, hb, heap_alloc_new _ _, Nat.le_refl _, by unfold maxLen; omega, by simp, by simp⟩⟩

end Go.Proofs.YtcckipimfgmmdaaGreatDoor.M

namespace Go.Proofs.YtcckipimfgmmdaaGreatDoor.M
open Go.RowKit

def isWd (l : (List UInt8)) : Bool :=
  match l with
  | [] => false
  | c :: r => loN c.toNat && decide (((c :: r).takeWhile ofW).length = (c :: r).length)

theorem isWd_at (s : ByteArray) (h : 0 < s.size) : isWd (lst s) = (loN (s[0]'h).toNat && decide (((lst s).takeWhile ofW).length = s.size)) := by
  have hc := drop_cons s 0 h
  rw [List.drop_zero] at hc
  rw [← lst_length s]
  rw [hc]
  rfl

theorem ibd' (a b : Nat) : ((a : Int) == (b : Int)) = decide (a = b) := by
  rw [Bool.eq_iff_iff]
  simp
  omega

set_option maxHeartbeats 800000 in
theorem is_any (s : ByteArray) (w : World) :
    Calls Tryz.prog 100 #[.string s] w fun e w' => e = .returned (.bool (isWd (lst s))) ∧ Below w.heap.size w w' := by
  by_cases h0 : 0 < s.size
  · have hemp : s.toList.isEmpty = false := by
      rw [show s.toList = lst s from ByteArray.toList_eq s]
      cases h : lst s with
      | nil => have := lst_length s; rw [h] at this; simp at this; omega
      | cons c r => rfl
    have HI : Hid (isWd (lst s) = (loN (s[0]'h0).toNat && decide (((lst s).takeWhile ofW).length = s.size))) := isWd_at s h0
    have HQ : Hid (∀ W, Calls Tryz.prog 41 #[.string s, .func (.func 71) #[] #[]] W fun e w' => e = .returned (.int .i64 ((lst s).takeWhile ofW).length) ∧ Below W.heap.size W w') := sizeW_any s
    generalize ((lst s).takeWhile ofW).length = L at *
    have hb : (s[0]'h0).toNat < 256 := (s[0]'h0).toNat_lt
    rcases Bool.eq_false_or_eq_true (loN (s[0]'h0).toNat) with hl | hl
    · go_enter Tryz.func100, Tryz.ntmps100
      go_wp2_with (first | (go_at_call 69; refine (lo_any _ _).mono ?_; rintro e w1 ⟨rfl, rfl⟩; rw [hl]) | (go_at_call 41; refine (HQ.out _).mono ?_; rintro e w1 ⟨rfl, b1⟩))
      go_ret
      refine ⟨ret_bool ?_, b1⟩
      rw [HI.out, hl]
      exact ibd' L s.size
    · go_enter Tryz.func100, Tryz.ntmps100
      go_wp2_with (first | (go_at_call 69; refine (lo_any _ _).mono ?_; rintro e w1 ⟨rfl, rfl⟩; rw [hl]) | (go_at_call 41; refine (HQ.out _).mono ?_; rintro e w1 ⟨rfl, b1⟩))
      go_ret
      refine ⟨ret_bool ?_, Below.refl _ _⟩
      rw [HI.out, hl]
      rfl
  · have e : s = ⟨#[]⟩ := ByteArray.ext (Array.eq_empty_of_size_eq_zero (by show s.data.size = 0; have : s.size = s.data.size := rfl; omega))
    subst e
    go_enter Tryz.func100, Tryz.ntmps100
    go_wp2
    go_ret
    exact ⟨rfl, Below.refl _ _⟩

def hasN (k : Int) : Bool := k == 3 || k == 4 || k == 6

theorem hasArg_any (k : Int) (w : World) : Calls Tryz.prog 56 #[.int .i64 k] w fun e w' => e = .returned (.bool (hasN k)) ∧ w' = w := by
  unfold hasN
  rcases Bool.eq_false_or_eq_true (k == 3) with h1 | h1
  · go_enter Tryz.func56, Tryz.ntmps56
    go_wp2
    go_ret
    exact ⟨ret_bool (by rw [h1]; rfl), rfl⟩
  · rcases Bool.eq_false_or_eq_true (k == 4) with h2 | h2
    · go_enter Tryz.func56, Tryz.ntmps56
      go_wp2
      go_ret
      exact ⟨ret_bool (by rw [h1, h2]; rfl), rfl⟩
    · go_enter Tryz.func56, Tryz.ntmps56
      go_wp2
      go_ret
      exact ⟨ret_bool (by rw [h1, h2]; rfl), rfl⟩

def actB (k a : Int) : Bool := decide (1 ≤ k) && decide (k ≤ 8) && (if hasN k then decide (0 ≤ a) && decide (a ≤ 65535) else a == 0)

theorem actB_mk {k a : Int} (h1 : 1 ≤ k) (h2 : k ≤ 8) : actB k a = (if hasN k then decide (0 ≤ a) && decide (a ≤ 65535) else a == 0) := by
  unfold actB
  rw [decide_eq_true h1, decide_eq_true h2]
  rfl
theorem actB_no {k a : Int} (h : k < 1 ∨ 8 < k) : actB k a = false := by
  unfold actB
  rcases h with h | h
  · rw [decide_eq_false (by omega : ¬ 1 ≤ k)]; rfl
  · rw [decide_eq_false (by omega : ¬ k ≤ 8)]; simp

theorem actR_any (k a : Int) (w : World) : Calls Tryz.prog 27 #[.agg #[.int .i64 k, .int .i64 a]] w fun e w' => e = .returned (.bool (actB k a)) ∧ Below w.heap.size w w' := by
  have be : Below w.heap.size w (w.alloc (Obj.cells #[.int .i64 k, .int .i64 a] 36)) := (Below.refl _ _).alloc (Nat.le_refl _) _
  by_cases h1 : k < 1
  · have HE : Hid (actB k a = false) := actB_no (.inl h1)
    have hd : decide (k < 1) = true := decide_eq_true h1
    go_enter Tryz.func27, Tryz.ntmps27
    go_wp2
    go_ret
    exact ⟨ret_bool HE.out.symm, be⟩
  · have hd : decide (k < 1) = false := decide_eq_false h1
    by_cases h2 : 8 < k
    · have HE : Hid (actB k a = false) := actB_no (.inr h2)
      have hd2 : decide (8 < k) = true := decide_eq_true h2
      go_enter Tryz.func27, Tryz.ntmps27
      go_wp2
      go_ret
      exact ⟨ret_bool HE.out.symm, be⟩
    · have hd2 : decide (8 < k) = false := decide_eq_false h2
      have HE : Hid (actB k a = (if hasN k then decide (0 ≤ a) && decide (a ≤ 65535) else a == 0)) := actB_mk (by omega) (by omega)
      rcases Bool.eq_false_or_eq_true (hasN k) with h3 | h3
      · by_cases h4 : 0 ≤ a
        · have h5 : decide (0 ≤ a) = true := decide_eq_true h4
          go_enter Tryz.func27, Tryz.ntmps27
          go_wp2_with (go_at_call 56; refine (hasArg_any _ _).mono ?_; rintro e w1 ⟨rfl, rfl⟩; rw [h3])
          go_ret
          exact ⟨ret_bool (by rw [HE.out, h3, h5]; rfl), be⟩
        · have h5 : decide (0 ≤ a) = false := decide_eq_false h4
          go_enter Tryz.func27, Tryz.ntmps27
          go_wp2_with (go_at_call 56; refine (hasArg_any _ _).mono ?_; rintro e w1 ⟨rfl, rfl⟩; rw [h3])
          go_ret
          exact ⟨ret_bool (by rw [HE.out, h3, h5]; rfl), be⟩
      · go_enter Tryz.func27, Tryz.ntmps27
        go_wp2_with (go_at_call 56; refine (hasArg_any _ _).mono ?_; rintro e w1 ⟨rfl, rfl⟩; rw [h3])
        go_ret
        exact ⟨ret_bool (by rw [HE.out, h3]; rfl), be⟩

def condB (x : Xc) : Bool := decide (0 ≤ x.arg) && decide (x.arg < 6) && decide (1 ≤ x.op) && decide (x.op ≤ 6)

theorem condR_any (x : Xc) (w : World) : Calls Tryz.prog 102 #[.agg #[.int .i64 x.arg, .int .i64 x.op, .int .u64 x.mask, .int .u64 x.val]] w fun e w' => e = .returned (.bool (condB x)) ∧ Below w.heap.size w w' := by
  have be : Below w.heap.size w (w.alloc (Obj.cells #[.int .i64 x.arg, .int .i64 x.op, .int .u64 x.mask, .int .u64 x.val] 139)) := (Below.refl _ _).alloc (Nat.le_refl _) _
  obtain ⟨g, o, m, v⟩ := x
  unfold condB
  dsimp only at be ⊢
  rcases Bool.eq_false_or_eq_true (decide (0 ≤ g)) with h1 | h1
  · rcases Bool.eq_false_or_eq_true (decide (g < 6)) with h2 | h2
    · rcases Bool.eq_false_or_eq_true (decide (1 ≤ o)) with h3 | h3
      · go_enter Tryz.func102, Tryz.ntmps102
        go_wp2
        go_ret
        exact ⟨ret_bool (by rw [h1, h2, h3]; rfl), be⟩
      · go_enter Tryz.func102, Tryz.ntmps102
        go_wp2
        go_ret
        exact ⟨ret_bool (by rw [h1, h2, h3]; rfl), be⟩
    · go_enter Tryz.func102, Tryz.ntmps102
      go_wp2
      go_ret
      exact ⟨ret_bool (by rw [h1, h2]; rfl), be⟩
  · go_enter Tryz.func102, Tryz.ntmps102
    go_wp2
    go_ret
    exact ⟨ret_bool (by rw [h1]; rfl), be⟩

end Go.Proofs.YtcckipimfgmmdaaGreatDoor.M
