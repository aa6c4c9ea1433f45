/-
  Texts of this seat, joined: TMath, TMem, TLeaf, TIter, TWalk.
-/
import Derived.Test.YtcckipimfgmmdaaGreatDoorChecked
import Derived.WalkKit
import Derived.WalkSpells
import Derived.WalkLawsBesides
import Derived.WalkSmall
import Derived.Laws.AppendOwnNone
import Derived.Laws.MakeOwn
import Derived.Laws.OwnMore
import Derived.Laws.Rows
import Derived.Laws.Tables
import Derived.Deep.QuietTactic
import Derived.BigQuiet
import Derived.RangeFuncNested
import Derived.RangeFuncBound
import Derived.RangeFuncCalls
import Derived.RangeFuncLeaves
import Derived.RangeFuncBox
import Derived.Shelf.Abstract
import Derived.Shelf.RegionOpen
import Derived.OwnWalkIn
import Derived.TacticsInMore
import Derived.LoopNIn
import Derived.LoopIn
import Derived.Laws.EntriesVeiled

namespace Go.Proofs.YtcckipimfgmmdaaGreatDoor.T

def mid (a b : Nat) : Nat := a + (b - a) / 2

theorem mid_lt {a b : Nat} (h : 2 ≤ b - a) : a < mid a b ∧ mid a b < b := by unfold mid; omega

def partsF : Nat → Nat → Nat → List (Nat × Nat)
  | 0, _, _ => []
  | k + 1, a, b => if b ≤ a then [] else if b - a < 2 then [(a, b)] else (a, b) :: (partsF k a (mid a b) ++ partsF k (mid a b) b)
theorem partsF_more (k : Nat) : ∀ j a b, b - a ≤ k → b - a ≤ j → partsF k a b = partsF j a b := by
  induction k with
  | zero =>
    intro j a b h _
    cases j with
    | zero => rfl
    | succ j =>
      show [] = if b ≤ a then [] else _
      rw [if_pos (by omega)]
  | succ k ih =>
    intro j a b h hj
    cases j with
    | zero =>
      show (if b ≤ a then [] else _) = []
      rw [if_pos (by omega)]
    | succ j =>
      show (if b ≤ a then [] else if b - a < 2 then [(a, b)] else (a, b) :: (partsF k a (mid a b) ++ partsF k (mid a b) b)) = if b ≤ a then [] else if b - a < 2 then [(a, b)] else (a, b) :: (partsF j a (mid a b) ++ partsF j (mid a b) b)
      by_cases h0 : b ≤ a
      · rw [if_pos h0, if_pos h0]
      by_cases h1 : b - a < 2
      · rw [if_neg h0, if_neg h0, if_pos h1, if_pos h1]
      · have hm := mid_lt (a := a) (b := b) (by omega)
        rw [if_neg h0, if_neg h0, if_neg h1, if_neg h1, ih j a (mid a b) (by omega) (by omega), ih j (mid a b) b (by omega) (by omega)]
def parts (a b : Nat) : List (Nat × Nat) := partsF (b - a) a b

theorem parts_none {a b : Nat} (h : b ≤ a) : parts a b = [] := by
  unfold parts
  rw [show b - a = 0 from by omega]
  rfl
theorem parts_one {a b : Nat} (h : a < b) (h2 : b - a < 2) : parts a b = [(a, b)] := by
  unfold parts
  rw [show b - a = 0 + 1 from by omega]
  show (if b ≤ a then [] else if b - a < 2 then [(a, b)] else _) = _
  rw [if_neg (by omega), if_pos h2]
theorem parts_two {a b : Nat} (h : 2 ≤ b - a) : parts a b = (a, b) :: (parts a (mid a b) ++ parts (mid a b) b) := by
  have hm := mid_lt h
  have e : partsF (b - a) a b = partsF ((b - a - 1) + 1) a b := by rw [show b - a - 1 + 1 = b - a from by omega]
  show partsF (b - a) a b = _
  rw [e]
  show (if b ≤ a then [] else if b - a < 2 then [(a, b)] else (a, b) :: (partsF (b - a - 1) a (mid a b) ++ partsF (b - a - 1) (mid a b) b)) = _
  rw [if_neg (by omega), if_neg (by omega), partsF_more (b - a - 1) (mid a b - a) a (mid a b) (by omega) (by omega), partsF_more (b - a - 1) (b - mid a b) (mid a b) b (by omega) (by omega)]
  rfl

theorem parts_len' (k : Nat) : ∀ a b, b - a ≤ k → a < b → (parts a b).length = 2 * (b - a) - 1 := by
  induction k with
  | zero => intro a b h1 h2; omega
  | succ k ih =>
    intro a b h1 h2
    by_cases h : b - a < 2
    · rw [parts_one h2 h, List.length_singleton]
      omega
    · have hm := mid_lt (a := a) (b := b) (by omega)
      rw [parts_two (by omega), List.length_cons, List.length_append, ih a (mid a b) (by omega) hm.1, ih (mid a b) b (by omega) hm.2]
      omega
theorem parts_len {a b : Nat} (h : a < b) : (parts a b).length = 2 * (b - a) - 1 := parts_len' _ a b (Nat.le_refl _) h
theorem parts_le (a b : Nat) : (parts a b).length ≤ 2 * (b - a) := by
  by_cases h : a < b
  · rw [parts_len h]; omega
  · rw [parts_none (by omega)]; simp

def midOf (p : Nat × Nat) : Option Nat := if 2 ≤ p.2 - p.1 then some (mid p.1 p.2) else none
def midsOf (l : List (Nat × Nat)) : List Nat := l.filterMap midOf
theorem midsOf_snoc (l : List (Nat × Nat)) (p : Nat × Nat) : midsOf (l ++ [p]) = midsOf l ++ (if 2 ≤ p.2 - p.1 then [mid p.1 p.2] else []) := by
  unfold midsOf
  rw [List.filterMap_append]
  congr 1
  unfold midOf
  split <;> simp_all
theorem midsOf_le (l : List (Nat × Nat)) : (midsOf l).length ≤ l.length := List.length_filterMap_le _ _

def mids (a b : Nat) : List Nat := midsOf (parts a b)
theorem mids_two {a b : Nat} (h : 2 ≤ b - a) : mids a b = mid a b :: (mids a (mid a b) ++ mids (mid a b) b) := by
  unfold mids
  rw [parts_two h]
  unfold midsOf
  rw [List.filterMap_cons, List.filterMap_append]
  simp [midOf, h]
theorem mids_one {a b : Nat} (h : b - a < 2) : mids a b = [] := by
  unfold mids
  by_cases h0 : b ≤ a
  · rw [parts_none h0]; rfl
  · rw [parts_one (by omega) h]
    unfold midsOf
    rw [List.filterMap_cons]
    simp [midOf, show ¬ 2 ≤ b - a from by omega]

def rises (l : List Int) : Bool := decide (∀ i, i < l.length - 1 → l.getD i 0 < l.getD (i + 1) 0)
theorem rises_lt {l : List Int} (h : rises l = true) : ∀ d i, i + d + 1 < l.length → l.getD i 0 < l.getD (i + d + 1) 0 := by
  have h1 := of_decide_eq_true h
  intro d
  induction d with
  | zero => intro i hi; exact h1 i (by omega)
  | succ d ih =>
    intro i hi
    have h2 := ih i (by omega)
    have h3 := h1 (i + d + 1) (by omega)
    show _ < l.getD (i + d + 1 + 1) 0
    omega

def Ends (l : List Int) (n : Int) (p : Nat) : Prop := p < l.length ∧ (l.getD p 0 ≤ n ∨ p = 0) ∧ (p + 1 = l.length ∨ n < l.getD (p + 1) 0)
def bErr (l : List Int) : Int := if 4096 < l.length then 4 else if rises l = true then 0 else 1
def bMids (l : List Int) : List Nat := if 4096 < l.length then [] else if rises l = true then mids 0 l.length else []
theorem bErr_zero {l : List Int} (h : bErr l = 0) : l.length ≤ 4096 ∧ rises l = true := by
  unfold bErr at h
  split at h
  · omega
  · split at h
    · exact ⟨by omega, by assumption⟩
    · omega

end Go.Proofs.YtcckipimfgmmdaaGreatDoor.T

namespace Go.Proofs.YtcckipimfgmmdaaGreatDoor.T
open Go.RowKit

theorem ret_int {k : IntKind} {a b : Int} (h : a = b) : Ending.returned (.int k a) = .returned (.int k b) := by rw [h]
theorem ret_bool {a b : Bool} (h : a = b) : Ending.returned (.bool a) = .returned (.bool b) := by rw [h]

theorem owns_nil (w : World) (base : Nat) (t : TypeId) (sz : Nat) : w.ownsRow base t sz (.slice none 0 0) 0 [] := ⟨by simp, .inl ⟨rfl, rfl⟩⟩
theorem size_alloc' (w : World) (o : Obj) : (w.alloc o).heap.size = w.heap.size + 1 := by
  show (w.heap.push o).size = _
  simp
theorem below_drewN {B : Nat} {a w : World} (h : Below B a w) (n : Nat) : Below B a (w.drewN n) := by
  induction n with
  | zero => exact h
  | succ n ih => exact ih.drew
theorem info_parts {t : TypeId} {z : Option Value} {s b : Nat} (h : (Tryz.prog.info? t).map (fun i => (i.zero, i.size, i.bytes)) = some (z, s, b)) : ∃ i, Tryz.prog.info? t = some i ∧ i.zero = z ∧ i.size = s ∧ i.bytes = b := by
  cases hi : Tryz.prog.info? t with
  | none => rw [hi] at h; cases h
  | some i =>
    rw [hi] at h
    simp at h
    exact ⟨i, rfl, h.1, h.2.1, h.2.2⟩
theorem Tryz.info3 : (Tryz.prog.info? 3).map (fun i => (i.zero, i.size, i.bytes)) = some (some (.int .i64 0), 1, 8) := by kernel_rfl
def Ns (k : IntKind) (w : World) (a : Option Addr) (len : Nat) (l : List Int) : Prop :=
  l.length = len ∧ (0 < len → ∃ b off, a = some ⟨b, off, none⟩ ∧ ∀ i, i < len → w.cell? ⟨b, off + i, none⟩ = some (.int k (l.getD i 0)))

theorem Ns.below {k : IntKind} {w w' : World} {a : Option Addr} {len : Nat} {l : List Int} (h : Ns k w a len l) (hb : Below w.heap.size w w') : Ns k w' a len l := by
  refine ⟨h.1, fun h0 => ?_⟩
  obtain ⟨b, off, ha, hc⟩ := h.2 h0
  refine ⟨b, off, ha, fun i hi => ?_⟩
  rw [hb.cell (p := ⟨b, off + i, none⟩) (World.block_lt_of_cell? w _ (hc i hi))]
  exact hc i hi

def cellsN (l : List Nat) : List Value := l.map fun x : Nat => Value.int .i64 x
theorem cellsN_app (l m : List Nat) : cellsN (l ++ m) = cellsN l ++ cellsN m := by simp [cellsN]

theorem new_int (w : World) (z : Int) : (w.alloc (.cells #[.int .i64 z] 3)).cell? ⟨w.heap.size, 0, none⟩ = some (.int .i64 z) := by simp

end Go.Proofs.YtcckipimfgmmdaaGreatDoor.T

namespace Go.Proofs.YtcckipimfgmmdaaGreatDoor.T
open Go.RowKit

def Rs (l : List Int) (k : Nat) : Prop := ∀ j, j + 1 < k → l.getD j 0 < l.getD (j + 1) 0
theorem Rs.yes {l : List Int} (h : Rs l l.length) : rises l = true := decide_eq_true fun i hi => h i (by omega)
theorem Rs.no {l : List Int} {m : Nat} (h : m + 1 < l.length) (hle : l.getD (m + 1) 0 ≤ l.getD m 0) : rises l = false := decide_eq_false fun hh => by have := hh m (by omega); omega
theorem Rs.on {l : List Int} {m : Nat} (h : Rs l (m + 1)) (hlt : ¬ l.getD (m + 1) 0 ≤ l.getD m 0) : Rs l (m + 2) := by
  intro j hj
  by_cases e : j = m
  · subst e; omega
  · exact h j (by omega)
theorem Rs.one (l : List Int) : Rs l 1 := fun j hj => by omega

set_option maxHeartbeats 1000000 in
theorem wrong_any (a : Option Addr) (len cap : Nat) (l : List Int) (w : World) (h : Ns .u32 w a len l) :
    Calls Tryz.prog 88 #[.slice a len cap] w fun e w' => e = .returned (.int .i64 (bErr l)) ∧ Below w.heap.size w w' := by
  have hll := h.1
  by_cases h4 : 4096 < len
  · have e1 : bErr l = 4 := by unfold bErr; rw [if_pos (by omega)]
    rw [e1]
    have h4' : (4096 : Int) < (len : Int) := by omega
    clear e1 hll h
    go_enter Tryz.func88, Tryz.ntmps88
    go_wp2
    go_ret
    exact ⟨rfl, Below.refl _ _⟩
  · have HE : Hid (bErr l = if rises l = true then 0 else 1) := by unfold Hid bErr; rw [if_neg (by omega)]
    generalize bErr l = er at *
    have h4' : (len : Int) ≤ 4096 := by omega
    go_enter Tryz.func88, Tryz.ntmps88
    go_wp2
    go_loopw [3] (fun i wr => ∃ m : Nat, (m = 0 ∨ m + 1 ≤ len) ∧ i = .int .i64 (m + 1 : Nat) ∧ Rs l (m + 1) ∧ Below w.heap.size w wr) (fun i _ => len - (intOf i).toNat)
    case atStart => exact ⟨0, .inl rfl, rfl, Rs.one l, Below.refl _ _⟩
    case round =>
      obtain ⟨m, hm, rfl, hrs, hbr⟩ := hrel
      have HM : Hid (m = 0 ∨ m + 1 ≤ len) := hm
      have HR : Hid (Rs l (m + 1)) := hrs
      clear hm hrs
      by_cases hlt : m + 1 < len
      · obtain ⟨b, off, rfl, hc⟩ := (h.below hbr).2 (by omega)
        have q1 := hc (m + 1) hlt
        have q0 := hc m (by omega)
        have HL : Hid (Ns .u32 w (some ⟨b, off, none⟩) len l) := h
        clear hc h
        generalize hk : m + 1 = k at *
        have e1 : IntKind.i64.wrap ((k : Int) - 1) = (m : Int) := by rw [IntKind.wrap_i64]; omega
        have HK : Hid (m + 1 = k) := hk
        clear hk
        have hi1 : (k : Int) < (len : Int) := by omega
        have hm1 : (m : Int) < (len : Int) := by have := HK.out; omega
        have HZ : Hid (∀ x y : Int, l.getD k 0 = x → l.getD m 0 = y → if x ≤ y then er = 1 else Rs l (k + 1)) := by
          intro x y hx hy
          have hk := HK.out
          subst hk
          subst hx hy
          split
          · rw [HE.out, Rs.no (m := m) (by omega) (by assumption)]; rfl
          · exact HR.out.on (by assumption)
        have hz := HZ.out _ _ rfl rfl
        clear HZ HR HE hll
        generalize l.getD k 0 = x at *
        generalize l.getD m 0 = y at *
        by_cases hxy : x ≤ y
        · rw [if_pos hxy] at hz
          subst hz
          go_wp2_with fail
          go_quiet (fail)
          go_wp2
          go_ret
          exact ⟨rfl, below_drewN hbr _⟩
        · rw [if_neg hxy] at hz
          have HX : Hid (Rs l (k + 1)) := hz
          clear hz
          have hxy' : y < x := by omega
          go_wp2_with fail
          go_quiet (fail)
          go_wp2
          go_roundw
          case rel => exact ⟨k, .inr (by omega), by go_num, HX.out, below_drewN hbr _⟩
          case measure => simp [intOf]; omega
      · have hge : ¬ ((m + 1 : Nat) : Int) < (len : Int) := by omega
        have e2 : er = 0 := by
          rw [HE.out, Rs.yes (l := l) (by
            rcases HM.out with h0 | h0
            · intro j hj; omega
            · rw [show l.length = m + 1 from by omega]; exact HR.out)]
          rfl
        subst e2
        generalize m + 1 = k at *
        go_wp2
        go_ret
        exact ⟨rfl, hbr⟩

end Go.Proofs.YtcckipimfgmmdaaGreatDoor.T

namespace Go.Proofs.YtcckipimfgmmdaaGreatDoor.T
open Go.RowKit Go.Shelf

attribute [local go_sem] Oper.semAt_some

theorem room_of_none {F : Fence} (hd : F.depth = none) (k : Nat) : F.room k := fun d h => by rw [hd] at h; cases h
theorem roundIn_any {F : Fence} (hd : F.depth = none) {m m' : Nat} {P : Program} {l : Nat} {f : FuncId} {tmps : Array Value} {assign body : Code} {w : World} {R : Ending → World → Prop}
    (h : RoundIn F m P l f tmps assign body w R) : RoundIn F m' P l f tmps assign body w R := ⟨h.1, fun c cs _ => h.2 c cs (room_of_none hd _)⟩
theorem yieldAt_any {F : Fence} (hd : F.depth = none) {m : Nat} (m' : Nat) {P : Program} {l : Nat} {args : Array Value} {W : World} {R : Ending → World → Prop} (h : YieldAt F m P l args W R) : YieldAt F m' P l args W R := by
  obtain ⟨fn, tmps, assign, body, hy, hR⟩ := h
  exact ⟨fn, tmps, assign, body, hy, roundIn_any hd hR⟩

structure Pt where
  a : Nat
  b : Nat
  ok : a < b ∧ b ≤ 1000000
def Pt.pair (x : Pt) : Nat × Nat := (x.a, x.b)
def prs (l : List Pt) : List (Nat × Nat) := l.map Pt.pair
theorem prs_app (l m : List Pt) : prs (l ++ m) = prs l ++ prs m := List.map_append
def Pt.encs (x : Pt) : Array Value := #[.int .i64 x.a, .int .i64 x.b]

def KeepF (W W' : World) : Prop := ∀ b v, Boxed W b 167 v → Boxed W' b 167 v
theorem KeepF.refl (W : World) : KeepF W W := fun _ _ h => h
theorem KeepF.trans {A B C : World} (h : KeepF A B) (k : KeepF B C) : KeepF A C := fun b v hb => k b v (h b v hb)
theorem KeepF.grown {W W' : World} {row : Option Nat} (hg : W.grownBy W' row) (hr : ∀ r v, row = some r → ¬ Boxed W r 167 v) : KeepF W W' := fun b v hb => hb.kept hg fun e => hr b v e.symm hb
theorem KeepF.alloc (W : World) (o : Obj) : KeepF W (W.alloc o) := fun _ _ hb => hb.alloc o
theorem KeepF.set {W : World} {B : Nat} {t : TypeId} {v : Value} (h : Boxed W B t v) (ht : t ≠ 167) (u : Value) : KeepF W (W.setCell ⟨B, 0, none⟩ u) :=
  KeepF.grown (grownBy_setCell' W B u) fun r x e hb => by
    cases e
    have := (show W.heap[B]? = _ from h).symm.trans hb
    simp at this
    exact ht this.2
theorem keepF_b (W : World) (l : Nat) (o o' : Obj) (h : W.heap[l]? = some o) (hc : o.isCells = false) : KeepF W (W.putObj l o') :=
  KeepF.grown (grownBy_putObj' W l o') fun r x e hb => by
    cases e
    rw [show W.heap[l]? = _ from hb] at h
    cases h
    cases hc

theorem halved_in (F : Fence) (n : Nat) (hF : F.fn 90) (hro : F.round = none) (a b : Nat) (w : World) (h : a ≤ b) (hb : b ≤ 1000000) :
    CallsIn F n Tryz.prog 90 #[.int .i64 a, .int .i64 b] w fun e w' => e = .returned (.bool (decide (2 ≤ b - a))) ∧ w' = w := by
  refine callsIn_of_wp Tryz.func90 rfl hF ?_ hro
  simp only [Tryz.ntmps90, List.size_toArray, List.length_cons, List.length_nil, Nat.reduceAdd, Nat.reduceSub, Array.replicate_succ, Array.replicate_zero, List.push_toArray, List.append_toArray, List.nil_append, List.cons_append]
  gi_wp2
  go_ret
  exact ⟨ret_bool (by rw [decide_eq_decide]; omega), rfl⟩
theorem middle_in (F : Fence) (n : Nat) (hF : F.fn 91) (hro : F.round = none) (a b : Nat) (w : World) (h : a ≤ b) (hb : b ≤ 1000000) :
    CallsIn F n Tryz.prog 91 #[.int .i64 a, .int .i64 b] w fun e w' => e = .returned (.int .i64 (mid a b : Nat)) ∧ w' = w := by
  refine callsIn_of_wp Tryz.func91 rfl hF ?_ hro
  simp only [Tryz.ntmps91, List.size_toArray, List.length_cons, List.length_nil, Nat.reduceAdd, Nat.reduceSub, Array.replicate_succ, Array.replicate_zero, List.push_toArray, List.append_toArray, List.nil_append, List.cons_append]
  gi_wp2
  go_ret
  exact ⟨ret_int (by unfold mid; omega), rfl⟩

set_option maxRecDepth 100000 in
set_option maxHeartbeats 2000000 in
theorem within_in (F : Fence) (hd : F.depth = none) (hF : F.fn 126) (hH : F.fn 90) (hM : F.fn 91) (hro : F.round = none) (l Y V N : Nat) (J Jx : List Pt → World → Prop)
    (hY : ∀ m pre x W, J pre W → pre.length < N → YieldAt F m Tryz.prog l (Pt.encs x) W fun e W' =>
      (e = .returned (.bool true) ∧ J (pre ++ [x]) W' ∧ KeepF W W') ∨ (e = .returned (.bool false) ∧ Jx (pre ++ [x]) W')) (k : Nat) :
    ∀ (n a b : Nat) (pre : List Pt) (W : World), b - a ≤ k → a < b → b ≤ 1000000 → Boxed W Y 167 (.func (.yield l) #[] #[]) → Boxed W V 167 (.func (.func 126) #[] #[.pointer (some ⟨Y, 0, none⟩), .pointer (some ⟨V, 0, none⟩)]) → J pre W → pre.length + (parts a b).length ≤ N →
      CallsIn F n Tryz.prog 126 #[.int .i64 a, .int .i64 b, .pointer (some ⟨Y, 0, none⟩), .pointer (some ⟨V, 0, none⟩)] W fun e W' =>
        (e = .returned (.bool true) ∧ ∃ ys, prs ys = parts a b ∧ J (pre ++ ys) W' ∧ KeepF W W') ∨ (e = .returned (.bool false) ∧ ∃ ys, prs ys <+: parts a b ∧ Jx (pre ++ ys) W') := by
  have hdd : ∀ k : Nat, (F.depth.isSome = true → 1 ≤ k) := fun k h => by rw [hd] at h; cases h
  induction k with
  | zero => intro n a b pre W h1 h2; omega
  | succ k ih =>
    intro n a b pre W h1 h2 h3 bY bV hJ hN
    have hpl : 0 < (parts a b).length := by rw [parts_len h2]; omega
    have cY := bY.cell
    have HH : Hid (∀ (m : Nat) (W : World), CallsIn F m Tryz.prog 90 #[.int .i64 a, .int .i64 b] W fun e w' => e = .returned (.bool (decide (2 ≤ b - a))) ∧ w' = W) := fun m W => halved_in F m hH hro a b W (by omega) h3
    have HM : Hid (∀ (m : Nat) (W : World), CallsIn F m Tryz.prog 91 #[.int .i64 a, .int .i64 b] W fun e w' => e = .returned (.int .i64 (mid a b : Nat)) ∧ w' = W) := fun m W => middle_in F m hM hro a b W (by omega) h3
    have hy1 := YieldAt.mono (hY (n - 1) pre ⟨a, b, h2, h3⟩ W hJ (by omega)) (R' := fun e W1 =>
        (e = .returned (.bool true) ∧ J (pre ++ [⟨a, b, h2, h3⟩]) W1 ∧ KeepF W W1 ∧ W1.cell? ⟨V, 0, none⟩ = some (.func (.func 126) #[] #[.pointer (some ⟨Y, 0, none⟩), .pointer (some ⟨V, 0, none⟩)])) ∨ (e = .returned (.bool false) ∧ Jx (pre ++ [⟨a, b, h2, h3⟩]) W1))
        (fun e W1 h => h.elim (fun ⟨he, hj, hk⟩ => .inl ⟨he, hj, hk, (hk _ _ bV).cell⟩) .inr)
    obtain ⟨fn, tmps, assign, body, hy, hR⟩ := hy1
    dsimp only [Pt.encs] at hy
    by_cases h22 : 2 ≤ b - a
    · have hm := mid_lt h22
      have hp2 := parts_two h22
      have ih1 : ∀ W1, J (pre ++ [⟨a, b, h2, h3⟩]) W1 → KeepF W W1 → CallsIn F (n - 1) Tryz.prog 126 #[.int .i64 a, .int .i64 (mid a b : Nat), .pointer (some ⟨Y, 0, none⟩), .pointer (some ⟨V, 0, none⟩)] W1 fun e W2 =>
          (e = .returned (.bool true) ∧ W2.cell? ⟨V, 0, none⟩ = some (.func (.func 126) #[] #[.pointer (some ⟨Y, 0, none⟩), .pointer (some ⟨V, 0, none⟩)]) ∧
            CallsIn F (n - 1) Tryz.prog 126 #[.int .i64 (mid a b : Nat), .int .i64 b, .pointer (some ⟨Y, 0, none⟩), .pointer (some ⟨V, 0, none⟩)] W2 fun e W3 =>
              (e = .returned (.bool true) ∧ ∃ ys, prs ys = parts a b ∧ J (pre ++ ys) W3 ∧ KeepF W W3) ∨ (e = .returned (.bool false) ∧ ∃ ys, prs ys <+: parts a b ∧ Jx (pre ++ ys) W3)) ∨
          (e = .returned (.bool false) ∧ ∃ ys, prs ys <+: parts a b ∧ Jx (pre ++ ys) W2) := by
        intro W1 hJ1 hk1
        rw [hp2, List.length_cons, List.length_append] at hN
        refine (ih (n - 1) a (mid a b) _ W1 (by omega) hm.1 (by omega) (hk1 _ _ bY) (hk1 _ _ bV) hJ1 (by rw [List.length_append, List.length_singleton]; omega)).mono fun e W2 h => ?_
        rcases h with ⟨he, ys, e1, hj2, hk2⟩ | ⟨he, ys, ⟨r, e1⟩, hx⟩
        · refine .inl ⟨he, ((hk1.trans hk2) _ _ bV).cell, ?_⟩
          have l1 : ys.length = (parts a (mid a b)).length := by rw [← e1]; simp [prs]
          refine (ih (n - 1) (mid a b) b _ W2 (by omega) hm.2 h3 ((hk1.trans hk2) _ _ bY) ((hk1.trans hk2) _ _ bV) hj2 (by rw [List.length_append, List.length_append, List.length_singleton]; omega)).mono fun e W3 h => ?_
          rcases h with ⟨he, zs, e2, hj3, hk3⟩ | ⟨he, zs, ⟨r, e2⟩, hx⟩
          · exact .inl ⟨he, [⟨a, b, h2, h3⟩] ++ ys ++ zs, by rw [hp2, prs_app, prs_app, e1, e2]; rfl, by simpa using hj3, (hk1.trans hk2).trans hk3⟩
          · exact .inr ⟨he, [⟨a, b, h2, h3⟩] ++ ys ++ zs, ⟨r, by rw [hp2, prs_app, prs_app, e1, ← e2]; simp [prs, Pt.pair]⟩, by simpa using hx⟩
        · exact .inr ⟨he, [⟨a, b, h2, h3⟩] ++ ys, ⟨r ++ parts (mid a b) b, by rw [hp2, prs_app, ← e1]; simp [prs, Pt.pair]⟩, by simpa using hx⟩
      have HX1 : Hid (prs [⟨a, b, h2, h3⟩] <+: parts a b) := ⟨_, by rw [hp2]; rfl⟩
      rw [decide_eq_true h22] at HH
      clear hN hpl hp2 hm h22 ih h1 bY bV hJ hY
      generalize mid a b = m at *
      refine callsIn_of_wp Tryz.func126 rfl hF ?_ hro
      simp only [Tryz.ntmps126, List.size_toArray, List.length_cons, List.length_nil, Nat.reduceAdd, Nat.reduceSub, Array.replicate_succ, Array.replicate_zero, List.push_toArray, List.append_toArray, List.nil_append, List.cons_append]
      gi_wp2_with (first
        | ((try refine ⟨hdd _, ?_⟩); gi_at_call 90; refine (HH.out _ _).mono ?_; clear HH; rintro e W5 ⟨rfl, rfl⟩)
        | ((try refine ⟨hdd _, ?_⟩); gi_at_call 91; refine (HM.out _ _).mono ?_; clear HM; rintro e W6 ⟨rfl, rfl⟩)
        | ((try refine ⟨hdd _, ?_⟩); gi_at_call 126; refine ih1'.mono ?_; clear ih1'; rintro e W2 (⟨rfl, cV2, ih2⟩ | ⟨rfl, hx2⟩))
        | ((try refine ⟨hdd _, ?_⟩); gi_at_call 126; refine ih2.mono ?_; clear ih2; rintro e W3 (⟨rfl, hok⟩ | ⟨rfl, hx3⟩))
        | ((try refine ⟨hdd _, ?_⟩); refine hR.mono ?_; clear hR; rintro e W1 (⟨rfl, hJ1, hk1, cV1⟩ | ⟨rfl, hx1⟩); (try have ih1' := ih1 W1 hJ1 hk1; clear ih1)))
      · go_ret
        exact .inl ⟨rfl, hok⟩
      · go_ret
        exact .inr ⟨rfl, hx3⟩
      · refine ⟨fun _ h => (by cases h), ?_⟩
        gi_wp2
        go_ret
        exact .inr ⟨rfl, hx2⟩
      · go_ret
        exact .inr ⟨rfl, _, HX1.out, hx1⟩
    · have HX1 : Hid (prs [⟨a, b, h2, h3⟩] = parts a b) := by unfold Hid; rw [parts_one h2 (by omega)]; rfl
      rw [decide_eq_false h22] at HH
      clear hN hpl h22 ih h1 bY bV hJ hY HM
      refine callsIn_of_wp Tryz.func126 rfl hF ?_ hro
      simp only [Tryz.ntmps126, List.size_toArray, List.length_cons, List.length_nil, Nat.reduceAdd, Nat.reduceSub, Array.replicate_succ, Array.replicate_zero, List.push_toArray, List.append_toArray, List.nil_append, List.cons_append]
      gi_wp2_with (first
        | ((try refine ⟨hdd _, ?_⟩); gi_at_call 90; refine (HH.out _ _).mono ?_; clear HH; rintro e W5 ⟨rfl, rfl⟩)
        | ((try refine ⟨hdd _, ?_⟩); refine hR.mono ?_; clear hR; rintro e W1 (⟨rfl, hJ1, hk1, cV1⟩ | ⟨rfl, hx1⟩)))
      · go_ret
        exact .inl ⟨rfl, _, HX1.out, hJ1, hk1⟩
      · go_ret
        exact .inr ⟨rfl, _, ⟨[], by rw [List.append_nil]; exact HX1.out⟩, hx1⟩

end Go.Proofs.YtcckipimfgmmdaaGreatDoor.T

namespace Go.Proofs.YtcckipimfgmmdaaGreatDoor.T
open Go.RowKit Go.Shelf

attribute [local go_sem] Oper.semAt_some

theorem walk_in (F : Fence) (n : Nat) (hF : F.fn 89) (hro : F.round = none) (s : Int) (w : World) :
    CallsIn F n Tryz.prog 89 #[.int .i64 s] w fun e w' => e = .returned (.func (.func 125) #[] #[.pointer (some ⟨w.heap.size, 0, none⟩)]) ∧ w' = w.alloc (.cells #[.int .i64 s] 3) := by
  refine callsIn_of_wp Tryz.func89 rfl hF ?_ hro
  simp only [Tryz.ntmps89, List.size_toArray, List.length_cons, List.length_nil, Nat.reduceAdd, Nat.reduceSub, Array.replicate_succ, Array.replicate_zero, List.push_toArray, List.append_toArray, List.nil_append, List.cons_append]
  gi_wp2
  go_ret
  exact ⟨rfl, rfl⟩

theorem two_more (W : World) (u v : Value) (t : TypeId) : W.grownBy ((W.alloc (.cells #[u] t)).alloc (.cells #[v] t)) none ∧ Boxed ((W.alloc (.cells #[u] t)).alloc (.cells #[v] t)) W.heap.size t u ∧ Boxed ((W.alloc (.cells #[u] t)).alloc (.cells #[v] t)) (W.heap.size + 1) t v := by
  have h1 := World.grownBy_alloc W (.cells #[u] t) none
  have h2 := World.grownBy_alloc (W.alloc (.cells #[u] t)) (.cells #[v] t) none
  refine ⟨⟨rfl, rfl, rfl, by simp; omega, fun k hk hn => ?_⟩, (Boxed.new W t u).alloc _, ?_⟩
  · exact (h2.block k (by simp; omega) hn).trans (h1.block k hk hn)
  · have := Boxed.new (W.alloc (.cells #[u] t)) t v
    rw [World.size_alloc] at this
    exact this

set_option maxRecDepth 100000 in
set_option maxHeartbeats 2000000 in
theorem walk1_in (F : Fence) (hd : F.depth = none) (n : Nat) (h1 : F.fn 125) (hF : F.fn 126) (hH : F.fn 90) (hM : F.fn 91) (hro : F.round = none) (l Bs : Nat) (s : Int) (hs : s ≤ 1000000) (J Jx : List Pt → World → Prop) (W : World)
    (hJ : AbidesFrom W.heap.size J)
    (hY : ∀ pre x W, J pre W → pre.length < (parts 0 s.toNat).length → YieldAt F (n - 1) Tryz.prog l (Pt.encs x) W fun e W' =>
      (e = .returned (.bool true) ∧ J (pre ++ [x]) W' ∧ KeepF W W') ∨ (e = .returned (.bool false) ∧ Jx (pre ++ [x]) W'))
    (hBs : W.cell? ⟨Bs, 0, none⟩ = some (.int .i64 s)) (h0 : J [] W) :
    CallsIn F n Tryz.prog 125 #[.func (.yield l) #[] #[], .pointer (some ⟨Bs, 0, none⟩)] W fun e W' => (∃ v, e = .returned v) ∧
      ((∃ ys, prs ys = parts 0 s.toNat ∧ J ys W') ∨ (∃ pre, prs pre <+: parts 0 s.toNat ∧ Jx pre W')) := by
  have hdd : ∀ k : Nat, (F.depth.isSome = true → 1 ≤ k) := fun k h => by rw [hd] at h; cases h
  have hlt := World.block_lt_of_cell? W _ hBs
  by_cases hs1 : s < 1
  · have e0 : Hid (parts 0 s.toNat = []) := parts_none (by omega)
    have hJ1 := hJ [] W _ none h0 (World.grownBy_alloc W (.cells #[.func (.yield l) #[] #[]] 167) none) (fun r e => by cases e)
    have hB2 : (W.alloc (.cells #[.func (.yield l) #[] #[]] 167)).cell? ⟨Bs, 0, none⟩ = some (.int .i64 s) := cell_kept hBs (World.grownBy_alloc W _ none) (fun r e => by cases e)
    refine callsIn_of_wp Tryz.func125 rfl h1 ?_ hro
    simp only [Tryz.ntmps125, List.size_toArray, List.length_cons, List.length_nil, Nat.reduceAdd, Nat.reduceSub, Array.replicate_succ, Array.replicate_zero, List.push_toArray, List.append_toArray, List.nil_append, List.cons_append]
    gi_wp2
    refine bodyPost_ret (results_none rfl _ _ _) rfl ?_
    exact ⟨⟨_, rfl⟩, .inl ⟨[], by rw [e0.out]; rfl, hJ1⟩⟩
  · obtain ⟨z, rfl⟩ : ∃ z : Nat, s = z := ⟨s.toNat, by omega⟩
    obtain ⟨g2, bY, bV⟩ := two_more W (.func (.yield l) #[] #[]) (.func (.func 126) #[] #[.pointer (some ⟨W.heap.size, 0, none⟩), .pointer (some ⟨W.heap.size + 1, 0, none⟩)]) 167
    have hJ1 := hJ [] W _ none h0 g2 (fun r e => by cases e)
    have hB2 := cell_kept hBs g2 (fun r e => by cases e)
    have hp := within_in F hd hF hH hM hro l W.heap.size (W.heap.size + 1) (parts 0 (z : Int).toNat).length J Jx (fun m pre x W hj hl => yieldAt_any hd m (hY pre x W hj hl)) z (n - 1) 0 z [] _ (by omega) (by omega) (by omega) bY bV hJ1 (by simp)
    have cV := bV.cell
    have hz1 : ¬ (z : Int) < 1 := by omega
    have HT : Hid ((z : Int).toNat = z) := by unfold Hid; omega
    have hB0 : (W.alloc (.cells #[.func (.yield l) #[] #[]] 167)).cell? ⟨Bs, 0, none⟩ = some (.int .i64 z) := cell_kept hBs (World.grownBy_alloc W _ none) (fun r e => by cases e)
    clear bY bV hJ1 g2 hY hs hs1 hJ
    refine callsIn_of_wp Tryz.func125 rfl h1 ?_ hro
    simp only [Tryz.ntmps125, List.size_toArray, List.length_cons, List.length_nil, Nat.reduceAdd, Nat.reduceSub, Array.replicate_succ, Array.replicate_zero, List.push_toArray, List.append_toArray, List.nil_append, List.cons_append]
    gi_wp2_with ((try refine ⟨hdd _, ?_⟩); gi_at_call 126; refine hp.mono ?_; clear hp; rintro e W1 (⟨rfl, ys, e1, hJ1, _⟩ | ⟨rfl, ys, e1, hx⟩))
    · go_end0
      exact ⟨⟨_, rfl⟩, .inl ⟨ys, by rw [HT.out]; exact e1, by simpa using hJ1⟩⟩
    · go_end0
      exact ⟨⟨_, rfl⟩, .inr ⟨ys, by rw [HT.out]; exact e1, by simpa using hx⟩⟩

theorem walk_stops (F : Fence) (hd : F.depth = none) (n : Nat) (h1 : F.fn 125) (hF : F.fn 126) (hH : F.fn 90) (hM : F.fn 91) (hro : F.round = none) (Bs : Nat) (s : Int) (hs : s ≤ 1000000) (w : World) (hBs : w.cell? ⟨Bs, 0, none⟩ = some (.int .i64 s)) :
    SeqStopsK F n Tryz.prog 125 #[.pointer (some ⟨Bs, 0, none⟩)] Pt.encs KeepF (fun ys => prs ys = parts 0 s.toNat) (fun pre => prs pre <+: parts 0 s.toNat) (parts 0 s.toNat).length w := fun l J Jx W hW hJ _ hY h0 =>
  walk1_in F hd n h1 hF hH hM hro l Bs s hs J Jx W hJ hY ((hW.cell (p := ⟨Bs, 0, none⟩) (World.block_lt_of_cell? w _ hBs)).trans hBs) h0

end Go.Proofs.YtcckipimfgmmdaaGreatDoor.T
