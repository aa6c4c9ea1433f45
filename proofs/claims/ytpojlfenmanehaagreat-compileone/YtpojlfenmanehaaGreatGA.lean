/-
  Acts and their numbers.
-/
import Derived.Test.YtpojlfenmanehaaGreatRows
import Derived.Laws.BitsAllLaws
import Derived.WalkKit
import Derived.WalkSpells
import Derived.WalkLawsBesides
import Derived.Laws.AppendOwnNone
import Derived.Laws.MakeOwn
import Derived.Laws.OwnMore
import Derived.Laws.Rows
import Derived.Laws.Tables
import Derived.Laws.CopyOwn
import Derived.Laws.StructEq
import Derived.Deep.RegionHeld3
namespace Go.Proofs.YtpojlfenmanehaaGreat.A

/-- a number of 32 bits. -/
def U32 (x : Int) : Prop := 0 ≤ x ∧ x ≤ 4294967295

/-- has a kind an Arg? -/
def hasB (k : Int) : Bool := k == 3 || k == 4 || k == 6

/-- the numbers of the kinds, from 0 on. -/
def tblL : List Int := [0, 2147483648, 0, 196608, 327680, 2143289344, 2146435072, 2147221504, 2147418112]

/-- a kind's number. -/
def numK (k : Int) : Int := tblL.getD k.toNat 0

/-- the kind of a number without its last bits. -/
def kiH (n : Int) : Int :=
  if n = 2147483648 then 1 else if n = 0 then 2 else if n = 196608 then 3 else if n = 327680 then 4
  else if n = 2143289344 then 5 else if n = 2146435072 then 6 else if n = 2147221504 then 7 else if n = 2147418112 then 8 else 1

/-- a number without its last 16 bits. -/
def top (v : Int) : Int := v / 65536 * 65536

/-- the kind and the Arg of what a filter answered. -/
def ki (v : Int) : Int := kiH (top v)
def ar (v : Int) : Int := if hasB (ki v) = true then v % 65536 else 0

/-- may an act be? -/
def rightB (k a : Int) : Bool := decide (1 ≤ k) && decide (k ≤ 8) && (a == 0 || hasB k && decide (0 ≤ a) && decide (a ≤ 65535))

/-- how a filter answers an act. -/
def valZ (k a : Int) : Int := if rightB k a = true then numK k + a else 0
def errZ (k a : Int) : Int := if rightB k a = true then 0 else 1

theorem kiH_bd (n : Int) : 1 ≤ kiH n ∧ kiH n ≤ 8 := by
  unfold kiH
  repeat' split
  all_goals omega
theorem ki_bd (v : Int) : 1 ≤ ki v ∧ ki v ≤ 8 := kiH_bd _

/-- what a search has found when it has come to a kind. -/
theorem kiH_found (n : Int) (k : Nat) (h1 : 1 ≤ k) (h8 : k ≤ 8) (hno : ∀ j, 1 ≤ j → j < k → tblL.getD j 0 ≠ n) (h : tblL.getD k 0 = n) : kiH n = k := by
  have q1 := hno 1
  have q2 := hno 2
  have q3 := hno 3
  have q4 := hno 4
  have q5 := hno 5
  have q6 := hno 6
  have q7 := hno 7
  clear hno
  simp only [tblL, List.getD_cons_succ, List.getD_cons_zero] at q1 q2 q3 q4 q5 q6 q7
  obtain rfl | rfl | rfl | rfl | rfl | rfl | rfl | rfl : k = 1 ∨ k = 2 ∨ k = 3 ∨ k = 4 ∨ k = 5 ∨ k = 6 ∨ k = 7 ∨ k = 8 := by omega
  all_goals (simp only [tblL, List.getD_cons_succ, List.getD_cons_zero] at h; subst h; rfl)

theorem kiH_none (n : Int) (hno : ∀ j, 1 ≤ j → j < 9 → tblL.getD j 0 ≠ n) : kiH n = 1 := by
  have q1 := hno 1 (by omega) (by omega)
  have q2 := hno 2 (by omega) (by omega)
  have q3 := hno 3 (by omega) (by omega)
  have q4 := hno 4 (by omega) (by omega)
  have q5 := hno 5 (by omega) (by omega)
  have q6 := hno 6 (by omega) (by omega)
  have q7 := hno 7 (by omega) (by omega)
  have q8 := hno 8 (by omega) (by omega)
  simp only [tblL, List.getD_cons_succ, List.getD_cons_zero] at q1 q2 q3 q4 q5 q6 q7 q8
  unfold kiH
  rw [if_neg (fun e => q1 e.symm), if_neg (fun e => q2 e.symm), if_neg (fun e => q3 e.symm), if_neg (fun e => q4 e.symm), if_neg (fun e => q5 e.symm), if_neg (fun e => q6 e.symm), if_neg (fun e => q7 e.symm), if_neg (fun e => q8 e.symm)]

theorem right_bd {k a : Int} (h : rightB k a = true) : 1 ≤ k ∧ k ≤ 8 ∧ 0 ≤ a ∧ a ≤ 65535 ∧ (hasB k = false → a = 0) := by
  unfold rightB at h
  simp only [Bool.and_eq_true, Bool.or_eq_true, decide_eq_true_eq, beq_iff_eq] at h
  obtain ⟨⟨h1, h2⟩, h3⟩ := h
  rcases h3 with h3 | ⟨⟨h3, h4⟩, h5⟩
  · exact ⟨h1, h2, by omega, by omega, fun _ => h3⟩
  · exact ⟨h1, h2, h4, h5, fun e => by rw [e] at h3; cases h3⟩

theorem eight {k : Int} (h1 : 1 ≤ k) (h8 : k ≤ 8) : k = 1 ∨ k = 2 ∨ k = 3 ∨ k = 4 ∨ k = 5 ∨ k = 6 ∨ k = 7 ∨ k = 8 := by omega

theorem numK_top {k : Int} (h1 : 1 ≤ k) (h8 : k ≤ 8) : 0 ≤ numK k ∧ numK k ≤ 2147483648 ∧ numK k % 65536 = 0 ∧ kiH (numK k) = k := by
  rcases eight h1 h8 with rfl | rfl | rfl | rfl | rfl | rfl | rfl | rfl <;> decide

/-- the number of an act is read as the act. -/
theorem back {k a : Int} (h : rightB k a = true) : ki (valZ k a) = k ∧ ar (valZ k a) = a ∧ U32 (valZ k a) := by
  obtain ⟨h1, h8, a0, a1, hz⟩ := right_bd h
  obtain ⟨n0, n1, n2, n3⟩ := numK_top h1 h8
  have ev : valZ k a = numK k + a := by unfold valZ; rw [if_pos h]
  have et : top (valZ k a) = numK k := by rw [ev]; unfold top; omega
  have ek : ki (valZ k a) = k := by unfold ki; rw [et]; exact n3
  refine ⟨ek, ?_, by rw [ev]; unfold U32; omega⟩
  unfold ar
  rw [ek, ev]
  by_cases hh : hasB k = true
  · rw [if_pos hh]; omega
  · rw [if_neg hh]
    exact (hz (by simpa using hh)).symm

/-- whatever a filter answers is an act that may be. -/
theorem right_of (v : Int) : rightB (ki v) (ar v) = true := by
  obtain ⟨h1, h8⟩ := ki_bd v
  unfold rightB ar
  by_cases hh : hasB (ki v) = true
  · rw [if_pos hh, hh]
    have a0 : 0 ≤ v % 65536 := by omega
    have a1 : v % 65536 ≤ 65535 := by omega
    simp [h1, h8, a0, a1]
  · rw [if_neg hh]
    simp [h1, h8]

theorem low_bits (v : Int) (h : U32 v) : bits BinOp.and IntKind.u32 v 65535 = v % 65536 := by
  obtain ⟨h0, h1⟩ := h
  obtain ⟨n, rfl⟩ := Int.eq_ofNat_of_zero_le h0
  have := u32_and_nat n 65535 (by omega) (by decide)
  rw [nat_mask16] at this
  rw [show (65535 : Int) = ((65535 : Nat) : Int) from rfl, this]
  omega

theorem top_bits (v : Int) (h : U32 v) : bits BinOp.andNot IntKind.u32 v 65535 = top v := by
  obtain ⟨h0, h1⟩ := h
  obtain ⟨n, rfl⟩ := Int.eq_ofNat_of_zero_le h0
  have := u32_andNot_nat n 65535 (by omega) (by decide)
  rw [show (65535 : Int) = ((65535 : Nat) : Int) from rfl, this]
  have e : n &&& (4294967295 - 65535) = n / 65536 * 65536 := by
    apply Nat.eq_of_testBit_eq
    intro i
    have e1 : (4294967295 - 65535 : Nat) = (2 ^ 16 - 1) <<< 16 := by decide
    rw [e1, show n / 65536 * 65536 = (n >>> 16) <<< 16 by rw [Nat.shiftRight_eq_div_pow, Nat.shiftLeft_eq]]
    rw [Nat.testBit_and, Nat.testBit_shiftLeft, Nat.testBit_shiftLeft, Nat.testBit_shiftRight, Nat.testBit_two_pow_sub_one]
    by_cases hi : 16 ≤ i
    · rw [show 16 + (i - 16) = i by omega]
      by_cases hj : i - 16 < 16
      · simp [hi, hj]
      · have : n.testBit i = false := Nat.testBit_lt_two_pow (Nat.lt_of_lt_of_le (show n < 2 ^ 32 by omega) (Nat.pow_le_pow_right (by omega) (by omega)))
        simp [this]
    · simp [hi]
  rw [e]
  unfold top
  omega

theorem or_bits (x a : Int) (h0 : 0 ≤ x) (h1 : x ≤ 2147483648) (h2 : x % 65536 = 0) (a0 : 0 ≤ a) (a1 : a ≤ 65535) : bits BinOp.or IntKind.u32 x a = x + a := by
  obtain ⟨n, rfl⟩ := Int.eq_ofNat_of_zero_le h0
  obtain ⟨m, rfl⟩ := Int.eq_ofNat_of_zero_le a0
  rw [u32_or_nat n m (by omega) (by omega)]
  obtain ⟨q, rfl⟩ : ∃ q, n = q * 2 ^ 16 := ⟨n / 65536, by omega⟩
  rw [← Nat.shiftLeft_eq, ← Nat.shiftLeft_add_eq_or_of_lt (by omega), Nat.shiftLeft_eq]
  omega

end Go.Proofs.YtpojlfenmanehaaGreat.A

namespace Go.Proofs.YtpojlfenmanehaaGreat.A
open Go.RowKit

theorem Tryz.info37 : (Tryz.prog.info? 37).map (fun i => (i.zero, i.size, i.bytes)) = some (some (.int .u32 0), 1, 4) := by kernel_rfl
theorem Tryz.size144 : (Tryz.prog.info? 144).map (·.size) = some 9 := by kernel_rfl

theorem ret_int {k : IntKind} {a b : Int} (h : a = b) : Ending.returned (.int k a) = .returned (.int k b) := by rw [h]
theorem ret_bool {a b : Bool} (h : a = b) : Ending.returned (.bool a) = .returned (.bool b) := by rw [h]

theorem owns_block {w : World} {base sz : Nat} {t : TypeId} {v : Value} {n : Nat} {xs : List Value} (h : w.ownsRow base t sz v n xs) : ∀ k, v.ownBlock = some k → base ≤ k := by
  intro k hk
  rcases h.2 with ⟨rfl, rfl⟩ | ⟨g, cap, cur, rfl, hb, _⟩
  · cases hk
  · cases hk; exact hb

theorem owns_lower {w : World} {B B' sz : Nat} {t : TypeId} {v : Value} {n : Nat} {xs : List Value} (h : w.ownsRow B t sz v n xs) (hB : B' ≤ B) : w.ownsRow B' t sz v n xs := by
  refine ⟨h.1, ?_⟩
  rcases h.2 with hn | ⟨g, cap, cur, hv, hg, r⟩
  · exact .inl hn
  · exact .inr ⟨g, cap, cur, hv, Nat.le_trans hB hg, r⟩

/-- a row stays where no block below a bound is touched, and it lies below. -/
theorem owns_below {w w' : World} {base sz B : Nat} {t : TypeId} {v : Value} {n : Nat} {xs : List Value} (h : w.ownsRow base t sz v n xs) (hb : Below B w w') (hB : w.heap.size ≤ B) : w'.ownsRow base t sz v n xs := by
  refine ⟨h.1, ?_⟩
  rcases h.2 with hn | ⟨g, cap, cur, hv, hg, hh, r⟩
  · exact .inl hn
  · exact .inr ⟨g, cap, cur, hv, hg, by rw [hb.block g (Nat.lt_of_lt_of_le (lt_of_block hh) hB)]; exact hh, r⟩

theorem grow_refl (w : World) (r : Option Nat) : w.grownBy w r := ⟨rfl, rfl, rfl, Nat.le_refl _, fun _ _ _ => rfl⟩

theorem size_alloc' (w : World) (o : Obj) : (w.alloc o).heap.size = w.heap.size + 1 := by
  show (w.heap.push o).size = _
  simp

theorem below_drewN (w : World) (n : Nat) : Below w.heap.size w (w.drewN n) := by
  induction n with
  | zero => exact Below.refl _ _
  | succ n ih => exact ih.drew

/-- a block of cells that nobody froze. -/
def Blk (w : World) (b : Nat) (t : TypeId) (l : List Value) : Prop := w.heap[b]? = some (.cells l.toArray t (0, 0))

section
variable {w : World} {b : Nat} {t : TypeId} {l : List Value}
theorem Blk.cell (h : Blk w b t l) (i : Nat) : w.cell? ⟨b, i, none⟩ = l[i]? := by
  rw [cell_of_row w b i _ _ _ h]
  simp
theorem Blk.f (h : Blk w b t l) (i : Nat) : w.frozen? ⟨b, i, none⟩ = false := frozen_of_row w b i _ _ h
theorem Blk.lt (h : Blk w b t l) : b < w.heap.size := lt_of_block h
theorem Blk.below {w' : World} {B : Nat} (h : Blk w b t l) (hb : Below B w w') (hB : b < B) : Blk w' b t l := by unfold Blk; rw [hb.block b hB]; exact h
theorem Blk.over {w' : World} (h : Blk w b t l) (hb : Below w.heap.size w w') : Blk w' b t l := h.below hb h.lt
theorem Blk.drew (h : Blk w b t l) : Blk w.drew b t l := h
theorem Blk.set (h : Blk w b t l) (i : Nat) (v : Value) : Blk (w.setCell ⟨b, i, none⟩ v) b t (l.set i v) := by
  have := heap_setCell_same w b i _ _ v h
  unfold Blk
  rw [this]
  simp
theorem Blk.other (h : Blk w b t l) (a : Addr) (v : Value) (hne : b ≠ a.block) : Blk (w.setCell a v) b t l := by
  unfold Blk
  rw [heap_setCell_other w a b v hne]
  exact h
theorem Blk.row (h : Blk w b t l) (cs : Array Value) : Blk (w.setRow b cs) b t cs.toList := by
  unfold Blk
  rw [setRow_heap w b _ cs _ _ h]
theorem Blk.row_other (h : Blk w b t l) (g : Nat) (cs : Array Value) (hne : b ≠ g) : Blk (w.setRow g cs) b t l := by
  unfold Blk
  rw [setRow_other w g b cs hne]
  exact h
theorem Blk.alloc (h : Blk w b t l) (o : Obj) : Blk (w.alloc o) b t l := by
  unfold Blk
  have hb : Below w.heap.size w (w.alloc o) := (Below.refl _ _).alloc (Nat.le_refl _) _
  rw [hb.block b h.lt]
  exact h
end

theorem blk_new (w : World) (cs : Array Value) (t : TypeId) : Blk (w.alloc (Obj.cells cs t)) w.heap.size t cs.toList := by
  unfold Blk
  rw [heap_alloc_new]

theorem blk_new' (w : World) (o : Obj) (cs : Array Value) (t : TypeId) : Blk ((w.alloc o).alloc (Obj.cells cs t)) (w.heap.size + 1) t cs.toList := by
  have := blk_new (w.alloc o) cs t
  rw [size_alloc'] at this
  exact this

/-- an item of an array by value. -/
theorem index_row (t e : TypeId) (n : Nat) (ik k : IntKind) (ht : Tryz.prog.underlying t = some (.array n e)) (he : Tryz.prog.underlying e = some (.int k)) (hsz : ∀ w, (sizeOf e).run Tryz.prog w = .ok 1 w)
    (A : Array Value) (i : Nat) (x : Int) (hi : i < n) (hA : A[i]? = some (.int k x)) (W : World) : (Instr.index t (.agg A) (.int ik i)).run Tryz.prog W = .ok (.int k x) W := by
  have hc : (0 : Int) ≤ (i : Int) ∧ (i : Int) < (n : Int) := by omega
  simp [Instr.index, asIntOf, run_underlying ht, hsz, part, isAgg, run_underlying he, hc, hA]
  intro h
  omega

/-- the numbers that a slice leads to. -/
def Ns (k : IntKind) (w : World) (a : Option Addr) (len : Nat) (l : List Int) : Prop :=
  l.length = len ∧ (0 < len → ∃ b off, a = some ⟨b, off, none⟩ ∧ ∀ i, i < len → w.cell? ⟨b, off + i, none⟩ = some (.int k (l.getD i 0)))

theorem Ns.below {k : IntKind} {w w' : World} {a : Option Addr} {len : Nat} {l : List Int} (h : Ns k w a len l) (hb : Below w.heap.size w w') : Ns k w' a len l := by
  refine ⟨h.1, fun h0 => ?_⟩
  obtain ⟨b, off, ha, hc⟩ := h.2 h0
  refine ⟨b, off, ha, fun i hi => ?_⟩
  rw [hb.cell (p := ⟨b, off + i, none⟩) (World.block_lt_of_cell? w _ (hc i hi))]
  exact hc i hi


/-- numbers as cells. -/
def cellsU (l : List Int) : List Value := l.map (Value.int .u32)

theorem cellsU_app (l m : List Int) : cellsU (l ++ m) = cellsU l ++ cellsU m := by simp [cellsU]
theorem cellsU_one (l : List Int) : (cellsU l).toArray.all (·.oneCell') = true := by simp [cellsU, Value.oneCell']

theorem owns_ns {w : World} {base : Nat} {v : Value} {n : Nat} {l : List Int} (h : w.ownsRow base 37 1 v n (cellsU l)) : ∃ a cap, v = .slice a n cap ∧ Ns .u32 w a n l ∧ n ≤ cap ∧ (a = none → cap = 0) := by
  have hlen : l.length = n := by have := h.1; simpa [cellsU] using this
  rcases h.2 with ⟨rfl, rfl⟩ | ⟨g, cap, cur, rfl, hb, hg, hnc, hcm, hcs, htake⟩
  · exact ⟨none, 0, rfl, ⟨hlen, fun h => absurd h (by omega)⟩, by omega, fun _ => rfl⟩
  · refine ⟨_, cap, rfl, ⟨hlen, fun _ => ⟨g, 0, rfl, fun i hi => ?_⟩⟩, hnc, fun h => by cases h⟩
    have := h.cells (g := g) rfl i (.int .u32 (l.getD i 0)) (by simp [cellsU, List.getElem?_eq_getElem (show i < l.length from by omega)])
    rw [show (⟨g, 0 + i, none⟩ : Addr) = (⟨g, 0, none⟩ : Addr).add i from by unfold Addr.add; split <;> simp_all]
    exact this

theorem Ns.news {w : World} {x : Addr} {len : Nat} {l : List Int} (h : Ns .u32 w (some x) len l) : ∀ j u, (cellsU l)[j]? = some u → w.cell? (x.add j) = some u := by
  intro j u hu
  have hj : j < l.length := by
    have := (List.getElem?_eq_some_iff.1 hu).1
    simpa [cellsU] using this
  obtain ⟨b, off, e, hc⟩ := h.2 (by have := h.1; omega)
  cases e
  have := hc j (by have := h.1; omega)
  rw [show (⟨b, off + j, none⟩ : Addr) = (⟨b, off, none⟩ : Addr).add j from by unfold Addr.add; split <;> simp_all] at this
  rw [this]
  simp [cellsU, List.getElem?_eq_getElem hj] at hu ⊢
  exact hu

theorem Ns.nil {k : IntKind} {w : World} {len : Nat} {l : List Int} (h : Ns k w none len l) : len = 0 ∧ l = [] := by
  have h0 : len = 0 := by
    rcases Nat.eq_zero_or_pos len with e | e
    · exact e
    · obtain ⟨_, _, e, _⟩ := h.2 e
      cases e
  exact ⟨h0, List.eq_nil_of_length_eq_zero (by rw [h.1, h0])⟩

theorem Ns.drop {k : IntKind} {w : World} {b off len : Nat} {l : List Int} (h : Ns k w (some ⟨b, off, none⟩) len l) (i : Nat) (hi : i ≤ len) : Ns k w (some ⟨b, off + i, none⟩) (len - i) (l.drop i) := by
  refine ⟨by rw [List.length_drop, h.1], fun h0 => ⟨b, off + i, rfl, fun j hj => ?_⟩⟩
  obtain ⟨_, _, e, hc⟩ := h.2 (by omega)
  cases e
  rw [Nat.add_assoc, hc (i + j) (by omega)]
  simp

theorem append_nums {w : World} {ops : Array Oper} {rest : List Oper} {o : Oper} {a : Act} {Q : Exit → Act → World → Prop} (hgd : o.guard = none) (s x : Operand)
    (ho : o.op = .call { callee := .builtin .append, args := #[s, x], argTypes := #[75, 75] })
    (base : Nat) (v : Value) (n : Nat) (l : List Int) (hs : a.eval s = v) (hown : w.ownsRow base 37 1 v n (cellsU l))
    (ao : Option Addr) (m c : Nat) (k : List Int) (hx : a.eval x = .slice ao m c) (hao : ao = none → c = 0) (hb : Ns .u32 w ao m k)
    (hn : n + m ≤ 1000000000) (hbase : base ≤ w.heap.size)
    (h : ∀ v' w', w'.ownsRow base 37 1 v' (n + m) (cellsU (l ++ k)) → w.grownBy w' v.ownBlock → wpList Tryz.prog ops Q rest (a.put o.dst v') w') : wpList Tryz.prog ops Q (o :: rest) a w := by
  obtain ⟨i0, hi, hz0, hz1, hz2⟩ := info_parts Tryz.info37
  cases ao with
  | none =>
    obtain ⟨rfl, rfl⟩ := hb.nil
    obtain rfl := hao rfl
    refine wpList_append_own_none hgd s x 75 ho base 37 i0 1 Tryz.underlying75 hi v n (cellsU l) hs hown hx ?_
    exact h v w (by simpa using hown) (grow_refl _ _)
  | some ad =>
    refine wpList_append_own _ hgd s x 75 ho base 37 i0 (.int .u32 0) 1 4 Tryz.underlying75 hi hz0 hz1 hz2 rfl (by decide) v n (cellsU l) hs hown ad m c (cellsU k) hx (by simp [cellsU, hb.1]) hb.news (by intro u hu; simp [cellsU] at hu; obtain ⟨z, _, rfl⟩ := hu; rfl) (by unfold maxLen; omega) (by omega) hbase ?_
    intro v' w' h1 h2 _
    exact h v' w' (by rw [cellsU_app]; exact h1) h2

/-- a row of two numbers, just made. -/
theorem ns_two (w : World) (p q : Int) : Ns .u32 (w.alloc (.cells #[.int .u32 p, .int .u32 q] 37)) (some ⟨w.heap.size, 0, none⟩) 2 [p, q] := by
  refine ⟨rfl, fun _ => ⟨_, _, rfl, fun i hi => ?_⟩⟩
  match i, hi with
  | 0, _ => simp
  | 1, _ => simp

/-- an act as a value. -/
def actV (k a : Int) : Value := .agg #[.int .i64 k, .int .i64 a]

/-- are two acts the same? -/
def sameA (k a k' a' : Int) : Bool := k == k' && a == a'

theorem sameA_self (k a : Int) : sameA k a k a = true := by simp [sameA]

theorem equalIn_act (k a k' a' : Int) (w : World) : (Op.equalIn 10000 23 (.agg #[.int .i64 k, .int .i64 a]) (.agg #[.int .i64 k', .int .i64 a'])).run Tryz.prog w = .ok (sameA k a k' a') w := by
  have u3 := Tryz.underlying3
  have a3 := Tryz.isAgg3
  have z3 := Tryz.sizeOf3
  have hS : Tryz.prog.underlying 23 = some (.struct (Tryz.prog.fieldsOf 23)) := by kernel_rfl
  have hp : Tryz.prog.stoodInHeld 23 = false := by kernel_rfl
  rw [show (10000 : Nat) = 9999 + 1 from rfl, run_equalIn_agg w 9999 23 _ _ hS hp]
  simp only [Program.fieldsOf, Tryz.underlying23]
  go_simp
  unfold sameA
  by_cases h1 : k = k' <;> by_cases h2 : a = a' <;> simp [h1, h2]

theorem eql_act (k a k' a' : Int) (w : World) : (binOp .eql 23 (.agg #[.int .i64 k, .int .i64 a]) (.agg #[.int .i64 k', .int .i64 a'])).run Tryz.prog w = .ok (.bool (sameA k a k' a')) w := by
  rw [run_eql_struct, equalIn_act]
  rfl

theorem neq_act (k a k' a' : Int) (w : World) : (binOp .neq 23 (.agg #[.int .i64 k, .int .i64 a]) (.agg #[.int .i64 k', .int .i64 a'])).run Tryz.prog w = .ok (.bool (!sameA k a k' a')) w := by
  rw [run_neq_struct, equalIn_act]
  rfl

/-- an act in a box of its own, and all that was there stands. -/
def Box (w : World) (g : Nat) (k a : Int) (X : World) : Prop := X.cell? ⟨g, 0, none⟩ = some (.int .i64 k) ∧ X.cell? ⟨g, 1, none⟩ = some (.int .i64 a) ∧ g < X.heap.size ∧ Below w.heap.size w X

theorem Box.over {w : World} {g : Nat} {k a : Int} {X Y : World} (h : Box w g k a X) (hb : Below X.heap.size X Y) : Box w g k a Y :=
  ⟨(hb.cell (p := ⟨g, 0, none⟩) h.2.2.1).trans h.1, (hb.cell (p := ⟨g, 1, none⟩) h.2.2.1).trans h.2.1, Nat.lt_of_lt_of_le h.2.2.1 hb.size, h.2.2.2.trans (hb.mono h.2.2.2.size)⟩

theorem Box.drew {w : World} {g : Nat} {k a : Int} {X : World} (h : Box w g k a X) : Box w g k a X.drew := h.over (Below.refl _ _).drew

theorem box_new (w : World) (k a : Int) : Box w w.heap.size k a (w.alloc (Obj.cells #[.int .i64 k, .int .i64 a] 23)) :=
  ⟨(blk_new w _ 23).cell 0, (blk_new w _ 23).cell 1, (blk_new w _ 23).lt, (Below.refl _ _).alloc (Nat.le_refl _) _⟩

/-- an act's kind. -/
theorem field_act (k a : Int) (w : World) : (Instr.field 23 (.agg #[.int .i64 k, .int .i64 a]) 0).run Tryz.prog w = .ok (.int .i64 k) w := by kernel_rfl

end Go.Proofs.YtpojlfenmanehaaGreat.A

namespace Go.Proofs.YtpojlfenmanehaaGreat.A
open Go.RowKit

theorem has_any (k : Int) (w : World) :
    Calls Tryz.prog 99 #[.int .i64 k] w fun e w' => e = .returned (.bool (hasB k)) ∧ w' = w := by
  go_enter Tryz.func99, Tryz.ntmps99
  go_wp2
  all_goals (go_ret; exact ⟨ret_bool (by simp [hasB, *]), rfl⟩)

theorem refHas_any (k : Int) (w : World) :
    Calls Tryz.prog 74 #[.int .i64 k] w fun e w' => e = .returned (.bool (hasB k)) ∧ w' = w := by
  go_enter Tryz.func74, Tryz.ntmps74
  go_wp2
  all_goals (go_ret; exact ⟨ret_bool (by simp [hasB, *]), rfl⟩)

theorem numbers_any (w : World) :
    Calls Tryz.prog 106 #[] w fun e w' => e = .returned (.agg (cellsU tblL).toArray) ∧ Below w.heap.size w w' := by
  have e1 : ∀ o, Below w.heap.size w (w.alloc o) := fun o => (Below.refl _ _).alloc (Nat.le_refl _) _
  go_enter Tryz.func106, Tryz.ntmps106
  go_wp2
  refine bodyPost_ret (v := .agg (cellsU tblL).toArray) (by simp [results, Tryz.results106, go_sem, cellsU, tblL]) rfl ⟨rfl, ?_⟩
  exact e1 _

theorem tbl_at (k : Nat) (h : k < 9) : (cellsU tblL)[k]? = some (.int .u32 (tblL.getD k 0)) := by
  match k, h with
  | 0, _ | 1, _ | 2, _ | 3, _ | 4, _ | 5, _ | 6, _ | 7, _ | 8, _ => rfl

/-- the document's numbers, from 1 on. -/
def refL : List Int := [2147483648, 0, 196608, 327680, 2143289344, 2146435072, 2147221504, 2147418112]

theorem refL_at (i : Nat) (h : i < 8) : refL.getD i 0 = tblL.getD (i + 1) 0 := by
  match i, h with
  | 0, _ | 1, _ | 2, _ | 3, _ | 4, _ | 5, _ | 6, _ | 7, _ => rfl

theorem ns_ref (w : World) : Ns .u32 (w.alloc (.cells #[.int .u32 2147483648, .int .u32 0, .int .u32 196608, .int .u32 327680, .int .u32 2143289344, .int .u32 2146435072, .int .u32 2147221504, .int .u32 2147418112] 37)) (some ⟨w.heap.size, 0, none⟩) 8 refL := by
  refine ⟨rfl, fun _ => ⟨_, _, rfl, fun i hi => ?_⟩⟩
  match i, hi with
  | 0, _ | 1, _ | 2, _ | 3, _ | 4, _ | 5, _ | 6, _ | 7, _ => simp [refL]

theorem refNumbers_any (w : World) :
    Calls Tryz.prog 54 #[] w fun e w' => e = .returned (.slice (some ⟨w.heap.size, 0, none⟩) 8 8) ∧ Ns .u32 w' (some ⟨w.heap.size, 0, none⟩) 8 refL ∧ Below w.heap.size w w' := by
  have e1 : ∀ o, Below w.heap.size w (w.alloc o) := fun o => (Below.refl _ _).alloc (Nat.le_refl _) _
  go_enter Tryz.func54, Tryz.ntmps54
  go_wp2
  go_ret
  exact ⟨rfl, ns_ref w, e1 _⟩

set_option maxHeartbeats 400000 in
theorem right_any (k a : Int) (w : World) :
    Calls Tryz.prog 59 #[.agg #[.int .i64 k, .int .i64 a]] w fun e w' => e = .returned (.bool (rightB k a)) ∧ Below w.heap.size w w' := by
  have e1 : ∀ o, Below w.heap.size w (w.alloc o) := fun o => (Below.refl _ _).alloc (Nat.le_refl _) _
  have HH : Hid (∀ W : World, Calls Tryz.prog 99 #[.int .i64 k] W fun e w' => e = .returned (.bool (hasB k)) ∧ w' = W) := fun W => has_any k W
  by_cases h1 : k < 1
  · have er : rightB k a = false := by
      unfold rightB
      have : decide (1 ≤ k) = false := by simp; omega
      rw [this]
      rfl
    rw [er]
    clear HH er
    go_enter Tryz.func59, Tryz.ntmps59
    go_wp2
    go_ret
    exact ⟨rfl, e1 _⟩
  · by_cases h8 : 8 < k
    · have er : rightB k a = false := by
        unfold rightB
        have : decide (k ≤ 8) = false := by simp; omega
        rw [this]
        simp
      rw [er]
      clear HH er
      go_enter Tryz.func59, Tryz.ntmps59
      go_wp2
      go_ret
      exact ⟨rfl, e1 _⟩
    · have er : Hid (rightB k a = (a == 0 || hasB k && decide (0 ≤ a) && decide (a ≤ 65535))) := by
        unfold Hid rightB
        have d1 : decide (1 ≤ k) = true := by simp; omega
        have d2 : decide (k ≤ 8) = true := by simp; omega
        rw [d1, d2]
        rfl
      rw [er.out]
      have hg : hasB k = true ∨ hasB k = false := by cases hasB k <;> simp
      rcases hg with hg | hg
      · rw [hg] at HH ⊢
        clear hg
        have HZ : Hid ((a == 0 || true && decide (0 ≤ a) && decide (a ≤ 65535)) = (decide (0 ≤ a) && decide (a ≤ 65535))) := by
          unfold Hid
          by_cases h0 : a = 0
          · subst h0; rfl
          · simp [h0]
        rw [HZ.out]
        go_enter Tryz.func59, Tryz.ntmps59
        go_wp2_with (go_at_call 99; refine (HH.out _).mono ?_; rintro e w2 ⟨rfl, rfl⟩)
        all_goals (go_ret; exact ⟨ret_bool (by simp <;> omega), e1 _⟩)
      · rw [hg] at HH ⊢
        clear hg
        rw [Bool.false_and, Bool.false_and, Bool.or_false]
        go_enter Tryz.func59, Tryz.ntmps59
        go_wp2_with (go_at_call 99; refine (HH.out _).mono ?_; rintro e w2 ⟨rfl, rfl⟩)
        all_goals (go_ret; exact ⟨ret_bool (by simp), e1 _⟩)

end Go.Proofs.YtpojlfenmanehaaGreat.A

namespace Go.Proofs.YtpojlfenmanehaaGreat.A
open Go.RowKit

theorem value_wrong (k a : Int) (w : World) (h : rightB k a = false) :
    Calls Tryz.prog 64 #[.agg #[.int .i64 k, .int .i64 a]] w fun e w' => e = .returned (.tuple #[.int .u32 0, .int .i64 1]) ∧ Below w.heap.size w w' := by
  have HR : Hid (∀ W : World, Calls Tryz.prog 59 #[.agg #[.int .i64 k, .int .i64 a]] W fun e w' => e = .returned (.bool false) ∧ Below W.heap.size W w') := fun W => h ▸ right_any k a W
  have HB : Hid (∀ o, Below w.heap.size w (w.alloc o)) := fun o => (Below.refl _ _).alloc (Nat.le_refl _) _
  clear h
  go_enter Tryz.func64, Tryz.ntmps64
  go_wp2_with (go_at_call 59; refine (HR.out _).mono ?_; rintro e w2 ⟨rfl, b2⟩)
  go_ret2
  exact ⟨rfl, (HB.out _).trans (b2.mono (HB.out _).size)⟩

set_option maxHeartbeats 800000 in
theorem value_right (k a : Int) (w : World) (h : rightB k a = true) :
    Calls Tryz.prog 64 #[.agg #[.int .i64 k, .int .i64 a]] w fun e w' => e = .returned (.tuple #[.int .u32 (numK k + a), .int .i64 0]) ∧ Below w.heap.size w w' := by
  have HR : Hid (∀ W : World, Calls Tryz.prog 59 #[.agg #[.int .i64 k, .int .i64 a]] W fun e w' => e = .returned (.bool true) ∧ Below W.heap.size W w') := fun W => h ▸ right_any k a W
  have HB : Hid (∀ o, Below w.heap.size w (w.alloc o)) := fun o => (Below.refl _ _).alloc (Nat.le_refl _) _
  have HN : Hid (∀ W : World, Calls Tryz.prog 106 #[] W fun e w' => e = .returned (.agg (cellsU tblL).toArray) ∧ Below W.heap.size W w') := numbers_any
  obtain ⟨h1, h8, a0, a1, -⟩ := right_bd h
  obtain ⟨n0, n1, n2, -⟩ := numK_top h1 h8
  have ho : bits BinOp.or IntKind.u32 (numK k) a = numK k + a := or_bits _ a n0 n1 n2 a0 a1
  have hw : IntKind.u32.wrap a = a := by rw [IntKind.wrap_u32]; omega
  have hix : ∀ W : World, (Instr.index 144 (.agg (cellsU tblL).toArray) (.int .i64 k)).run Tryz.prog W = .ok (.int .u32 (numK k)) W := by
    obtain ⟨m, rfl⟩ := Int.eq_ofNat_of_zero_le (show 0 ≤ k by omega)
    intro W
    refine index_row 144 37 9 .i64 .u32 Tryz.underlying144 Tryz.underlying37 Tryz.sizeOf37 _ m _ (by omega) ?_ W
    rw [List.getElem?_toArray, tbl_at m (by omega)]
    unfold numK
    rw [Int.toNat_natCast]
  generalize (cellsU tblL).toArray = R at *
  generalize numK k = z at *
  have HK : Hid (Blk (w.alloc (Obj.cells #[.int .i64 k, .int .i64 a] 23)) w.heap.size 23 [.int .i64 k, .int .i64 a]) := blk_new w _ 23
  clear h h1 h8 n0 n1 n2
  go_enter Tryz.func64, Tryz.ntmps64
  go_wp2_with (go_at_call 59; refine (HR.out _).mono ?_; rintro e w2 ⟨rfl, b2⟩)
  have B2 : Hid (Below w.heap.size w w2) := (HB.out _).trans (b2.mono (HB.out _).size)
  have D2 : Hid (Blk w2 w.heap.size 23 [.int .i64 k, .int .i64 a]) := HK.out.over b2
  have c0 : w2.cell? ⟨w.heap.size, 0, none⟩ = some (.int .i64 k) := D2.out.cell 0
  have c1 : w2.cell? ⟨w.heap.size, 1, none⟩ = some (.int .i64 a) := D2.out.cell 1
  have HQ : Hid (Calls Tryz.prog 106 #[] w2.drew fun e w' => e = .returned (.agg R) ∧ ((fun X => X.cell? ⟨w.heap.size, 0, none⟩ = some (.int .i64 k) ∧ X.cell? ⟨w.heap.size, 1, none⟩ = some (.int .i64 a)) w' ∧ Hid (Below w.heap.size w w'))) := by
    refine (HN.out w2.drew).mono ?_
    rintro e w' ⟨rfl, hb⟩
    have D3 : Blk w' w.heap.size 23 [.int .i64 k, .int .i64 a] := D2.out.drew.over hb
    exact ⟨rfl, ⟨D3.cell 0, D3.cell 1⟩, B2.out.drew.trans (hb.mono B2.out.size)⟩
  clear b2
  go_region_held3 (fun X => X.cell? ⟨w.heap.size, 0, none⟩ = some (.int .i64 k) ∧ X.cell? ⟨w.heap.size, 1, none⟩ = some (.int .i64 a)) (first | assumption | go_keep) (first | (go_at_call 106; refine (HQ.out).mono ?_; rintro e w5 ⟨rfl, hS5, G5⟩))
  all_goals
    go_wp2
    go_ret2
    exact ⟨rfl, G5.out⟩

theorem value_any (k a : Int) (w : World) :
    Calls Tryz.prog 64 #[.agg #[.int .i64 k, .int .i64 a]] w fun e w' => e = .returned (.tuple #[.int .u32 (valZ k a), .int .i64 (errZ k a)]) ∧ Below w.heap.size w w' := by
  unfold valZ errZ
  by_cases h : rightB k a = true
  · rw [if_pos h, if_pos h]
    exact value_right k a w h
  · rw [if_neg h, if_neg h]
    exact value_wrong k a w (by simpa using h)

end Go.Proofs.YtpojlfenmanehaaGreat.A

