/-
  GDMath GDMem GDSame GDSmall GDSplit GDBytes GDRead GDJoin.
-/
import Derived.Test.YtmcgcbgblgmmkaaGreatDoorRows
import Derived.WalkKit
import Derived.WalkSpells
import Derived.WalkLawsBesides
import Derived.Laws.AppendOwnNone
import Derived.Laws.MakeOwn
import Derived.Laws.BytesArg
import Derived.Laws.Rows
import Derived.Laws.Tables
import Derived.Laws.CopyOwn
import Derived.Laws.StructEq
import Derived.Laws.Bits64b
import Derived.BigQuiet
import Derived.Laws.BitsAllLaws
import Derived.Deep.RegionHeld3
import Derived.Deep.DeepCutAuto
import Derived.Test.YtmcgcbgblgmmkaaGreatDoorQ0
set_option maxRecDepth 100000
set_option maxHeartbeats 2000000
namespace Go.Proofs.YtmcgcbgblgmmkaaGreatDoor.G.D
def U32 (x : Int) : Prop := 0 <= x /\ x <= 4294967295
def U64 (x : Int) : Prop := 0 <= x /\ x <= 18446744073709551615
structure Da where
 n : Int
 a : Int
 p : Int
 g : List Int
def Da.ok (d : Da) : Prop := U32 d.n /\ U32 d.a /\ U64 d.p /\ d.g.length = 6 /\ ∀ z ∈ d.g, U64 z
def Byt (l : List Int) : Prop := ∀ z ∈ l, 0 <= z /\ z <= 255
def lo (x : Int) : Int := x % 4294967296
def hi (x : Int) : Int := x / 4294967296
def both (x y : Int) : Int := x + 4294967296 * y
theorem lo_u (x : Int) : U32 (lo x) := by unfold U32 lo; omega
theorem hi_u (x : Int) (h : U64 x) : U32 (hi x) := by unfold U64 at h; unfold U32 hi; omega
theorem both_u (x y : Int) (hx : U32 x) (hy : U32 y) : U64 (both x y) := by unfold U32 at hx hy; unfold U64 both; omega
theorem both_lohi (x : Int) : both (lo x) (hi x) = x := by unfold both lo hi; omega
def Da.words (d : Da) : List Int := d.n :: d.a :: lo d.p :: hi d.p :: d.g.flatMap (fun x => [lo x, hi x])
def w4 (x : Int) : List Int := [x % 256, x / 256 % 256, x / 65536 % 256, x / 16777216]
def encW (ws : List Int) : List Int := ws.flatMap w4
def Da.enc (d : Da) : List Int := encW d.words
def r4 (l : List Int) : Int := l.getD 0 0 + 256 * l.getD 1 0 + 65536 * l.getD 2 0 + 16777216 * l.getD 3 0
def readW (l : List Int) (n : Nat) : List Int := (List.range n).map (fun i => r4 (l.drop (i * 4)))
def join (ws : List Int) : Da := ⟨ws.getD 0 0, ws.getD 1 0, both (ws.getD 2 0) (ws.getD 3 0), (List.range 6).map (fun i => both (ws.getD (4 + 2 * i) 0) (ws.getD (4 + 2 * i + 1) 0))⟩
def Da.zero : Da := ⟨0, 0, 0, [0, 0, 0, 0, 0, 0]⟩
def decOf (l : List Int) : Da := if l.length = 64 then join (readW l 16) else Da.zero
def errOf (n : Nat) : Int := if n < 64 then 2 else if 64 < n then 3 else 0
theorem six {g : List Int} (h : g.length = 6) : ∃ a b c d e f, g = [a, b, c, d, e, f] := by
 match g, h with
 | [a, b, c, d, e, f], _ => exact ⟨a, b, c, d, e, f, rfl⟩
theorem words_len (d : Da) (h : d.ok) : d.words.length = 16 := by
 obtain ⟨n, a, p, g⟩ := d
 obtain ⟨_, _, _, hg, _⟩ := h
 obtain ⟨x0, x1, x2, x3, x4, x5, rfl⟩ := six hg
 rfl
theorem words_u (d : Da) (h : d.ok) : ∀ z ∈ d.words, U32 z := by
 intro z hz
 simp only [Da.words, List.mem_cons, List.mem_flatMap, List.not_mem_nil, or_false] at hz
 rcases hz with rfl | rfl | rfl | rfl | ⟨x, hx, rfl | rfl⟩
 ·exact h.1
 ·exact h.2.1
 ·exact lo_u _
 ·exact hi_u _ h.2.2.1
 ·exact lo_u _
 ·exact hi_u _ (h.2.2.2.2 x hx)
theorem join_words (d : Da) (h : d.ok) : join d.words = d := by
 obtain ⟨n, a, p, g⟩ := d
 obtain ⟨_, _, _, hg, _⟩ := h
 obtain ⟨x0, x1, x2, x3, x4, x5, rfl⟩ := six hg
 show Da.mk n a (both (lo p) (hi p)) [both (lo x0) (hi x0), both (lo x1) (hi x1), both (lo x2) (hi x2), both (lo x3) (hi x3), both (lo x4) (hi x4), both (lo x5) (hi x5)] = _
 simp only [both_lohi]
theorem getD_u {ws : List Int} (h : ∀ z ∈ ws, U32 z) (k : Nat) : U32 (ws.getD k 0) := by
 rw [List.getD_eq_getElem?_getD]
 by_cases hk : k < ws.length
 ·rw [List.getElem?_eq_getElem hk]; exact h _ (List.getElem_mem hk)
 ·rw [List.getElem?_eq_none (by omega)]; exact ⟨by decide, by decide⟩
theorem join_ok (ws : List Int) (h : ∀ z ∈ ws, U32 z) : (join ws).ok := by
 refine ⟨getD_u h 0, getD_u h 1, both_u _ _ (getD_u h 2) (getD_u h 3), by simp [join], ?_⟩
 intro z hz
 simp only [join, List.mem_map] at hz
 obtain ⟨i, _, rfl⟩ := hz
 exact both_u _ _ (getD_u h _) (getD_u h _)
theorem zero_ok : Da.zero.ok := by
 refine ⟨⟨by decide, by decide⟩, ⟨by decide, by decide⟩, ⟨by decide, by decide⟩, rfl, ?_⟩
 intro z hz
 simp only [Da.zero, List.mem_cons, List.not_mem_nil, or_false, or_self] at hz
 subst hz
 exact ⟨by decide, by decide⟩
theorem w4_byt (x : Int) (h : U32 x) : Byt (w4 x) := by
 unfold U32 at h
 intro z hz
 simp only [w4, List.mem_cons, List.not_mem_nil, or_false] at hz
 rcases hz with rfl | rfl | rfl | rfl <;> omega
theorem encW_cons (x : Int) (ws : List Int) : encW (x :: ws) = w4 x ++ encW ws := rfl
theorem encW_snoc (ws : List Int) (x : Int) : encW (ws ++ [x]) = encW ws ++ w4 x := by simp [encW]
theorem encW_len (ws : List Int) : (encW ws).length = ws.length * 4 := by
 induction ws with
 | nil => rfl
 | cons x l ih => rw [encW_cons, List.length_append, ih, List.length_cons, Nat.add_mul]; show 4 + _ = _; omega
theorem encW_byt (ws : List Int) (h : ∀ z ∈ ws, U32 z) : Byt (encW ws) := by
 intro z hz
 simp only [encW, List.mem_flatMap] at hz
 obtain ⟨x, hx, hz⟩ := hz
 exact w4_byt x (h x hx) z hz
theorem encW_take (ws : List Int) (k : Nat) (hk : k < ws.length) : encW (ws.take (k + 1)) = encW (ws.take k) ++ w4 (ws.getD k 0) := by
 rw [List.take_add_one, List.getElem?_eq_getElem hk, List.getD_eq_getElem?_getD, List.getElem?_eq_getElem hk]
 exact encW_snoc _ _
theorem r4_w4 (x : Int) (r : List Int) (_h : U32 x) : r4 (w4 x ++ r) = x := by
 show x % 256 + 256 * (x / 256 % 256) + 65536 * (x / 65536 % 256) + 16777216 * (x / 16777216) = x
 omega
theorem byt_get {l : List Int} (h : Byt l) (k : Nat) : 0 <= l.getD k 0 /\ l.getD k 0 <= 255 := by
 rw [List.getD_eq_getElem?_getD]
 by_cases hk : k < l.length
 ·have := h _ (List.getElem_mem hk)
  rw [List.getElem?_eq_getElem hk]; exact this
 ·rw [List.getElem?_eq_none (by omega)]; simp
theorem r4_u (l : List Int) (h : Byt l) : U32 (r4 l) := by
 have g0 := byt_get h 0
 have g1 := byt_get h 1
 have g2 := byt_get h 2
 have g3 := byt_get h 3
 constructor
 ·show 0 <= l.getD 0 0 + 256 * l.getD 1 0 + 65536 * l.getD 2 0 + 16777216 * l.getD 3 0; omega
 ·show l.getD 0 0 + 256 * l.getD 1 0 + 65536 * l.getD 2 0 + 16777216 * l.getD 3 0 <= 4294967295; omega
theorem readW_len (l : List Int) (n : Nat) : (readW l n).length = n := by simp [readW]
theorem readW_succ (l : List Int) (n : Nat) : readW l (n + 1) = readW l n ++ [r4 (l.drop (n * 4))] := by simp [readW, List.range_succ]
theorem byt_drop {l : List Int} (h : Byt l) (k : Nat) : Byt (l.drop k) := fun z hz => h z (List.mem_of_mem_drop hz)
theorem readW_u (l : List Int) (n : Nat) (h : Byt l) : ∀ x ∈ readW l n, U32 x := by
 intro x hx
 simp only [readW, List.mem_map] at hx
 obtain ⟨i, _, rfl⟩ := hx
 exact r4_u _ (byt_drop h _)
theorem readW_cons (l : List Int) (n : Nat) : readW l (n + 1) = r4 l :: readW (l.drop 4) n := by
 induction n with
 | zero => simp [readW, List.range_succ]
 | succ n ih =>
  rw [readW_succ, ih, readW_succ, List.drop_drop]
  simp
  congr 2
  omega
theorem readW_encW (ws : List Int) (h : ∀ z ∈ ws, U32 z) : readW (encW ws) ws.length = ws := by
 induction ws with
 | nil => rfl
 | cons x l ih =>
  rw [List.length_cons, readW_cons, encW_cons, r4_w4 x _ (h x (by simp)), show (w4 x ++ encW l).drop 4 = encW l from List.drop_left' (i := 4) (l₁ := w4 x) rfl, ih (fun y hy => h y (by simp [hy]))]
theorem enc_len (d : Da) (h : d.ok) : d.enc.length = 64 := by unfold Da.enc; rw [encW_len, words_len d h]
theorem enc_byt (d : Da) (h : d.ok) : Byt d.enc := encW_byt _ (words_u d h)
theorem decOf_eq (l : List Int) (h : l.length = 64) : decOf l = join (readW l 16) := by unfold decOf; rw [if_pos h]
theorem decOf_ne (l : List Int) (h : l.length ≠ 64) : decOf l = Da.zero := by unfold decOf; rw [if_neg h]
theorem decOf_ok (l : List Int) (h : Byt l) : (decOf l).ok := by
 unfold decOf
 split
 ·exact join_ok _ (readW_u l 16 h)
 ·exact zero_ok
theorem dec_enc (d : Da) (h : d.ok) : decOf d.enc = d := by
 rw [decOf_eq _ (enc_len d h)]
 unfold Da.enc
 have := readW_encW d.words (words_u d h)
 rw [words_len d h] at this
 rw [this, join_words d h]
open Go.RowKit
theorem Tryz.info5 : (Tryz.prog.info? 5).map (fun i => (i.zero, i.size, i.bytes)) = some (some (.int .u8 0), 1, 1) := by kernel_rfl
def Bs (w : World) (a : Option Addr) (len : Nat) (l : List Int) : Prop :=
 l.length = len /\ Byt l /\
 (0 < len -> ∃ b off, a = some ⟨b, off, none⟩ /\ ∀ i, i < len -> w.cell? ⟨b, off + i, none⟩ = some (.int .u8 (l.getD i 0)))
def cellsB (l : List Int) : List Value := l.map (Value.int .u8)
theorem cellsB_app (l m : List Int) : cellsB (l ++ m) = cellsB l ++ cellsB m := by simp [cellsB]
theorem owns_block {w : World} {base sz : Nat} {t : TypeId} {v : Value} {n : Nat} {xs : List Value} (h : w.ownsRow base t sz v n xs) : ∀ k, v.ownBlock = some k -> base <= k := by
 intro k hk
 rcases h.2 with ⟨rfl, rfl⟩ | ⟨g, cap, cur, rfl, hb, _⟩
 ·cases hk
 ·cases hk; exact hb
theorem owns_lower {w : World} {B B' sz : Nat} {t : TypeId} {v : Value} {n : Nat} {xs : List Value} (h : w.ownsRow B t sz v n xs) (hB : B' <= B) : w.ownsRow B' t sz v n xs := by
 refine ⟨h.1, ?_⟩
 rcases h.2 with hn | ⟨g, cap, cur, hv, hg, r⟩
 ·exact .inl hn
 ·exact .inr ⟨g, cap, cur, hv, Nat.le_trans hB hg, r⟩
theorem owns_below {w w' : World} {base sz B : Nat} {t : TypeId} {v : Value} {n : Nat} {xs : List Value} (h : w.ownsRow base t sz v n xs) (hb : Below B w w') (hB : w.heap.size <= B) : w'.ownsRow base t sz v n xs := by
 refine ⟨h.1, ?_⟩
 rcases h.2 with hn | ⟨g, cap, cur, hv, hg, hh, r⟩
 ·exact .inl hn
 ·exact .inr ⟨g, cap, cur, hv, hg, by rw [hb.block g (Nat.lt_of_lt_of_le (lt_of_block hh) hB)]; exact hh, r⟩
theorem Bs.news {w : World} {x : Addr} {len : Nat} {l : List Int} (h : Bs w (some x) len l) : ∀ j u, (cellsB l)[j]? = some u -> w.cell? (x.add j) = some u := by
 intro j u hu
 have hj : j < l.length := by
  have := (List.getElem?_eq_some_iff.1 hu).1
  simpa [cellsB] using this
 obtain ⟨b, off, e, hc⟩ := h.2.2 (by have := h.1; omega)
 cases e
 have := hc j (by have := h.1; omega)
 rw [show (⟨b, off + j, none⟩ : Addr) = (⟨b, off, none⟩ : Addr).add j from by unfold Addr.add; split <;> simp_all] at this
 rw [this]
 simp [cellsB, List.getElem?_eq_getElem hj] at hu ⊢
 exact hu
theorem Bs.nil {w : World} {len : Nat} {l : List Int} (h : Bs w none len l) : len = 0 /\ l = [] := by
 have h0 : len = 0 := by
  rcases Nat.eq_zero_or_pos len with e | e
  ·exact e
  ·obtain ⟨_, _, e, _⟩ := h.2.2 e
   cases e
 exact ⟨h0, List.eq_nil_of_length_eq_zero (by rw [h.1, h0])⟩
theorem Bs.below {w w' : World} {a : Option Addr} {len : Nat} {l : List Int} (h : Bs w a len l) (hb : Below w.heap.size w w') : Bs w' a len l := by
 refine ⟨h.1, h.2.1, fun h0 => ?_⟩
 obtain ⟨b, off, ha, hc⟩ := h.2.2 h0
 refine ⟨b, off, ha, fun i hi => ?_⟩
 rw [hb.cell (p := ⟨b, off + i, none⟩) (World.block_lt_of_cell? w _ (hc i hi))]
 exact hc i hi
theorem grow_refl (w : World) (r : Option Nat) : w.grownBy w r := ⟨rfl, rfl, rfl, Nat.le_refl _, fun _ _ _ => rfl⟩
theorem append_bytes {w : World} {ops : Array Oper} {rest : List Oper} {o : Oper} {a : Act} {Q : Exit -> Act -> World -> Prop} (hgd : o.guard = none) (s x : Operand)
  (ho : o.op = .call { callee := .builtin .append, args := #[s, x], argTypes := #[37, 37] })
  (base : Nat) (v : Value) (n : Nat) (l : List Int) (hs : a.eval s = v) (hown : w.ownsRow base 5 1 v n (cellsB l))
  (ao : Option Addr) (m c : Nat) (k : List Int) (hx : a.eval x = .slice ao m c) (hao : ao = none -> c = 0) (hb : Bs w ao m k)
  (hn : n + m <= 1000000000) (hbase : base <= w.heap.size)
  (h : ∀ v' w', w'.ownsRow base 5 1 v' (n + m) (cellsB (l ++ k)) -> w.grownBy w' v.ownBlock -> wpList Tryz.prog ops Q rest (a.put o.dst v') w') : wpList Tryz.prog ops Q (o :: rest) a w := by
 obtain ⟨i0, hi, hz0, hz1, hz2⟩ := info_parts Tryz.info5
 cases ao with
 | none =>
  obtain ⟨rfl, rfl⟩ := hb.nil
  obtain rfl := hao rfl
  refine wpList_append_own_none hgd s x 37 ho base 5 i0 1 Tryz.underlying37 hi v n (cellsB l) hs hown hx ?_
  exact h v w (by simpa using hown) (grow_refl _ _)
 | some ad =>
  refine wpList_append_own _ hgd s x 37 ho base 5 i0 (.int .u8 0) 1 1 Tryz.underlying37 hi hz0 hz1 hz2 rfl (by decide) v n (cellsB l) hs hown ad m c (cellsB k) hx (by simp [cellsB, hb.1]) hb.news (by intro u hu; simp [cellsB] at hu; obtain ⟨z, _, rfl⟩ := hu; rfl) (by unfold maxLen; omega) (by omega) hbase ?_
  intro v' w' h1 h2 _
  exact h v' w' (by rw [cellsB_app]; exact h1) h2
theorem bs_four (w : World) (p q r s : Int) (h : Byt [p, q, r, s]) : Bs (w.alloc (.cells #[.int .u8 p, .int .u8 q, .int .u8 r, .int .u8 s] 5)) (some ⟨w.heap.size, 0, none⟩) 4 [p, q, r, s] := by
 refine ⟨rfl, h, fun _ => ⟨_, _, rfl, fun i hi => ?_⟩⟩
 match i, hi with
 | 0, _ => simp
 | 1, _ => simp
 | 2, _ => simp
 | 3, _ => simp
theorem size_alloc' (w : World) (o : Obj) : (w.alloc o).heap.size = w.heap.size + 1 := by
 show (w.heap.push o).size = _
 simp
theorem below_drewN (w : World) (n : Nat) : Below w.heap.size w (w.drewN n) := by
 induction n with
 | zero => exact Below.refl _ _
 | succ n ih => exact ih.drew
def Blk (w : World) (b : Nat) (t : TypeId) (l : List Value) : Prop := w.heap[b]? = some (.cells l.toArray t (0, 0))
section
variable {w : World} {b : Nat} {t : TypeId} {l : List Value}
theorem Blk.cell (h : Blk w b t l) (i : Nat) : w.cell? ⟨b, i, none⟩ = l[i]? := by
 rw [cell_of_row w b i _ _ _ h]
 simp
theorem Blk.f (h : Blk w b t l) (i : Nat) : w.frozen? ⟨b, i, none⟩ = false := frozen_of_row w b i _ _ h
theorem Blk.lt (h : Blk w b t l) : b < w.heap.size := lt_of_block h
theorem Blk.below {w' : World} {B : Nat} (h : Blk w b t l) (hb : Below B w w') (hB : b < B) : Blk w' b t l := by unfold Blk; rw [hb.block b hB]; exact h
theorem Blk.over {w' : World} (h : Blk w b t l) (hb : Below w.heap.size w w') : Blk w' b t l := h.below hb h.lt
theorem Blk.drew (h : Blk w b t l) : Blk w.drew b t l := h
theorem Blk.set (h : Blk w b t l) (i : Nat) (v : Value) : Blk (w.setCell ⟨b, i, none⟩ v) b t (l.set i v) := by
 have := heap_setCell_same w b i _ _ v h
 unfold Blk
 rw [this]
 simp
theorem Blk.other (h : Blk w b t l) (a : Addr) (v : Value) (hne : b ≠ a.block) : Blk (w.setCell a v) b t l := by
 unfold Blk
 rw [heap_setCell_other w a b v hne]
 exact h
theorem Blk.row (h : Blk w b t l) (cs : Array Value) : Blk (w.setRow b cs) b t cs.toList := by
 unfold Blk
 rw [setRow_heap w b _ cs _ _ h]
theorem Blk.row_other (h : Blk w b t l) (g : Nat) (cs : Array Value) (hne : b ≠ g) : Blk (w.setRow g cs) b t l := by
 unfold Blk
 rw [setRow_other w g b cs hne]
 exact h
theorem Blk.alloc (h : Blk w b t l) (o : Obj) : Blk (w.alloc o) b t l := by
 unfold Blk
 have hb : Below w.heap.size w (w.alloc o) := (Below.refl _ _).alloc (Nat.le_refl _) _
 rw [hb.block b h.lt]
 exact h
end
theorem blk_new (w : World) (cs : Array Value) (t : TypeId) : Blk (w.alloc (Obj.cells cs t)) w.heap.size t cs.toList := by
 unfold Blk
 rw [heap_alloc_new]
theorem blk_new' (w : World) (o : Obj) (cs : Array Value) (t : TypeId) : Blk ((w.alloc o).alloc (Obj.cells cs t)) (w.heap.size + 1) t cs.toList := by
 have := blk_new (w.alloc o) cs t
 rw [size_alloc'] at this
 exact this
theorem index_row (t e : TypeId) (n : Nat) (ik k : IntKind) (ht : Tryz.prog.underlying t = some (.array n e)) (he : Tryz.prog.underlying e = some (.int k)) (hsz : ∀ w, (sizeOf e).run Tryz.prog w = .ok 1 w)
  (A : Array Value) (i : Nat) (x : Int) (hi : i < n) (hA : A[i]? = some (.int k x)) (W : World) : (Instr.index t (.agg A) (.int ik i)).run Tryz.prog W = .ok (.int k x) W := by
 have hc : (0 : Int) <= (i : Int) /\ (i : Int) < (n : Int) := by omega
 simp [Instr.index, asIntOf, run_underlying ht, hsz, part, isAgg, run_underlying he, hc, hA]
 intro h
 omega
def Da.cells (d : Da) : List Value := .int .u32 d.n :: .int .u32 d.a :: .int .u64 d.p :: d.g.map (Value.int .u64)
def Da.val (d : Da) : Value := .agg d.cells.toArray
def cellsW (ws : List Int) : List Value := ws.map (Value.int .u32)
def valW (ws : List Int) : Value := .agg (cellsW ws).toArray
theorem Tryz.size34 : (Tryz.prog.info? 34).map (·.size) = some 9 := by kernel_rfl
theorem Tryz.size215 : (Tryz.prog.info? 215).map (·.size) = some 16 := by kernel_rfl
theorem cellsW_len (ws : List Int) : (cellsW ws).length = ws.length := by simp [cellsW]
theorem cellsW_get (ws : List Int) (i : Nat) (h : i < ws.length) : (cellsW ws)[i]? = some (.int .u32 (ws.getD i 0)) := by
 simp [cellsW, List.getElem?_eq_getElem h]
theorem cellsW_one (ws : List Int) : (cellsW ws).toArray.all (·.oneCell') = true := by
 simp [cellsW, Value.oneCell']
theorem Da.cells_len (d : Da) (h : d.ok) : d.cells.length = 9 := by simp [Da.cells, h.2.2.2.1]
theorem Da.cells_one (d : Da) : d.cells.toArray.all (·.oneCell') = true := by
 simp [Da.cells, Value.oneCell']
theorem all_range_same : ∀ (xs ys : List Int), xs.length = ys.length -> ((List.range xs.length).all fun i => xs.getD i 0 == ys.getD i 0) = (xs == ys)
 | [], [], _ => rfl
 | x :: xs, y :: ys, h => by
  have ih := all_range_same xs ys (by simpa using h)
  rw [List.length_cons, List.range_succ_eq_map, List.all_cons, List.all_map]
  simp only [List.getD_cons_zero, Function.comp_def, List.getD_cons_succ, ih]
  simp [List.cons_beq_cons]
 | [], _ :: _, h => by simp at h
 | _ :: _, [], h => by simp at h
theorem equalIn_row (w : World) (d : Nat) (t e : TypeId) (n : Nat) (k : IntKind) (ht : Tryz.prog.underlying t = some (.array n e)) (he : Tryz.prog.underlying e = some (.int k)) (hsz : ∀ w, (sizeOf e).run Tryz.prog w = .ok 1 w)
  (xs ys : List Int) (hx : xs.length = n) (hy : ys.length = n) :
  (Op.equalIn (d + 2) t (.agg (xs.map (Value.int k)).toArray) (.agg (ys.map (Value.int k)).toArray)).run Tryz.prog w = .ok (xs == ys) w := by
 rw [<- all_range_same xs ys (hx.trans hy.symm), hx, List.range_eq_range', Op.equalIn]
 simp only [Sem.run_bind, run_underlying ht, Result.andThen_ok, hsz, Std.Legacy.Range.forIn_eq_forIn_range', Std.Legacy.Range.size, Nat.sub_zero, Nat.add_sub_cancel, Nat.div_one]
 have hl : ∀ i ∈ List.range' 0 n 1, i < n := fun i hi => by simpa using (List.mem_range'_1.1 hi).2
 generalize List.range' 0 n 1 = l at hl ⊢
 induction l with
 | nil => simp
 | cons i l ih =>
  have hi : i < n := hl i (by simp)
  have px : (part e (xs.map (Value.int k)).toArray (i * 1)).run Tryz.prog w = .ok (.int k (xs.getD i 0)) w := by
   simp [part, isAgg, run_underlying he, List.getElem?_eq_getElem (show i < xs.length by omega)]
  have py : (part e (ys.map (Value.int k)).toArray (i * 1)).run Tryz.prog w = .ok (.int k (ys.getD i 0)) w := by
   simp [part, isAgg, run_underlying he, List.getElem?_eq_getElem (show i < ys.length by omega)]
  have pe : (Op.equalIn (d + 1) e (.int k (xs.getD i 0)) (.int k (ys.getD i 0))).run Tryz.prog w = .ok (xs.getD i 0 == ys.getD i 0) w := run_equalIn_int w d e k k _ _ he
  simp only [List.forIn_cons, Sem.run_bind, px, py, pe, Result.andThen_ok, List.all_cons]
  cases hb : (xs.getD i 0 == ys.getD i 0)
  ·simp
  ·simp only [Bool.not_true, Bool.false_eq_true, if_false, Sem.run_pure, Result.andThen_ok, Bool.true_and]
   exact ih fun j hj => hl j (by simp [hj])
def Da.same (x y : Da) : Bool := x.n == y.n && x.a == y.a && x.p == y.p && x.g == y.g
theorem Da.same_iff (x y : Da) : x.same y = true ↔ x = y := by
 obtain ⟨a, b, c, d⟩ := x
 obtain ⟨a', b', c', d'⟩ := y
 simp [Da.same, and_assoc]
def bytesOf (s : ByteArray) : List Int := s.data.toList.map fun b => (b.toNat : Int)
theorem bytes_str (l : List Int) (h : Byt l) : bytesOf (strOfNums l) = l := by
 unfold bytesOf
 rw [strOfNums_data, List.map_map]
 conv => rhs; rw [<- List.map_id l]
 apply List.map_congr_left
 intro z hz
 obtain ⟨h0, h1⟩ := h z hz
 obtain ⟨n, rfl⟩ := Int.eq_ofNat_of_zero_le h0
 have : n < 256 := by omega
 simp [UInt8.toNat_ofNat', Nat.mod_eq_of_lt this]
theorem str_inj {l m : List Int} (hl : Byt l) (hm : Byt m) (h : (strOfNums l).toList = (strOfNums m).toList) : l = m := by
 rw [ByteArray.toList_eq, ByteArray.toList_eq] at h
 rw [<- bytes_str l hl, <- bytes_str m hm]
 unfold bytesOf
 rw [h]
theorem halves_any (n : Int) (w : World) (h : U64 n) :
  Calls Tryz.prog 164 #[.int .u64 n] w fun e w' => e = .returned (.tuple #[.int .u32 (lo n), .int .u32 (hi n)]) /\ w' = w := by
 have HH : Hid (n / 4294967296 % 4294967296 = hi n) := by
  unfold Hid hi
  unfold U64 at h
  omega
 clear h
 go_enter Tryz.func164, Tryz.ntmps164
 go_wp2
 go_ret2
 rw [HH.out]
 exact ⟨rfl, rfl⟩
theorem or64 (x y : Int) (hx : U32 x) (hy : U32 y) : bits BinOp.or IntKind.u64 x (y * 4294967296) = both x y := by
 obtain ⟨a0, a1⟩ := hx
 obtain ⟨b0, b1⟩ := hy
 obtain ⟨n, rfl⟩ := Int.eq_ofNat_of_zero_le a0
 obtain ⟨m, rfl⟩ := Int.eq_ofNat_of_zero_le b0
 have e : ((m : Int) * 4294967296) = ((m * 2 ^ 32 : Nat) : Int) := by omega
 rw [e, bits_or_u64_nat n (m * 2 ^ 32) (by omega) (by omega), Nat.or_comm, <- Nat.shiftLeft_eq, <- Nat.shiftLeft_add_eq_or_of_lt (by omega), Nat.shiftLeft_eq]
 unfold both
 omega
theorem whole_any (x y : Int) (w : World) (hx : U32 x) (hy : U32 y) :
  Calls Tryz.prog 165 #[.int .u32 x, .int .u32 y] w fun e w' => e = .returned (.int .u64 (both x y)) /\ w' = w := by
 have HV : Hid (bits BinOp.or IntKind.u64 (IntKind.u64.wrap x) (IntKind.u64.wrap (IntKind.u64.wrap y * 4294967296)) = both x y) := by
  unfold Hid
  have h1 := or64 x y hx hy
  unfold U32 at hx hy
  rw [show IntKind.u64.wrap x = x by rw [IntKind.wrap_u64]; omega, show IntKind.u64.wrap y = y by rw [IntKind.wrap_u64]; omega, show IntKind.u64.wrap (y * 4294967296) = y * 4294967296 by rw [IntKind.wrap_u64]; omega]
  exact h1
 clear hx hy
 go_enter Tryz.func165, Tryz.ntmps165
 go_wp2
 go_ret
 rw [HV.out]
 exact ⟨rfl, rfl⟩
def wordsTo (ws : List Int) (k : Nat) : List Int := ws.take (4 + 2 * k) ++ List.replicate (12 - 2 * k) 0
theorem wordsTo_all (ws : List Int) (h : ws.length = 16) : wordsTo ws 6 = ws := by
 unfold wordsTo
 rw [List.take_of_length_le (by omega)]
 simp
theorem wordsTo_set (n a p : Int) (g : List Int) (hg : g.length = 6) (k : Nat) (hk : k < 6) :
  ((cellsW (wordsTo (Da.mk n a p g).words k)).set (4 + 2 * k) (.int .u32 (lo (g.getD k 0)))).set (4 + 2 * k + 1) (.int .u32 (hi (g.getD k 0))) = cellsW (wordsTo (Da.mk n a p g).words (k + 1)) := by
 obtain ⟨x0, x1, x2, x3, x4, x5, rfl⟩ := six hg
 match k, hk with
 | 0, _ => rfl
 | 1, _ => rfl
 | 2, _ => rfl
 | 3, _ => rfl
 | 4, _ => rfl
 | 5, _ => rfl
theorem split_any (d : Da) (w : World) (hd : d.ok) :
  Calls Tryz.prog 133 #[d.val] w fun e w' => e = .returned (valW d.words) /\ Below w.heap.size w w' := by
 have HH : Hid (∀ (n : Int) (W : World), U64 n -> Calls Tryz.prog 164 #[.int .u64 n] W fun e w' => e = .returned (.tuple #[.int .u32 (lo n), .int .u32 (hi n)]) /\ w' = W) := fun n W h => halves_any n W h
 have HP : Hid (U64 d.p) := hd.2.2.1
 have HG : Hid (∀ z ∈ d.g, U64 z) := hd.2.2.2.2
 obtain ⟨n, a, p, g⟩ := d
 have hl := hd.2.2.2.1
 obtain ⟨x0, x1, x2, x3, x4, x5, rfl⟩ := six hl
 clear hd hl
 unfold Da.val Da.cells at *
 simp only [List.map_cons, List.map_nil] at *
 go_enter Tryz.func133, Tryz.ntmps133
 go_wp2_with (go_at_call 164; refine (HH.out _ _ HP.out).mono ?_; rintro e w2 ⟨rfl, rfl⟩)
 have B0 : Hid (∀ o1 o2 o3 : Obj, Below w.heap.size w (((w.alloc o1).alloc o2).alloc o3)) := fun o1 o2 o3 => (((Below.refl _ _).alloc (Nat.le_refl _) _).alloc (by rw [size_alloc']; omega) _).alloc (by rw [size_alloc', size_alloc']; omega) _
 go_loopw [22] (fun i wr => ∃ k : Nat, k <= 6 /\ i = .int .i64 k /\ Blk wr (w.heap.size + 1 + 1) 215 (cellsW (wordsTo (Da.mk n a p [x0, x1, x2, x3, x4, x5]).words k)) /\ Blk wr (w.heap.size + 1) 215 (List.replicate 16 (.int .u32 0)) /\ Below w.heap.size w wr) (fun i _ => 6 - (intOf i).toNat)
 case atStart =>
  refine ⟨0, by decide, rfl, ?_, ?_, B0.out _ _ _⟩
  ·have := blk_new (((w.alloc (Obj.cells #[.int .u32 n, .int .u32 a, .int .u64 p, .int .u64 x0, .int .u64 x1, .int .u64 x2, .int .u64 x3, .int .u64 x4, .int .u64 x5] 34)).alloc (Obj.cells (List.replicate 16 (Value.int .u32 0)).toArray 215))) (cellsW (wordsTo (Da.mk n a p [x0, x1, x2, x3, x4, x5]).words 0)).toArray 215
   rw [size_alloc', size_alloc'] at this
   exact this
  ·have := blk_new' w (Obj.cells #[.int .u32 n, .int .u32 a, .int .u64 p, .int .u64 x0, .int .u64 x1, .int .u64 x2, .int .u64 x3, .int .u64 x4, .int .u64 x5] 34) (List.replicate 16 (Value.int .u32 0)).toArray 215
   exact this.alloc _
 case round =>
  obtain ⟨k, hk, rfl, hb, hz, hbr⟩ := hrel
  by_cases hlt : k < 6
  ·have HS : Hid (((cellsW (wordsTo (Da.mk n a p [x0, x1, x2, x3, x4, x5]).words k)).set (4 + 2 * k) (.int .u32 (lo ([x0, x1, x2, x3, x4, x5].getD k 0)))).set (4 + 2 * k + 1) (.int .u32 (hi ([x0, x1, x2, x3, x4, x5].getD k 0))) = cellsW (wordsTo (Da.mk n a p [x0, x1, x2, x3, x4, x5]).words (k + 1))) := wordsTo_set n a p _ rfl k hlt
   have HU : Hid (U64 ([x0, x1, x2, x3, x4, x5].getD k 0)) := by
    unfold Hid
    rw [List.getD_eq_getElem?_getD, List.getElem?_eq_getElem (show k < [x0, x1, x2, x3, x4, x5].length from hlt)]
    exact HG.out _ (List.getElem_mem (show k < [x0, x1, x2, x3, x4, x5].length from hlt))
   have hA : (#[.int .u64 x0, .int .u64 x1, .int .u64 x2, .int .u64 x3, .int .u64 x4, .int .u64 x5] : Array Value)[k]? = some (.int .u64 ([x0, x1, x2, x3, x4, x5].getD k 0)) := by
    match k, hlt with
    | 0, _ => rfl
    | 1, _ => rfl
    | 2, _ => rfl
    | 3, _ => rfl
    | 4, _ => rfl
    | 5, _ => rfl
   have hlen : (cellsW (wordsTo (Da.mk n a p [x0, x1, x2, x3, x4, x5]).words k)).length = 16 := by
    match k, hlt with
    | 0, _ => rfl
    | 1, _ => rfl
    | 2, _ => rfl
    | 3, _ => rfl
    | 4, _ => rfl
    | 5, _ => rfl
   generalize cellsW (wordsTo (Da.mk n a p [x0, x1, x2, x3, x4, x5]).words k) = L at *
   have hc1 := hb.cell (4 + 2 * k)
   rw [List.getElem?_eq_getElem (by omega)] at hc1
   have hc2 := hb.cell (4 + 2 * k + 1)
   rw [List.getElem?_eq_getElem (by omega)] at hc2
   have f1 := hb.f (4 + 2 * k)
   have f2 := hb.f (4 + 2 * k + 1)
   generalize L[4 + 2 * k]'_ = v1 at *
   generalize L[4 + 2 * k + 1]'_ = v2 at *
   have HB : Hid (Blk wr (w.heap.size + 1 + 1) 215 L) := hb
   have HZ : Hid (Blk wr (w.heap.size + 1) 215 (List.replicate 16 (Value.int IntKind.u32 0))) := hz
   clear hb hz hlen
   generalize [x0, x1, x2, x3, x4, x5].getD k 0 = z at *
   have hix : ∀ W : World, (Instr.index 32 (.agg #[.int .u64 x0, .int .u64 x1, .int .u64 x2, .int .u64 x3, .int .u64 x4, .int .u64 x5]) (.int .i64 k)).run Tryz.prog W = .ok (.int .u64 z) W := fun W => index_row 32 30 6 .i64 .u64 Tryz.underlying32 Tryz.underlying30 Tryz.sizeOf30 _ k z hlt hA W
   clear hA
   generalize (#[.int .u64 x0, .int .u64 x1, .int .u64 x2, .int .u64 x3, .int .u64 x4, .int .u64 x5] : Array Value) = A at *
   go_wp2_with (go_at_call 164; refine (HH.out _ _ HU.out).mono ?_; rintro e w2 ⟨rfl, rfl⟩)
   go_roundw
   case rel =>
    refine ⟨k + 1, by omega, by go_num, ?_, ?_, ?_⟩
    ·rw [<- HS.out]
     exact (HB.out.set _ _).set _ _
    ·exact (HZ.out.other _ _ (by show w.heap.size + 1 ≠ w.heap.size + 1 + 1; omega)).other _ _ (by show w.heap.size + 1 ≠ w.heap.size + 1 + 1; omega)
    ·exact (hbr.setCell (by show w.heap.size <= w.heap.size + 1 + 1; omega) _).setCell (by show w.heap.size <= w.heap.size + 1 + 1; omega) _
   case measure => simp [intOf]; omega
  ·have hk6 : ¬ (k : Int) < 6 := by omega
   have hw : wordsTo (Da.mk n a p [x0, x1, x2, x3, x4, x5]).words k = (Da.mk n a p [x0, x1, x2, x3, x4, x5]).words := by
    obtain rfl : k = 6 := by omega
    exact wordsTo_all _ rfl
   rw [hw] at hb
   clear hw hlt hk
   obtain ⟨R, hR⟩ : ∃ R, R = cellsW (Da.mk n a p [x0, x1, x2, x3, x4, x5]).words := ⟨_, rfl⟩
   have h1 : R.toArray.all (·.oneCell') = true := by rw [hR]; exact cellsW_one _
   have hl : R.length = 16 := by rw [hR]; rfl
   have HV : Hid (valW (Da.mk n a p [x0, x1, x2, x3, x4, x5]).words = .agg R.toArray) := by rw [hR]; exact rfl
   rw [<- hR] at hb
   clear hR
   have HB : Hid (Blk (wr.setRow (w.heap.size + 1) R.toArray) (w.heap.size + 1) 215 R) := hz.row R.toArray
   have HC : Hid (Below w.heap.size w (wr.setRow (w.heap.size + 1) R.toArray)) := below_setRow hbr (show w.heap.size <= w.heap.size + 1 by omega) R.toArray
   have HZ : Hid ((Tryz.prog.info? 215).map (·.size) = some R.toArray.size) := by unfold Hid; rw [Tryz.size215]; simp [hl]
   have HS : Hid ((List.replicate 16 (Value.int .u32 0)).toArray.size = R.toArray.size) := by unfold Hid; simp [hl]
   have hB1 : Hid (Blk wr (w.heap.size + 1 + 1) 215 R) := hb
   have hB2 : Hid (Blk wr (w.heap.size + 1) 215 (List.replicate 16 (.int .u32 0))) := hz
   have H1 : Hid (R.toArray.all (·.oneCell') = true) := h1
   clear hb hz h1 hl hbr
   go_wp2_with (first | (refine wpList_load_row rfl 215 (.tmp 3) rfl (w.heap.size + 1 + 1) rfl 215 R.toArray (0, 0) (.array 16 31) hB1.out Tryz.underlying215 rfl HZ.out ?_) | (refine wpList_store_row rfl 215 (.tmp 2) (.tmp 40) rfl (w.heap.size + 1) R.toArray rfl rfl 215 _ hB2.out HZ.out HS.out H1.out ?_; generalize wr.setRow (w.heap.size + 1) R.toArray = X at *))
   rw [HV.out]
   refine bodyPost_ret (v := .agg R.toArray) ?_ rfl ⟨rfl, HC.out⟩
   exact results_cell_row Tryz.results133 _ _ (w.heap.size + 1) 215 R.toArray (0, 0) (.array 16 31) rfl HB.out Tryz.underlying215 rfl HZ.out
theorem valW_get (ws : List Int) (k : Nat) (hk : k < ws.length) : (cellsW ws).toArray[k]? = some (.int .u32 (ws.getD k 0)) := by
 rw [List.getElem?_toArray]
 exact cellsW_get ws k hk
theorem bytes_any (d : Da) (w : World) (hd : d.ok) :
  Calls Tryz.prog 84 #[d.val] w fun e w' => Below w.heap.size w w' /\ ∃ v, e = .returned v /\ w'.ownsRow w.heap.size 5 1 v 64 (cellsB d.enc) := by
 have HL : Hid (d.words.length = 16) := words_len d hd
 have HU : Hid (∀ z ∈ d.words, U32 z) := words_u d hd
 have HC : Hid ((Tryz.prog.info? 34).map (·.size) = some d.cells.toArray.size) := by unfold Hid; rw [Tryz.size34]; simp [d.cells_len hd]
 have HG : Hid (∀ k, k < 16 -> (cellsW d.words).toArray[k]? = some (.int .u32 (d.words.getD k 0))) := fun k hk => valW_get _ k (by rw [HL.out]; exact hk)
 have HS : Hid (∀ W : World, Calls Tryz.prog 133 #[.agg d.cells.toArray] W fun e w' => e = .returned (.agg (cellsW d.words).toArray) /\ Below W.heap.size W w') := fun W => split_any d W hd
 unfold Da.val Da.enc
 generalize d.words = ws at *
 generalize d.cells.toArray = A at *
 generalize (cellsW ws).toArray = R at *
 clear hd
 obtain ⟨i0, hi, hz0, hz1, hz2⟩ := info_parts Tryz.info5
 have hk1 := blk_new w A 34
 have hk2 : Below w.heap.size w (w.alloc (Obj.cells A 34)) := (Below.refl _ _).alloc (Nat.le_refl _) _
 obtain ⟨wm, hmk, hown, hgr⟩ := run_make_own (P := Tryz.prog) (w.alloc (Obj.cells A 34)) w.heap.size 37 5 i0 (.int .u8 0) 1 Tryz.underlying37 hi hz0 hz1 .i64 .i64 64 (by rw [hz2]; omega) (by unfold maxLen; omega) hk2.size
 have hbm : Below (w.alloc (Obj.cells A 34)).heap.size (w.alloc (Obj.cells A 34)) wm := (Below.refl _ _).grown hgr (Nat.le_refl _) (fun k e => by cases e)
 have hk3 : Hid (Blk wm w.heap.size 34 A.toList) := hk1.over hbm
 have hk4 : Hid (Below w.heap.size w wm) := hk2.trans (hbm.mono hk2.size)
 have hkz := hk4.out.size
 rw [size_alloc', show ((64 : Nat) : Int) = 64 from rfl] at hmk
 rw [size_alloc'] at hown
 clear hi hz0 hz1 hz2 hgr hbm hk1 hk2
 have HO : Hid (wm.ownsRow w.heap.size 5 1 (.slice (some ⟨w.heap.size + 1, 0, none⟩) 0 64) 0 []) := hown
 clear hown
 go_enter Tryz.func84, Tryz.ntmps84
 go_wp2_with (first | (refine wpList_load_row rfl 34 (.tmp 1) rfl w.heap.size rfl 34 A (0, 0) _ hk3.out Tryz.underlying34 rfl HC.out ?_) | (go_at_call 133; refine (HS.out _).mono ?_; rintro e w2 ⟨rfl, hb2⟩))
 have ho2 := owns_below HO.out hb2 (Nat.le_refl _)
 have hb3 := hk4.out.trans (hb2.mono hkz)
 clear HO hk3 hk4 hb2 hkz hmk
 go_loopw [3, 9] (fun v i wr => ∃ k : Nat, k <= 16 /\ i = .int .i64 k /\ wr.ownsRow w.heap.size 5 1 v (k * 4) (cellsB (encW (ws.take k))) /\ Below w.heap.size w wr) (fun _ i _ => 16 - (intOf i).toNat)
 case atStart => exact ⟨0, by decide, rfl, ho2, hb3⟩
 case round =>
  obtain ⟨k, hk, rfl, ho, hbr⟩ := hrel
  clear ho2 hb3
  by_cases hlt : k < 16
  ·have hix : ∀ W : World, (Instr.index 215 (.agg R) (.int .i64 k)).run Tryz.prog W = .ok (.int .u32 (ws.getD k 0)) W := fun W => index_row 215 31 16 .i64 .u32 Tryz.underlying215 Tryz.underlying31 Tryz.sizeOf31 _ k _ hlt (HG.out k hlt) W
   have HE : Hid (encW (ws.take (k + 1)) = encW (ws.take k) ++ w4 (ws.getD k 0)) := encW_take ws k (by rw [HL.out]; exact hlt)
   have HD : Hid ([ws.getD k 0 % 256, ws.getD k 0 / 256 % 256, ws.getD k 0 / 65536 % 256, ws.getD k 0 / 16777216 % 256] = w4 (ws.getD k 0)) := by
    have := getD_u HU.out k
    unfold U32 at this
    unfold Hid w4
    rw [show ws.getD k 0 / 16777216 % 256 = ws.getD k 0 / 16777216 by omega]
   have HW : Hid (Byt [ws.getD k 0 % 256, ws.getD k 0 / 256 % 256, ws.getD k 0 / 65536 % 256, ws.getD k 0 / 16777216 % 256]) := by
    unfold Hid
    rw [HD.out]
    exact w4_byt _ (getD_u HU.out k)
   generalize ws.getD k 0 = x at *
   generalize encW (ws.take k) = el at *
   have hbs := hbr.size
   go_wp2_with (at_builtin; refine append_bytes rfl (.tmp 12) (.tmp 24) rfl w.heap.size _ (k * 4) el rfl (ho.alloc _) (some ⟨wr.heap.size, 0, none⟩) 4 4 [x % 256, x / 256 % 256, x / 65536 % 256, x / 16777216 % 256] rfl (by simp) (bs_four wr _ _ _ _ HW.out) (by omega) (by rw [size_alloc']; omega) ?_; intro v1 w1 ho1 hg1)
   go_roundw
   case rel =>
    refine ⟨k + 1, by omega, by go_num, ?_, ?_⟩
    ·rw [HE.out, <- HD.out, Nat.add_mul, Nat.one_mul]
     exact ho1
    ·have hb4 := hbr.alloc hbs (Obj.cells #[.int .u8 (x % 256), .int .u8 (x / 256 % 256), .int .u8 (x / 65536 % 256), .int .u8 (x / 16777216 % 256)] 5)
     exact hb4.grown hg1 hb4.size (owns_block ho)
   case measure => simp [intOf]; omega
  ·have hk6 : ¬ (k : Int) < 16 := by omega
   obtain ⟨e4, et⟩ : k * 4 = 64 /\ ws.take k = ws := by
    obtain rfl : k = 16 := by omega
    exact ⟨rfl, List.take_of_length_le (by rw [HL.out]; omega)⟩
   rw [e4, et] at ho
   clear e4 et hlt hk
   go_wp2
   go_ret
   exact ⟨hbr, _, rfl, ho⟩
theorem or32 (a b : Int) (s : Nat) (p : Int) (hp : p = ((2 ^ s : Nat) : Int)) (a0 : 0 <= a) (a1 : a < p) (b0 : 0 <= b) (b1 : b * p < 4294967296) (hs : p <= 4294967296) : bits BinOp.or IntKind.u32 a (b * p) = a + p * b := by
 obtain ⟨n, rfl⟩ := Int.eq_ofNat_of_zero_le a0
 obtain ⟨m, rfl⟩ := Int.eq_ofNat_of_zero_le b0
 subst hp
 have e : ((m : Int) * ((2 ^ s : Nat) : Int)) = ((m * 2 ^ s : Nat) : Int) := by rw [Int.natCast_mul]
 rw [e] at b1
 rw [e, u32_or_nat n (m * 2 ^ s) (by omega) (by omega), Nat.or_comm, <- Nat.shiftLeft_eq, <- Nat.shiftLeft_add_eq_or_of_lt (by omega), Nat.shiftLeft_eq, Int.natCast_add, Int.natCast_mul, Int.mul_comm]
 omega
theorem r4_drop (l : List Int) (k : Nat) : r4 (l.drop (k * 4)) = l.getD (k * 4) 0 + 256 * l.getD (k * 4 + 1) 0 + 65536 * l.getD (k * 4 + 2) 0 + 16777216 * l.getD (k * 4 + 3) 0 := by
 have e : ∀ i, (l.drop (k * 4)).getD i 0 = l.getD (k * 4 + i) 0 := by
  intro i
  simp
 unfold r4
 rw [e 0, e 1, e 2, e 3, Nat.add_zero]
def readTo (l : List Int) (k : Nat) : List Value := cellsW (readW l k ++ List.replicate (16 - k) 0)
theorem readTo_all (l : List Int) : readTo l 16 = cellsW (readW l 16) := by simp [readTo]
theorem readTo_len (l : List Int) (k : Nat) (hk : k <= 16) : (readTo l k).length = 16 := by
 simp [readTo, cellsW_len, readW_len]; omega
theorem readTo_set (l : List Int) (k : Nat) (hk : k < 16) : (readTo l k).set k (.int .u32 (r4 (l.drop (k * 4)))) = readTo l (k + 1) := by
 unfold readTo cellsW
 rw [readW_succ, show 16 - k = (16 - (k + 1)) + 1 by omega, List.replicate_succ, List.map_append, List.map_append, List.map_append, List.map_cons, List.set_append_right _ _ (by simp [readW_len]), List.length_map, readW_len, Nat.sub_self, zB]
 simp
theorem read_any (a : Option Addr) (cap : Nat) (l : List Int) (w : World) (hb : Bs w a 64 l) :
  Calls Tryz.prog 136 #[.slice a 64 cap] w fun e w' => e = .returned (valW (readW l 16)) /\ Below w.heap.size w w' := by
 obtain ⟨b, off, rfl, hc⟩ := hb.2.2 (by decide)
 have HC : Hid (∀ i, i < 64 -> w.cell? ⟨b, off + i, none⟩ = some (.int .u8 (l.getD i 0))) := hc
 have HB : Hid (Byt l) := hb.2.1
 have hlt : b < w.heap.size := World.block_lt_of_cell? w _ (hc 0 (by decide))
 have HLT : Hid (b < w.heap.size) := hlt
 have Z1 := blk_new w (List.replicate 16 (.int .u32 0)).toArray 215
 have Z2 := blk_new' w (Obj.cells (List.replicate 16 (Value.int .u32 0)).toArray 215) (List.replicate 16 (.int .u32 0)).toArray 215
 have Z3 : Hid (Blk ((w.alloc (Obj.cells (List.replicate 16 (Value.int .u32 0)).toArray 215)).alloc (Obj.cells (List.replicate 16 (Value.int .u32 0)).toArray 215)) w.heap.size 215 (List.replicate 16 (.int .u32 0))) := Z1.alloc _
 have Z4 : Hid (Blk ((w.alloc (Obj.cells (List.replicate 16 (Value.int .u32 0)).toArray 215)).alloc (Obj.cells (List.replicate 16 (Value.int .u32 0)).toArray 215)) (w.heap.size + 1) 215 (readTo l 0)) := Z2
 have Z5 : Hid (Below w.heap.size w ((w.alloc (Obj.cells (List.replicate 16 (Value.int .u32 0)).toArray 215)).alloc (Obj.cells (List.replicate 16 (Value.int .u32 0)).toArray 215))) := ((Below.refl _ _).alloc (Nat.le_refl _) _).alloc (by rw [size_alloc']; omega) _
 clear hb hc Z1 Z2 hlt
 go_enter Tryz.func136, Tryz.ntmps136
 go_wp2_with fail
 go_loopw [6] (fun i wr => ∃ k : Nat, k <= 16 /\ i = .int .i64 k /\ Blk wr (w.heap.size + 1) 215 (readTo l k) /\ Blk wr w.heap.size 215 (List.replicate 16 (.int .u32 0)) /\ Below w.heap.size w wr) (fun i _ => 16 - (intOf i).toNat)
 case atStart => exact ⟨0, by decide, rfl, Z4.out, Z3.out, Z5.out⟩
 case round =>
  obtain ⟨k, hk, rfl, hb, hz, hbr⟩ := hrel
  clear Z3 Z4 Z5
  by_cases hlt : k < 16
  ·have hcc : ∀ i, i < 64 -> wr.cell? ⟨b, off + i, none⟩ = some (.int .u8 (l.getD i 0)) := fun i hi => (hbr.cell (p := ⟨b, off + i, none⟩) HLT.out).trans (HC.out i hi)
   have q0 := hcc (k * 4) (by omega)
   have q1 := hcc (k * 4 + 1) (by omega)
   have q2 := hcc (k * 4 + 2) (by omega)
   have q3 := hcc (k * 4 + 3) (by omega)
   have g0 := byt_get HB.out (k * 4)
   have g1 := byt_get HB.out (k * 4 + 1)
   have g2 := byt_get HB.out (k * 4 + 2)
   have g3 := byt_get HB.out (k * 4 + 3)
   have HS : Hid ((readTo l k).set k (.int .u32 (l.getD (k * 4) 0 + 256 * l.getD (k * 4 + 1) 0 + 65536 * l.getD (k * 4 + 2) 0 + 16777216 * l.getD (k * 4 + 3) 0)) = readTo l (k + 1)) := by
    unfold Hid
    rw [<- r4_drop]
    exact readTo_set l k hlt
   have s0 : wr.cell? ⟨w.heap.size + 1, k, none⟩ = some ((readTo l k)[k]'(by rw [readTo_len l k hk]; exact hlt)) := by
    rw [hb.cell k, List.getElem?_eq_getElem]
   have f0 := hb.f k
   generalize (readTo l k)[k]'_ = v0 at *
   generalize readTo l k = L at *
   generalize l.getD (k * 4) 0 = x0 at *
   generalize l.getD (k * 4 + 1) 0 = x1 at *
   generalize l.getD (k * 4 + 2) 0 = x2 at *
   generalize l.getD (k * 4 + 3) 0 = x3 at *
   obtain ⟨g01, g02⟩ := g0
   obtain ⟨g11, g12⟩ := g1
   obtain ⟨g21, g22⟩ := g2
   obtain ⟨g31, g32⟩ := g3
   have V2 : Hid (bits BinOp.or IntKind.u32 (bits BinOp.or IntKind.u32 (bits BinOp.or IntKind.u32 (x0 % 4294967296) (x1 % 4294967296 * 256 % 4294967296)) (x2 % 4294967296 * 65536 % 4294967296)) (x3 % 4294967296 * 16777216 % 4294967296) = x0 + 256 * x1 + 65536 * x2 + 16777216 * x3) := by
    unfold Hid
    rw [show x0 % 4294967296 = x0 by omega, show x1 % 4294967296 = x1 by omega, show x2 % 4294967296 = x2 by omega, show x3 % 4294967296 = x3 by omega,
     show x1 * 256 % 4294967296 = x1 * 256 by omega, show x2 * 65536 % 4294967296 = x2 * 65536 by omega, show x3 * 16777216 % 4294967296 = x3 * 16777216 by omega]
    rw [or32 x0 x1 8 256 rfl g01 (by omega) g11 (by omega) (by decide), or32 (x0 + 256 * x1) x2 16 65536 rfl (by omega) (by omega) g21 (by omega) (by decide),
     or32 (x0 + 256 * x1 + 65536 * x2) x3 24 16777216 rfl (by omega) (by omega) g31 (by omega) (by decide)]
   clear g01 g02 g11 g12 g21 g22 g31 g32 hcc
   have hne : w.heap.size + 1 ≠ b := by have := HLT.out; omega
   have HBb : Hid (Blk wr (w.heap.size + 1) 215 L) := hb
   have HZb : Hid (Blk wr w.heap.size 215 (List.replicate 16 (.int .u32 0))) := hz
   have HBr : Hid (Below w.heap.size w wr) := hbr
   clear hb hz hbr
   have n0 : (0 : Int) <= (k : Int) * 4 := by omega
   have n1 : (0 : Int) <= (k : Int) * 4 + 1 := by omega
   have n2 : (0 : Int) <= (k : Int) * 4 + 2 := by omega
   have n3 : (0 : Int) <= (k : Int) * 4 + 3 := by omega
   have m0 : (k : Int) * 4 < 64 := by omega
   have m1 : (k : Int) * 4 + 1 < 64 := by omega
   have m2 : (k : Int) * 4 + 2 < 64 := by omega
   have m3 : (k : Int) * 4 + 3 < 64 := by omega
   have j1 : IntKind.i64.wrap ((k : Int) * 4 + 1) = (k : Int) * 4 + 1 := by rw [IntKind.wrap_i64]; omega
   have j2 : IntKind.i64.wrap ((k : Int) * 4 + 2) = (k : Int) * 4 + 2 := by rw [IntKind.wrap_i64]; omega
   have j3 : IntKind.i64.wrap ((k : Int) * 4 + 3) = (k : Int) * 4 + 3 := by rw [IntKind.wrap_i64]; omega
   have t0 : ((k : Int) * 4).toNat = k * 4 := by omega
   have t1 : ((k : Int) * 4 + 1).toNat = k * 4 + 1 := by omega
   have t2 : ((k : Int) * 4 + 2).toNat = k * 4 + 2 := by omega
   have t3 : ((k : Int) * 4 + 3).toNat = k * 4 + 3 := by omega
   go_wp2_with fail
   go_region_held3 (fun w' => w'.cell? ⟨b, off + k * 4, none⟩ = some (.int .u8 x0) /\ w'.cell? ⟨b, off + (k * 4 + 1), none⟩ = some (.int .u8 x1) /\ w'.cell? ⟨b, off + (k * 4 + 2), none⟩ = some (.int .u8 x2) /\ w'.cell? ⟨b, off + (k * 4 + 3), none⟩ = some (.int .u8 x3)) (go_keep) (fail)
   all_goals
    go_wp2_with fail
   rw [V2.out]
   go_roundw
   case rel =>
    refine ⟨k + 1, by omega, by go_num, ?_, ?_, ?_⟩
    ·rw [<- HS.out]
     exact (HBb.out.set _ _).drew
    ·exact (HZb.out.other _ _ (by show w.heap.size ≠ w.heap.size + 1; omega)).drew
    ·exact (HBr.out.setCell (by show w.heap.size <= w.heap.size + 1; omega) _).drew
   case measure => simp [intOf]; omega
  ·have hk6 : ¬ (k : Int) < 16 := by omega
   have hw : readTo l k = cellsW (readW l 16) := by
    obtain rfl : k = 16 := by omega
    exact readTo_all l
   rw [hw] at hb
   clear hw hlt hk
   obtain ⟨R, hR⟩ : ∃ R, R = cellsW (readW l 16) := ⟨_, rfl⟩
   have H1 : Hid (R.toArray.all (·.oneCell') = true) := by rw [hR]; exact cellsW_one _
   have hl : R.length = 16 := by rw [hR, cellsW_len, readW_len]
   have HV : Hid (valW (readW l 16) = .agg R.toArray) := by rw [hR]; exact rfl
   rw [<- hR] at hb
   clear hR
   have HB : Hid (Blk (wr.setRow w.heap.size R.toArray) w.heap.size 215 R) := hz.row R.toArray
   have HC : Hid (Below w.heap.size w (wr.setRow w.heap.size R.toArray)) := below_setRow hbr (Nat.le_refl _) R.toArray
   have HZ : Hid ((Tryz.prog.info? 215).map (·.size) = some R.toArray.size) := by unfold Hid; rw [Tryz.size215]; simp [hl]
   have HS : Hid ((List.replicate 16 (Value.int .u32 0)).toArray.size = R.toArray.size) := by unfold Hid; simp [hl]
   have hB1 : Hid (Blk wr (w.heap.size + 1) 215 R) := hb
   have hB2 : Hid (Blk wr w.heap.size 215 (List.replicate 16 (.int .u32 0))) := hz
   clear hb hz hl hbr
   go_wp2_with (first | (refine wpList_load_row rfl 215 (.tmp 3) rfl (w.heap.size + 1) rfl 215 R.toArray (0, 0) (.array 16 31) hB1.out Tryz.underlying215 rfl HZ.out ?_) | (refine wpList_store_row rfl 215 (.tmp 2) (.tmp 43) rfl w.heap.size R.toArray rfl rfl 215 _ hB2.out HZ.out HS.out H1.out ?_; generalize wr.setRow w.heap.size R.toArray = X at *))
   rw [HV.out]
   refine bodyPost_ret (v := .agg R.toArray) ?_ rfl ⟨rfl, HC.out⟩
   exact results_cell_row Tryz.results136 _ _ w.heap.size 215 R.toArray (0, 0) (.array 16 31) rfl HB.out Tryz.underlying215 rfl HZ.out
def joinTo (ws : List Int) (k : Nat) : List Value :=
 .int .u32 (ws.getD 0 0) :: .int .u32 (ws.getD 1 0) :: .int .u64 (both (ws.getD 2 0) (ws.getD 3 0)) :: (List.range 6).map (fun i => .int .u64 (if i < k then both (ws.getD (4 + 2 * i) 0) (ws.getD (4 + 2 * i + 1) 0) else 0))
theorem joinTo_all (ws : List Int) : joinTo ws 6 = (join ws).cells := rfl
theorem joinTo_len (ws : List Int) (k : Nat) : (joinTo ws k).length = 9 := rfl
theorem joinTo_set (ws : List Int) (k : Nat) (hk : k < 6) : (joinTo ws k).set (3 + k) (.int .u64 (both (ws.getD (4 + 2 * k) 0) (ws.getD (4 + 2 * k + 1) 0))) = joinTo ws (k + 1) := by
 match k, hk with
 | 0, _ => rfl
 | 1, _ => rfl
 | 2, _ => rfl
 | 3, _ => rfl
 | 4, _ => rfl
 | 5, _ => rfl
def zero9 : List Value := [.int .u32 0, .int .u32 0, .int .u64 0, .int .u64 0, .int .u64 0, .int .u64 0, .int .u64 0, .int .u64 0, .int .u64 0]
theorem join_any (ws : List Int) (w : World) (hl : ws.length = 16) (hu : ∀ z ∈ ws, U32 z) :
  Calls Tryz.prog 135 #[valW ws] w fun e w' => e = .returned (join ws).val /\ Below w.heap.size w w' := by
 have HW : Hid (∀ (x y : Int) (W : World), U32 x -> U32 y -> Calls Tryz.prog 165 #[.int .u32 x, .int .u32 y] W fun e w' => e = .returned (.int .u64 (both x y)) /\ w' = W) := fun x y W hx hy => whole_any x y W hx hy
 have HU : Hid (∀ k, U32 (ws.getD k 0)) := fun k => getD_u hu k
 have HG : Hid (∀ k, k < 16 -> (cellsW ws)[k]? = some (.int .u32 (ws.getD k 0))) := fun k hk => cellsW_get _ k (by rw [hl]; exact hk)
 have Z1 := blk_new w (cellsW ws).toArray 215
 have Z2 := blk_new' w (Obj.cells (cellsW ws).toArray 215) zero9.toArray 34
 have Z3 : Blk ((w.alloc (Obj.cells (cellsW ws).toArray 215)).alloc (Obj.cells zero9.toArray 34)) w.heap.size 215 (cellsW ws) := Z1.alloc _
 have Z5 : Below w.heap.size w ((w.alloc (Obj.cells (cellsW ws).toArray 215)).alloc (Obj.cells zero9.toArray 34)) := ((Below.refl _ _).alloc (Nat.le_refl _) _).alloc (by rw [size_alloc']; omega) _
 have ZS : ((w.alloc (Obj.cells (cellsW ws).toArray 215)).alloc (Obj.cells zero9.toArray 34)).heap.size = w.heap.size + 1 + 1 := by rw [size_alloc', size_alloc']
 clear Z1 hl hu
 unfold valW zero9 at *
 generalize cellsW ws = RW at *
 go_enter Tryz.func135, Tryz.ntmps135
 go_wp2_with fail
 generalize (w.alloc (Obj.cells RW.toArray 215)).alloc (Obj.cells #[.int .u32 0, .int .u32 0, .int .u64 0, .int .u64 0, .int .u64 0, .int .u64 0, .int .u64 0, .int .u64 0, .int .u64 0] 34) = W0 at *
 have c0 := (Z3.cell 0).trans (HG.out 0 (by decide))
 have c1 := (Z3.cell 1).trans (HG.out 1 (by decide))
 have c2 := (Z3.cell 2).trans (HG.out 2 (by decide))
 have c3 := (Z3.cell 3).trans (HG.out 3 (by decide))
 have U2 := HU.out 2
 have U3 := HU.out 3
 have z2 : Hid (Blk W0 (w.heap.size + 1) 34 zero9) := Z2
 have z3 : Hid (Blk W0 w.heap.size 215 RW) := Z3
 have z5 : Hid (Below w.heap.size w W0) := Z5
 have hJ : Hid (joinTo ws 0 = [.int .u32 (ws.getD 0 0), .int .u32 (ws.getD 1 0), .int .u64 (both (ws.getD 2 0) (ws.getD 3 0)), .int .u64 0, .int .u64 0, .int .u64 0, .int .u64 0, .int .u64 0, .int .u64 0]) := rfl
 clear Z2 Z3 Z5
 go_cut [3] (fun v wc => v = .pointer (some ⟨w.heap.size + 1 + 1, 0, none⟩) /\ Blk wc (w.heap.size + 1 + 1) 34 (joinTo ws 0) /\ Blk wc (w.heap.size + 1) 34 zero9 /\ Blk wc w.heap.size 215 RW /\ Below w.heap.size w wc)
 case first =>
  generalize ws.getD 0 0 = x0 at *
  generalize ws.getD 1 0 = x1 at *
  generalize ws.getD 2 0 = x2 at *
  generalize ws.getD 3 0 = x3 at *
  go_region_held3 (fun w' => w'.cell? ⟨w.heap.size, 0, none⟩ = some (.int .u32 x0) /\ w'.cell? ⟨w.heap.size, 1, none⟩ = some (.int .u32 x1) /\ w'.cell? ⟨w.heap.size, 2, none⟩ = some (.int .u32 x2) /\ w'.cell? ⟨w.heap.size, 3, none⟩ = some (.int .u32 x3)) (go_keep) ((go_at_call 165; refine (HW.out _ _ _ U2 U3).mono ?_; rintro e w2 ⟨rfl, rfl⟩))
  all_goals
   go_wp2_with fail
   go_meet
   refine ⟨rfl, ?_, ?_, ?_, ?_⟩
   ·rw [hJ.out, <- ZS]
    exact (blk_new W0 _ 34).drew
   ·exact (z2.out.alloc _).drew
   ·exact (z3.out.alloc _).drew
   ·exact (z5.out.alloc z5.out.size _).drew
 case rest =>
  obtain ⟨rfl, hJ0, hZ0, hW0, hB0⟩ := hcut
  clear z2 z3 z5 c0 c1 c2 c3 U2 U3 hJ ZS
  go_wp2_with fail
  go_loopw [16] (fun i wr => ∃ k : Nat, k <= 6 /\ i = .int .i64 k /\ Blk wr (w.heap.size + 1 + 1) 34 (joinTo ws k) /\ Blk wr (w.heap.size + 1) 34 zero9 /\ Blk wr w.heap.size 215 RW /\ Below w.heap.size w wr) (fun i _ => 6 - (intOf i).toNat)
  case atStart => exact ⟨0, by decide, rfl, hJ0, hZ0, hW0, hB0⟩
  case round =>
   obtain ⟨k, hk, rfl, hJ1, hZ1, hW1, hB1⟩ := hrel
   clear hJ0 hZ0 hW0 hB0
   by_cases hlt : k < 6
   ·have c4 := (hW1.cell (4 + 2 * k)).trans (HG.out (4 + 2 * k) (by omega))
    have c5 := (hW1.cell (4 + 2 * k + 1)).trans (HG.out (4 + 2 * k + 1) (by omega))
    have U4 := HU.out (4 + 2 * k)
    have U5 := HU.out (4 + 2 * k + 1)
    have HS : Hid ((joinTo ws k).set (3 + k) (.int .u64 (both (ws.getD (4 + 2 * k) 0) (ws.getD (4 + 2 * k + 1) 0))) = joinTo ws (k + 1)) := joinTo_set ws k hlt
    have s0 : wr.cell? ⟨w.heap.size + 1 + 1, 3 + k, none⟩ = some ((joinTo ws k)[3 + k]'(by rw [joinTo_len]; omega)) := by
     rw [hJ1.cell, List.getElem?_eq_getElem]
    have f0 := hJ1.f (3 + k)
    generalize (joinTo ws k)[3 + k]'_ = v0 at *
    generalize joinTo ws k = L at *
    generalize ws.getD (4 + 2 * k) 0 = x4 at *
    generalize ws.getD (4 + 2 * k + 1) 0 = x5 at *
    have y1 : Hid (Blk wr (w.heap.size + 1 + 1) 34 L) := hJ1
    have y2 : Hid (Blk wr (w.heap.size + 1) 34 zero9) := hZ1
    have y3 : Hid (Blk wr w.heap.size 215 RW) := hW1
    have y4 : Hid (Below w.heap.size w wr) := hB1
    clear hJ1 hZ1 hW1 hB1
    have n0 : (0 : Int) <= 4 + 2 * (k : Int) := by omega
    have n1 : (0 : Int) <= 4 + 2 * (k : Int) + 1 := by omega
    have m0 : 4 + 2 * (k : Int) < 16 := by omega
    have m1 : 4 + 2 * (k : Int) + 1 < 16 := by omega
    have j1 : IntKind.i64.wrap (4 + 2 * (k : Int) + 1) = 4 + 2 * (k : Int) + 1 := by rw [IntKind.wrap_i64]; omega
    have t0 : (4 + 2 * (k : Int)).toNat = 4 + 2 * k := by omega
    have t1 : (4 + 2 * (k : Int) + 1).toNat = 4 + 2 * k + 1 := by omega
    have h6 : (k : Int) < 6 := by omega
    have hne : ¬ (w.heap.size + 1 + 1 = w.heap.size) := by omega
    go_wp2_with fail
    go_region_held3 (fun w' => w'.cell? ⟨w.heap.size, 4 + 2 * k, none⟩ = some (.int .u32 x4) /\ w'.cell? ⟨w.heap.size, 4 + 2 * k + 1, none⟩ = some (.int .u32 x5)) (go_keep) ((go_at_call 165; refine (HW.out _ _ _ U4 U5).mono ?_; rintro e w2 ⟨rfl, rfl⟩))
    all_goals
     go_wp2_with fail
     go_roundw
     case rel =>
      refine ⟨k + 1, by omega, by go_num, ?_, ?_, ?_, ?_⟩
      ·rw [<- HS.out]
       exact (y1.out.set _ _).drew
      ·exact (y2.out.other _ _ (by show w.heap.size + 1 ≠ w.heap.size + 1 + 1; omega)).drew
      ·exact (y3.out.other _ _ (by show w.heap.size ≠ w.heap.size + 1 + 1; omega)).drew
      ·exact (y4.out.setCell (by show w.heap.size <= w.heap.size + 1 + 1; omega) _).drew
     case measure => simp [intOf]; omega
   ·have hk6 : ¬ (k : Int) < 6 := by omega
    have hw : joinTo ws k = (join ws).cells := by
     obtain rfl : k = 6 := by omega
     exact joinTo_all ws
    rw [hw] at hJ1
    clear hw hlt hk
    have H1 : Hid ((join ws).cells.toArray.all (·.oneCell') = true) := Da.cells_one _
    have hl : (join ws).cells.length = 9 := rfl
    have HV : Hid ((join ws).val = .agg (join ws).cells.toArray) := rfl
    generalize (join ws).cells = R at *
    have HB : Hid (Blk (wr.setRow (w.heap.size + 1) R.toArray) (w.heap.size + 1) 34 R) := hZ1.row R.toArray
    have HC : Hid (Below w.heap.size w (wr.setRow (w.heap.size + 1) R.toArray)) := below_setRow hB1 (show w.heap.size <= w.heap.size + 1 by omega) R.toArray
    have HZ : Hid ((Tryz.prog.info? 34).map (·.size) = some R.toArray.size) := by unfold Hid; rw [Tryz.size34]; simp [hl]
    have HS : Hid (zero9.toArray.size = R.toArray.size) := by unfold Hid; simp [hl, zero9]
    have y1 : Hid (Blk wr (w.heap.size + 1 + 1) 34 R) := hJ1
    have y2 : Hid (Blk wr (w.heap.size + 1) 34 zero9) := hZ1
    clear hJ1 hZ1 hW1 hl hB1
    go_wp2_with (first | (refine wpList_load_row rfl 34 (.tmp 3) rfl (w.heap.size + 1 + 1) rfl 34 R.toArray (0, 0) _ y1.out Tryz.underlying34 rfl HZ.out ?_) | (refine wpList_store_row rfl 34 (.tmp 2) (.tmp 34) rfl (w.heap.size + 1) R.toArray rfl rfl 34 _ y2.out HZ.out HS.out H1.out ?_; generalize wr.setRow (w.heap.size + 1) R.toArray = X at *))
    rw [HV.out]
    refine bodyPost_ret (v := .agg R.toArray) ?_ rfl ⟨rfl, HC.out⟩
    exact results_cell_row Tryz.results135 _ _ (w.heap.size + 1) 34 R.toArray (0, 0) _ rfl HB.out Tryz.underlying34 rfl HZ.out
end Go.Proofs.YtmcgcbgblgmmkaaGreatDoor.G.D
