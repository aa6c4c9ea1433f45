/-
  The reader of tokens: its one cell, what a call of its own may turn, and its first method.
-/
import Derived.Test.YtcckipimfgmmdaaGreatDoorPMem
import Derived.Test.YtcckipimfgmmdaaGreatDoorPPTok
import Derived.BigQuiet
import Derived.Deep.RegionHeld3
namespace Go.Proofs.YtcckipimfgmmdaaGreatDoor.P
open Go.RowKit

/-- nothing old has turned but one block. -/
structure Bt (b : Nat) (w w' : World) : Prop where
  os : w'.os = w.os
  tape : w'.tape = w.tape
  output : w'.output = w.output
  size : w.heap.size ≤ w'.heap.size
  block : ∀ k, k < w.heap.size → k ≠ b → w'.heap[k]? = w.heap[k]?

section
variable {b : Nat} {w w' w'' : World}
theorem Bt.refl (b : Nat) (w : World) : Bt b w w := ⟨rfl, rfl, rfl, Nat.le_refl _, fun _ _ _ => rfl⟩
theorem Bt.trans (h : Bt b w w') (k : Bt b w' w'') : Bt b w w'' :=
  ⟨k.os.trans h.os, k.tape.trans h.tape, k.output.trans h.output, Nat.le_trans h.size k.size, fun j hj hn => (k.block j (Nat.lt_of_lt_of_le hj h.size) hn).trans (h.block j hj hn)⟩
theorem Bt.of (h : Below w.heap.size w w') : Bt b w w' := ⟨h.os, h.tape, h.output, h.size, fun j hj _ => h.block j hj⟩
theorem Bt.over (h : Bt b w w') (k : Below w'.heap.size w' w'') : Bt b w w'' := h.trans (.of k)
theorem Bt.setCell (h : Bt b w w') (j : Nat) (v : Value) : Bt b w (w'.setCell ⟨b, j, none⟩ v) := by
  refine h.trans ⟨rfl, rfl, rfl, ?_, fun k hk hn => heap_setCell_other w' ⟨b, j, none⟩ k v hn⟩
  show w'.heap.size ≤ (w'.setCell ⟨b, j, none⟩ v).heap.size
  simp
theorem Bt.blk {g : Nat} {t : TypeId} {l : List Value} (h : Bt b w w') (hg : Blk w g t l) (hn : g ≠ b) : Blk w' g t l := by
  unfold Blk
  rw [h.block g hg.lt hn]
  exact hg
theorem Bt.cell {a : Addr} {v : Value} (h : Bt b w w') (hc : w.cell? a = some v) (hn : a.block ≠ b) : w'.cell? a = some v := by
  rw [World.cell?_of_block (w := w) (h.block a.block (World.block_lt_of_cell? w _ hc) hn)]
  exact hc
theorem Bt.below {B : Nat} (h : Bt b w w') (hB : B ≤ b) (hs : B ≤ w.heap.size) : Below B w w' := ⟨h.os, h.tape, h.output, h.size, fun k hk => h.block k (by omega) (by omega)⟩
end

theorem Toks.bt {w w' : World} {b g len : Nat} {ts : List Tok} (h : Toks w (some ⟨g, 0, none⟩) len ts) (hb : Bt b w w') (hn : g ≠ b) : Toks w' (some ⟨g, 0, none⟩) len ts := by
  refine ⟨h.1, fun h0 => ?_⟩
  obtain ⟨g', e, hc⟩ := h.2 h0
  cases e
  exact ⟨g, rfl, fun i x hx => ⟨hb.cell (hc i x hx).1 hn, hb.cell (hc i x hx).2.1 hn, hb.cell (hc i x hx).2.2.1 hn, hb.cell (hc i x hx).2.2.2 hn⟩⟩


/-- the reader: what is left of the tokens. -/
structure Rd (w : World) (b g cap : Nat) (ts : List Tok) (n : Nat) : Prop where
  blk : Blk w b 75 [.slice (some ⟨g, n * 4, none⟩) (ts.length - n) (cap - n)]
  tok : Toks w (some ⟨g, 0, none⟩) ts.length ts
  ne : g ≠ b
  le : ts.length ≤ cap
  cap : cap ≤ 9223372036854775807

section
variable {w w' : World} {b g cap n : Nat} {ts : List Tok}
theorem Rd.over (h : Rd w b g cap ts n) (hb : Below w.heap.size w w') : Rd w' b g cap ts n := ⟨h.blk.over hb, h.tok.below hb, h.ne, h.le, h.cap⟩
theorem Rd.at (h : Rd w b g cap ts n) (hn : n < ts.length) : ts[n].at w g (n * 4) := by
  obtain ⟨g', e, hc⟩ := h.tok.2 (by omega)
  cases e
  exact hc n ts[n] (List.getElem?_eq_getElem hn)
theorem Rd.set (h : Rd w b g cap ts n) (n' : Nat) : Rd (w.setCell ⟨b, 0, none⟩ (.slice (some ⟨g, n' * 4, none⟩) (ts.length - n') (cap - n'))) b g cap ts n' :=
  ⟨h.blk.set 0 _, h.tok.bt ((Bt.refl b w).setCell 0 _) h.ne, h.ne, h.le, h.cap⟩
end

theorem at_op' {P : Program} {ops : Array Oper} {Q : Exit → Act → World → Prop} {rest : List Oper} {o : Oper} {a : Act} {w : World} (op : Op) (_ho : o.op = op) (h : wpList P ops Q (o :: rest) a w) : wpList P ops Q (o :: rest) a w := h
theorem switch_world' {P : Program} {ops : Array Oper} {Q : Exit → Act → World → Prop} {l : List Oper} {a : Act} {w X : World} (hw : w = X) (h : wpList P ops Q l a X) : wpList P ops Q l a w := hw ▸ h

theorem Bt.setRow {b g : Nat} {w w' : World} (h : Bt b w w') (hg : w.heap.size ≤ g) (cs : Array Value) : Bt b w (w'.setRow g cs) := by
  refine ⟨h.os, h.tape, h.output, ?_, fun k hk hn => ?_⟩
  · have := h.size
    simp
    exact this
  · rw [setRow_other _ _ _ _ (by omega)]
    exact h.block k hk hn
theorem Bt.setAny {b r i : Nat} {w w' : World} (h : Bt b w w') (hr : w.heap.size ≤ r) (v : Value) : Bt b w (w'.setCell ⟨r, i, none⟩ v) := by
  refine ⟨h.os, h.tape, h.output, ?_, fun k hk hn => ?_⟩
  · have := h.size
    simp
    exact this
  · rw [heap_setCell_other w' ⟨r, i, none⟩ k v (by show k ≠ r; omega)]
    exact h.block k hk hn

section
variable {w : World} {b g cap n r i : Nat} {ts : List Tok}
theorem Rd.setRow (h : Rd w b g cap ts n) (hb : r ≠ b) (hg : r ≠ g) (cs : Array Value) : Rd (w.setRow r cs) b g cap ts n := by
  refine ⟨?_, ?_, h.ne, h.le, h.cap⟩
  · unfold Blk
    rw [setRow_other _ _ _ _ (Ne.symm hb)]
    exact h.blk
  · refine ⟨h.tok.1, fun h0 => ?_⟩
    obtain ⟨g', e, hc⟩ := h.tok.2 h0
    cases e
    have k : ∀ j v, w.cell? ⟨g, j, none⟩ = some v → (w.setRow r cs).cell? ⟨g, j, none⟩ = some v := by
      intro j v hv
      rw [World.cell?_of_block (w := w) (setRow_other w r g cs (Ne.symm hg))]
      exact hv
    exact ⟨g, rfl, fun i x hx => ⟨k _ _ (hc i x hx).1, k _ _ (hc i x hx).2.1, k _ _ (hc i x hx).2.2.1, k _ _ (hc i x hx).2.2.2⟩⟩
theorem Rd.other (h : Rd w b g cap ts n) (hb : r ≠ b) (hg : r ≠ g) (v : Value) : Rd (w.setCell ⟨r, i, none⟩ v) b g cap ts n :=
  ⟨h.blk.other _ _ (Ne.symm hb), h.tok.bt (b := r) ((Bt.refl r w).setCell i v) (Ne.symm hg), h.ne, h.le, h.cap⟩
theorem Rd.lt (h : Rd w b g cap ts n) (hn : n < ts.length) : g < w.heap.size ∧ b < w.heap.size := ⟨World.block_lt_of_cell? w _ (h.at hn).1, h.blk.lt⟩
end

/-- the answer's cells in a block of their own, and the reader. -/
structure Kr (w : World) (b g cap : Nat) (ts : List Tok) (m : Nat) (T : TypeId) (l : List Value) (X : World) : Prop where
  rd : Rd X b g cap ts m
  blk : Blk X w.heap.size T l
  bt : Bt b w X
  lb : b < w.heap.size
  lg : g < w.heap.size

/-- and a local variable's cells in another. -/
structure Kq (w : World) (b g cap : Nat) (ts : List Tok) (m : Nat) (T : TypeId) (l : List Value) (r : Nat) (S : TypeId) (q : List Value) (X : World) : Prop where
  kr : Kr w b g cap ts m T l X
  blk : Blk X r S q
  lr : w.heap.size < r

section
variable {w X Y : World} {b g cap m m' r : Nat} {ts : List Tok} {T S : TypeId} {l q : List Value}
theorem Kr.over (h : Kr w b g cap ts m T l X) (hb : Below X.heap.size X Y) : Kr w b g cap ts m T l Y := ⟨h.rd.over hb, h.blk.over hb, h.bt.over hb, h.lb, h.lg⟩
theorem Kr.on (h : Kr w b g cap ts m T l X) (hb : Bt b X Y) (hp : Rd Y b g cap ts m') : Kr w b g cap ts m' T l Y := ⟨hp, hb.blk h.blk (by have := h.lb; omega), h.bt.trans hb, h.lb, h.lg⟩
theorem Kr.row (h : Kr w b g cap ts m T l X) (l' : List Value) : Kr w b g cap ts m T l' (X.setRow w.heap.size l'.toArray) := ⟨h.rd.setRow (by have := h.lb; omega) (by have := h.lg; omega) _, h.blk.row _, h.bt.setRow (Nat.le_refl _) _, h.lb, h.lg⟩
theorem kr_new (h : Rd w b g cap ts m) (hn : m < ts.length) (T : TypeId) (cs : Array Value) : Kr w b g cap ts m T cs.toList (w.alloc (Obj.cells cs T)) := by
  have hb : Below w.heap.size w (w.alloc (Obj.cells cs T)) := (Below.refl _ _).alloc (Nat.le_refl _) _
  have hl := h.lt hn
  exact ⟨h.over hb, blk_new w _ _, .of hb, hl.2, hl.1⟩
theorem Kr.new (h : Kr w b g cap ts m T l X) (S : TypeId) (cs : Array Value) : Kq w b g cap ts m T l X.heap.size S cs.toList (X.alloc (Obj.cells cs S)) := by
  have hb : Below X.heap.size X (X.alloc (Obj.cells cs S)) := (Below.refl _ _).alloc (Nat.le_refl _) _
  exact ⟨h.over hb, blk_new X _ _, h.blk.lt⟩
theorem Kq.rd (h : Kq w b g cap ts m T l r S q X) : Rd X b g cap ts m := h.kr.rd
theorem Kq.over (h : Kq w b g cap ts m T l r S q X) (hb : Below X.heap.size X Y) : Kq w b g cap ts m T l r S q Y := ⟨h.kr.over hb, h.blk.over hb, h.lr⟩
theorem Kq.on (h : Kq w b g cap ts m T l r S q X) (hb : Bt b X Y) (hp : Rd Y b g cap ts m') : Kq w b g cap ts m' T l r S q Y := ⟨h.kr.on hb hp, hb.blk h.blk (by have := h.kr.lb; have := h.lr; omega), h.lr⟩
theorem Kq.set (h : Kq w b g cap ts m T l r S q X) (i : Nat) (v : Value) : Kq w b g cap ts m T l r S (q.set i v) (X.setCell ⟨r, i, none⟩ v) := by
  have h1 := h.lr
  have h2 := h.kr.lb
  have h3 := h.kr.lg
  exact ⟨⟨h.rd.other (by omega) (by omega) v, h.kr.blk.other _ _ (by show _ ≠ r; omega), h.kr.bt.setAny (by omega) v, h2, h3⟩, h.blk.set i v, h1⟩
theorem Kq.row (h : Kq w b g cap ts m T l r S q X) (l' : List Value) : Kq w b g cap ts m T l' r S q (X.setRow w.heap.size l'.toArray) := by
  refine ⟨h.kr.row l', ?_, h.lr⟩
  unfold Blk
  rw [setRow_other _ _ _ _ (by have := h.lr; omega)]
  exact h.blk
end

/-- a token as a value. -/
def tokV (x : Tok) : Value := .agg #[.int .i64 x.k, .int .i64 x.at', .string (bar x.t), .int .u64 x.n]

set_option maxHeartbeats 2000000 in
theorem next_any (w : World) (b g cap n : Nat) (ts : List Tok) (h : Rd w b g cap ts n) (hn : n < ts.length) :
    Calls Tryz.prog 46 #[.pointer (some ⟨b, 0, none⟩)] w fun e w' => e = .returned (tokV ts[n]) ∧ Below w.heap.size w w' := by
  have hb1 : Below w.heap.size w (w.alloc (Obj.cells #[.int .i64 0, .int .i64 0, .string ⟨#[]⟩, .int .u64 0] 108)) := (Below.refl _ _).alloc (Nat.le_refl _) _
  have h1 := h.over hb1
  obtain ⟨x0, x1, x2, x3⟩ := h1.at hn
  have c0 : (w.alloc (Obj.cells #[.int .i64 0, .int .i64 0, .string ⟨#[]⟩, .int .u64 0] 108)).cell? ⟨b, 0, none⟩ = some (.slice (some ⟨g, n * 4, none⟩) (ts.length - n) (cap - n)) := h1.blk.cell 0
  have hi : 0 < ts.length - n := by omega
  unfold tokV
  generalize ts[n] = x at *
  obtain ⟨xk, xa, xt, xn⟩ := x
  dsimp only at *
  clear h h1
  generalize ts.length - n = L at *
  generalize cap - n = C at *
  go_enter Tryz.func46, Tryz.ntmps46
  go_wp2
  exact bodyPost_ret (v := .agg #[.int .i64 xk, .int .i64 xa, .string (bar xt), .int .u64 xn]) (by simp [results, Tryz.results46, go_sem]) rfl ⟨rfl, (Below.refl _ _).alloc (Nat.le_refl _) _⟩

end Go.Proofs.YtcckipimfgmmdaaGreatDoor.P
