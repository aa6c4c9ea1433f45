/-
  Rows of names and of conditions.
-/
import Derived.Test.YtcckipimfgmmdaaGreatDoorPRd6
namespace Go.Proofs.YtcckipimfgmmdaaGreatDoor.P
open Go.RowKit

theorem Tryz.info9 : (Tryz.prog.info? 9).map (fun i => (i.zero, i.size, i.bytes)) = some (some (.string ⟨#[]⟩), 1, 16) := by kernel_rfl
theorem Tryz.info139 : (Tryz.prog.info? 139).map (fun i => (i.zero, i.size, i.bytes)) = some (some (.agg #[.int .i64 0, .int .i64 0, .int .u64 0, .int .u64 0]), 4, 32) := by kernel_rfl
theorem Tryz.infoR : (Tryz.prog.info? 87).map (fun i => (i.zero, i.size)) = some (some (.agg #[.int .i64 0, .int .i64 0, .slice none 0 0, .slice none 0 0]), 4) := by kernel_rfl

/-- names as cells. -/
def nameC (t : List UInt8) : Value := .string (bar t)
def cellsN (l : List (List UInt8)) : List Value := l.map nameC
theorem cellsN_snoc (l : List (List UInt8)) (x : List UInt8) : cellsN (l ++ [x]) = cellsN l ++ [nameC x] := by simp [cellsN]

/-- conditions as cells. -/
def Cd.cells (x : Cd) : List Value := [.int .i64 x.arg, .int .i64 x.op, .int .u64 x.mask, .int .u64 x.val]
def cellsC (l : List Cd) : List Value := l.flatMap Cd.cells
theorem cellsC_snoc (l : List Cd) (x : Cd) : cellsC (l ++ [x]) = cellsC l ++ x.cells := by simp [cellsC]
theorem cellsC_length (l : List Cd) : (cellsC l).length = l.length * 4 := by
  induction l with
  | nil => rfl
  | cons x l ih =>
    show (x.cells ++ cellsC l).length = _
    rw [List.length_append, ih, List.length_cons, Nat.add_mul]
    show 4 + _ = _
    omega
theorem cellsC_get (l : List Cd) : ∀ (i : Nat) (x : Cd) (c : Nat), l[i]? = some x → c < 4 → (cellsC l)[i * 4 + c]? = x.cells[c]? := by
  induction l with
  | nil => intro i x c h; simp at h
  | cons y l ih =>
    intro i x c h hc
    show (y.cells ++ cellsC l)[i * 4 + c]? = _
    cases i with
    | zero =>
      simp at h
      subst h
      rw [List.getElem?_append_left (by show _ < 4; omega)]
      congr 1
      omega
    | succ i =>
      rw [List.getElem?_append_right (by show 4 ≤ _; omega)]
      rw [List.getElem?_cons_succ] at h
      rw [← ih i x c h hc]
      congr 1
      show (i + 1) * 4 + c - 4 = _
      omega

/-- the names that a slice leads to. -/
def Strs (w : World) (v : Value) (l : List (List UInt8)) : Prop :=
  ∃ a cap, v = .slice a l.length cap ∧ (0 < l.length → ∃ b, a = some ⟨b, 0, none⟩ ∧ ∀ (i : Nat) (x : List UInt8), l[i]? = some x → w.cell? ⟨b, i, none⟩ = some (.string (bar x)))

/-- the conditions that a slice leads to. -/
def Cd.at (x : Cd) (w : World) (b o : Nat) : Prop :=
  w.cell? ⟨b, o, none⟩ = some (.int .i64 x.arg) ∧ w.cell? ⟨b, o + 1, none⟩ = some (.int .i64 x.op) ∧ w.cell? ⟨b, o + 2, none⟩ = some (.int .u64 x.mask) ∧ w.cell? ⟨b, o + 3, none⟩ = some (.int .u64 x.val)
def Cds (w : World) (v : Value) (l : List Cd) : Prop :=
  ∃ a cap, v = .slice a l.length cap ∧ (0 < l.length → ∃ b, a = some ⟨b, 0, none⟩ ∧ ∀ (i : Nat) (x : Cd), l[i]? = some x → x.at w b (i * 4))

theorem cell_same {w w' : World} {a : Addr} {v : Value} (h : w.cell? a = some v) (hb : w'.heap[a.block]? = w.heap[a.block]?) : w'.cell? a = some v := by
  rw [World.cell?_of_block hb]
  exact h

theorem Strs.below {w w' : World} {v : Value} {l : List (List UInt8)} (h : Strs w v l) (hb : Below w.heap.size w w') : Strs w' v l := by
  obtain ⟨a, cap, rfl, hc⟩ := h
  refine ⟨a, cap, rfl, fun h0 => ?_⟩
  obtain ⟨b, rfl, hx⟩ := hc h0
  exact ⟨b, rfl, fun i x hi => cell_same (hx i x hi) (hb.block b (World.block_lt_of_cell? w _ (hx i x hi)))⟩
theorem Cds.below {w w' : World} {v : Value} {l : List Cd} (h : Cds w v l) (hb : Below w.heap.size w w') : Cds w' v l := by
  obtain ⟨a, cap, rfl, hc⟩ := h
  refine ⟨a, cap, rfl, fun h0 => ?_⟩
  obtain ⟨b, rfl, hx⟩ := hc h0
  refine ⟨b, rfl, fun i x hi => ?_⟩
  have q := hb.block b (World.block_lt_of_cell? w _ (hx i x hi).1)
  exact ⟨cell_same (hx i x hi).1 q, cell_same (hx i x hi).2.1 q, cell_same (hx i x hi).2.2.1 q, cell_same (hx i x hi).2.2.2 q⟩

theorem owns_strs {w : World} {base : Nat} {v : Value} {n : Nat} {l : List (List UInt8)} (h : w.ownsRow base 9 1 v n (cellsN l)) : l.length = n ∧ Strs w v l := by
  have hlen : l.length = n := by have := h.1; simp [cellsN] at this; omega
  subst hlen
  refine ⟨rfl, ?_⟩
  rcases h.2 with ⟨rfl, h0⟩ | ⟨g, cap, cur, rfl, hb, hg, hnc, hcm, hcs, htake⟩
  · exact ⟨none, 0, by rw [h0], fun h => absurd h (by omega)⟩
  · refine ⟨_, cap, rfl, fun _ => ⟨g, rfl, fun i x hx => ?_⟩⟩
    have := h.cells (g := g) rfl i (.string (bar x)) (by simp [cellsN, hx, nameC])
    rw [show (⟨g, i, none⟩ : Addr) = (⟨g, 0, none⟩ : Addr).add i from by unfold Addr.add; split <;> simp_all]
    exact this

theorem owns_cds {w : World} {base : Nat} {v : Value} {n : Nat} {l : List Cd} (h : w.ownsRow base 139 4 v n (cellsC l)) : l.length = n ∧ Cds w v l := by
  have hlen : l.length = n := by have := h.1; rw [cellsC_length] at this; omega
  subst hlen
  refine ⟨rfl, ?_⟩
  rcases h.2 with ⟨rfl, h0⟩ | ⟨g, cap, cur, rfl, hb, hg, hnc, hcm, hcs, htake⟩
  · exact ⟨none, 0, by rw [h0], fun h => absurd h (by omega)⟩
  · refine ⟨_, cap, rfl, fun _ => ⟨g, rfl, fun i x hx => ?_⟩⟩
    have key : ∀ c u, c < 4 → x.cells[c]? = some u → w.cell? ⟨g, i * 4 + c, none⟩ = some u := by
      intro c u hc hu
      have := h.cells (g := g) rfl (i * 4 + c) u (by rw [cellsC_get l i x c hx hc]; exact hu)
      rw [show (⟨g, i * 4 + c, none⟩ : Addr) = (⟨g, 0, none⟩ : Addr).add (i * 4 + c) from by unfold Addr.add; split <;> simp_all]
      exact this
    exact ⟨key 0 _ (by decide) rfl, key 1 _ (by decide) rfl, key 2 _ (by decide) rfl, key 3 _ (by decide) rfl⟩

theorem append_str {w : World} {ops : Array Oper} {rest : List Oper} {o : Oper} {a : Act} {Q : Exit → Act → World → Prop} (hgd : o.guard = none) (s x : Operand)
    (ho : o.op = .call { callee := .builtin .append, args := #[s, x], argTypes := #[22, 22] })
    (base : Nat) (v : Value) (n : Nat) (l : List (List UInt8)) (hs : a.eval s = v) (hown : w.ownsRow base 9 1 v n (cellsN l))
    (it : List UInt8) (ad : Addr) (hx : a.eval x = .slice (some ad) 1 1) (hnews : w.cell? (ad.add 0) = some (nameC it))
    (hn : n ≤ 1000000) (hbase : base ≤ w.heap.size)
    (h : ∀ v' w', w'.ownsRow base 9 1 v' (n + 1) (cellsN (l ++ [it])) → w.grownBy w' v.ownBlock → wpList Tryz.prog ops Q rest (a.put o.dst v') w') : wpList Tryz.prog ops Q (o :: rest) a w := by
  obtain ⟨i0, hi, hz0, hz1, hz2⟩ := info_parts Tryz.info9
  refine wpList_append_own _ hgd s x 22 ho base 9 i0 _ 1 16 Tryz.underlying22 hi hz0 hz1 hz2 rfl (by decide) v n (cellsN l) hs hown ad 1 1 [nameC it] hx rfl ?_ (by intro u hu; simp at hu; subst hu; rfl) (by unfold maxLen; omega) (by omega) hbase ?_
  · intro j u hu
    match j, hu with
    | 0, hu => cases hu; exact hnews
  · intro v' w' h1 h2 _
    exact h v' w' (by rw [cellsN_snoc]; exact h1) h2

theorem append_cond {w : World} {ops : Array Oper} {rest : List Oper} {o : Oper} {a : Act} {Q : Exit → Act → World → Prop} (hgd : o.guard = none) (s x : Operand)
    (ho : o.op = .call { callee := .builtin .append, args := #[s, x], argTypes := #[85, 85] })
    (base : Nat) (v : Value) (n : Nat) (l : List Cd) (hs : a.eval s = v) (hown : w.ownsRow base 139 4 v n (cellsC l))
    (it : Cd) (ad : Addr) (hx : a.eval x = .slice (some ad) 1 1) (hnews : ∀ j u, it.cells[j]? = some u → w.cell? (ad.add j) = some u)
    (hn : n ≤ 1000000) (hbase : base ≤ w.heap.size)
    (h : ∀ v' w', w'.ownsRow base 139 4 v' (n + 1) (cellsC (l ++ [it])) → w.grownBy w' v.ownBlock → wpList Tryz.prog ops Q rest (a.put o.dst v') w') : wpList Tryz.prog ops Q (o :: rest) a w := by
  obtain ⟨i0, hi, hz0, hz1, hz2⟩ := info_parts Tryz.info139
  refine wpList_append_own _ hgd s x 85 ho base 139 i0 _ 4 32 Tryz.underlying85 hi hz0 hz1 hz2 rfl (by decide) v n (cellsC l) hs hown ad 1 1 it.cells hx rfl hnews (by intro u hu; simp [Cd.cells] at hu; rcases hu with rfl | rfl | rfl | rfl <;> rfl) (by unfold maxLen; omega) (by omega) hbase ?_
  intro v' w' h1 h2 _
  exact h v' w' (by rw [cellsC_snoc]; exact h1) h2

theorem owns_bt {w w' : World} {b base sz : Nat} {t : TypeId} {v : Value} {n : Nat} {xs : List Value} (h : w.ownsRow base t sz v n xs) (hb : Bt b w w') (hB : b < base) : w'.ownsRow base t sz v n xs := by
  refine ⟨h.1, ?_⟩
  rcases h.2 with hn | ⟨g, cap, cur, hv, hg, hh, r⟩
  · exact .inl hn
  · exact .inr ⟨g, cap, cur, hv, hg, by rw [hb.block g (lt_of_block hh) (by omega)]; exact hh, r⟩

theorem owns_set {w : World} {base sz r i : Nat} {t : TypeId} {v u : Value} {n : Nat} {xs : List Value} (h : w.ownsRow base t sz v n xs) (hr : r < base) : (w.setCell ⟨r, i, none⟩ u).ownsRow base t sz v n xs := by
  refine ⟨h.1, ?_⟩
  rcases h.2 with hn | ⟨g, cap, cur, hv, hg, hh, q⟩
  · exact .inl hn
  · exact .inr ⟨g, cap, cur, hv, hg, by rw [heap_setCell_other w ⟨r, i, none⟩ g u (by show g ≠ r; omega)]; exact hh, q⟩

theorem Bt.grown {b : Nat} {w X Y : World} {row : Option Nat} (h : Bt b w X) (hg : X.grownBy Y row) (hr : ∀ k, row = some k → w.heap.size ≤ k) : Bt b w Y :=
  ⟨hg.os.trans h.os, hg.tape.trans h.tape, hg.output.trans h.output, Nat.le_trans h.size hg.size, fun k hk hn => (hg.block k (Nat.lt_of_lt_of_le hk h.size) (fun e => by have := hr k e.symm; omega)).trans (h.block k hk hn)⟩

theorem Blk.grown {X Y : World} {row : Option Nat} {b : Nat} {t : TypeId} {l : List Value} (h : Blk X b t l) (hg : X.grownBy Y row) (hr : ∀ k, row = some k → b < k) : Blk Y b t l := by
  unfold Blk
  rw [hg.block b h.lt (fun e => by have := hr b e.symm; omega)]
  exact h


theorem Toks.grown {X Y : World} {row : Option Nat} {g len : Nat} {ts : List Tok} (h : Toks X (some ⟨g, 0, none⟩) len ts) (hg : X.grownBy Y row) (hr : ∀ k, row = some k → g < k) : Toks Y (some ⟨g, 0, none⟩) len ts := by
  refine ⟨h.1, fun h0 => ?_⟩
  obtain ⟨g', e, hc⟩ := h.2 h0
  cases e
  refine ⟨g, rfl, fun i x hx => ?_⟩
  have q : Y.heap[g]? = X.heap[g]? := hg.block g (World.block_lt_of_cell? X _ (hc i x hx).1) (fun e => by have := hr g e.symm; omega)
  exact ⟨cell_same (hc i x hx).1 q, cell_same (hc i x hx).2.1 q, cell_same (hc i x hx).2.2.1 q, cell_same (hc i x hx).2.2.2 q⟩

theorem Rd.grown {X Y : World} {row : Option Nat} {b g cap n : Nat} {ts : List Tok} (h : Rd X b g cap ts n) (hg : X.grownBy Y row) (hb : ∀ k, row = some k → b < k) (hg' : ∀ k, row = some k → g < k) : Rd Y b g cap ts n :=
  ⟨h.blk.grown hg hb, h.tok.grown hg hg', h.ne, h.le, h.cap⟩

/-- a row under way: its own memory, and the reader. -/
structure Nm (w : World) (b g cap : Nat) (ts : List Tok) (m : Nat) (T : TypeId) (sz : Nat) (v : Value) (k : Nat) (cs : List Value) (X : World) : Prop where
  rd : Rd X b g cap ts m
  bt : Bt b w X
  own : X.ownsRow w.heap.size T sz v k cs
  lb : b < w.heap.size
  lg : g < w.heap.size

section
variable {w X Y : World} {b g cap m m' sz k k' : Nat} {ts : List Tok} {T : TypeId} {v v' : Value} {cs cs' : List Value}
theorem Nm.over (h : Nm w b g cap ts m T sz v k cs X) (hb : Below X.heap.size X Y) : Nm w b g cap ts m T sz v k cs Y := ⟨h.rd.over hb, h.bt.over hb, owns_below h.own hb (Nat.le_refl _), h.lb, h.lg⟩
theorem Nm.on (h : Nm w b g cap ts m T sz v k cs X) (hb : Bt b X Y) (hp : Rd Y b g cap ts m') : Nm w b g cap ts m' T sz v k cs Y := ⟨hp, h.bt.trans hb, owns_bt h.own hb h.lb, h.lb, h.lg⟩
theorem Nm.alloc (h : Nm w b g cap ts m T sz v k cs X) (o : Obj) : Nm w b g cap ts m T sz v k cs (X.alloc o) := h.over ((Below.refl _ _).alloc (Nat.le_refl _) _)
theorem Nm.app (h : Nm w b g cap ts m T sz v k cs X) (ho : Y.ownsRow w.heap.size T sz v' k' cs') (hg : X.grownBy Y v.ownBlock) : Nm w b g cap ts m T sz v' k' cs' Y := by
  have hk := owns_block h.own
  have lb := h.lb
  have lg := h.lg
  exact ⟨h.rd.grown hg (fun k e => by have := hk k e; omega) (fun k e => by have := hk k e; omega), h.bt.grown hg (fun k e => by have := hk k e; omega), ho, lb, lg⟩
theorem nm_new (h : Rd w b g cap ts m) (hn : m < ts.length) (T : TypeId) (sz : Nat) : Nm w b g cap ts m T sz (.slice none 0 0) 0 [] w := by
  have hl := h.lt hn
  exact ⟨h, Bt.refl _ _, ⟨by simp, .inl ⟨rfl, rfl⟩⟩, hl.2, hl.1⟩
theorem Nm.slice (h : Nm w b g cap ts m T sz v k cs X) : ∃ a c, v = .slice a k c := by
  rcases h.own.2 with ⟨rfl, h0⟩ | ⟨g', c, cur, rfl, _⟩
  · exact ⟨none, 0, by rw [h0]⟩
  · exact ⟨_, c, rfl⟩
end

/-- a slice's length. -/
def lenOf : Value → Nat
  | .slice _ n _ => n
  | _ => 0

end Go.Proofs.YtcckipimfgmmdaaGreatDoor.P
