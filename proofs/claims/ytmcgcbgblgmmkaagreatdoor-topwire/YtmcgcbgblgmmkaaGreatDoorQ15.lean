/-
  PMath PMem PLies PPMath PPBound PPTop.
-/
import Derived.Test.YtmcgcbgblgmmkaaGreatDoorQ11
namespace Go.Proofs.YtmcgcbgblgmmkaaGreatDoor.P
open M (bar bar_lst decode_tail dgN loN lst lst_at lst_length ofW wN wN_high width_pos)
open Go
theorem lst_bar (l : (List UInt8)) : lst (bar l) = l := by simp [bar, lst]
theorem bar_size (l : (List UInt8)) : (bar l).size = l.length := by rw [<- lst_length, lst_bar]
theorem extract_bar (s : ByteArray) (a b : Nat) : s.extract a b = bar (((lst s).drop a).take (b - a)) := by
 conv => lhs; rw [<- bar_lst s]
 exact ByteArray.extract_mk _ _ _
theorem lst_extract (s : ByteArray) (a b : Nat) : lst (s.extract a b) = ((lst s).drop a).take (b - a) := by rw [extract_bar, lst_bar]
def blN (n : Nat) : Bool := n == 9 || n == 10 || n == 13 || n == 32
def noN (n : Nat) : Bool := !(n == 10)
def ofN (c : UInt8) : Bool := noN c.toNat
theorem noN_high {n : Nat} (h : 128 <= n) : noN n = true := by
 have h3 : ¬ n = 10 := by omega
 simp [noN, h3]
theorem blN_high {n : Nat} (h : 128 <= n) : blN n = false := by
 have h1 : ¬ n = 9 := by omega
 have h2 : ¬ n = 10 := by omega
 have h3 : ¬ n = 13 := by omega
 have h4 : ¬ n = 32 := by omega
 simp [blN, h1, h2, h3, h4]
theorem wN_low {n : Nat} (h : wN n = true) : n < 128 := by
 rcases Nat.lt_or_ge n 128 with h1 | h1
 ·exact h1
 ·rw [wN_high h1] at h; cases h
def dv (c : UInt8) : Nat := if dgN c.toNat then c.toNat - 48 else if loN c.toNat then c.toNat - 87 else 99
def parse (b a : Nat) : (List UInt8) -> Option Nat
 | [] => some a
 | c :: r => if dv c < b /\ a * b + dv c < 18446744073709551616 then parse b (a * b + dv c) r else none
def numV (t : (List UInt8)) : Option Nat :=
 if t.take 2 = [48, 120] then (if 3 <= t.length /\ t.length <= 18 then parse 16 0 (t.drop 2) else none)
 else if t.take 1 = [48] then (if t = [48] then some 0 else none)
 else parse 10 0 t
def signs : List (List UInt8) := [[61, 61], [33, 61], [60, 61], [62, 61], [59], [44], [60], [62], [38]]
def sign (l : (List UInt8)) : Option (List UInt8) := signs.find? (fun p => p.isPrefixOf l)
def numR (t : (List UInt8)) : Except Nat (Nat × (List UInt8) × Nat) := match numV t with | some n => .ok (2, t, n) | none => .error 6
def sgR (o : Option (List UInt8)) : Except Nat (Nat × (List UInt8) × Nat) := match o with | some t => .ok (3, t, 0) | none => .error 5
def one (l : (List UInt8)) : Except Nat (Nat × (List UInt8) × Nat) :=
 match l with
 | [] => .error 5
 | c :: r =>
  if loN c.toNat then .ok (1, (c :: r).takeWhile ofW, 0)
  else if dgN c.toNat then numR ((c :: r).takeWhile ofW)
  else sgR (sign (c :: r))
structure Tok where
 k : Nat
 at' : Nat
 t : (List UInt8)
 n : Nat
def glue (a : List Tok) : (Except (Nat × Nat) (List Tok)) -> (Except (Nat × Nat) (List Tok))
 | .error e => .error e
 | .ok l => .ok (a ++ l)
theorem glue_nil (r : (Except (Nat × Nat) (List Tok))) : glue [] r = r := by cases r <;> rfl
theorem glue_glue (a b : List Tok) (r : (Except (Nat × Nat) (List Tok))) : glue a (glue b r) = glue (a ++ b) r := by cases r <;> simp [glue]
def go (skip p : Nat) : (List UInt8) -> (Except (Nat × Nat) (List Tok))
 | [] => .ok [⟨4, p, [], 0⟩]
 | c :: r =>
  if 0 < skip then go (skip - 1) (p + 1) r
  else if blN c.toNat then go 0 (p + 1) r
  else if c.toNat = 35 then go (r.takeWhile ofN).length (p + 1) r
  else match one (c :: r) with
   | .error e => .error (e, p)
   | .ok (k, t, n) => glue [⟨k, p, t, n⟩] (go (t.length - 1) (p + 1) r)
def all (l : (List UInt8)) : (Except (Nat × Nat) (List Tok)) := if 8192 < l.length then .error (4, 0) else go 0 0 l
theorem go_skip (k m : Nat) : ∀ (p : Nat) (l : (List UInt8)), k <= l.length -> go (k + m) p l = go m (p + k) (l.drop k) := by
 induction k with
 | zero => intro p l _; rw [Nat.zero_add]; rfl
 | succ k ih =>
  intro p l h
  match l, h with
  | c :: r, h =>
   show (if 0 < k + 1 + m then go (k + 1 + m - 1) (p + 1) r else _) = _
   rw [if_pos (by omega), show k + 1 + m - 1 = k + m from by omega, ih (p + 1) r (by simpa using h)]
   rw [show p + 1 + k = p + (k + 1) from by omega]
   rfl
theorem go_over {c : UInt8} {r : (List UInt8)} {k p : Nat} (h : 0 < k) : go k p (c :: r) = go (k - 1) (p + 1) r := by
 show (if 0 < k then go (k - 1) (p + 1) r else _) = _
 rw [if_pos h]
theorem go_blank {c : UInt8} {r : (List UInt8)} {p : Nat} (h : blN c.toNat = true) : go 0 p (c :: r) = go 0 (p + 1) r := by
 show (if 0 < 0 then _ else if blN c.toNat then go 0 (p + 1) r else _) = _
 rw [if_neg (by omega), if_pos h]
theorem note_len {c : UInt8} {r : (List UInt8)} (h : c.toNat = 35) : ((c :: r).takeWhile ofN).length = (r.takeWhile ofN).length + 1 := by
 have : ofN c = true := by simp [ofN, noN, h]
 rw [List.takeWhile_cons, if_pos this]
 rfl
theorem go_note {c : UInt8} {r : (List UInt8)} {p : Nat} (h : c.toNat = 35) : go 0 p (c :: r) = go ((c :: r).takeWhile ofN).length p (c :: r) := by
 rw [note_len h, go_over (Nat.succ_pos _)]
 show (if 0 < 0 then _ else if blN c.toNat then _ else if c.toNat = 35 then go (r.takeWhile ofN).length (p + 1) r else _) = _
 rw [if_neg (by omega), if_neg (by rw [h]; decide), if_pos h]
 rfl
theorem go_one {c : UInt8} {r : (List UInt8)} {p : Nat} (h1 : blN c.toNat = false) (h2 : ¬ c.toNat = 35) : go 0 p (c :: r) = (match one (c :: r) with
   | .error e => .error (e, p)
   | .ok (k, t, n) => glue [⟨k, p, t, n⟩] (go (t.length - 1) (p + 1) r)) := by
 show (if 0 < 0 then _ else if blN c.toNat then _ else if c.toNat = 35 then _ else _) = _
 rw [if_neg (by omega), if_neg (by rw [h1]; decide), if_neg h2]
theorem take_while_le (p : UInt8 -> Bool) (l : (List UInt8)) : (l.takeWhile p).length <= l.length := by
 induction l with
 | nil => simp
 | cons c r ih => rw [List.takeWhile_cons]; split <;> simp; exact ih
theorem take_while_take (p : UInt8 -> Bool) (l : (List UInt8)) : l.take (l.takeWhile p).length = l.takeWhile p := by
 induction l with
 | nil => rfl
 | cons c r ih => rw [List.takeWhile_cons]; split <;> simp; exact ih
theorem take_while_all (p : UInt8 -> Bool) (l : (List UInt8)) : ∀ c ∈ l.takeWhile p, p c = true := by
 induction l with
 | nil => simp
 | cons c r ih =>
  rw [List.takeWhile_cons]
  split
  ·next h =>
   intro d hd
   rcases List.mem_cons.1 hd with rfl | hd
   ·exact h
   ·exact ih d hd
  ·simp
theorem take_while_next (p : UInt8 -> Bool) (l : (List UInt8)) : ∀ c, l[(l.takeWhile p).length]? = some c -> p c = false := by
 induction l with
 | nil => simp
 | cons c r ih =>
  rw [List.takeWhile_cons]
  split
  ·intro d hd
   exact ih d (by simpa using hd)
  ·next h =>
   intro d hd
   simp at hd
   subst hd
   simpa using h
theorem one_take {l : (List UInt8)} {k n : Nat} {t : (List UInt8)} (h : one l = .ok (k, t, n)) : l.take t.length = t /\ 1 <= t.length /\ ∀ c ∈ t, c.toNat < 128 := by
 match l, h with
 | c :: r, h =>
  have hw : wN c.toNat = true -> 1 <= ((c :: r).takeWhile ofW).length := by
   intro hc
   rw [List.takeWhile_cons, if_pos (show ofW c = true from hc)]
   simp
  unfold one at h
  simp only at h
  split at h
  ·next h1 =>
   cases h
   exact ⟨take_while_take _ _, hw (by simp [wN, h1]), fun d hd => wN_low (take_while_all _ _ d hd)⟩
  ·split at h
   ·next h2 =>
    unfold numR at h
    split at h
    ·cases h
     exact ⟨take_while_take _ _, hw (by simp [wN, h2]), fun d hd => wN_low (take_while_all _ _ d hd)⟩
    ·cases h
   ·unfold sgR at h
    split at h
    ·next h3 =>
     cases h
     have hm := List.mem_of_find?_eq_some h3
     have hp := List.find?_some h3
     have hp' := List.isPrefixOf_iff_prefix.1 hp
     refine ⟨(List.prefix_iff_eq_take.1 hp').symm, ?_⟩
     simp [signs] at hm
     rcases hm with rfl | rfl | rfl | rfl | rfl | rfl | rfl | rfl | rfl <;> exact ⟨by decide, by decide⟩
    ·cases h
theorem one_le {l : (List UInt8)} {k n : Nat} {t : (List UInt8)} (h : one l = .ok (k, t, n)) : t.length <= l.length := by
 have h1 := (one_take h).1
 have h2 := congrArg List.length h1
 rw [List.length_take] at h2
 omega
def Stop (l : (List UInt8)) (pos next : Nat) : Prop := next <= l.length /\ ((∀ i c, pos <= i -> i < next -> l[i]? = some c -> c.toNat < 128) \/ next = l.length \/ ∃ c, l[next]? = some c /\ c.toNat < 128)
theorem Stop.step {s : ByteArray} {pos next : Nat} (h : Stop (lst s) pos next) (hp : pos < next) : pos + (Utf8.decode s pos).2 <= next /\ Stop (lst s) (pos + (Utf8.decode s pos).2) next := by
 have hps : pos < s.size := by have := h.1; rw [lst_length] at this; omega
 have h1 := width_pos s pos hps
 refine ⟨?_, h.1, ?_⟩
 ·rcases Nat.lt_or_ge next (pos + (Utf8.decode s pos).2) with hlt | hge
  ·obtain ⟨c, hc, hc1⟩ := decode_tail s pos hps (next - pos) (by omega) (by omega)
   rw [show pos + (next - pos) = next from by omega] at hc
   rcases h.2 with h2 | h2 | ⟨d, hd, hd1⟩
   ·have hw : (Utf8.decode s pos).2 = 1 := by
     rw [decode_ascii s pos hps (h2 pos _ (Nat.le_refl _) hp (lst_at s pos hps))]
    omega
   ·have := (List.getElem?_eq_some_iff.1 hc).1
    omega
   ·rw [hd] at hc
    cases hc
    omega
  ·exact hge
 ·rcases h.2 with h2 | h2
  ·exact .inl fun i c hi => h2 i c (by omega)
  ·exact .inr h2
end Go.Proofs.YtmcgcbgblgmmkaaGreatDoor.P
namespace Go.Proofs.YtmcgcbgblgmmkaaGreatDoor.F.D
open Go.RowKit
theorem Blk.alloc {w : World} {b : Nat} {t : TypeId} {l : List Value} (h : Blk w b t l) (o : Obj) : Blk (w.alloc o) b t l := by
 unfold Blk
 have hb : Below w.heap.size w (w.alloc o) := (Below.refl _ _).alloc (Nat.le_refl _) _
 rw [hb.block b h.lt]
 exact h
theorem Blk.other {w : World} {b : Nat} {t : TypeId} {l : List Value} (h : Blk w b t l) (a : Addr) (v : Value) (hne : b ≠ a.block) : Blk (w.setCell a v) b t l := by
 unfold Blk
 rw [heap_setCell_other w a b v hne]
 exact h
end Go.Proofs.YtmcgcbgblgmmkaaGreatDoor.F.D
namespace Go.Proofs.YtmcgcbgblgmmkaaGreatDoor.P
open F.D (Blk)
open M (bar)
open Go.RowKit
theorem Tryz.info142 : (Tryz.prog.info? 142).map (fun i => (i.zero, i.size, i.bytes)) = some (some (.agg #[.int .i64 0, .int .i64 0, .string ⟨#[]⟩, .int .u64 0]), 4, 40) := by kernel_rfl
theorem Tryz.size142 : (Tryz.prog.info? 142).map (·.size) = some 4 := by kernel_rfl
theorem owns_block {w : World} {base sz : Nat} {t : TypeId} {v : Value} {n : Nat} {xs : List Value} (h : w.ownsRow base t sz v n xs) : ∀ k, v.ownBlock = some k -> base <= k := by
 intro k hk
 rcases h.2 with ⟨rfl, rfl⟩ | ⟨g, cap, cur, rfl, hb, _⟩
 ·cases hk
 ·cases hk; exact hb
theorem owns_lower {w : World} {B B' sz : Nat} {t : TypeId} {v : Value} {n : Nat} {xs : List Value} (h : w.ownsRow B t sz v n xs) (hB : B' <= B) : w.ownsRow B' t sz v n xs := by
 refine ⟨h.1, ?_⟩
 rcases h.2 with hn | ⟨g, cap, cur, hv, hg, r⟩
 ·exact .inl hn
 ·exact .inr ⟨g, cap, cur, hv, Nat.le_trans hB hg, r⟩
theorem owns_below {w w' : World} {base sz B : Nat} {t : TypeId} {v : Value} {n : Nat} {xs : List Value} (h : w.ownsRow base t sz v n xs) (hb : Below B w w') (hB : w.heap.size <= B) : w'.ownsRow base t sz v n xs := by
 refine ⟨h.1, ?_⟩
 rcases h.2 with hn | ⟨g, cap, cur, hv, hg, hh, r⟩
 ·exact .inl hn
 ·exact .inr ⟨g, cap, cur, hv, hg, by rw [hb.block g (Nat.lt_of_lt_of_le (lt_of_block hh) hB)]; exact hh, r⟩
theorem below_drewN (w : World) (n : Nat) : Below w.heap.size w (w.drewN n) := by
 induction n with
 | zero => exact Below.refl _ _
 | succ n ih => exact ih.drew
section
variable {w : World} {b : Nat} {t : TypeId} {l : List Value}
open F.D (Blk.other)
open F.D (Blk.alloc)
end
def Tok.cells (x : Tok) : List Value := [.int .i64 x.k, .int .i64 x.at', .string (bar x.t), .int .u64 x.n]
def cellsT (l : List Tok) : List Value := l.flatMap Tok.cells
theorem cellsT_snoc (l : List Tok) (x : Tok) : cellsT (l ++ [x]) = cellsT l ++ x.cells := by simp [cellsT]
theorem cellsT_length (l : List Tok) : (cellsT l).length = l.length * 4 := by
 induction l with
 | nil => rfl
 | cons x l ih =>
  show (x.cells ++ cellsT l).length = _
  rw [List.length_append, ih, List.length_cons, Nat.add_mul]
  show 4 + _ = _
  omega
theorem cellsT_get (l : List Tok) : ∀ (i : Nat) (x : Tok) (c : Nat), l[i]? = some x -> c < 4 -> (cellsT l)[i * 4 + c]? = x.cells[c]? := by
 induction l with
 | nil => intro i x c h; simp at h
 | cons y l ih =>
  intro i x c h hc
  show (y.cells ++ cellsT l)[i * 4 + c]? = _
  cases i with
  | zero =>
   simp at h
   subst h
   rw [List.getElem?_append_left (by show _ < 4; omega)]
   congr 1
   omega
  | succ i =>
   rw [List.getElem?_append_right (by show 4 <= _; omega)]
   rw [List.getElem?_cons_succ] at h
   rw [<- ih i x c h hc]
   congr 1
   show (i + 1) * 4 + c - 4 = _
   omega
def Tok.at (x : Tok) (w : World) (b o : Nat) : Prop :=
 w.cell? ⟨b, o, none⟩ = some (.int .i64 x.k) /\ w.cell? ⟨b, o + 1, none⟩ = some (.int .i64 x.at') /\ w.cell? ⟨b, o + 2, none⟩ = some (.string (bar x.t)) /\ w.cell? ⟨b, o + 3, none⟩ = some (.int .u64 x.n)
def Toks (w : World) (a : Option Addr) (len : Nat) (l : List Tok) : Prop :=
 l.length = len /\ (0 < len -> ∃ b, a = some ⟨b, 0, none⟩ /\ ∀ (i : Nat) (x : Tok), l[i]? = some x -> x.at w b (i * 4))
theorem Tok.at.below {x : Tok} {w w' : World} {b o : Nat} (h : x.at w b o) (hb : Below w.heap.size w w') : x.at w' b o := by
 obtain ⟨h1, h2, h3, h4⟩ := h
 have hlt : b < w.heap.size := World.block_lt_of_cell? w _ h1
 exact ⟨(hb.cell (p := ⟨b, o, none⟩) hlt).trans h1, (hb.cell (p := ⟨b, o + 1, none⟩) hlt).trans h2, (hb.cell (p := ⟨b, o + 2, none⟩) hlt).trans h3, (hb.cell (p := ⟨b, o + 3, none⟩) hlt).trans h4⟩
theorem Toks.below {w w' : World} {a : Option Addr} {len : Nat} {l : List Tok} (h : Toks w a len l) (hb : Below w.heap.size w w') : Toks w' a len l := by
 refine ⟨h.1, fun h0 => ?_⟩
 obtain ⟨b, ha, hc⟩ := h.2 h0
 exact ⟨b, ha, fun i x hi => (hc i x hi).below hb⟩
theorem owns_toks {w : World} {base : Nat} {v : Value} {n : Nat} {l : List Tok} (h : w.ownsRow base 142 4 v n (cellsT l)) : ∃ a cap, v = .slice a n cap /\ Toks w a n l := by
 have hlen : l.length = n := by have := h.1; rw [cellsT_length] at this; omega
 rcases h.2 with ⟨rfl, rfl⟩ | ⟨g, cap, cur, rfl, hb, hg, hnc, hcm, hcs, htake⟩
 ·exact ⟨none, 0, rfl, hlen, fun h => absurd h (by omega)⟩
 ·refine ⟨_, cap, rfl, hlen, fun _ => ⟨g, rfl, fun i x hx => ?_⟩⟩
  have key : ∀ c u, c < 4 -> x.cells[c]? = some u -> w.cell? ⟨g, i * 4 + c, none⟩ = some u := by
   intro c u hc hu
   have := h.cells (g := g) rfl (i * 4 + c) u (by rw [cellsT_get l i x c hx hc]; exact hu)
   rw [show (⟨g, i * 4 + c, none⟩ : Addr) = (⟨g, 0, none⟩ : Addr).add (i * 4 + c) from by unfold Addr.add; split <;> simp_all]
   exact this
  exact ⟨key 0 _ (by decide) rfl, key 1 _ (by decide) rfl, key 2 _ (by decide) rfl, key 3 _ (by decide) rfl⟩
theorem new_cells (w : World) (x : Tok) (o : Obj) (ho : o = .cells #[.int .i64 x.k, .int .i64 x.at', .string (bar x.t), .int .u64 x.n] 142) : ∀ j u, x.cells[j]? = some u -> (w.alloc o).cell? ((⟨w.heap.size, 0, none⟩ : Addr).add j) = some u := by
 subst ho
 intro j u hu
 match j, hu with
 | 0, hu => cases hu; simp [Addr.add]
 | 1, hu => cases hu; simp [Addr.add]
 | 2, hu => cases hu; simp [Addr.add]
 | 3, hu => cases hu; simp [Addr.add]
theorem append_tok {w : World} {ops : Array Oper} {rest : List Oper} {o : Oper} {a : Act} {Q : Exit -> Act -> World -> Prop} (hgd : o.guard = none) (s x : Operand)
  (ho : o.op = .call { callee := .builtin .append, args := #[s, x], argTypes := #[95, 95] })
  (base : Nat) (v : Value) (n : Nat) (l : List Tok) (hs : a.eval s = v) (hown : w.ownsRow base 142 4 v n (cellsT l))
  (it : Tok) (ad : Addr) (hx : a.eval x = .slice (some ad) 1 1) (hnews : ∀ j u, it.cells[j]? = some u -> w.cell? (ad.add j) = some u)
  (hn : n <= 1000000) (hbase : base <= w.heap.size)
  (h : ∀ v' w', w'.ownsRow base 142 4 v' (n + 1) (cellsT (l ++ [it])) -> w.grownBy w' v.ownBlock -> wpList Tryz.prog ops Q rest (a.put o.dst v') w') : wpList Tryz.prog ops Q (o :: rest) a w := by
 obtain ⟨i0, hi, hz0, hz1, hz2⟩ := info_parts Tryz.info142
 refine wpList_append_own _ hgd s x 95 ho base 142 i0 _ 4 40 Tryz.underlying95 hi hz0 hz1 hz2 rfl (by decide) v n (cellsT l) hs hown ad 1 1 it.cells hx rfl hnews (by intro u hu; simp [Tok.cells] at hu; rcases hu with rfl | rfl | rfl | rfl <;> rfl) (by unfold maxLen; omega) (by omega) hbase ?_
 intro v' w' h1 h2 _
 exact h v' w' (by rw [cellsT_snoc]; exact h1) h2
def iterTo (w : World) (b : Nat) (s : ByteArray) (pos : Nat) : World := { w with heap := w.heap.setIfInBounds b (.stringIter s pos) }
theorem iterTo_at {w : World} {b : Nat} {s s' : ByteArray} {pos pos' : Nat} (h : w.heap[b]? = some (.stringIter s pos)) : (iterTo w b s' pos').heap[b]? = some (.stringIter s' pos') := by
 show (w.heap.setIfInBounds b _)[b]? = _
 have hb : b < w.heap.size := (Array.getElem?_eq_some_iff.1 h).1
 rw [Array.getElem?_setIfInBounds_self_of_lt hb]
theorem iterTo_other {w : World} {b k : Nat} {s : ByteArray} {pos : Nat} (h : k ≠ b) : (iterTo w b s pos).heap[k]? = w.heap[k]? := by
 show (w.heap.setIfInBounds b _)[k]? = _
 rw [Array.getElem?_setIfInBounds_ne (Ne.symm h)]
theorem iterTo_size {w : World} {b : Nat} {s : ByteArray} {pos : Nat} : (iterTo w b s pos).heap.size = w.heap.size := by
 show (w.heap.setIfInBounds b _).size = _
 simp
theorem iterTo_below {B : Nat} {a w : World} (h : Below B a w) {b : Nat} (hb : B <= b) (s : ByteArray) (pos : Nat) : Below B a (iterTo w b s pos) :=
 ⟨h.os, h.tape, h.output, by rw [iterTo_size]; exact h.size, fun k hk => by rw [iterTo_other (by omega)]; exact h.block k hk⟩
theorem iterTo_owns {w : World} {base sz : Nat} {t : TypeId} {v : Value} {n : Nat} {xs : List Value} (h : w.ownsRow base t sz v n xs) {b : Nat} {s s' : ByteArray} {pos pos' : Nat} (hb : w.heap[b]? = some (.stringIter s pos)) : (iterTo w b s' pos').ownsRow base t sz v n xs := by
 refine ⟨h.1, ?_⟩
 rcases h.2 with hn | ⟨g, cap, cur, hv, hg, hh, r⟩
 ·exact .inl hn
 ·refine .inr ⟨g, cap, cur, hv, hg, ?_, r⟩
  rw [iterTo_other (by intro e; rw [e, hb] at hh; cases hh)]
  exact hh
theorem next_at (w : World) (b : Nat) (s : ByteArray) (pos : Nat) (ty : TypeId) (hb : w.heap[b]? = some (.stringIter s pos)) (h : pos < s.size) :
  (Instr.next (.pointer (some ⟨b, 0, none⟩)) true ty).run Tryz.prog w =
   .ok (.tuple #[.bool true, .int .i64 pos, .int .i32 (Utf8.decode s pos).1]) (iterTo w b s (pos + (Utf8.decode s pos).2)) := by
 simp only [Instr.next, getObj, setObj, Sem.run_bind, Sem.run, hb, Result.andThen, h, if_true]
 simp [goInt, iterTo]
theorem next_end (w : World) (b : Nat) (s : ByteArray) (pos : Nat) (ty : TypeId) (hb : w.heap[b]? = some (.stringIter s pos)) (h : ¬ pos < s.size) :
  (Instr.next (.pointer (some ⟨b, 0, none⟩)) true ty).run Tryz.prog w = .ok (.tuple #[.bool false]) w := by
 simp [Instr.next, getObj, Sem.run, hb, h]
def Vars (w : World) : Prop := ∃ t0 v0 t1 v1, w.cell? ⟨0, 0, none⟩ = some (.iface t0 v0) /\ w.cell? ⟨1, 0, none⟩ = some (.iface t1 v1)
theorem Vars.below {w w' : World} (h : Vars w) (hb : Below w.heap.size w w') : Vars w' := by
 obtain ⟨t0, v0, t1, v1, h0, h1⟩ := h
 exact ⟨t0, v0, t1, v1, (hb.cell (p := ⟨0, 0, none⟩) (World.block_lt_of_cell? w _ h0)).trans h0, (hb.cell (p := ⟨1, 0, none⟩) (World.block_lt_of_cell? w _ h1)).trans h1⟩
open M (dgN loN ofW wN)
open Go
structure Good (l : List UInt8) (x : Tok) : Prop where
 le : x.at' + x.t.length <= l.length
 eq : (l.drop x.at').take x.t.length = x.t
 ne : 1 <= x.t.length
 k : x.k = 1 \/ x.k = 2 \/ x.k = 3
 n : x.k = 2 \/ x.n = 0
 st : (∀ c r, x.t = c :: r -> blN c.toNat = false /\ ¬ c.toNat = 35) /\ ∀ b r, ofW b = false -> ¬ b.toNat = 61 -> one (x.t ++ b :: r) = .ok (x.k, x.t, x.n)
def Ch (l : List UInt8) : Nat -> List Tok -> Prop
 | _, [] => False
 | last, [x] => x = ⟨4, l.length, [], 0⟩ /\ last <= l.length
 | last, x :: y :: r => (last <= x.at' /\ Good l x) /\ Ch l (x.at' + x.t.length) (y :: r)
theorem Ch.fin {l : List UInt8} {last : Nat} (h : last <= l.length) : Ch l last [⟨4, l.length, [], 0⟩] := ⟨rfl, h⟩
theorem Ch.tok {l : List UInt8} {last : Nat} {x y : Tok} {r : List Tok} (h : last <= x.at') (hx : Good l x) (hr : Ch l (x.at' + x.t.length) (y :: r)) : Ch l last (x :: y :: r) := ⟨⟨h, hx⟩, hr⟩
theorem Ch.ind {l : List UInt8} {motive : (last : Nat) -> (ts : List Tok) -> Ch l last ts -> Prop}
  (fin : ∀ {last : Nat} (h : last <= l.length), motive last [⟨4, l.length, [], 0⟩] (Ch.fin h))
  (tok : ∀ {last : Nat} {x y : Tok} {r : List Tok} (h : last <= x.at') (hx : Good l x) (hr : Ch l (x.at' + x.t.length) (y :: r)), motive (x.at' + x.t.length) (y :: r) hr -> motive last (x :: y :: r) (Ch.tok h hx hr)) :
  ∀ {last : Nat} {ts : List Tok} (h : Ch l last ts), motive last ts h := by
 intro last ts
 induction ts generalizing last with
 | nil => intro h; exact False.elim h
 | cons x ts ih =>
  intro h
  cases ts with
  | nil =>
   obtain ⟨rfl, he⟩ := id h
   exact fin he
  | cons y r =>
   obtain ⟨⟨h1, hx⟩, hr⟩ := id h
   exact tok h1 hx hr (ih hr)
theorem Ch.two {l : List UInt8} {motive : (last : Nat) -> (ts : List Tok) -> Ch l last ts -> Prop}
  (fin : ∀ {last : Nat} (h : last <= l.length), motive last [⟨4, l.length, [], 0⟩] (Ch.fin h))
  (tok : ∀ {last : Nat} {x y : Tok} {r : List Tok} (h : last <= x.at') (hx : Good l x) (hr : Ch l (x.at' + x.t.length) (y :: r)), motive last (x :: y :: r) (Ch.tok h hx hr)) :
  ∀ {last : Nat} {ts : List Tok} (h : Ch l last ts), motive last ts h := fun h => Ch.ind fin (fun h hx hr _ => tok h hx hr) h
theorem Ch.ne {l : List UInt8} {last : Nat} {ts : List Tok} (h : Ch l last ts) : ∃ y r, ts = y :: r := by
 cases h using Ch.two with
 | fin h => exact ⟨_, _, rfl⟩
 | tok h hx hr => exact ⟨_, _, rfl⟩
theorem ch_cons {l : List UInt8} {last : Nat} {x : Tok} {r : List Tok} (h : last <= x.at') (hx : Good l x) (hr : Ch l (x.at' + x.t.length) r) : Ch l last (x :: r) := by
 obtain ⟨y, q, rfl⟩ := hr.ne
 exact .tok h hx hr
theorem while_cut (p : UInt8 -> Bool) (t : List UInt8) (b : UInt8) (r : List UInt8) (ht : ∀ c ∈ t, p c = true) (hb : p b = false) : (t ++ b :: r).takeWhile p = t := by
 induction t with
 | nil => rw [List.nil_append, List.takeWhile_cons, if_neg (by rw [hb]; decide)]
 | cons c t ih =>
  rw [List.cons_append, List.takeWhile_cons, if_pos (ht c List.mem_cons_self), ih (fun d hd => ht d (List.mem_cons_of_mem _ hd))]
theorem one_lo' {c : UInt8} {r : List UInt8} (h : loN c.toNat = true) : one (c :: r) = .ok (1, (c :: r).takeWhile ofW, 0) := by
 unfold one
 simp only
 rw [if_pos h]
theorem one_dg' {c : UInt8} {r : List UInt8} (h : loN c.toNat = false) (h2 : dgN c.toNat = true) : one (c :: r) = numR ((c :: r).takeWhile ofW) := by
 unfold one
 simp only
 rw [if_neg (by rw [h]; decide), if_pos h2]
theorem one_sg' {c : UInt8} {r : List UInt8} (h : loN c.toNat = false) (h2 : dgN c.toNat = false) : one (c :: r) = sgR (sign (c :: r)) := by
 unfold one
 simp only
 rw [if_neg (by rw [h]; decide), if_neg (by rw [h2]; decide)]
theorem sign_mem {l t : List UInt8} (h : sign l = some t) : t ∈ signs /\ t.isPrefixOf l = true := by
 unfold sign at h
 have hp := List.find?_some h
 exact ⟨List.mem_of_find?_eq_some h, hp⟩
theorem sign_stable {t : List UInt8} (h : t ∈ signs) (b : UInt8) (r : List UInt8) (hb : ¬ b.toNat = 61) : sign (t ++ b :: r) = some t := by
 have hd : ((61 : UInt8) == b) = false := by
  rw [beq_eq_false_iff_ne]
  intro e
  apply hb
  rw [<- e]
  rfl
 simp [signs] at h
 rcases h with rfl | rfl | rfl | rfl | rfl | rfl | rfl | rfl | rfl <;> simp [sign, signs, List.find?, List.isPrefixOf, hd]
theorem one_good {l : List UInt8} {k n : Nat} {t : List UInt8} (h : one l = .ok (k, t, n)) :
  (k = 1 \/ k = 2 \/ k = 3) /\ (k = 2 \/ n = 0) /\ (∀ c r, t = c :: r -> blN c.toNat = false /\ ¬ c.toNat = 35) /\ ∀ b r, ofW b = false -> ¬ b.toNat = 61 -> one (t ++ b :: r) = .ok (k, t, n) := by
 match l, h with
 | c :: r, h =>
  have hwc : wN c.toNat = true -> blN c.toNat = false /\ ¬ c.toNat = 35 := by
   intro hw
   constructor
   ·unfold blN
    unfold wN loN dgN at hw
    simp at hw ⊢
    omega
   ·unfold wN loN dgN at hw
    simp at hw
    omega
  rcases Bool.eq_false_or_eq_true (loN c.toNat) with hl | hl
  ·rw [one_lo' hl] at h
   have hw : ofW c = true := by show wN _ = true; unfold wN; rw [hl]; rfl
   have ht : (c :: r).takeWhile ofW = c :: r.takeWhile ofW := by rw [List.takeWhile_cons, if_pos hw]
   have hall := take_while_all ofW (c :: r)
   rw [ht] at h hall
   cases h
   refine ⟨.inl rfl, .inr rfl, fun d q e => ?_, fun b q hb _ => ?_⟩
   ·injection e with e _
    subst e
    exact hwc hw
   ·rw [List.cons_append, one_lo' hl, <- List.cons_append, while_cut _ _ _ _ hall hb]
  ·rcases Bool.eq_false_or_eq_true (dgN c.toNat) with hd | hd
   ·rw [one_dg' hl hd] at h
    have hw : ofW c = true := by show wN _ = true; unfold wN; rw [hd]; simp
    have ht : (c :: r).takeWhile ofW = c :: r.takeWhile ofW := by rw [List.takeWhile_cons, if_pos hw]
    have hall := take_while_all ofW (c :: r)
    rw [ht] at h hall
    have hk : k = 2 /\ t = c :: r.takeWhile ofW := by
     unfold numR at h
     split at h
     ·cases h; exact ⟨rfl, rfl⟩
     ·cases h
    obtain ⟨rfl, rfl⟩ := hk
    refine ⟨.inr (.inl rfl), .inl rfl, fun d q e => ?_, fun b q hb _ => ?_⟩
    ·injection e with e _
     subst e
     exact hwc hw
    ·rw [List.cons_append, one_dg' hl hd, <- List.cons_append, while_cut _ _ _ _ hall hb]
     exact h
   ·rw [one_sg' hl hd] at h
    unfold sgR at h
    split at h
    ·next hs =>
     cases h
     obtain ⟨hm, hp⟩ := sign_mem hs
     refine ⟨.inr (.inr rfl), .inr rfl, fun d q e => ?_, fun b q hb hq => ?_⟩
     ·subst e
      simp [signs] at hm
      rcases hm with h | h | h | h | h | h | h | h | h <;> (obtain ⟨rfl, rfl⟩ := h; exact ⟨by decide, by decide⟩)
     ·have hst := sign_stable hm b q hq
      have hsg : ∀ d q', t = d :: q' -> loN d.toNat = false /\ dgN d.toNat = false := by
       intro d q' e
       subst e
       simp [signs] at hm
       rcases hm with h | h | h | h | h | h | h | h | h <;> (obtain ⟨rfl, rfl⟩ := h; exact ⟨by decide, by decide⟩)
      match t, hst, hsg with
      | [], hst, _ => exact absurd hm (by decide)
      | d :: q', hst, hsg =>
       obtain ⟨h1, h2⟩ := hsg d q' rfl
       rw [List.cons_append, one_sg' h1 h2, <- List.cons_append, hst]
       rfl
    ·cases h
theorem drop_take_pre {pre m : List UInt8} (k : Nat) : ((pre ++ m).drop pre.length).take k = m.take k := by
 rw [List.drop_left]
theorem go_ch (l : List UInt8) : ∀ (m pre : List UInt8) (k last : Nat) (ts : List Tok), l = pre ++ m -> last <= pre.length + k -> k <= m.length -> go k pre.length m = .ok ts -> Ch l last ts := by
 intro m
 induction m with
 | nil =>
  intro pre k last ts hl h1 h2 h
  cases h
  simp at h2 hl
  subst hl
  exact .fin (by omega)
 | cons c r ih =>
  intro pre k last ts hl h1 h2 h
  have hl' : l = (pre ++ [c]) ++ r := by rw [hl]; simp
  have hp : (pre ++ [c]).length = pre.length + 1 := by simp
  have h2' : k <= r.length + 1 := h2
  by_cases hk : 0 < k
  ·rw [go_over hk, <- hp] at h
   exact ih _ _ _ _ hl' (by omega) (by omega) h
  ·obtain rfl : k = 0 := by omega
   rcases Bool.eq_false_or_eq_true (blN c.toNat) with hb | hb
   ·rw [go_blank hb, <- hp] at h
    exact ih _ _ _ _ hl' (by omega) (Nat.zero_le _) h
   ·by_cases hn : c.toNat = 35
    ·rw [go_note hn, note_len hn, go_over (Nat.succ_pos _), <- hp] at h
     exact ih _ _ _ _ hl' (by omega) (take_while_le _ _) h
    ·rw [go_one hb hn] at h
     split at h
     ·cases h
     ·next k' t n ho =>
      obtain ⟨t1, t2, t3⟩ := one_take ho
      have tl := one_le ho
      obtain ⟨g1, g2, g3, g4⟩ := one_good ho
      cases hg : go (t.length - 1) (pre.length + 1) r with
      | error e => rw [hg] at h; cases h
      | ok ts' =>
       rw [hg] at h
       cases h
       rw [<- hp] at hg
       have tl' : t.length <= r.length + 1 := tl
       refine ch_cons (by simpa using h1) ⟨?_, ?_, t2, g1, g2, g3, g4⟩ (ih _ _ _ _ hl' (by show pre.length + t.length <= _; omega) (by omega) hg)
       ·rw [hl]
        simp
        omega
       ·rw [hl]
        show ((pre ++ c :: r).drop pre.length).take t.length = t
        rw [drop_take_pre]
        exact t1
theorem go_err (l : List UInt8) : ∀ (m pre : List UInt8) (k c q : Nat), l = pre ++ m -> go k pre.length m = .error (c, q) -> (c = 5 \/ c = 6) /\ q < l.length := by
 intro m
 induction m with
 | nil => intro pre k c q hl h; cases h
 | cons d r ih =>
  intro pre k c q hl h
  have hl' : l = (pre ++ [d]) ++ r := by rw [hl]; simp
  have hp : (pre ++ [d]).length = pre.length + 1 := by simp
  by_cases hk : 0 < k
  ·rw [go_over hk, <- hp] at h
   exact ih _ _ _ _ hl' h
  ·obtain rfl : k = 0 := by omega
   rcases Bool.eq_false_or_eq_true (blN d.toNat) with hb | hb
   ·rw [go_blank hb, <- hp] at h
    exact ih _ _ _ _ hl' h
   ·by_cases hn : d.toNat = 35
    ·rw [go_note hn, note_len hn, go_over (Nat.succ_pos _), <- hp] at h
     exact ih _ _ _ _ hl' h
    ·rw [go_one hb hn] at h
     split at h
     ·next e ho =>
      cases h
      refine ⟨?_, by rw [hl]; simp⟩
      unfold one at ho
      simp only at ho
      split at ho
      ·cases ho
      ·split at ho
       ·unfold numR at ho
        split at ho
        ·cases ho
        ·cases ho; exact .inr rfl
       ·unfold sgR at ho
        split at ho
        ·cases ho
        ·cases ho; exact .inl rfl
     ·next k' t n ho =>
      cases hg : go (t.length - 1) (pre.length + 1) r with
      | error e =>
       rw [hg] at h
       cases h
       rw [<- hp] at hg
       exact ih _ _ _ _ hl' hg
      | ok ts' => rw [hg] at h; cases h
theorem all_ch {l : List UInt8} {ts : List Tok} (h : all l = .ok ts) : Ch l 0 ts := by
 unfold all at h
 split at h
 ·cases h
 ·exact go_ch l l [] 0 0 ts rfl (Nat.zero_le _) (Nat.zero_le _) h
structure Ac where
 k : Nat
 a : Nat
structure Cd where
 arg : Nat
 op : Nat
 mask : Nat
 val : Nat
structure Rl where
 act : Ac
 names : List (List UInt8)
 conds : List Cd
def wKill : List UInt8 := [107, 105, 108, 108]
def wThread : List UInt8 := [116, 104, 114, 101, 97, 100]
def wTrap : List UInt8 := [116, 114, 97, 112]
def wErrno : List UInt8 := [101, 114, 114, 110, 111]
def wNotify : List UInt8 := [110, 111, 116, 105, 102, 121]
def wTrace : List UInt8 := [116, 114, 97, 99, 101]
def wLog : List UInt8 := [108, 111, 103]
def wAllow : List UInt8 := [97, 108, 108, 111, 119]
def wDefault : List UInt8 := [100, 101, 102, 97, 117, 108, 116]
def wWhen : List UInt8 := [119, 104, 101, 110]
def wAnd : List UInt8 := [97, 110, 100]
def kindOf (t : List UInt8) : Nat :=
 if t = wKill then 1 else if t = wThread then 2 else if t = wTrap then 3 else if t = wErrno then 4 else if t = wNotify then 5 else if t = wTrace then 6 else if t = wLog then 7 else if t = wAllow then 8 else 0
def opOf (t : List UInt8) : Nat :=
 if t = [61, 61] then 1 else if t = [33, 61] then 2 else if t = [60] then 3 else if t = [60, 61] then 4 else if t = [62] then 5 else if t = [62, 61] then 6 else 0
def argOf (t : List UInt8) : Nat :=
 if t = [97, 114, 103, 48] then 1 else if t = [97, 114, 103, 49] then 2 else if t = [97, 114, 103, 50] then 3 else if t = [97, 114, 103, 51] then 4 else if t = [97, 114, 103, 52] then 5 else if t = [97, 114, 103, 53] then 6 else 0
def numK (k : Nat) : Bool := k == 3 || k == 4 || k == 6
abbrev St := Sum (Unit) (Sum (Unit) (Sum (Nat) (Sum (Ac) (Sum (Ac × List Rl) (Sum (Ac × List Rl × Nat) (Sum (Ac × List Rl × Ac × List (List UInt8)) (Sum (Ac × List Rl × Ac × List (List UInt8)) (Sum (Ac × List Rl × Ac × List (List UInt8) × List Cd) (Sum (Ac × List Rl × Ac × List (List UInt8) × List Cd × Nat) (Sum (Ac × List Rl × Ac × List (List UInt8) × List Cd × Nat) (Sum (Ac × List Rl × Ac × List (List UInt8) × List Cd × Nat × Nat) (Sum (Ac × List Rl × Ac × List (List UInt8) × List Cd × Nat × Nat × Nat) ((Ac × List Rl × Ac × List (List UInt8) × List Cd))))))))))))))
abbrev St.s0 : St := .inl ()
abbrev St.s1 : St := .inr (.inl ())
abbrev St.s2 (k : Nat) : St := .inr (.inr (.inl k))
abbrev St.s3 (d : Ac) : St := .inr (.inr (.inr (.inl d)))
abbrev St.s4 (d : Ac) (rs : List Rl) : St := .inr (.inr (.inr (.inr (.inl (d, rs)))))
abbrev St.s5 (d : Ac) (rs : List Rl) (k : Nat) : St := .inr (.inr (.inr (.inr (.inr (.inl (d, rs, k))))))
abbrev St.s6 (d : Ac) (rs : List Rl) (a : Ac) (ns : List (List UInt8)) : St := .inr (.inr (.inr (.inr (.inr (.inr (.inl (d, rs, a, ns)))))))
abbrev St.s7 (d : Ac) (rs : List Rl) (a : Ac) (ns : List (List UInt8)) : St := .inr (.inr (.inr (.inr (.inr (.inr (.inr (.inl (d, rs, a, ns))))))))
abbrev St.s8 (d : Ac) (rs : List Rl) (a : Ac) (ns : List (List UInt8)) (cs : List Cd) : St := .inr (.inr (.inr (.inr (.inr (.inr (.inr (.inr (.inl (d, rs, a, ns, cs)))))))))
abbrev St.s9 (d : Ac) (rs : List Rl) (a : Ac) (ns : List (List UInt8)) (cs : List Cd) (g : Nat) : St := .inr (.inr (.inr (.inr (.inr (.inr (.inr (.inr (.inr (.inl (d, rs, a, ns, cs, g))))))))))
abbrev St.s10 (d : Ac) (rs : List Rl) (a : Ac) (ns : List (List UInt8)) (cs : List Cd) (g : Nat) : St := .inr (.inr (.inr (.inr (.inr (.inr (.inr (.inr (.inr (.inr (.inl (d, rs, a, ns, cs, g)))))))))))
abbrev St.s11 (d : Ac) (rs : List Rl) (a : Ac) (ns : List (List UInt8)) (cs : List Cd) (g : Nat) (m : Nat) : St := .inr (.inr (.inr (.inr (.inr (.inr (.inr (.inr (.inr (.inr (.inr (.inl (d, rs, a, ns, cs, g, m))))))))))))
abbrev St.s12 (d : Ac) (rs : List Rl) (a : Ac) (ns : List (List UInt8)) (cs : List Cd) (g : Nat) (m : Nat) (o : Nat) : St := .inr (.inr (.inr (.inr (.inr (.inr (.inr (.inr (.inr (.inr (.inr (.inr (.inl (d, rs, a, ns, cs, g, m, o)))))))))))))
abbrev St.s13 (d : Ac) (rs : List Rl) (a : Ac) (ns : List (List UInt8)) (cs : List Cd) : St := .inr (.inr (.inr (.inr (.inr (.inr (.inr (.inr (.inr (.inr (.inr (.inr (.inr (d, rs, a, ns, cs)))))))))))))
theorem St.every {motive : St -> Prop} (s0 : motive (St.s0)) (s1 : motive (St.s1)) (s2 : ∀ k : Nat, motive (St.s2 k)) (s3 : ∀ d : Ac, motive (St.s3 d)) (s4 : ∀ d : Ac, ∀ rs : List Rl, motive (St.s4 d rs)) (s5 : ∀ d : Ac, ∀ rs : List Rl, ∀ k : Nat, motive (St.s5 d rs k)) (s6 : ∀ d : Ac, ∀ rs : List Rl, ∀ a : Ac, ∀ ns : List (List UInt8), motive (St.s6 d rs a ns)) (s7 : ∀ d : Ac, ∀ rs : List Rl, ∀ a : Ac, ∀ ns : List (List UInt8), motive (St.s7 d rs a ns)) (s8 : ∀ d : Ac, ∀ rs : List Rl, ∀ a : Ac, ∀ ns : List (List UInt8), ∀ cs : List Cd, motive (St.s8 d rs a ns cs)) (s9 : ∀ d : Ac, ∀ rs : List Rl, ∀ a : Ac, ∀ ns : List (List UInt8), ∀ cs : List Cd, ∀ g : Nat, motive (St.s9 d rs a ns cs g)) (s10 : ∀ d : Ac, ∀ rs : List Rl, ∀ a : Ac, ∀ ns : List (List UInt8), ∀ cs : List Cd, ∀ g : Nat, motive (St.s10 d rs a ns cs g)) (s11 : ∀ d : Ac, ∀ rs : List Rl, ∀ a : Ac, ∀ ns : List (List UInt8), ∀ cs : List Cd, ∀ g : Nat, ∀ m : Nat, motive (St.s11 d rs a ns cs g m)) (s12 : ∀ d : Ac, ∀ rs : List Rl, ∀ a : Ac, ∀ ns : List (List UInt8), ∀ cs : List Cd, ∀ g : Nat, ∀ m : Nat, ∀ o : Nat, motive (St.s12 d rs a ns cs g m o)) (s13 : ∀ d : Ac, ∀ rs : List Rl, ∀ a : Ac, ∀ ns : List (List UInt8), ∀ cs : List Cd, motive (St.s13 d rs a ns cs)) : ∀ s : St, motive s
 | .inl () => s0
 | .inr (.inl ()) => s1
 | .inr (.inr (.inl k)) => s2 k
 | .inr (.inr (.inr (.inl d))) => s3 d
 | .inr (.inr (.inr (.inr (.inl (d, rs))))) => s4 d rs
 | .inr (.inr (.inr (.inr (.inr (.inl (d, rs, k)))))) => s5 d rs k
 | .inr (.inr (.inr (.inr (.inr (.inr (.inl (d, rs, a, ns))))))) => s6 d rs a ns
 | .inr (.inr (.inr (.inr (.inr (.inr (.inr (.inl (d, rs, a, ns)))))))) => s7 d rs a ns
 | .inr (.inr (.inr (.inr (.inr (.inr (.inr (.inr (.inl (d, rs, a, ns, cs))))))))) => s8 d rs a ns cs
 | .inr (.inr (.inr (.inr (.inr (.inr (.inr (.inr (.inr (.inl (d, rs, a, ns, cs, g)))))))))) => s9 d rs a ns cs g
 | .inr (.inr (.inr (.inr (.inr (.inr (.inr (.inr (.inr (.inr (.inl (d, rs, a, ns, cs, g))))))))))) => s10 d rs a ns cs g
 | .inr (.inr (.inr (.inr (.inr (.inr (.inr (.inr (.inr (.inr (.inr (.inl (d, rs, a, ns, cs, g, m)))))))))))) => s11 d rs a ns cs g m
 | .inr (.inr (.inr (.inr (.inr (.inr (.inr (.inr (.inr (.inr (.inr (.inr (.inl (d, rs, a, ns, cs, g, m, o))))))))))))) => s12 d rs a ns cs g m o
 | .inr (.inr (.inr (.inr (.inr (.inr (.inr (.inr (.inr (.inr (.inr (.inr (.inr (d, rs, a, ns, cs))))))))))))) => s13 d rs a ns cs
def isW (x : Tok) (t : List UInt8) : Bool := x.k == 1 && x.t == t
def isS (x : Tok) (t : List UInt8) : Bool := x.k == 3 && x.t == t
def isA (x : Tok) : Bool := x.k == 1 && !(kindOf x.t == 0)
def isG (x : Tok) : Bool := x.k == 1 && !(argOf x.t == 0)
def isO (x : Tok) : Bool := x.k == 3 && !(opOf x.t == 0)
def isN (x : Tok) : Bool := x.k == 2
open St in
def step (s : St) (x : Tok) : Except Nat St :=
 match s with
 | .inl () => if isW x wDefault then .ok s1 else .error 7
 | .inr (.inl ()) => if isA x then (if numK (kindOf x.t) then .ok (s2 (kindOf x.t)) else .ok (s3 ⟨kindOf x.t, 0⟩)) else .error 7
 | .inr (.inr (.inl k)) => if isN x then (if 65535 < x.n then .error 6 else .ok (s3 ⟨k, x.n⟩)) else .error 7
 | .inr (.inr (.inr (.inl d))) => if isS x [59] then .ok (s4 d []) else .error 7
 | .inr (.inr (.inr (.inr (.inl (d, rs))))) => if isA x then (if 64 <= rs.length then .error 4 else if numK (kindOf x.t) then .ok (s5 d rs (kindOf x.t)) else .ok (s6 d rs ⟨kindOf x.t, 0⟩ [])) else .error 7
 | .inr (.inr (.inr (.inr (.inr (.inl (d, rs, k)))))) => if isN x then (if 65535 < x.n then .error 6 else .ok (s6 d rs ⟨k, x.n⟩ [])) else .error 7
 | .inr (.inr (.inr (.inr (.inr (.inr (.inl (d, rs, a, ns))))))) => if x.k == 1 then (if 16 <= ns.length then .error 4 else .ok (s7 d rs a (ns ++ [x.t]))) else .error 7
 | .inr (.inr (.inr (.inr (.inr (.inr (.inr (.inl (d, rs, a, ns)))))))) => if isS x [44] then .ok (s6 d rs a ns) else if isW x wWhen then .ok (s8 d rs a ns []) else if isS x [59] then .ok (s4 d (rs ++ [⟨a, ns, []⟩])) else .error 7
 | .inr (.inr (.inr (.inr (.inr (.inr (.inr (.inr (.inl (d, rs, a, ns, cs))))))))) => if isG x then (if 8 <= cs.length then .error 4 else .ok (s9 d rs a ns cs (argOf x.t - 1))) else .error 7
 | .inr (.inr (.inr (.inr (.inr (.inr (.inr (.inr (.inr (.inl (d, rs, a, ns, cs, g)))))))))) => if isS x [38] then .ok (s10 d rs a ns cs g) else if isO x then .ok (s12 d rs a ns cs g 18446744073709551615 (opOf x.t)) else .error 7
 | .inr (.inr (.inr (.inr (.inr (.inr (.inr (.inr (.inr (.inr (.inl (d, rs, a, ns, cs, g))))))))))) => if isN x then .ok (s11 d rs a ns cs g x.n) else .error 7
 | .inr (.inr (.inr (.inr (.inr (.inr (.inr (.inr (.inr (.inr (.inr (.inl (d, rs, a, ns, cs, g, m)))))))))))) => if isO x then .ok (s12 d rs a ns cs g m (opOf x.t)) else .error 7
 | .inr (.inr (.inr (.inr (.inr (.inr (.inr (.inr (.inr (.inr (.inr (.inr (.inl (d, rs, a, ns, cs, g, m, o))))))))))))) => if isN x then .ok (s13 d rs a ns (cs ++ [⟨g, o, m, x.n⟩])) else .error 7
 | .inr (.inr (.inr (.inr (.inr (.inr (.inr (.inr (.inr (.inr (.inr (.inr (.inr (d, rs, a, ns, cs))))))))))))) => if isW x wAnd then .ok (s8 d rs a ns cs) else if isS x [59] then .ok (s4 d (rs ++ [⟨a, ns, cs⟩])) else .error 7
def done (s : St) : Option (Ac × List Rl) :=
 match s with
 | .inr (.inr (.inr (.inr (.inl (d, rs))))) => some (d, rs)
 | _ => none
def run (s : St) : List Tok -> Except (Nat × Nat) (Ac × List Rl)
 | [] => .error (7, 0)
 | x :: r =>
  if x.k = 4 then (match done s with | some v => .ok v | none => .error (7, x.at'))
  else match step s x with
   | .error c => .error (c, x.at')
   | .ok s' => run s' r
def prs (l : List UInt8) : Except (Nat × Nat) (Ac × List Rl) :=
 match all l with
 | .error e => .error e
 | .ok ts => run .s0 ts
theorem run_end {s : St} {x : Tok} {r : List Tok} (h : x.k = 4) : run s (x :: r) = (match done s with | some v => .ok v | none => .error (7, x.at')) := by
 unfold run
 rw [if_pos h]
theorem run_step {s s' : St} {x : Tok} {r : List Tok} (h : ¬ x.k = 4) (hs : step s x = .ok s') : run s (x :: r) = run s' r := by
 conv => lhs; unfold run
 rw [if_neg h, hs]
theorem run_err {s : St} {x : Tok} {r : List Tok} {c : Nat} (h : ¬ x.k = 4) (hs : step s x = .error c) : run s (x :: r) = .error (c, x.at') := by
 unfold run
 rw [if_neg h, hs]
structure OkA (a : Ac) : Prop where
 lo : 1 <= a.k
 hi : a.k <= 8
 arg : a.a <= 65535
structure OkC (c : Cd) : Prop where
 arg : c.arg <= 5
 lo : 1 <= c.op
 hi : c.op <= 6
structure OkR (W : List UInt8 -> Prop) (r : Rl) : Prop where
 act : OkA r.act
 n1 : 1 <= r.names.length
 n16 : r.names.length <= 16
 names : ∀ n ∈ r.names, W n
 c8 : r.conds.length <= 8
 conds : ∀ c ∈ r.conds, OkC c
theorem kind_le (t : List UInt8) : kindOf t <= 8 := by
 unfold kindOf
 repeat' split
 all_goals omega
theorem op_le (t : List UInt8) : opOf t <= 6 := by
 unfold opOf
 repeat' split
 all_goals omega
theorem arg_le (t : List UInt8) : argOf t <= 6 := by
 unfold argOf
 repeat' split
 all_goals omega
def OkL (W : List UInt8 -> Prop) (rs : List Rl) : Prop := rs.length <= 64 /\ ∀ r ∈ rs, OkR W r
def Inv (W : List UInt8 -> Prop) : St -> Prop
 | .inl () => True
 | .inr (.inl ()) => True
 | .inr (.inr (.inl k)) => 1 <= k /\ k <= 8
 | .inr (.inr (.inr (.inl d))) => OkA d
 | .inr (.inr (.inr (.inr (.inl (d, rs))))) => OkA d /\ OkL W rs
 | .inr (.inr (.inr (.inr (.inr (.inl (d, rs, k)))))) => OkA d /\ OkL W rs /\ rs.length < 64 /\ 1 <= k /\ k <= 8
 | .inr (.inr (.inr (.inr (.inr (.inr (.inl (d, rs, a, ns))))))) => OkA d /\ OkL W rs /\ rs.length < 64 /\ OkA a /\ ns.length <= 16 /\ ∀ n ∈ ns, W n
 | .inr (.inr (.inr (.inr (.inr (.inr (.inr (.inl (d, rs, a, ns)))))))) => OkA d /\ OkL W rs /\ rs.length < 64 /\ OkA a /\ 1 <= ns.length /\ ns.length <= 16 /\ ∀ n ∈ ns, W n
 | .inr (.inr (.inr (.inr (.inr (.inr (.inr (.inr (.inl (d, rs, a, ns, cs))))))))) => OkA d /\ OkL W rs /\ rs.length < 64 /\ OkA a /\ (1 <= ns.length /\ ns.length <= 16 /\ ∀ n ∈ ns, W n) /\ cs.length <= 8 /\ ∀ c ∈ cs, OkC c
 | .inr (.inr (.inr (.inr (.inr (.inr (.inr (.inr (.inr (.inl (d, rs, a, ns, cs, g)))))))))) => OkA d /\ OkL W rs /\ rs.length < 64 /\ OkA a /\ (1 <= ns.length /\ ns.length <= 16 /\ ∀ n ∈ ns, W n) /\ cs.length < 8 /\ (∀ c ∈ cs, OkC c) /\ g <= 5
 | .inr (.inr (.inr (.inr (.inr (.inr (.inr (.inr (.inr (.inr (.inl (d, rs, a, ns, cs, g))))))))))) => OkA d /\ OkL W rs /\ rs.length < 64 /\ OkA a /\ (1 <= ns.length /\ ns.length <= 16 /\ ∀ n ∈ ns, W n) /\ cs.length < 8 /\ (∀ c ∈ cs, OkC c) /\ g <= 5
 | .inr (.inr (.inr (.inr (.inr (.inr (.inr (.inr (.inr (.inr (.inr (.inl (d, rs, a, ns, cs, g, _)))))))))))) => OkA d /\ OkL W rs /\ rs.length < 64 /\ OkA a /\ (1 <= ns.length /\ ns.length <= 16 /\ ∀ n ∈ ns, W n) /\ cs.length < 8 /\ (∀ c ∈ cs, OkC c) /\ g <= 5
 | .inr (.inr (.inr (.inr (.inr (.inr (.inr (.inr (.inr (.inr (.inr (.inr (.inl (d, rs, a, ns, cs, g, _, o))))))))))))) => OkA d /\ OkL W rs /\ rs.length < 64 /\ OkA a /\ (1 <= ns.length /\ ns.length <= 16 /\ ∀ n ∈ ns, W n) /\ cs.length < 8 /\ (∀ c ∈ cs, OkC c) /\ g <= 5 /\ 1 <= o /\ o <= 6
 | .inr (.inr (.inr (.inr (.inr (.inr (.inr (.inr (.inr (.inr (.inr (.inr (.inr (d, rs, a, ns, cs))))))))))))) => OkA d /\ OkL W rs /\ rs.length < 64 /\ OkA a /\ (1 <= ns.length /\ ns.length <= 16 /\ ∀ n ∈ ns, W n) /\ cs.length <= 8 /\ ∀ c ∈ cs, OkC c
theorem OkL.snoc {W : List UInt8 -> Prop} {rs : List Rl} (h : OkL W rs) (hl : rs.length < 64) {r : Rl} (hr : OkR W r) : OkL W (rs ++ [r]) := by
 refine ⟨by simp; omega, fun x hx => ?_⟩
 rcases List.mem_append.1 hx with hx | hx
 ·exact h.2 x hx
 ·simp at hx
  subst hx
  exact hr
theorem isA_at {x : Tok} (h : isA x = true) : 1 <= kindOf x.t := by
 simp [isA] at h
 omega
theorem isO_at {x : Tok} (h : isO x = true) : 1 <= opOf x.t := by
 simp [isO] at h
 omega
theorem step_inv {W : List UInt8 -> Prop} {S S' : St} {x : Tok} (h : Inv W S) (hx : x.k = 1 -> W x.t) (hs : step S x = .ok S') : Inv W S' := by
 cases S using St.every <;> simp only [step] at hs
 case s0 => split at hs <;> cases hs; trivial
 case s1 =>
  split at hs
  ·next h1 =>
   have := isA_at h1
   have := kind_le x.t
   split at hs <;> cases hs
   ·exact ⟨by omega, by omega⟩
   ·exact ⟨by assumption, by assumption, by simp⟩
  ·cases hs
 case s2 k =>
  split at hs
  ·split at hs
   ·cases hs
   ·next h2 => cases hs; exact ⟨h.1, h.2, by simpa using h2⟩
  ·cases hs
 case s3 d =>
  split at hs
  ·cases hs; exact ⟨h, by simp, by simp⟩
  ·cases hs
 case s4 d rs =>
  split at hs
  ·next h1 =>
   have h8 := isA_at h1
   have h9 := kind_le x.t
   split at hs
   ·cases hs
   ·next h2 =>
    split at hs <;> cases hs
    ·exact ⟨h.1, h.2, by omega, h8, h9⟩
    ·exact ⟨h.1, h.2, by omega, ⟨h8, h9, by simp⟩, by simp, by simp⟩
  ·cases hs
 case s5 d rs k =>
  split at hs
  ·split at hs
   ·cases hs
   ·next h2 => cases hs; exact ⟨h.1, h.2.1, h.2.2.1, ⟨h.2.2.2.1, h.2.2.2.2, by simpa using h2⟩, by simp, by simp⟩
  ·cases hs
 case s6 d rs a ns =>
  split at hs
  ·next h1 =>
   split at hs
   ·cases hs
   ·next h2 =>
    cases hs
    refine ⟨h.1, h.2.1, h.2.2.1, h.2.2.2.1, by simp, by simp; omega, fun n hn => ?_⟩
    rcases List.mem_append.1 hn with hn | hn
    ·exact h.2.2.2.2.2 n hn
    ·simp at hn
     subst hn
     exact hx (by simpa using h1)
  ·cases hs
 case s7 d rs a ns =>
  split at hs
  ·cases hs; exact ⟨h.1, h.2.1, h.2.2.1, h.2.2.2.1, h.2.2.2.2.2.1, h.2.2.2.2.2.2⟩
  ·split at hs
   ·cases hs; exact ⟨h.1, h.2.1, h.2.2.1, h.2.2.2.1, h.2.2.2.2, by simp, by simp⟩
   ·split at hs
    ·cases hs; exact ⟨h.1, h.2.1.snoc h.2.2.1 ⟨h.2.2.2.1, h.2.2.2.2.1, h.2.2.2.2.2.1, h.2.2.2.2.2.2, by simp, by simp⟩⟩
    ·cases hs
 case s8 d rs a ns cs =>
  split at hs
  ·split at hs
   ·cases hs
   ·next h2 => cases hs; exact ⟨h.1, h.2.1, h.2.2.1, h.2.2.2.1, h.2.2.2.2.1, by omega, h.2.2.2.2.2.2, by have := arg_le x.t; omega⟩
  ·cases hs
 case s9 d rs a ns cs g =>
  split at hs
  ·cases hs; exact h
  ·split at hs
   ·next h2 => cases hs; exact ⟨h.1, h.2.1, h.2.2.1, h.2.2.2.1, h.2.2.2.2.1, h.2.2.2.2.2.1, h.2.2.2.2.2.2.1, h.2.2.2.2.2.2.2, isO_at h2, op_le _⟩
   ·cases hs
 case s10 d rs a ns cs g =>
  split at hs
  ·cases hs; exact h
  ·cases hs
 case s11 d rs a ns cs g m =>
  split at hs
  ·next h2 => cases hs; exact ⟨h.1, h.2.1, h.2.2.1, h.2.2.2.1, h.2.2.2.2.1, h.2.2.2.2.2.1, h.2.2.2.2.2.2.1, h.2.2.2.2.2.2.2, isO_at h2, op_le _⟩
  ·cases hs
 case s12 d rs a ns cs g m o =>
  split at hs
  ·cases hs
   refine ⟨h.1, h.2.1, h.2.2.1, h.2.2.2.1, h.2.2.2.2.1, by have := h.2.2.2.2.2.1; simp; omega, fun c hc => ?_⟩
   rcases List.mem_append.1 hc with hc | hc
   ·exact h.2.2.2.2.2.2.1 c hc
   ·simp at hc
    subst hc
    exact ⟨h.2.2.2.2.2.2.2.1, h.2.2.2.2.2.2.2.2.1, h.2.2.2.2.2.2.2.2.2⟩
  ·cases hs
 case s13 d rs a ns cs =>
  split at hs
  ·cases hs; exact h
  ·split at hs
   ·cases hs; exact ⟨h.1, h.2.1.snoc h.2.2.1 ⟨h.2.2.2.1, h.2.2.2.2.1.1, h.2.2.2.2.1.2.1, h.2.2.2.2.1.2.2, h.2.2.2.2.2.1, h.2.2.2.2.2.2⟩⟩
   ·cases hs
theorem run_inv {W : List UInt8 -> Prop} : ∀ (ts : List Tok) (S : St) (v : Ac × List Rl), Inv W S -> (∀ x ∈ ts, x.k = 1 -> W x.t) -> run S ts = .ok v -> OkA v.1 /\ OkL W v.2 := by
 intro ts
 induction ts with
 | nil => intro S v _ _ h; cases h
 | cons x ts ih =>
  intro S v hi hx h
  by_cases h4 : x.k = 4
  ·rw [run_end h4] at h
   cases S using St.every <;> simp [done] at h
   subst h
   exact hi
  ·cases hs : step S x with
   | error c => rw [run_err h4 hs] at h; cases h
   | ok S' =>
    rw [run_step h4 hs] at h
    exact ih S' v (step_inv hi (hx x List.mem_cons_self) hs) (fun y hy => hx y (List.mem_cons_of_mem _ hy)) h
theorem step_code {S : St} {x : Tok} {c : Nat} (h : step S x = .error c) : c = 4 \/ c = 6 \/ c = 7 := by
 cases S using St.every <;> simp only [step] at h
 all_goals repeat' split at h
 all_goals first | (cases h; done) | (injection h with h; omega)
theorem run_place : ∀ (ts : List Tok) (S : St) (c p : Nat), (∃ x ∈ ts, x.k = 4) -> run S ts = .error (c, p) -> (c = 4 \/ c = 6 \/ c = 7) /\ ∃ x ∈ ts, p = x.at' := by
 intro ts
 induction ts with
 | nil => intro S c p h; obtain ⟨x, hx, _⟩ := h; cases hx
 | cons x ts ih =>
  intro S c p he h
  by_cases h4 : x.k = 4
  ·rw [run_end h4] at h
   cases hd : done S with
   | some v => rw [hd] at h; cases h
   | none =>
    rw [hd] at h
    cases h
    exact ⟨.inr (.inr rfl), x, List.mem_cons_self, rfl⟩
  ·cases hs : step S x with
   | error c' =>
    rw [run_err h4 hs] at h
    cases h
    exact ⟨step_code hs, x, List.mem_cons_self, rfl⟩
   | ok S' =>
    rw [run_step h4 hs] at h
    obtain ⟨y, hy, hy4⟩ := he
    have hy' : y ∈ ts := by
     rcases List.mem_cons.1 hy with rfl | hy
     ·exact absurd hy4 h4
     ·exact hy
    obtain ⟨h1, z, hz, h2⟩ := ih S' c p ⟨y, hy', hy4⟩ h
    exact ⟨h1, z, List.mem_cons_of_mem _ hz, h2⟩
theorem ch_init {l : List UInt8} {last : Nat} {ts : List Tok} (h : Ch l last ts) : ∃ A, ts = A ++ [⟨4, l.length, [], 0⟩] /\ (∀ x ∈ A, Good l x) /\ last <= l.length := by
 induction h using Ch.ind with
 | fin h => exact ⟨[], rfl, by simp, h⟩
 | @tok last x y r h hx hr ih =>
  obtain ⟨A, h1, h2, h3⟩ := ih
  refine ⟨x :: A, by rw [h1]; rfl, fun z hz => ?_, by have := hx.le; omega⟩
  rcases List.mem_cons.1 hz with rfl | hz
  ·exact hx
  ·exact h2 z hz
def Wd (t : List UInt8) : Prop := ∃ c r, t = c :: r /\ loN c.toNat = true /\ ∀ d ∈ t, ofW d = true
theorem good_word {l : List UInt8} {x : Tok} (h : Good l x) (hk : x.k = 1) : Wd x.t := by
 have ho := h.st.2 9 [] (by decide) (by decide)
 have hne := h.ne
 rw [hk] at ho
 match ht : x.t, hne with
 | c :: t', _ =>
  rw [ht] at ho
  refine ⟨c, t', rfl, ?_⟩
  rw [List.cons_append] at ho
  rcases Bool.eq_false_or_eq_true (loN c.toNat) with hl | hl
  ·rw [one_lo' hl] at ho
   injection ho with ho
   have hw : (c :: (t' ++ [9])).takeWhile ofW = c :: t' := by
    have := congrArg (fun z => z.2.1) ho
    exact this
   refine ⟨hl, fun d hd => ?_⟩
   rw [<- hw] at hd
   exact take_while_all ofW _ d hd
  ·exfalso
   rcases Bool.eq_false_or_eq_true (dgN c.toNat) with hd | hd
   ·rw [one_dg' hl hd] at ho
    unfold numR at ho
    split at ho <;> simp at ho
   ·rw [one_sg' hl hd] at ho
    unfold sgR at ho
    split at ho <;> simp at ho
theorem prs_ok {l : List UInt8} {v : Ac × List Rl} (h : prs l = .ok v) : ∃ ts, all l = .ok ts /\ run .s0 ts = .ok v := by
 unfold prs at h
 split at h
 ·cases h
 ·next ts ht => exact ⟨ts, ht, h⟩
theorem prs_bound {l : List UInt8} {v : Ac × List Rl} (h : prs l = .ok v) : OkA v.1 /\ OkL Wd v.2 := by
 obtain ⟨ts, h1, h2⟩ := prs_ok h
 obtain ⟨A, hA, gA, _⟩ := ch_init (all_ch h1)
 refine run_inv ts .s0 v trivial (fun x hx hk => ?_) h2
 rw [hA] at hx
 rcases List.mem_append.1 hx with hx | hx
 ·exact good_word (gA x hx) hk
 ·simp at hx
  subst hx
  cases hk
theorem prs_place {l : List UInt8} {c p : Nat} (h : prs l = .error (c, p)) (hl : l.length <= 8192) : (c = 4 \/ c = 5 \/ c = 6 \/ c = 7) /\ p <= l.length := by
 unfold prs at h
 split at h
 ·next e he =>
  cases h
  unfold all at he
  rw [if_neg (by omega)] at he
  have := go_err l l [] 0 c p rfl he
  omega
 ·next ts ht =>
  have hc := all_ch ht
  obtain ⟨A, hA, gA, _⟩ := ch_init hc
  obtain ⟨h1, x, hx, rfl⟩ := run_place ts .s0 c p ⟨⟨4, l.length, [], 0⟩, by rw [hA]; simp, rfl⟩ h
  refine ⟨by omega, ?_⟩
  rw [hA] at hx
  rcases List.mem_append.1 hx with hx | hx
  ·have := (gA x hx).le; omega
  ·simp at hx; subst hx; exact Nat.le_refl _
end Go.Proofs.YtmcgcbgblgmmkaaGreatDoor.P
