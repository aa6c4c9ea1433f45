/-
  PRows1 PNames PConds.
-/
import Derived.Test.YtmcgcbgblgmmkaaGreatDoorQ18
set_option maxRecDepth 8000
set_option maxHeartbeats 8000000
namespace Go.Proofs.YtmcgcbgblgmmkaaGreatDoor.P
open F.D (Blk)
open M (bar)
open Go.RowKit
theorem Tryz.info9 : (Tryz.prog.info? 9).map (fun i => (i.zero, i.size, i.bytes)) = some (some (.string ⟨#[]⟩), 1, 16) := by kernel_rfl
theorem Tryz.info222 : (Tryz.prog.info? 222).map (fun i => (i.zero, i.size, i.bytes)) = some (some (.agg #[.int .i64 0, .int .i64 0, .int .u64 0, .int .u64 0]), 4, 32) := by kernel_rfl
def nameC (t : List UInt8) : Value := .string (bar t)
def cellsN (l : List (List UInt8)) : List Value := l.map nameC
theorem cellsN_snoc (l : List (List UInt8)) (x : List UInt8) : cellsN (l ++ [x]) = cellsN l ++ [nameC x] := by simp [cellsN]
def Cd.cells (x : Cd) : List Value := [.int .i64 x.arg, .int .i64 x.op, .int .u64 x.mask, .int .u64 x.val]
def cellsC (l : List Cd) : List Value := l.flatMap Cd.cells
theorem cellsC_snoc (l : List Cd) (x : Cd) : cellsC (l ++ [x]) = cellsC l ++ x.cells := by simp [cellsC]
theorem cellsC_get (l : List Cd) : ∀ (i : Nat) (x : Cd) (c : Nat), l[i]? = some x -> c < 4 -> (cellsC l)[i * 4 + c]? = x.cells[c]? := by
 induction l with
 | nil => intro i x c h; simp at h
 | cons y l ih =>
  intro i x c h hc
  show (y.cells ++ cellsC l)[i * 4 + c]? = _
  cases i with
  | zero =>
   simp at h
   subst h
   rw [List.getElem?_append_left (by show _ < 4; omega)]
   congr 1
   omega
  | succ i =>
   rw [List.getElem?_append_right (by show 4 <= _; omega)]
   rw [List.getElem?_cons_succ] at h
   rw [<- ih i x c h hc]
   congr 1
   show (i + 1) * 4 + c - 4 = _
   omega
theorem cell_same {w w' : World} {a : Addr} {v : Value} (h : w.cell? a = some v) (hb : w'.heap[a.block]? = w.heap[a.block]?) : w'.cell? a = some v := by
 rw [World.cell?_of_block hb]
 exact h
theorem append_str {w : World} {ops : Array Oper} {rest : List Oper} {o : Oper} {a : Act} {Q : Exit -> Act -> World -> Prop} (hgd : o.guard = none) (s x : Operand)
  (ho : o.op = .call { callee := .builtin .append, args := #[s, x], argTypes := #[130, 130] })
  (base : Nat) (v : Value) (n : Nat) (l : List (List UInt8)) (hs : a.eval s = v) (hown : w.ownsRow base 9 1 v n (cellsN l))
  (it : List UInt8) (ad : Addr) (hx : a.eval x = .slice (some ad) 1 1) (hnews : w.cell? (ad.add 0) = some (nameC it))
  (hn : n <= 1000000) (hbase : base <= w.heap.size)
  (h : ∀ v' w', w'.ownsRow base 9 1 v' (n + 1) (cellsN (l ++ [it])) -> w.grownBy w' v.ownBlock -> wpList Tryz.prog ops Q rest (a.put o.dst v') w') : wpList Tryz.prog ops Q (o :: rest) a w := by
 obtain ⟨i0, hi, hz0, hz1, hz2⟩ := info_parts Tryz.info9
 refine wpList_append_own _ hgd s x 130 ho base 9 i0 _ 1 16 Tryz.underlying130 hi hz0 hz1 hz2 rfl (by decide) v n (cellsN l) hs hown ad 1 1 [nameC it] hx rfl ?_ (by intro u hu; simp at hu; subst hu; rfl) (by unfold maxLen; omega) (by omega) hbase ?_
 ·intro j u hu
  match j, hu with
  | 0, hu => cases hu; exact hnews
 ·intro v' w' h1 h2 _
  exact h v' w' (by rw [cellsN_snoc]; exact h1) h2
theorem append_cond {w : World} {ops : Array Oper} {rest : List Oper} {o : Oper} {a : Act} {Q : Exit -> Act -> World -> Prop} (hgd : o.guard = none) (s x : Operand)
  (ho : o.op = .call { callee := .builtin .append, args := #[s, x], argTypes := #[148, 148] })
  (base : Nat) (v : Value) (n : Nat) (l : List Cd) (hs : a.eval s = v) (hown : w.ownsRow base 222 4 v n (cellsC l))
  (it : Cd) (ad : Addr) (hx : a.eval x = .slice (some ad) 1 1) (hnews : ∀ j u, it.cells[j]? = some u -> w.cell? (ad.add j) = some u)
  (hn : n <= 1000000) (hbase : base <= w.heap.size)
  (h : ∀ v' w', w'.ownsRow base 222 4 v' (n + 1) (cellsC (l ++ [it])) -> w.grownBy w' v.ownBlock -> wpList Tryz.prog ops Q rest (a.put o.dst v') w') : wpList Tryz.prog ops Q (o :: rest) a w := by
 obtain ⟨i0, hi, hz0, hz1, hz2⟩ := info_parts Tryz.info222
 refine wpList_append_own _ hgd s x 148 ho base 222 i0 _ 4 32 Tryz.underlying148 hi hz0 hz1 hz2 rfl (by decide) v n (cellsC l) hs hown ad 1 1 it.cells hx rfl hnews (by intro u hu; simp [Cd.cells] at hu; rcases hu with rfl | rfl | rfl | rfl <;> rfl) (by unfold maxLen; omega) (by omega) hbase ?_
 intro v' w' h1 h2 _
 exact h v' w' (by rw [cellsC_snoc]; exact h1) h2
theorem owns_bt {w w' : World} {b base sz : Nat} {t : TypeId} {v : Value} {n : Nat} {xs : List Value} (h : w.ownsRow base t sz v n xs) (hb : Bt b w w') (hB : b < base) : w'.ownsRow base t sz v n xs := by
 refine ⟨h.1, ?_⟩
 rcases h.2 with hn | ⟨g, cap, cur, hv, hg, hh, r⟩
 ·exact .inl hn
 ·exact .inr ⟨g, cap, cur, hv, hg, by rw [hb.block g (lt_of_block hh) (by omega)]; exact hh, r⟩
theorem owns_set {w : World} {base sz r i : Nat} {t : TypeId} {v u : Value} {n : Nat} {xs : List Value} (h : w.ownsRow base t sz v n xs) (hr : r < base) : (w.setCell ⟨r, i, none⟩ u).ownsRow base t sz v n xs := by
 refine ⟨h.1, ?_⟩
 rcases h.2 with hn | ⟨g, cap, cur, hv, hg, hh, q⟩
 ·exact .inl hn
 ·exact .inr ⟨g, cap, cur, hv, hg, by rw [heap_setCell_other w ⟨r, i, none⟩ g u (by show g ≠ r; omega)]; exact hh, q⟩
theorem Bt.grown {b : Nat} {w X Y : World} {row : Option Nat} (h : Bt b w X) (hg : X.grownBy Y row) (hr : ∀ k, row = some k -> w.heap.size <= k) : Bt b w Y :=
 ⟨hg.os.trans h.os, hg.tape.trans h.tape, hg.output.trans h.output, Nat.le_trans h.size hg.size, fun k hk hn => (hg.block k (Nat.lt_of_lt_of_le hk h.size) (fun e => by have := hr k e.symm; omega)).trans (h.block k hk hn)⟩
end Go.Proofs.YtmcgcbgblgmmkaaGreatDoor.P
namespace Go.Proofs.YtmcgcbgblgmmkaaGreatDoor.F.D
open Go.RowKit
theorem Blk.grown {X Y : World} {row : Option Nat} {b : Nat} {t : TypeId} {l : List Value} (h : Blk X b t l) (hg : X.grownBy Y row) (hr : ∀ k, row = some k -> b < k) : Blk Y b t l := by
 unfold Blk
 rw [hg.block b h.lt (fun e => by have := hr b e.symm; omega)]
 exact h
end Go.Proofs.YtmcgcbgblgmmkaaGreatDoor.F.D
namespace Go.Proofs.YtmcgcbgblgmmkaaGreatDoor.P
open F.D (Blk)
open M (bar)
open Go.RowKit
open F.D (Blk.grown)
theorem Toks.grown {X Y : World} {row : Option Nat} {g len : Nat} {ts : List Tok} (h : Toks X (some ⟨g, 0, none⟩) len ts) (hg : X.grownBy Y row) (hr : ∀ k, row = some k -> g < k) : Toks Y (some ⟨g, 0, none⟩) len ts := by
 refine ⟨h.1, fun h0 => ?_⟩
 obtain ⟨g', e, hc⟩ := h.2 h0
 cases e
 refine ⟨g, rfl, fun i x hx => ?_⟩
 have q : Y.heap[g]? = X.heap[g]? := hg.block g (World.block_lt_of_cell? X _ (hc i x hx).1) (fun e => by have := hr g e.symm; omega)
 exact ⟨cell_same (hc i x hx).1 q, cell_same (hc i x hx).2.1 q, cell_same (hc i x hx).2.2.1 q, cell_same (hc i x hx).2.2.2 q⟩
theorem Rd.grown {X Y : World} {row : Option Nat} {b g cap n : Nat} {ts : List Tok} (h : Rd X b g cap ts n) (hg : X.grownBy Y row) (hb : ∀ k, row = some k -> b < k) (hg' : ∀ k, row = some k -> g < k) : Rd Y b g cap ts n :=
 ⟨h.blk.grown hg hb, h.tok.grown hg hg', h.ne, h.le, h.cap⟩
structure Nm (w : World) (b g cap : Nat) (ts : List Tok) (m : Nat) (T : TypeId) (sz : Nat) (v : Value) (k : Nat) (cs : List Value) (X : World) : Prop where
 rd : Rd X b g cap ts m
 bt : Bt b w X
 own : X.ownsRow w.heap.size T sz v k cs
 lb : b < w.heap.size
 lg : g < w.heap.size
section
variable {w X Y : World} {b g cap m m' sz k k' : Nat} {ts : List Tok} {T : TypeId} {v v' : Value} {cs cs' : List Value}
theorem Nm.over (h : Nm w b g cap ts m T sz v k cs X) (hb : Below X.heap.size X Y) : Nm w b g cap ts m T sz v k cs Y := ⟨h.rd.over hb, h.bt.over hb, owns_below h.own hb (Nat.le_refl _), h.lb, h.lg⟩
theorem Nm.on (h : Nm w b g cap ts m T sz v k cs X) (hb : Bt b X Y) (hp : Rd Y b g cap ts m') : Nm w b g cap ts m' T sz v k cs Y := ⟨hp, h.bt.trans hb, owns_bt h.own hb h.lb, h.lb, h.lg⟩
theorem Nm.alloc (h : Nm w b g cap ts m T sz v k cs X) (o : Obj) : Nm w b g cap ts m T sz v k cs (X.alloc o) := h.over ((Below.refl _ _).alloc (Nat.le_refl _) _)
theorem Nm.app (h : Nm w b g cap ts m T sz v k cs X) (ho : Y.ownsRow w.heap.size T sz v' k' cs') (hg : X.grownBy Y v.ownBlock) : Nm w b g cap ts m T sz v' k' cs' Y := by
 have hk := owns_block h.own
 have lb := h.lb
 have lg := h.lg
 exact ⟨h.rd.grown hg (fun k e => by have := hk k e; omega) (fun k e => by have := hk k e; omega), h.bt.grown hg (fun k e => by have := hk k e; omega), ho, lb, lg⟩
theorem nm_new (h : Rd w b g cap ts m) (hn : m < ts.length) (T : TypeId) (sz : Nat) : Nm w b g cap ts m T sz (.slice none 0 0) 0 [] w := by
 have hl := h.lt hn
 exact ⟨h, Bt.refl _ _, ⟨by simp, .inl ⟨rfl, rfl⟩⟩, hl.2, hl.1⟩
theorem Nm.slice (h : Nm w b g cap ts m T sz v k cs X) : ∃ a c, v = .slice a k c := by
 rcases h.own.2 with ⟨rfl, h0⟩ | ⟨g', c, cur, rfl, _⟩
 ·exact ⟨none, 0, by rw [h0]⟩
 ·exact ⟨_, c, rfl⟩
end
def lenOf : Value -> Nat
 | .slice _ n _ => n
 | _ => 0
open M (lst)
section
variable {ts : List Tok} {q : Nat} {ns : List (List UInt8)}
theorem s6_word (hq : q < ts.length) (hk : ts[q].k = 1) (hl : ns.length < 16) (d : Ac) (rs : List Rl) (a : Ac) : run (.s6 d rs a ns) (ts.drop q) = run (.s7 d rs a (ns ++ [ts[q].t])) (ts.drop (q + 1)) := by
 rw [drop_at hq, run_next rfl]
 simp only [step]
 rw [if_pos (by rw [hk]; rfl), if_neg (by omega)]
theorem s6_full (hq : q < ts.length) (hk : ts[q].k = 1) (hl : 16 <= ns.length) (d : Ac) (rs : List Rl) (a : Ac) : run (.s6 d rs a ns) (ts.drop q) = .error (4, ts[q].at') := by
 rw [drop_at hq, run_next rfl]
 simp only [step]
 rw [if_pos (by rw [hk]; rfl), if_pos hl]
theorem s6_no (hq : q < ts.length) (hk : ¬ ts[q].k = 1) (d : Ac) (rs : List Rl) (a : Ac) : run (.s6 d rs a ns) (ts.drop q) = .error (7, ts[q].at') := by
 rw [drop_at hq, run_next rfl]
 simp only [step]
 rw [if_neg (by simpa using hk)]
theorem s7_comma (hq : q < ts.length) (hk : isS ts[q] [44] = true) (d : Ac) (rs : List Rl) (a : Ac) : run (.s7 d rs a ns) (ts.drop q) = run (.s6 d rs a ns) (ts.drop (q + 1)) := by
 rw [drop_at hq, run_next rfl]
 simp only [step]
 rw [if_pos hk]
end
def NsP (ts : List Tok) (n m : Nat) (ns : List (List UInt8)) : Prop :=
 (ns = [] /\ m = n) \/ (¬ ns = [] /\ ∀ d rs a, run (.s6 d rs a []) (ts.drop n) = run (.s7 d rs a ns) (ts.drop m))
def NmR (w : World) (b g cap : Nat) (ts : List Tok) (n : Nat) (e : Ending) (w' : World) : Prop :=
 Bt b w w' /\ ((∃ c p, e = .panicked (fltC c p) /\ ∀ d rs a, run (.s6 d rs a []) (ts.drop n) = .error (c, p)) \/
  ∃ v m, ∃ (ns : List (List UInt8)) (hm : m < ts.length), e = .returned v /\ Rd w' b g cap ts m /\ w'.ownsRow w.heap.size 9 1 v ns.length (cellsN ns) /\ isS ts[m] [44] = false /\
   ∀ d rs a, run (.s6 d rs a []) (ts.drop n) = run (.s7 d rs a ns) (ts.drop m))
theorem nmR_flt {w : World} {b g cap n : Nat} {ts : List Tok} {c p : Nat} {w' : World} (hb : Bt b w w') (h : ∀ d rs a, run (.s6 d rs a []) (ts.drop n) = .error (c, p)) : NmR w b g cap ts n (.panicked (fltC c p)) w' := ⟨hb, .inl ⟨c, p, rfl, h⟩⟩
theorem comma_at {ts : List Tok} (hT : Tks ts) (n : Nat) (hn : n < ts.length) : isS ts[n] [44] = (ts[n].t == lst ⟨#[44]⟩) := (hT.tk n hn).isS 44 [] (by decide) (by decide)
theorem name_new (w : World) (s : ByteArray) : (w.alloc (Obj.cells #[.string s] 9)).cell? ((⟨w.heap.size, 0, none⟩ : Addr).add 0) = some (.string s) := by simp [Addr.add]
theorem names_any (w : World) (b g cap n : Nat) (ts : List Tok) (hT : Tks ts) (h : Rd w b g cap ts n) (hn : n < ts.length) :
  Calls Tryz.prog 108 #[.pointer (some ⟨b, 0, none⟩)] w fun e w' => NmR w b g cap ts n e w' := by
 have N0 : Hid (Nm w b g cap ts n 9 1 (.slice none 0 0) 0 [] w) := nm_new h hn 9 1
 have HT : Hid (Tks ts) := hT
 have h0 := fld0
 have h2 := fld2
 clear h hT
 go_enter Tryz.func108, Tryz.ntmps108
 go_wp2
 go_loopw [3] (fun v wr => ∃ m, ∃ ns : List (List UInt8), Nm w b g cap ts m 9 1 v ns.length (cellsN ns) wr /\ m < ts.length /\ ns.length <= 16 /\ NsP ts n m ns) (fun v _ => 17 - lenOf v)
 case atStart => exact ⟨n, [], N0.out, hn, by decide, .inl ⟨rfl, rfl⟩⟩
 case round =>
  obtain ⟨m, ns, hM, hm, hns, hp⟩ := hrel
  obtain ⟨a, c, rfl⟩ := hM.slice
  have HM : Hid (Nm w b g cap ts m 9 1 (.slice a ns.length c) ns.length (cellsN ns) wr) := hM
  clear hM N0
  by_cases hz : ns.length = 0
  ·have hnil : ns = [] := List.eq_nil_of_length_eq_zero hz
   have hz2 : ((ns.length : Int) == 0) = true := by rw [beq_iff_eq]; omega
   obtain rfl : n = m := by
    rcases hp with ⟨_, h⟩ | ⟨h, _⟩
    ·exact h.symm
    ·exact absurd hnil h
   have HQ : Hid (∀ d rs a, run (.s6 d rs a []) (ts.drop n) = run (.s6 d rs a ns) (ts.drop n)) := fun d rs a => by rw [hnil]
   have HZ0 : Hid (ns.length = 0) := hz
   clear hp hnil hz
   have HN : Hid (∀ W, Rd W b g cap ts (n) -> Calls Tryz.prog 71 #[.pointer (some ⟨b, 0, none⟩)] W fun e w' => e = .returned (.agg #[.int .i64 ts[n].k, .int .i64 ts[n].at', .string (bar ts[n].t), .int .u64 ts[n].n]) /\ Below W.heap.size W w') := fun W hW => next_at' W b g cap (n) ts hW hm
   by_cases hk : ts[n].k = 1
   ·have hk2 : ((ts[n].k : Int) == 1) = true := by rw [beq_iff_eq]; omega
    have hq1 := HT.out.nx (n) hm (by rw [hk]; decide)
    by_cases hl : ns.length < 16
    ·have hd : decide ((ns.length : Int) < 16) = true := by simp; omega
     have HP : Hid (∀ W, Rd W b g cap ts (n) -> Calls Tryz.prog 105 #[.pointer (some ⟨b, 0, none⟩)] W fun e w' => e = .returned (.agg #[.int .i64 ts[n].k, .int .i64 ts[n].at', .string (bar ts[n].t), .int .u64 ts[n].n]) /\ Bt b W w' /\ Rd w' b g cap ts (n + 1)) := fun W hW => pass_at W b g cap (n) ts hW hm hq1
     have HE : Hid (NsP ts n (n + 1) (ns ++ [ts[n].t])) := .inr ⟨by simp, fun d rs a => (HQ.out d rs a).trans (s6_word hm hk hl d rs a)⟩
     have HL : Hid ((ns ++ [ts[n].t]).length <= 16 /\ (ns ++ [ts[n].t]).length = ns.length + 1) := by constructor <;> simp <;> omega
     generalize ts[n] = x at *
     clear hk
     have C0 := HM
     go_wp2_with fail
     refine (HN.out _ C0.out.rd).mono ?_
     rintro e w1 ⟨rfl, b1⟩
     have C1 : Hid (Nm w b g cap ts (n) 9 1 (.slice a ns.length c) ns.length (cellsN ns) w1) := C0.out.over b1
     clear b1
     go_wp2_with fail
     refine (needs_ok _ b 7).mono ?_
     rintro e w2 ⟨rfl, hw2⟩
     subst w2
     go_wp2_with fail
     refine (needs_ok _ b 4).mono ?_
     rintro e w2 ⟨rfl, hw2⟩
     subst w2
     go_wp2_with fail
     refine (HP.out _ C1.out.rd).mono ?_
     rintro e w3 ⟨rfl, b3, P3⟩
     have C3 : Hid (Nm w b g cap ts (n + 1) 9 1 (.slice a ns.length c) ns.length (cellsN ns) (w3.alloc (Obj.cells #[.string (bar x.t)] 9))) := (C1.out.on b3 P3).alloc _
     clear b3 P3
     go_wp2_with (at_builtin; refine append_str rfl (.tmp 22) (.tmp 26) rfl w.heap.size _ ns.length ns rfl C3.out.own x.t ⟨w3.heap.size, 0, none⟩ rfl (name_new w3 (bar x.t)) (by omega) C3.out.bt.size ?_; intro v2 w4 ho hg; have C4 : Hid (Nm w b g cap ts (n + 1) 9 1 v2 (ns ++ [x.t]).length (cellsN (ns ++ [x.t])) w4) := (by rw [HL.out.2]; exact C3.out.app ho hg); clear ho hg)
     obtain ⟨a2, c2, rfl⟩ := C4.out.slice
     go_roundw
     case rel => exact ⟨_, _, C4.out, hq1, HL.out.1, HE.out⟩
     case measure => have := HL.out.2; simp [lenOf]; omega
    ·exact absurd (by have := HZ0.out; omega) hl
   ·have hk2 : ((ts[n].k : Int) == 1) = false := by rw [beq_eq_false_iff_ne]; omega
    have HF : Hid (∀ W, Rd W b g cap ts (n) -> Calls Tryz.prog 102 #[.pointer (some ⟨b, 0, none⟩), .bool false, .int .i64 7] W fun e w' => e = .panicked (fltC 7 ts[n].at') /\ Below W.heap.size W w') := fun W hW => needs_flt W b g cap (n) ts hW hm 7
    have HE : Hid (∀ w', Bt b w w' -> NmR w b g cap ts n (.panicked (fltC 7 ts[n].at')) w') := fun w' hb => nmR_flt hb (fun d rs a => (HQ.out d rs a).trans (s6_no hm hk d rs a))
    generalize fltC 7 ts[n].at' = F at *
    generalize ts[n] = x at *
    clear hk
    have C0 := HM
    go_wp2_with fail
    refine (HN.out _ C0.out.rd).mono ?_
    rintro e w1 ⟨rfl, b1⟩
    go_wp2_with fail
    refine (HF.out _ (C0.out.over b1).rd).mono ?_
    rintro e w2 ⟨rfl, b2⟩
    go_wp2_with fail
    exact ⟨rfl, HE.out _ ((C0.out.over b1).over b2).bt⟩
  ·have hz2 : ((ns.length : Int) == 0) = false := by rw [beq_eq_false_iff_ne]; omega
   have hz3 : ¬ (ns.length : Int) = 0 := by omega
   have HS : Hid (∀ d rs a, run (.s6 d rs a []) (ts.drop n) = run (.s7 d rs a ns) (ts.drop m)) := by
    rcases hp with ⟨h, _⟩ | ⟨_, h⟩
    ·rw [h] at hz; exact absurd rfl hz
    ·exact h
   have hcm := comma_at HT.out m hm
   rcases Bool.eq_false_or_eq_true (isS ts[m] [44]) with h3 | h3
   ·have hm1 := HT.out.nx m hm (isS_4 h3)
    have HQ : Hid (∀ d rs a, run (.s6 d rs a []) (ts.drop n) = run (.s6 d rs a ns) (ts.drop (m + 1))) := fun d rs a => (HS.out d rs a).trans (s7_comma hm h3 d rs a)
    rw [h3] at hcm
    have HI : Hid (∀ W, Rd W b g cap ts m -> Calls Tryz.prog 103 #[.pointer (some ⟨b, 0, none⟩), .string ⟨#[44]⟩] W fun e w' => e = .returned (.bool true) /\ Bt b W w' /\ Rd w' b g cap ts (m + 1)) := fun W hW => passIf_ok W b g cap m ts hW hm hm1 _ hcm.symm
    clear hp hz hcm h3 HS
    have HN : Hid (∀ W, Rd W b g cap ts (m + 1) -> Calls Tryz.prog 71 #[.pointer (some ⟨b, 0, none⟩)] W fun e w' => e = .returned (.agg #[.int .i64 ts[m + 1].k, .int .i64 ts[m + 1].at', .string (bar ts[m + 1].t), .int .u64 ts[m + 1].n]) /\ Below W.heap.size W w') := fun W hW => next_at' W b g cap (m + 1) ts hW hm1
    by_cases hk : ts[m + 1].k = 1
    ·have hk2 : ((ts[m + 1].k : Int) == 1) = true := by rw [beq_iff_eq]; omega
     have hq1 := HT.out.nx (m + 1) hm1 (by rw [hk]; decide)
     by_cases hl : ns.length < 16
     ·have hd : decide ((ns.length : Int) < 16) = true := by simp; omega
      have HP : Hid (∀ W, Rd W b g cap ts (m + 1) -> Calls Tryz.prog 105 #[.pointer (some ⟨b, 0, none⟩)] W fun e w' => e = .returned (.agg #[.int .i64 ts[m + 1].k, .int .i64 ts[m + 1].at', .string (bar ts[m + 1].t), .int .u64 ts[m + 1].n]) /\ Bt b W w' /\ Rd w' b g cap ts (m + 1 + 1)) := fun W hW => pass_at W b g cap (m + 1) ts hW hm1 hq1
      have HE : Hid (NsP ts n (m + 1 + 1) (ns ++ [ts[m + 1].t])) := .inr ⟨by simp, fun d rs a => (HQ.out d rs a).trans (s6_word hm1 hk hl d rs a)⟩
      have HL : Hid ((ns ++ [ts[m + 1].t]).length <= 16 /\ (ns ++ [ts[m + 1].t]).length = ns.length + 1) := by constructor <;> simp <;> omega
      generalize ts[m + 1] = x at *
      clear hk
      go_wp2_with fail
      refine (HI.out _ HM.out.rd).mono ?_
      rintro e w0 ⟨rfl, b0, P0⟩
      have C0 : Hid (Nm w b g cap ts (m + 1) 9 1 (.slice a ns.length c) ns.length (cellsN ns) w0) := HM.out.on b0 P0
      clear b0 P0
      go_wp2_with fail
      refine (HN.out _ C0.out.rd).mono ?_
      rintro e w1 ⟨rfl, b1⟩
      have C1 : Hid (Nm w b g cap ts (m + 1) 9 1 (.slice a ns.length c) ns.length (cellsN ns) w1) := C0.out.over b1
      clear b1
      go_wp2_with fail
      refine (needs_ok _ b 7).mono ?_
      rintro e w2 ⟨rfl, hw2⟩
      subst w2
      go_wp2_with fail
      refine (needs_ok _ b 4).mono ?_
      rintro e w2 ⟨rfl, hw2⟩
      subst w2
      go_wp2_with fail
      refine (HP.out _ C1.out.rd).mono ?_
      rintro e w3 ⟨rfl, b3, P3⟩
      have C3 : Hid (Nm w b g cap ts (m + 1 + 1) 9 1 (.slice a ns.length c) ns.length (cellsN ns) (w3.alloc (Obj.cells #[.string (bar x.t)] 9))) := (C1.out.on b3 P3).alloc _
      clear b3 P3
      go_wp2_with (at_builtin; refine append_str rfl (.tmp 22) (.tmp 26) rfl w.heap.size _ ns.length ns rfl C3.out.own x.t ⟨w3.heap.size, 0, none⟩ rfl (name_new w3 (bar x.t)) (by omega) C3.out.bt.size ?_; intro v2 w4 ho hg; have C4 : Hid (Nm w b g cap ts (m + 1 + 1) 9 1 v2 (ns ++ [x.t]).length (cellsN (ns ++ [x.t])) w4) := (by rw [HL.out.2]; exact C3.out.app ho hg); clear ho hg)
      obtain ⟨a2, c2, rfl⟩ := C4.out.slice
      go_roundw
      case rel => exact ⟨_, _, C4.out, hq1, HL.out.1, HE.out⟩
      case measure => have := HL.out.2; simp [lenOf]; omega
     ·have hd : decide ((ns.length : Int) < 16) = false := by simp; omega
      have HF : Hid (∀ W, Rd W b g cap ts (m + 1) -> Calls Tryz.prog 102 #[.pointer (some ⟨b, 0, none⟩), .bool false, .int .i64 4] W fun e w' => e = .panicked (fltC 4 ts[m + 1].at') /\ Below W.heap.size W w') := fun W hW => needs_flt W b g cap (m + 1) ts hW hm1 4
      have HE : Hid (∀ w', Bt b w w' -> NmR w b g cap ts n (.panicked (fltC 4 ts[m + 1].at')) w') := fun w' hb => nmR_flt hb (fun d rs a => (HQ.out d rs a).trans (s6_full hm1 hk (by omega) d rs a))
      generalize fltC 4 ts[m + 1].at' = F at *
      generalize ts[m + 1] = x at *
      clear hk
      go_wp2_with fail
      refine (HI.out _ HM.out.rd).mono ?_
      rintro e w0 ⟨rfl, b0, P0⟩
      have C0 : Hid (Nm w b g cap ts (m + 1) 9 1 (.slice a ns.length c) ns.length (cellsN ns) w0) := HM.out.on b0 P0
      clear b0 P0
      go_wp2_with fail
      refine (HN.out _ C0.out.rd).mono ?_
      rintro e w1 ⟨rfl, b1⟩
      go_wp2_with fail
      refine (needs_ok _ b 7).mono ?_
      rintro e w2 ⟨rfl, hw2⟩
      subst w2
      go_wp2_with fail
      refine (HF.out _ (C0.out.over b1).rd).mono ?_
      rintro e w2 ⟨rfl, b2⟩
      go_wp2_with fail
      exact ⟨rfl, HE.out _ ((C0.out.over b1).over b2).bt⟩
    ·have hk2 : ((ts[m + 1].k : Int) == 1) = false := by rw [beq_eq_false_iff_ne]; omega
     have HF : Hid (∀ W, Rd W b g cap ts (m + 1) -> Calls Tryz.prog 102 #[.pointer (some ⟨b, 0, none⟩), .bool false, .int .i64 7] W fun e w' => e = .panicked (fltC 7 ts[m + 1].at') /\ Below W.heap.size W w') := fun W hW => needs_flt W b g cap (m + 1) ts hW hm1 7
     have HE : Hid (∀ w', Bt b w w' -> NmR w b g cap ts n (.panicked (fltC 7 ts[m + 1].at')) w') := fun w' hb => nmR_flt hb (fun d rs a => (HQ.out d rs a).trans (s6_no hm1 hk d rs a))
     generalize fltC 7 ts[m + 1].at' = F at *
     generalize ts[m + 1] = x at *
     clear hk
     go_wp2_with fail
     refine (HI.out _ HM.out.rd).mono ?_
     rintro e w0 ⟨rfl, b0, P0⟩
     have C0 : Hid (Nm w b g cap ts (m + 1) 9 1 (.slice a ns.length c) ns.length (cellsN ns) w0) := HM.out.on b0 P0
     clear b0 P0
     go_wp2_with fail
     refine (HN.out _ C0.out.rd).mono ?_
     rintro e w1 ⟨rfl, b1⟩
     go_wp2_with fail
     refine (HF.out _ (C0.out.over b1).rd).mono ?_
     rintro e w2 ⟨rfl, b2⟩
     go_wp2_with fail
     exact ⟨rfl, HE.out _ ((C0.out.over b1).over b2).bt⟩
   ·rw [h3] at hcm
    have HI : Hid (∀ W, Rd W b g cap ts m -> Calls Tryz.prog 103 #[.pointer (some ⟨b, 0, none⟩), .string ⟨#[44]⟩] W fun e w' => e = .returned (.bool false) /\ Below W.heap.size W w') := fun W hW => passIf_no W b g cap m ts hW hm _ hcm.symm
    have HE : Hid (isS ts[m] [44] = false) := h3
    clear hp hz hcm h3
    go_wp2_with fail
    refine (HI.out _ HM.out.rd).mono ?_
    rintro e w0 ⟨rfl, b0⟩
    go_wp2_with fail
    go_ret
    exact ⟨(HM.out.over b0).bt, .inr ⟨_, m, ns, hm, rfl, (HM.out.over b0).rd, (HM.out.over b0).own, HE.out, HS.out⟩⟩
theorem condD_lt {k : Nat} {l q : List Tok} {c : Cd} (h : condD k l = .ok (c, q)) : k < 8 := by
 cases l with
 | nil => cases h
 | cons x r =>
  simp only [condD] at h
  split at h
  ·split at h
   ·cases h
   ·omega
  ·cases h
theorem s13_and {ts : List Tok} {q : Nat} (hq : q < ts.length) (hk : isW ts[q] wAnd = true) (d : Ac) (rs : List Rl) (a : Ac) (ns : List (List UInt8)) (cs : List Cd) : run (.s13 d rs a ns cs) (ts.drop q) = run (.s8 d rs a ns cs) (ts.drop (q + 1)) := by
 rw [drop_at hq, run_next rfl]
 simp only [step]
 rw [if_pos hk]
def CsP (ts : List Tok) (n m : Nat) (cs : List Cd) : Prop :=
 (cs = [] /\ m = n) \/ (¬ cs = [] /\ ∀ d rs a ns, run (.s8 d rs a ns []) (ts.drop n) = run (.s13 d rs a ns cs) (ts.drop m))
def CmR (w : World) (b g cap : Nat) (ts : List Tok) (n : Nat) (e : Ending) (w' : World) : Prop :=
 Bt b w w' /\ ((∃ c p, e = .panicked (fltC c p) /\ ∀ d rs a ns, run (.s8 d rs a ns []) (ts.drop n) = .error (c, p)) \/
  ∃ v m, ∃ (cs : List Cd) (hm : m < ts.length), e = .returned v /\ Rd w' b g cap ts m /\ w'.ownsRow w.heap.size 222 4 v cs.length (cellsC cs) /\ isW ts[m] wAnd = false /\
   ∀ d rs a ns, run (.s8 d rs a ns []) (ts.drop n) = run (.s13 d rs a ns cs) (ts.drop m))
theorem and_word {ts : List Tok} (hT : Tks ts) (n : Nat) (hn : n < ts.length) : isW ts[n] wAnd = (ts[n].t == lst ⟨#[97, 110, 100]⟩) := (hT.tk n hn).isW 97 [110, 100] (by decide)
theorem cd_new (w : World) (x : Cd) : ∀ j u, x.cells[j]? = some u -> (w.alloc (Obj.cells #[.int .i64 x.arg, .int .i64 x.op, .int .u64 x.mask, .int .u64 x.val] 222)).cell? ((⟨w.heap.size, 0, none⟩ : Addr).add j) = some u := by
 intro j u hu
 match j, hu with
 | 0, hu => cases hu; simp [Addr.add]
 | 1, hu => cases hu; simp [Addr.add]
 | 2, hu => cases hu; simp [Addr.add]
 | 3, hu => cases hu; simp [Addr.add]
theorem conds_any (w : World) (b g cap n : Nat) (ts : List Tok) (hT : Tks ts) (h : Rd w b g cap ts n) (hn : n < ts.length) :
  Calls Tryz.prog 109 #[.pointer (some ⟨b, 0, none⟩)] w fun e w' => CmR w b g cap ts n e w' := by
 have N0 : Hid (Nm w b g cap ts n 222 4 (.slice none 0 0) 0 [] w) := nm_new h hn 222 4
 have HT : Hid (Tks ts) := hT
 clear h hT
 go_enter Tryz.func109, Tryz.ntmps109
 go_wp2
 go_loopw [3] (fun v wr => ∃ m, ∃ cs : List Cd, Nm w b g cap ts m 222 4 v cs.length (cellsC cs) wr /\ m < ts.length /\ cs.length <= 8 /\ CsP ts n m cs) (fun v _ => 9 - lenOf v)
 case atStart => exact ⟨n, [], N0.out, hn, by decide, .inl ⟨rfl, rfl⟩⟩
 case round =>
  obtain ⟨m, cs, hM, hm, hcs, hp⟩ := hrel
  obtain ⟨a, c, rfl⟩ := hM.slice
  have HM : Hid (Nm w b g cap ts m 222 4 (.slice a cs.length c) cs.length (cellsC cs) wr) := hM
  clear hM N0
  by_cases hz : cs.length = 0
  ·have hnil : cs = [] := List.eq_nil_of_length_eq_zero hz
   have hz2 : ((cs.length : Int) == 0) = true := by rw [beq_iff_eq]; omega
   obtain rfl : n = m := by
    rcases hp with ⟨_, h⟩ | ⟨h, _⟩
    ·exact h.symm
    ·exact absurd hnil h
   have HQ : Hid (∀ d rs a ns, run (.s8 d rs a ns []) (ts.drop n) = run (.s8 d rs a ns cs) (ts.drop n)) := fun d rs a ns => by rw [hnil]
   clear hp hnil hz
   rcases hR : condD cs.length (ts.drop (n)) with ⟨c1, p1⟩ | ⟨x, l⟩
   ·have HC : Hid (∀ W, Rd W b g cap ts (n) -> Calls Tryz.prog 140 #[.pointer (some ⟨b, 0, none⟩), .int .i64 cs.length] W fun e w' => Bt b W w' /\ e = .panicked (fltC c1 p1)) := by
     intro W hW
     have := cond_any W b g cap (n) ts cs.length HT.out hW hm
     rw [hR] at this
     exact this
    have HE : Hid (∀ w', Bt b w w' -> CmR w b g cap ts n (.panicked (fltC c1 p1)) w') := fun w' hb => ⟨hb, .inl ⟨c1, p1, rfl, fun d rs a ns => by rw [HQ.out, run_cond, hR]⟩⟩
    generalize fltC c1 p1 = F at *
    clear hR
    have C0 := HM
    go_wp2_with fail
    refine (HC.out _ C0.out.rd).mono ?_
    rintro e w1 ⟨b1, rfl⟩
    go_wp2_with fail
    exact ⟨rfl, HE.out _ (C0.out.bt.trans b1)⟩
   ·have HC : Hid (∀ W, Rd W b g cap ts (n) -> Calls Tryz.prog 140 #[.pointer (some ⟨b, 0, none⟩), .int .i64 cs.length] W fun e w' => Bt b W w' /\ ∃ m, l = ts.drop m /\ m < ts.length /\ e = .returned (.agg #[.int .i64 x.arg, .int .i64 x.op, .int .u64 x.mask, .int .u64 x.val]) /\ Rd w' b g cap ts m) := by
     intro W hW
     have := cond_any W b g cap (n) ts cs.length HT.out hW hm
     rw [hR] at this
     exact this
    have HE : Hid (∀ m, l = ts.drop m -> CsP ts n m (cs ++ [x])) := fun m hm => .inr ⟨by simp, fun d rs a ns => by rw [HQ.out, run_cond, hR, <- hm]⟩
    have hl8 := condD_lt hR
    have HL : Hid ((cs ++ [x]).length <= 8 /\ (cs ++ [x]).length = cs.length + 1) := by constructor <;> simp <;> omega
    clear hR
    have C0 := HM
    go_wp2_with fail
    refine (HC.out _ C0.out.rd).mono ?_
    rintro e w1 ⟨b1, m1, hl1, hm1, rfl, P1⟩
    have HE1 : Hid (CsP ts n m1 (cs ++ [x])) := HE.out m1 hl1
    have C3 : Hid (Nm w b g cap ts m1 222 4 (.slice a cs.length c) cs.length (cellsC cs) (w1.alloc (Obj.cells #[.int .i64 x.arg, .int .i64 x.op, .int .u64 x.mask, .int .u64 x.val] 222))) := (C0.out.on b1 P1).alloc _
    clear b1 P1 hl1
    go_wp2_with (at_builtin; refine append_cond rfl (.tmp 11) (.tmp 16) rfl w.heap.size _ cs.length cs rfl C3.out.own x ⟨w1.heap.size, 0, none⟩ rfl (cd_new w1 x) (by omega) C3.out.bt.size ?_; intro v2 w4 ho hg; have C4 : Hid (Nm w b g cap ts m1 222 4 v2 (cs ++ [x]).length (cellsC (cs ++ [x])) w4) := (by rw [HL.out.2]; exact C3.out.app ho hg); clear ho hg)
    obtain ⟨a2, c2, rfl⟩ := C4.out.slice
    go_roundw
    case rel => exact ⟨_, _, C4.out, hm1, HL.out.1, HE1.out⟩
    case measure => have := HL.out.2; simp [lenOf]; omega
  ·have hz2 : ((cs.length : Int) == 0) = false := by rw [beq_eq_false_iff_ne]; omega
   have hz3 : ¬ (cs.length : Int) = 0 := by omega
   have HS : Hid (∀ d rs a ns, run (.s8 d rs a ns []) (ts.drop n) = run (.s13 d rs a ns cs) (ts.drop m)) := by
    rcases hp with ⟨h, _⟩ | ⟨_, h⟩
    ·rw [h] at hz; exact absurd rfl hz
    ·exact h
   have hcm := and_word HT.out m hm
   rcases Bool.eq_false_or_eq_true (isW ts[m] wAnd) with h3 | h3
   ·have hm1 := HT.out.nx m hm (isW_4 h3)
    have HQ : Hid (∀ d rs a ns, run (.s8 d rs a ns []) (ts.drop n) = run (.s8 d rs a ns cs) (ts.drop (m + 1))) := fun d rs a ns => (HS.out d rs a ns).trans (s13_and hm h3 d rs a ns cs)
    rw [h3] at hcm
    have HI : Hid (∀ W, Rd W b g cap ts m -> Calls Tryz.prog 103 #[.pointer (some ⟨b, 0, none⟩), .string ⟨#[97, 110, 100]⟩] W fun e w' => e = .returned (.bool true) /\ Bt b W w' /\ Rd w' b g cap ts (m + 1)) := fun W hW => passIf_ok W b g cap m ts hW hm hm1 _ hcm.symm
    clear hp hz hcm h3 HS
    rcases hR : condD cs.length (ts.drop (m + 1)) with ⟨c1, p1⟩ | ⟨x, l⟩
    ·have HC : Hid (∀ W, Rd W b g cap ts (m + 1) -> Calls Tryz.prog 140 #[.pointer (some ⟨b, 0, none⟩), .int .i64 cs.length] W fun e w' => Bt b W w' /\ e = .panicked (fltC c1 p1)) := by
      intro W hW
      have := cond_any W b g cap (m + 1) ts cs.length HT.out hW hm1
      rw [hR] at this
      exact this
     have HE : Hid (∀ w', Bt b w w' -> CmR w b g cap ts n (.panicked (fltC c1 p1)) w') := fun w' hb => ⟨hb, .inl ⟨c1, p1, rfl, fun d rs a ns => by rw [HQ.out, run_cond, hR]⟩⟩
     generalize fltC c1 p1 = F at *
     clear hR
     go_wp2_with fail
     refine (HI.out _ HM.out.rd).mono ?_
     rintro e w0 ⟨rfl, b0, P0⟩
     have C0 : Hid (Nm w b g cap ts (m + 1) 222 4 (.slice a cs.length c) cs.length (cellsC cs) w0) := HM.out.on b0 P0
     clear b0 P0
     go_wp2_with fail
     refine (HC.out _ C0.out.rd).mono ?_
     rintro e w1 ⟨b1, rfl⟩
     go_wp2_with fail
     exact ⟨rfl, HE.out _ (C0.out.bt.trans b1)⟩
    ·have HC : Hid (∀ W, Rd W b g cap ts (m + 1) -> Calls Tryz.prog 140 #[.pointer (some ⟨b, 0, none⟩), .int .i64 cs.length] W fun e w' => Bt b W w' /\ ∃ m, l = ts.drop m /\ m < ts.length /\ e = .returned (.agg #[.int .i64 x.arg, .int .i64 x.op, .int .u64 x.mask, .int .u64 x.val]) /\ Rd w' b g cap ts m) := by
      intro W hW
      have := cond_any W b g cap (m + 1) ts cs.length HT.out hW hm1
      rw [hR] at this
      exact this
     have HE : Hid (∀ m, l = ts.drop m -> CsP ts n m (cs ++ [x])) := fun m hm => .inr ⟨by simp, fun d rs a ns => by rw [HQ.out, run_cond, hR, <- hm]⟩
     have hl8 := condD_lt hR
     have HL : Hid ((cs ++ [x]).length <= 8 /\ (cs ++ [x]).length = cs.length + 1) := by constructor <;> simp <;> omega
     clear hR
     go_wp2_with fail
     refine (HI.out _ HM.out.rd).mono ?_
     rintro e w0 ⟨rfl, b0, P0⟩
     have C0 : Hid (Nm w b g cap ts (m + 1) 222 4 (.slice a cs.length c) cs.length (cellsC cs) w0) := HM.out.on b0 P0
     clear b0 P0
     go_wp2_with fail
     refine (HC.out _ C0.out.rd).mono ?_
     rintro e w1 ⟨b1, m1, hl1, hm1, rfl, P1⟩
     have HE1 : Hid (CsP ts n m1 (cs ++ [x])) := HE.out m1 hl1
     have C3 : Hid (Nm w b g cap ts m1 222 4 (.slice a cs.length c) cs.length (cellsC cs) (w1.alloc (Obj.cells #[.int .i64 x.arg, .int .i64 x.op, .int .u64 x.mask, .int .u64 x.val] 222))) := (C0.out.on b1 P1).alloc _
     clear b1 P1 hl1
     go_wp2_with (at_builtin; refine append_cond rfl (.tmp 11) (.tmp 16) rfl w.heap.size _ cs.length cs rfl C3.out.own x ⟨w1.heap.size, 0, none⟩ rfl (cd_new w1 x) (by omega) C3.out.bt.size ?_; intro v2 w4 ho hg; have C4 : Hid (Nm w b g cap ts m1 222 4 v2 (cs ++ [x]).length (cellsC (cs ++ [x])) w4) := (by rw [HL.out.2]; exact C3.out.app ho hg); clear ho hg)
     obtain ⟨a2, c2, rfl⟩ := C4.out.slice
     go_roundw
     case rel => exact ⟨_, _, C4.out, hm1, HL.out.1, HE1.out⟩
     case measure => have := HL.out.2; simp [lenOf]; omega
   ·rw [h3] at hcm
    have HI : Hid (∀ W, Rd W b g cap ts m -> Calls Tryz.prog 103 #[.pointer (some ⟨b, 0, none⟩), .string ⟨#[97, 110, 100]⟩] W fun e w' => e = .returned (.bool false) /\ Below W.heap.size W w') := fun W hW => passIf_no W b g cap m ts hW hm _ hcm.symm
    have HE : Hid (isW ts[m] wAnd = false) := h3
    clear hp hz hcm h3
    go_wp2_with fail
    refine (HI.out _ HM.out.rd).mono ?_
    rintro e w0 ⟨rfl, b0⟩
    go_wp2_with fail
    go_ret
    exact ⟨(HM.out.over b0).bt, .inr ⟨_, m, cs, hm, rfl, (HM.out.over b0).rd, (HM.out.over b0).own, HE.out, HS.out⟩⟩
end Go.Proofs.YtmcgcbgblgmmkaaGreatDoor.P
