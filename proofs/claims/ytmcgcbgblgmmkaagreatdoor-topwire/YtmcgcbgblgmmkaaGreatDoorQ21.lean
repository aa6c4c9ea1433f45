/-
  PRules PCatch.
-/
import Derived.Test.YtmcgcbgblgmmkaaGreatDoorQ20
import Derived.Deep.AppendLies
import Derived.Defers
import Derived.Recover
import Derived.Test.YtmcgcbgblgmmkaaGreatDoorQ0
set_option maxRecDepth 8000
set_option maxHeartbeats 8000000
namespace Go.Proofs.YtmcgcbgblgmmkaaGreatDoor.P
open F.D (Blk)
open M (bar lst)
open Go.RowKit
theorem Tryz.info150 : (Tryz.prog.info? 150).map (fun i => (i.zero, i.size, i.bytes)) = some (some (.agg #[.int .i64 0, .int .i64 0, .slice none 0 0, .slice none 0 0]), 4, 64) := by kernel_rfl
theorem Tryz.sizeRules : (Tryz.prog.info? 58).map (·.size) = some 3 := by kernel_rfl
structure Rv where
 r : Rl
 vn : Value
 vc : Value
def Rv.cells (x : Rv) : List Value := ruleL x.r.act.k x.r.act.a x.vn x.vc
def cellsR (l : List Rv) : List Value := l.flatMap Rv.cells
theorem cellsR_snoc (l : List Rv) (x : Rv) : cellsR (l ++ [x]) = cellsR l ++ x.cells := by simp [cellsR]
theorem cellsR_get (l : List Rv) : ∀ (i : Nat) (x : Rv) (c : Nat), l[i]? = some x -> c < 4 -> (cellsR l)[i * 4 + c]? = x.cells[c]? := by
 induction l with
 | nil => intro i x c h; simp at h
 | cons y l ih =>
  intro i x c h hc
  show (y.cells ++ cellsR l)[i * 4 + c]? = _
  cases i with
  | zero =>
   simp at h
   subst h
   rw [List.getElem?_append_left (by show _ < 4; omega)]
   congr 1
   omega
  | succ i =>
   rw [List.getElem?_append_right (by show 4 <= _; omega)]
   rw [List.getElem?_cons_succ] at h
   rw [<- ih i x c h hc]
   congr 1
   show (i + 1) * 4 + c - 4 = _
   omega
def rulL (k a : Int) (v : Value) : List Value := [.int .i64 k, .int .i64 a, v]
theorem rulL_size (k a : Int) (v : Value) : (Tryz.prog.info? 58).map (·.size) = some (rulL k a v).toArray.size := Tryz.sizeRules
theorem rulL_one {k a : Int} {v : Value} (hv : v.oneCell' = true) : (rulL k a v).toArray.all (·.oneCell') = true := by
 have e0 : (Value.int .i64 k).oneCell' = true := rfl
 have e1 : (Value.int .i64 a).oneCell' = true := rfl
 simp [rulL, hv, e0, e1]
theorem owns_apart {X : World} {B B' T T' sz sz' n n' : Nat} {v v' : Value} {xs xs' : List Value} (h1 : X.ownsRow B T sz v n xs) (h2 : X.ownsRow B' T' sz' v' n' xs') (hT : T ≠ T') : ∀ j, v.ownBlock = some j -> v'.ownBlock = some j -> False := by
 intro j e1 e2
 rcases h1.2 with ⟨rfl, _⟩ | ⟨g, cap, cur, rfl, _, hh, _⟩
 ·cases e1
 ·rcases h2.2 with ⟨rfl, _⟩ | ⟨g', cap', cur', rfl, _, hh', _⟩
  ·cases e2
  ·cases e1
   cases e2
   rw [hh] at hh'
   injection hh' with hh'
   injection hh' with _ ht _
   exact hT ht
theorem step_append_rule {w : World} {ops : Array Oper} {o : Oper} {a : Act} {K : Act -> World -> Prop} {Q : Exit -> Act -> World -> Prop} {E : Prop} (hgd : o.guard = none) (s x : Operand)
  (ho : o.op = .call { callee := .builtin .append, args := #[s, x], argTypes := #[56, 56] })
  (base : Nat) (v : Value) (n : Nat) (l : List Rv) (hs : a.eval s = v) (hown : w.ownsRow base 150 4 v n (cellsR l))
  (it : Rv) (h1 : it.vn.oneCell' = true) (h2 : it.vc.oneCell' = true) (ad : Addr) (hx : a.eval x = .slice (some ad) 1 1) (hnews : ∀ j u, it.cells[j]? = some u -> w.cell? (ad.add j) = some u)
  (hn : n <= 1000000) (hbase : base <= w.heap.size)
  (h : ∀ v' w', w'.ownsRow base 150 4 v' (n + 1) (cellsR (l ++ [it])) -> w.grownBy w' v.ownBlock -> K (a.put o.dst v') w') :
  if Region.wanted o (yielded ops a.tmps) = true then Oper.wp Tryz.prog o a w K Q else E := by
 have hw : Region.wanted o (yielded ops a.tmps) = true := by simp [Region.wanted, hgd]
 rw [if_pos hw]
 obtain ⟨i0, hi, hz0, hz1, hz2⟩ := info_parts Tryz.info150
 have e0 : (Value.int .i64 it.r.act.k).oneCell' = true := rfl
 have e1 : (Value.int .i64 it.r.act.a).oneCell' = true := rfl
 obtain ⟨v', w', hr, g1, g2, _⟩ := run_append_own (P := Tryz.prog) w base 56 o.type 150 i0 (.agg #[.int .i64 0, .int .i64 0, .slice none 0 0, .slice none 0 0]) 4 64 Tryz.underlying56 hi hz0 hz1 hz2 rfl (by decide) v n (cellsR l) hown ad 1 1 it.cells rfl hnews (by intro u hu; simp [Rv.cells, ruleL] at hu; rcases hu with rfl | rfl | rfl | rfl <;> assumption) (by unfold maxLen; omega) (by omega) hbase
 unfold Oper.wp execOp
 simp only [ho, resolve, invoke, builtin, Sem.run_bind, Sem.run_pure, Result.andThen_ok, List.map_toArray, List.map_cons, List.map_nil, hs, hx, hr]
 exact h v' w' (by rw [cellsR_snoc]; exact g1) g2
def Rows2 (X : World) (B : Nat) (x : Rv) : Prop := X.ownsRow B 9 1 x.vn x.r.names.length (cellsN x.r.names) /\ X.ownsRow B 222 4 x.vc x.r.conds.length (cellsC x.r.conds)
structure Kv (w : World) (b g cap : Nat) (ts : List Tok) (m r : Nat) (k a : Int) (v : Value) (rv : List Rv) (X : World) : Prop where
 kq : Kq w b g cap ts m 58 (rulL 0 0 (.slice none 0 0)) r 58 (rulL k a v) X
 own : X.ownsRow (r + 1) 150 4 v rv.length (cellsR rv)
 row : ∀ x ∈ rv, Rows2 X (r + 1) x
section
variable {w X Y : World} {b g cap m m' r B : Nat} {ts : List Tok} {k a : Int} {v v' : Value} {rv : List Rv} {x : Rv}
theorem Rows2.over (h : Rows2 X B x) (hb : Below X.heap.size X Y) : Rows2 Y B x := ⟨owns_below h.1 hb (Nat.le_refl _), owns_below h.2 hb (Nat.le_refl _)⟩
theorem Rows2.on (h : Rows2 X B x) (hb : Bt b X Y) (hB : b < B) : Rows2 Y B x := ⟨owns_bt h.1 hb hB, owns_bt h.2 hb hB⟩
theorem Kv.rd (h : Kv w b g cap ts m r k a v rv X) : Rd X b g cap ts m := h.kq.rd
theorem Kv.bt (h : Kv w b g cap ts m r k a v rv X) : Bt b w X := h.kq.kr.bt
theorem Kv.lb (h : Kv w b g cap ts m r k a v rv X) : b < r + 1 := by have := h.kq.kr.lb; have := h.kq.lr; omega
theorem Kv.over (h : Kv w b g cap ts m r k a v rv X) (hb : Below X.heap.size X Y) : Kv w b g cap ts m r k a v rv Y :=
 ⟨h.kq.over hb, owns_below h.own hb (Nat.le_refl _), fun x hx => (h.row x hx).over hb⟩
theorem Kv.on (h : Kv w b g cap ts m r k a v rv X) (hb : Bt b X Y) (hp : Rd Y b g cap ts m') : Kv w b g cap ts m' r k a v rv Y :=
 ⟨h.kq.on hb hp, owns_bt h.own hb h.lb, fun x hx => (h.row x hx).on hb h.lb⟩
theorem Kv.alloc (h : Kv w b g cap ts m r k a v rv X) (o : Obj) : Kv w b g cap ts m r k a v rv (X.alloc o) := h.over ((Below.refl _ _).alloc (Nat.le_refl _) _)
theorem Kq.new2 (h : Kr w b g cap ts m 58 (rulL 0 0 (.slice none 0 0)) X) : Kv w b g cap ts m X.heap.size k a (.slice none 0 0) [] (X.alloc (Obj.cells #[.int .i64 k, .int .i64 a, .slice none 0 0] 58)) :=
 ⟨h.new 58 _, ⟨rfl, .inl ⟨rfl, rfl⟩⟩, fun x hx => by cases hx⟩
theorem Kv.app (h : Kv w b g cap ts m r k a v rv X) (hx : Rows2 X (r + 1) x) (ho : Y.ownsRow (r + 1) 150 4 v' (rv.length + 1) (cellsR (rv ++ [x]))) (hg : X.grownBy Y v.ownBlock) :
  Kv w b g cap ts m r k a v' (rv ++ [x]) (Y.setCell ⟨r, 2, none⟩ v') := by
 have hk := owns_block h.own
 have lr := h.kq.lr
 have lb := h.kq.kr.lb
 have lg := h.kq.kr.lg
 have hKr : Kr w b g cap ts m 58 (rulL 0 0 (.slice none 0 0)) Y :=
  ⟨h.rd.grown hg (fun k e => by have := hk k e; omega) (fun k e => by have := hk k e; omega), h.kq.kr.blk.grown hg (fun k e => by have := hk k e; omega), h.bt.grown hg (fun k e => by have := hk k e; omega), lb, lg⟩
 have hKq : Kq w b g cap ts m 58 (rulL 0 0 (.slice none 0 0)) r 58 (rulL k a v) Y := ⟨hKr, h.kq.blk.grown hg (fun k e => by have := hk k e; omega), lr⟩
 have hrow : ∀ y, Rows2 X (r + 1) y -> Rows2 (Y.setCell ⟨r, 2, none⟩ v') (r + 1) y := by
  intro y hy
  refine ⟨owns_same hy.1 fun j hj => ?_, owns_same hy.2 fun j hj => ?_⟩
  ·rw [heap_setCell_other Y ⟨r, 2, none⟩ j v' (by have := owns_block hy.1 j hj; show j ≠ r; omega)]
   exact hg.block j (owns_lt hy.1 j hj) (fun e => owns_apart hy.1 h.own (by decide) j hj e.symm)
  ·rw [heap_setCell_other Y ⟨r, 2, none⟩ j v' (by have := owns_block hy.2 j hj; show j ≠ r; omega)]
   exact hg.block j (owns_lt hy.2 j hj) (fun e => owns_apart hy.2 h.own (by decide) j hj e.symm)
 refine ⟨hKq.set 2 v', ?_, fun y hy => ?_⟩
 ·rw [List.length_append]
  exact owns_set ho (Nat.lt_succ_self r)
 ·rcases List.mem_append.1 hy with hy | hy
  ·exact hrow y (h.row y hy)
  ·simp at hy
   subst hy
   exact hrow y hx
theorem Kv.slice (h : Kv w b g cap ts m r k a v rv X) : ∃ p c, v = .slice p rv.length c := by
 rcases h.own.2 with ⟨rfl, h0⟩ | ⟨g', c, cur, rfl, _⟩
 ·exact ⟨none, 0, by rw [h0]⟩
 ·exact ⟨_, c, rfl⟩
theorem Kv.fin (h : Kv w b g cap ts m r k a v rv X) (l : List Value) : Kr w b g cap ts m 58 l (X.setRow w.heap.size l.toArray) /\ (X.setRow w.heap.size l.toArray).ownsRow w.heap.size 150 4 v rv.length (cellsR rv) /\ ∀ x ∈ rv, Rows2 (X.setRow w.heap.size l.toArray) w.heap.size x := by
 have lr := h.kq.lr
 refine ⟨h.kq.kr.row l, owns_lower (owns_same h.own fun j hj => setRow_other _ _ _ _ ?_) (by omega), fun x hx => ⟨owns_lower (owns_same (h.row x hx).1 fun j hj => setRow_other _ _ _ _ ?_) (by omega), owns_lower (owns_same (h.row x hx).2 fun j hj => setRow_other _ _ _ _ ?_) (by omega)⟩⟩
 ·have := owns_block h.own j hj; omega
 ·have := owns_block (h.row x hx).1 j hj; omega
 ·have := owns_block (h.row x hx).2 j hj; omega
end
def RlsR (w : World) (b : Nat) (ts : List Tok) (e : Ending) (w' : World) : Prop :=
 Bt b w w' /\ ((∃ c p, e = .panicked (fltC c p) /\ run .s0 ts = .error (c, p)) \/
  ∃ (d : Ac) (rv : List Rv) (v : Value), e = .returned (.agg #[.int .i64 d.k, .int .i64 d.a, v]) /\ w'.ownsRow w.heap.size 150 4 v rv.length (cellsR rv) /\ (∀ x ∈ rv, Rows2 w' w.heap.size x) /\ run .s0 ts = .ok (d, rv.map Rv.r))
theorem rlsR_flt {w : World} {b : Nat} {ts : List Tok} {c p : Nat} {w' : World} (hb : Bt b w w') (h : run .s0 ts = .error (c, p)) : RlsR w b ts (.panicked (fltC c p)) w' := ⟨hb, .inl ⟨c, p, rfl, h⟩⟩
theorem default_at {ts : List Tok} (hT : Tks ts) (n : Nat) (hn : n < ts.length) : isW ts[n] wDefault = (ts[n].t == lst ⟨#[100, 101, 102, 97, 117, 108, 116]⟩) := (hT.tk n hn).isW 100 [101, 102, 97, 117, 108, 116] (by decide)
section
variable {ts : List Tok} {q : Nat}
theorem s0_ok (hq : q < ts.length) (hk : isW ts[q] wDefault = true) : run .s0 (ts.drop q) = run .s1 (ts.drop (q + 1)) := by
 rw [drop_at hq, run_next rfl]
 simp only [step]
 rw [if_pos hk]
theorem s0_no (hq : q < ts.length) (hk : isW ts[q] wDefault = false) : run .s0 (ts.drop q) = .error (7, ts[q].at') := by
 rw [drop_at hq, run_next rfl]
 simp only [step]
 rw [if_neg (not_of hk)]
theorem s3_ok (hq : q < ts.length) (d : Ac) (hk : isS ts[q] [59] = true) : run (.s3 d) (ts.drop q) = run (.s4 d []) (ts.drop (q + 1)) := by
 rw [drop_at hq, run_next rfl]
 simp only [step]
 rw [if_pos hk]
theorem s3_no (hq : q < ts.length) (d : Ac) (hk : isS ts[q] [59] = false) : run (.s3 d) (ts.drop q) = .error (7, ts[q].at') := by
 rw [drop_at hq, run_next rfl]
 simp only [step]
 rw [if_neg (not_of hk)]
theorem s4_end (hq : q < ts.length) (d : Ac) (rs : List Rl) (hk : ts[q].k = 4) : run (.s4 d rs) (ts.drop q) = .ok (d, rs) := by
 rw [drop_at hq, run_end hk]
 rfl
end
def lenAt (w : World) (r : Nat) : Nat :=
 match w.cell? ⟨r, 2, none⟩ with
 | some v => lenOf v
 | none => 0
theorem rule_new (w : World) (x : Rv) : ∀ j u, x.cells[j]? = some u -> (w.alloc (Obj.cells #[.int .i64 x.r.act.k, .int .i64 x.r.act.a, x.vn, x.vc] 150)).cell? ((⟨w.heap.size, 0, none⟩ : Addr).add j) = some u := by
 intro j u hu
 match j, hu with
 | 0, hu => cases hu; simp [Addr.add]
 | 1, hu => cases hu; simp [Addr.add]
 | 2, hu => cases hu; simp [Addr.add]
 | 3, hu => cases hu; simp [Addr.add]
set_option linter.unusedSimpArgs false in
theorem rules_any (w : World) (b g cap : Nat) (ts : List Tok) (hT : Tks ts) (h : Rd w b g cap ts 0) :
  Calls Tryz.prog 35 #[.pointer (some ⟨b, 0, none⟩)] w fun e w' => RlsR w b ts e w' := by
 have hn : 0 < ts.length := hT.pos
 have A0 : Hid (Kr w b g cap ts 0 58 (rulL 0 0 (.slice none 0 0)) (w.alloc (Obj.cells #[.int .i64 0, .int .i64 0, .slice none 0 0] 58))) := kr_new h hn 58 _
 have HT : Hid (Tks ts) := hT
 have h0 := fld0
 have hdf := default_at hT 0 hn
 have hdr : ts.drop 0 = ts := List.drop_zero
 clear h hT
 rcases Bool.eq_false_or_eq_true (isW ts[0] wDefault) with h1 | h1
 ·rw [h1] at hdf
  have hn1 := HT.out.nx 0 hn (isW_4 h1)
  have HE1 : Hid (run .s0 ts = run .s1 (ts.drop 1)) := by
   have := s0_ok hn h1
   rw [hdr] at this
   exact this
  have HM : Hid (∀ W, Rd W b g cap ts 0 -> Calls Tryz.prog 69 #[.pointer (some ⟨b, 0, none⟩), .string ⟨#[100, 101, 102, 97, 117, 108, 116]⟩] W fun e w' => e = .returned (.tuple #[]) /\ Bt b W w' /\ Rd w' b g cap ts 1) := fun W hW => must_ok W b g cap 0 ts hW hn hn1 _ hdf.symm
  clear h1 hdf hdr
  rcases hR : actD (ts.drop 1) with ⟨c1, p1⟩ | ⟨d, l⟩
  ·have HC : Hid (∀ W, Rd W b g cap ts 1 -> Calls Tryz.prog 70 #[.pointer (some ⟨b, 0, none⟩)] W fun e w' => Bt b W w' /\ e = .panicked (fltC c1 p1)) := by
    intro W hW
    have := act_any W b g cap 1 ts HT.out hW hn1
    rw [hR] at this
    exact this
   have HE : Hid (run .s0 ts = .error (c1, p1)) := by
    show _ = _
    rw [HE1.out, run_act1, hR]
   clear hR HE1
   go_enter Tryz.func35, Tryz.ntmps35
   go_wp2_with fail
   generalize (w.alloc (Obj.cells #[.int .i64 0, .int .i64 0, .slice none 0 0] 58)) = W0 at *
   refine (HM.out _ A0.out.rd).mono ?_
   rintro e w1 ⟨rfl, b1, P1⟩
   have A1 : Hid (Kr w b g cap ts 1 58 (rulL 0 0 (.slice none 0 0)) w1) := A0.out.on b1 P1
   clear b1 P1 A0
   go_wp2_with fail
   refine (HC.out _ A1.out.rd).mono ?_
   rintro e w2 ⟨b2, rfl⟩
   go_wp2_with fail
   exact ⟨rfl, rlsR_flt (A1.out.bt.trans b2) HE.out⟩
  ·have HC : Hid (∀ W, Rd W b g cap ts 1 -> Calls Tryz.prog 70 #[.pointer (some ⟨b, 0, none⟩)] W fun e w' => Bt b W w' /\ ∃ m, l = ts.drop m /\ m < ts.length /\ e = .returned (.agg #[.int .i64 d.k, .int .i64 d.a]) /\ Rd w' b g cap ts m) := by
    intro W hW
    have := act_any W b g cap 1 ts HT.out hW hn1
    rw [hR] at this
    exact this
   have HE : Hid (∀ m, l = ts.drop m -> run .s0 ts = run (.s3 d) (ts.drop m)) := fun m hm => by
    rw [HE1.out, run_act1, hR, hm]
   clear hR HE1
   go_enter Tryz.func35, Tryz.ntmps35
   go_wp2_with fail
   generalize (w.alloc (Obj.cells #[.int .i64 0, .int .i64 0, .slice none 0 0] 58)) = W0 at *
   refine (HM.out _ A0.out.rd).mono ?_
   rintro e w1 ⟨rfl, b1, P1⟩
   have A1 : Hid (Kr w b g cap ts 1 58 (rulL 0 0 (.slice none 0 0)) w1) := A0.out.on b1 P1
   clear b1 P1 A0
   go_wp2_with fail
   refine (HC.out _ A1.out.rd).mono ?_
   rintro e w2 ⟨b2, m2, hl2, hm2, rfl, P2⟩
   have A2 : Hid (Kr w b g cap ts m2 58 (rulL 0 0 (.slice none 0 0)) w2) := A1.out.on b2 P2
   have HE2 : Hid (run .s0 ts = run (.s3 d) (ts.drop m2)) := HE.out m2 hl2
   obtain ⟨X, hX⟩ : ∃ X, w2.alloc (Obj.cells #[.int .i64 d.k, .int .i64 d.a, .slice none 0 0] 58) = X := ⟨_, rfl⟩
   have HX : Hid (w2.alloc (Obj.cells #[.int .i64 d.k, .int .i64 d.a, .slice none 0 0] 58) = X) := hX
   obtain ⟨r, hr⟩ : ∃ r, r = w2.heap.size := ⟨_, rfl⟩
   have A3 : Hid (Kv w b g cap ts m2 r d.k d.a (.slice none 0 0) [] X) := by
    show Kv w b g cap ts m2 r d.k d.a (.slice none 0 0) [] X
    rw [<- hX, hr]
    exact Kq.new2 A2.out
   clear hX b2 P2 hl2 HE A2 A1
   go_wp2_with (refine switch_world' HX.out ?_)
   rw [<- hr]
   clear hr HX
   have hsm := semi_at HT.out m2 hm2
   rcases Bool.eq_false_or_eq_true (isS ts[m2] [59]) with h6 | h6
   ·rw [h6] at hsm
    have hm3 := HT.out.nx m2 hm2 (isS_4 h6)
    have HE3 : Hid (run .s0 ts = run (.s4 d []) (ts.drop (m2 + 1))) := HE2.out.trans (s3_ok hm2 d h6)
    refine (must_ok _ b g cap m2 ts A3.out.rd hm2 hm3 _ hsm.symm).mono ?_
    rintro e w3 ⟨rfl, b3, P3⟩
    have A4 : Hid (Kv w b g cap ts (m2 + 1) r d.k d.a (.slice none 0 0) [] w3) := A3.out.on b3 P3
    clear b3 P3 A3 HE2 h6 hsm
    go_wp2_with fail
    go_loopw [11] (fun _ wr => ∃ m v, ∃ rv : List Rv, Kv w b g cap ts m r d.k d.a v rv wr /\ m < ts.length /\ rv.length <= 64 /\ run .s0 ts = run (.s4 d (rv.map Rv.r)) (ts.drop m)) (fun _ wr => 65 - lenAt wr r)
    case atStart => exact ⟨m2 + 1, _, [], A4.out, hm3, by decide, HE3.out⟩
    case round =>
     obtain ⟨m, v, rv, hM, hm, hlen, hp⟩ := hrel
     obtain ⟨pa, pc, rfl⟩ := hM.slice
     have C0 : Hid (Kv w b g cap ts m r d.k d.a (.slice pa rv.length pc) rv wr) := hM
     have HP : Hid (run .s0 ts = run (.s4 d (rv.map Rv.r)) (ts.drop m)) := hp
     have HLA : Hid (lenAt wr r = rv.length) := by
      show _ = _
      unfold lenAt
      rw [hM.kq.blk.cell 2]
      rfl
     have HN : Hid (∀ W, Rd W b g cap ts m -> Calls Tryz.prog 71 #[.pointer (some ⟨b, 0, none⟩)] W fun e w' => e = .returned (.agg #[.int .i64 ts[m].k, .int .i64 ts[m].at', .string (bar ts[m].t), .int .u64 ts[m].n]) /\ Below W.heap.size W w') := fun W hW => next_at' W b g cap m ts hW hm
     clear hM hp A4 HE3
     by_cases hk : ts[m].k = 4
     ·have HE : Hid (run .s0 ts = .ok (d, rv.map Rv.r)) := HP.out.trans (s4_end hm d _ hk)
      have hk2 : ((ts[m].k : Int) == 4) = true := by rw [beq_iff_eq]; omega
      have hkn : ((ts[m].k : Int) != 4) = false := by rw [bne, hk2]; rfl
      clear hk
      generalize ts[m] = x at *
      go_wp2_with fail
      refine (HN.out _ C0.out.rd).mono ?_
      rintro e w5 ⟨rfl, b5⟩
      have C1 : Hid (Kv w b g cap ts m r d.k d.a (.slice pa rv.length pc) rv w5) := C0.out.over b5
      go_wp2_with (first | (refine at_op' (.load 58 (.tmp 3)) rfl ?_; refine wpList_load_row rfl 58 (.tmp 3) rfl r rfl 58 (rulL d.k d.a (.slice pa rv.length pc)).toArray (0, 0) _ C1.out.kq.blk Tryz.underlying58 rfl (rulL_size _ _ _) ?_) | (refine at_op' (.store 58 (.tmp 2) (.tmp 25)) rfl ?_; refine wpList_store_row rfl 58 (.tmp 2) (.tmp 25) rfl w.heap.size (rulL d.k d.a (.slice pa rv.length pc)).toArray rfl rfl 58 _ C1.out.kq.kr.blk (rulL_size _ _ _) rfl (rulL_one rfl) ?_))
      obtain ⟨R1, R2, R3⟩ := C1.out.fin (rulL d.k d.a (.slice pa rv.length pc))
      refine bodyPost_ret (v := .agg (rulL d.k d.a (.slice pa rv.length pc)).toArray) ?_ rfl ⟨R1.bt, .inr ⟨d, rv, _, rfl, R2, R3, HE.out⟩⟩
      exact results_cell_row Tryz.results35 _ _ w.heap.size 58 (rulL d.k d.a (.slice pa rv.length pc)).toArray (0, 0) _ rfl R1.blk Tryz.underlying58 rfl (rulL_size _ _ _)
     ·have hk2 : ((ts[m].k : Int) == 4) = false := by rw [beq_eq_false_iff_ne]; omega
      have hkn : ((ts[m].k : Int) != 4) = true := by rw [bne, hk2]; rfl
      have HR : Hid (∀ W, Rd W b g cap ts m -> Calls Tryz.prog 72 #[.pointer (some ⟨b, 0, none⟩), .int .i64 rv.length] W fun e w' => RuR W b g cap ts m rv.length e w') := fun W hW => rule_any W b g cap m ts rv.length HT.out hW hm hk
      clear hk
      generalize ts[m] = x at *
      go_wp2_with fail
      refine (HN.out _ C0.out.rd).mono ?_
      rintro e w5 ⟨rfl, b5⟩
      have C1 : Hid (Kv w b g cap ts m r d.k d.a (.slice pa rv.length pc) rv w5.drew) := (C0.out.over b5).over (Below.refl _ _).drew
      go_wp2_with fail
      have s5 : w5.drew.cell? ⟨r, 2, none⟩ = some (.slice pa rv.length pc) := C1.out.kq.blk.cell 2
      refine wp_region_held_drew (S := fun _ => True) (by kernel_rfl) trivial (fun hHeld => ?_)
      simp only [List.size_toArray, List.length_cons, List.length_nil, Nat.reduceAdd]
      refine tk 0 ?_ hHeld ?_ ?_
      rotate_left
      ·(intro w hSw; (try dsimp only at hSw); go_simp; try with_reducible rfl)
      try simp only [Act.put, zA, zB, zC, zD, zE, zF]
      refine tk 2 ?_ hHeld ?_ ?_
      rotate_left
      ·(intro w hSw; (try dsimp only at hSw); go_simp; try with_reducible rfl)
      try simp only [Act.put, zA, zB, zC, zD, zE, zF]
      refine tk 3 ?_ hHeld ?_ ?_
      rotate_left
      ·(intro w hSw; (try dsimp only at hSw); go_simp; try with_reducible rfl)
      try simp only [Act.put, zA, zB, zC, zD, zE, zF]
      refine wpAnyH_ready (rs := [1, 4]) (by kernel_rfl) (by simp) ?_
      refine (AllReadyH.cons rfl (fun K hK => ?_) (AllReadyH.cons rfl (fun K hK => ?_) AllReadyH.nil))
      ·
       go_simp
       refine hK.out _ _ trivial (fun hHeld => ?_)
       clear hK K
       try simp only [Act.put, zA, zB, zC, zD, zE, zF]
       refine wpAnyH_ready (rs := [4]) (by kernel_rfl) (by simp) ?_
       refine (AllReadyH.cons rfl (fun K hK => ?_) AllReadyH.nil)
       go_simp
       refine hK.out _ _ trivial (fun hHeld => ?_)
       clear hK K
       try simp only [Act.put, zA, zB, zC, zD, zE, zF]
       refine tk 5 ?_ hHeld ?_ ?_
       rotate_left
       ·(intro w hSw; (try dsimp only at hSw); go_simp; try with_reducible rfl)
       try simp only [Act.put, zA, zB, zC, zD, zE, zF]
       refine wpAnyH_ready (rs := [6]) (by kernel_rfl) (by simp) ?_
       refine (AllReadyH.cons rfl (fun K hK => ?_) AllReadyH.nil)
       go_simp
       refine (HR.out _ C1.out.rd).mono ?_
       rintro e w6 ⟨b6, ⟨c6, p6, rfl, h6⟩ | ⟨y, m6, vn, vc, hm6, hj6, rfl, P6, o6, q6, h6⟩⟩
       ·go_wp2_with fail
        exact ⟨rfl, rlsR_flt (C1.out.bt.trans b6) (HP.out.trans (h6 d _ (by simp)))⟩
       have C2 : Hid (Kv w b g cap ts m6 r d.k d.a (.slice pa rv.length pc) rv w6) := C1.out.on b6 P6
       have HX2 : Hid (Rows2 w6 (r + 1) ⟨y, vn, vc⟩) := ⟨owns_lower o6 C1.out.kq.blk.lt, owns_lower q6 C1.out.kq.blk.lt⟩
       have HP2 : Hid (run .s0 ts = run (.s4 d ((rv ++ [(⟨y, vn, vc⟩ : Rv)]).map Rv.r)) (ts.drop m6)) := by
        show _ = _
        rw [HP.out, h6 d _ (by simp)]
        simp
       have s6 : w6.cell? ⟨r, 2, none⟩ = some (.slice pa rv.length pc) := C2.out.kq.blk.cell 2
       clear b6 P6 o6 q6 h6
       go_wp2_with fail
       refine hK.out _ _ trivial (fun hHeld => ?_)
       clear hK K
       try simp only [Act.put, zA, zB, zC, zD, zE, zF]
       refine wpAnyH_ready (rs := [7]) (by kernel_rfl) (by simp) ?_
       refine (AllReadyH.cons rfl (fun K hK => ?_) AllReadyH.nil)
       go_simp
       have C3 : Hid (Kv w b g cap ts m6 r d.k d.a (.slice pa rv.length pc) rv (w6.alloc (Obj.cells #[.int .i64 y.act.k, .int .i64 y.act.a, vn, vc] 150))) := C2.out.alloc _
       have s7 : (w6.alloc (Obj.cells #[.int .i64 y.act.k, .int .i64 y.act.a, vn, vc] 150)).cell? ⟨r, 2, none⟩ = some (.slice pa rv.length pc) := C3.out.kq.blk.cell 2
       refine hK.out _ _ trivial (fun hHeld => ?_)
       clear hK K
       try simp only [Act.put, zA, zB, zC, zD, zE, zF]
       refine wpAnyH_ready (rs := [8]) (by kernel_rfl) (by simp) ?_
       refine AllReadyH.cons rfl (fun K hK => ?_) AllReadyH.nil
       refine step_append_rule (by rfl) (.tmp 16) (.tmp 22) (by rfl) (r + 1) _ rv.length rv (by rfl) C3.out.own ⟨y, vn, vc⟩ (owns_cell HX2.out.1) (owns_cell HX2.out.2) ⟨w6.heap.size, 0, none⟩ (by rfl) (rule_new w6 ⟨y, vn, vc⟩) (by omega) C3.out.kq.blk.lt ?_
       intro v8 w8 ho8 hg8
       have C8 : Hid (Kv w b g cap ts m6 r d.k d.a v8 (rv ++ [⟨y, vn, vc⟩]) (w8.setCell ⟨r, 2, none⟩ v8)) := C3.out.app (HX2.out.over ((Below.refl _ _).alloc (Nat.le_refl _) _)) ho8 hg8
       have D8 : Blk w8 r 58 (rulL d.k d.a (.slice pa rv.length pc)) := C3.out.kq.blk.grown hg8 (fun k e => Nat.lt_of_succ_le (owns_block C3.out.own k e))
       have s8 : w8.cell? ⟨r, 2, none⟩ = some (.slice pa rv.length pc) := D8.cell 2
       have f8 := D8.f 2
       obtain ⟨p8, c8, hv8⟩ := C8.out.slice
       rw [show (rv ++ [(⟨y, vn, vc⟩ : Rv)]).length = rv.length + 1 by simp] at hv8
       subst hv8
       refine hK.out _ _ trivial (fun hHeld => ?_)
       clear hK K
       try simp only [Act.put, zA, zB, zC, zD, zE, zF]
       refine tk 9 ?_ hHeld ?_ ?_
       rotate_left
       ·(intro w hSw; (try dsimp only at hSw); go_simp; try with_reducible rfl)
       try simp only [Act.put, zA, zB, zC, zD, zE, zF]
       refine wpAnyH_ready (rs := [10]) (by kernel_rfl) (by simp) ?_
       refine AllReadyH.cons rfl (fun K hK => ?_) AllReadyH.nil
       go_simp
       refine hK.out _ _ trivial (fun hHeld => ?_)
       clear hK K
       try simp only [Act.put, zA, zB, zC, zD, zE, zF]
       refine wpAnyH_done (by kernel_rfl) ?_ _
       have HL : Hid ((rv ++ [(⟨y, vn, vc⟩ : Rv)]).length <= 64 /\ 65 - lenAt (w8.setCell ⟨r, 2, none⟩ (.slice p8 (rv.length + 1) c8)) r < 65 - lenAt wr r) := by
        have e1 : lenAt (w8.setCell ⟨r, 2, none⟩ (.slice p8 (rv.length + 1) c8)) r = rv.length + 1 := by
         unfold lenAt
         rw [C8.out.kq.blk.cell 2]
         rfl
        rw [e1, HLA.out]
        constructor <;> simp <;> omega
       clear hHeld D8 s8 f8 hg8 ho8
       go_wp2_with fail
       go_roundw
       case rel => exact ⟨_, _, _, C8.out, hm6, HL.out.1, HP2.out⟩
       case measure => exact HL.out.2
      ·
       go_simp
       refine hK.out _ _ trivial (fun hHeld => ?_)
       clear hK K
       try simp only [Act.put, zA, zB, zC, zD, zE, zF]
       refine tk 5 ?_ hHeld ?_ ?_
       rotate_left
       ·(intro w hSw; (try dsimp only at hSw); go_simp; try with_reducible rfl)
       try simp only [Act.put, zA, zB, zC, zD, zE, zF]
       refine wpAnyH_ready (rs := [1, 6]) (by kernel_rfl) (by simp) ?_
       refine (AllReadyH.cons rfl (fun K hK => ?_) (AllReadyH.cons rfl (fun K hK => ?_) AllReadyH.nil))
       ·
        go_simp
        refine hK.out _ _ trivial (fun hHeld => ?_)
        clear hK K
        try simp only [Act.put, zA, zB, zC, zD, zE, zF]
        refine wpAnyH_ready (rs := [6]) (by kernel_rfl) (by simp) ?_
        refine (AllReadyH.cons rfl (fun K hK => ?_) AllReadyH.nil)
        go_simp
        refine (HR.out _ C1.out.rd).mono ?_
        rintro e w6 ⟨b6, ⟨c6, p6, rfl, h6⟩ | ⟨y, m6, vn, vc, hm6, hj6, rfl, P6, o6, q6, h6⟩⟩
        ·go_wp2_with fail
         exact ⟨rfl, rlsR_flt (C1.out.bt.trans b6) (HP.out.trans (h6 d _ (by simp)))⟩
        have C2 : Hid (Kv w b g cap ts m6 r d.k d.a (.slice pa rv.length pc) rv w6) := C1.out.on b6 P6
        have HX2 : Hid (Rows2 w6 (r + 1) ⟨y, vn, vc⟩) := ⟨owns_lower o6 C1.out.kq.blk.lt, owns_lower q6 C1.out.kq.blk.lt⟩
        have HP2 : Hid (run .s0 ts = run (.s4 d ((rv ++ [(⟨y, vn, vc⟩ : Rv)]).map Rv.r)) (ts.drop m6)) := by
         show _ = _
         rw [HP.out, h6 d _ (by simp)]
         simp
        have s6 : w6.cell? ⟨r, 2, none⟩ = some (.slice pa rv.length pc) := C2.out.kq.blk.cell 2
        clear b6 P6 o6 q6 h6
        go_wp2_with fail
        refine hK.out _ _ trivial (fun hHeld => ?_)
        clear hK K
        try simp only [Act.put, zA, zB, zC, zD, zE, zF]
        refine wpAnyH_ready (rs := [7]) (by kernel_rfl) (by simp) ?_
        refine (AllReadyH.cons rfl (fun K hK => ?_) AllReadyH.nil)
        go_simp
        have C3 : Hid (Kv w b g cap ts m6 r d.k d.a (.slice pa rv.length pc) rv (w6.alloc (Obj.cells #[.int .i64 y.act.k, .int .i64 y.act.a, vn, vc] 150))) := C2.out.alloc _
        have s7 : (w6.alloc (Obj.cells #[.int .i64 y.act.k, .int .i64 y.act.a, vn, vc] 150)).cell? ⟨r, 2, none⟩ = some (.slice pa rv.length pc) := C3.out.kq.blk.cell 2
        refine hK.out _ _ trivial (fun hHeld => ?_)
        clear hK K
        try simp only [Act.put, zA, zB, zC, zD, zE, zF]
        refine wpAnyH_ready (rs := [8]) (by kernel_rfl) (by simp) ?_
        refine AllReadyH.cons rfl (fun K hK => ?_) AllReadyH.nil
        refine step_append_rule (by rfl) (.tmp 16) (.tmp 22) (by rfl) (r + 1) _ rv.length rv (by rfl) C3.out.own ⟨y, vn, vc⟩ (owns_cell HX2.out.1) (owns_cell HX2.out.2) ⟨w6.heap.size, 0, none⟩ (by rfl) (rule_new w6 ⟨y, vn, vc⟩) (by omega) C3.out.kq.blk.lt ?_
        intro v8 w8 ho8 hg8
        have C8 : Hid (Kv w b g cap ts m6 r d.k d.a v8 (rv ++ [⟨y, vn, vc⟩]) (w8.setCell ⟨r, 2, none⟩ v8)) := C3.out.app (HX2.out.over ((Below.refl _ _).alloc (Nat.le_refl _) _)) ho8 hg8
        have D8 : Blk w8 r 58 (rulL d.k d.a (.slice pa rv.length pc)) := C3.out.kq.blk.grown hg8 (fun k e => Nat.lt_of_succ_le (owns_block C3.out.own k e))
        have s8 : w8.cell? ⟨r, 2, none⟩ = some (.slice pa rv.length pc) := D8.cell 2
        have f8 := D8.f 2
        obtain ⟨p8, c8, hv8⟩ := C8.out.slice
        rw [show (rv ++ [(⟨y, vn, vc⟩ : Rv)]).length = rv.length + 1 by simp] at hv8
        subst hv8
        refine hK.out _ _ trivial (fun hHeld => ?_)
        clear hK K
        try simp only [Act.put, zA, zB, zC, zD, zE, zF]
        refine tk 9 ?_ hHeld ?_ ?_
        rotate_left
        ·(intro w hSw; (try dsimp only at hSw); go_simp; try with_reducible rfl)
        try simp only [Act.put, zA, zB, zC, zD, zE, zF]
        refine wpAnyH_ready (rs := [10]) (by kernel_rfl) (by simp) ?_
        refine AllReadyH.cons rfl (fun K hK => ?_) AllReadyH.nil
        go_simp
        refine hK.out _ _ trivial (fun hHeld => ?_)
        clear hK K
        try simp only [Act.put, zA, zB, zC, zD, zE, zF]
        refine wpAnyH_done (by kernel_rfl) ?_ _
        have HL : Hid ((rv ++ [(⟨y, vn, vc⟩ : Rv)]).length <= 64 /\ 65 - lenAt (w8.setCell ⟨r, 2, none⟩ (.slice p8 (rv.length + 1) c8)) r < 65 - lenAt wr r) := by
         have e1 : lenAt (w8.setCell ⟨r, 2, none⟩ (.slice p8 (rv.length + 1) c8)) r = rv.length + 1 := by
          unfold lenAt
          rw [C8.out.kq.blk.cell 2]
          rfl
         rw [e1, HLA.out]
         constructor <;> simp <;> omega
        clear hHeld D8 s8 f8 hg8 ho8
        go_wp2_with fail
        go_roundw
        case rel => exact ⟨_, _, _, C8.out, hm6, HL.out.1, HP2.out⟩
        case measure => exact HL.out.2
       ·
        go_simp
        refine (HR.out _ C1.out.rd).mono ?_
        rintro e w6 ⟨b6, ⟨c6, p6, rfl, h6⟩ | ⟨y, m6, vn, vc, hm6, hj6, rfl, P6, o6, q6, h6⟩⟩
        ·go_wp2_with fail
         exact ⟨rfl, rlsR_flt (C1.out.bt.trans b6) (HP.out.trans (h6 d _ (by simp)))⟩
        have C2 : Hid (Kv w b g cap ts m6 r d.k d.a (.slice pa rv.length pc) rv w6) := C1.out.on b6 P6
        have HX2 : Hid (Rows2 w6 (r + 1) ⟨y, vn, vc⟩) := ⟨owns_lower o6 C1.out.kq.blk.lt, owns_lower q6 C1.out.kq.blk.lt⟩
        have HP2 : Hid (run .s0 ts = run (.s4 d ((rv ++ [(⟨y, vn, vc⟩ : Rv)]).map Rv.r)) (ts.drop m6)) := by
         show _ = _
         rw [HP.out, h6 d _ (by simp)]
         simp
        have s6 : w6.cell? ⟨r, 2, none⟩ = some (.slice pa rv.length pc) := C2.out.kq.blk.cell 2
        clear b6 P6 o6 q6 h6
        go_wp2_with fail
        refine hK.out _ _ trivial (fun hHeld => ?_)
        clear hK K
        try simp only [Act.put, zA, zB, zC, zD, zE, zF]
        refine wpAnyH_ready (rs := [1, 7]) (by kernel_rfl) (by simp) ?_
        refine (AllReadyH.cons rfl (fun K hK => ?_) (AllReadyH.cons rfl (fun K hK => ?_) AllReadyH.nil))
        ·
         go_simp
         refine hK.out _ _ trivial (fun hHeld => ?_)
         clear hK K
         try simp only [Act.put, zA, zB, zC, zD, zE, zF]
         refine wpAnyH_ready (rs := [7]) (by kernel_rfl) (by simp) ?_
         refine (AllReadyH.cons rfl (fun K hK => ?_) AllReadyH.nil)
         go_simp
         have C3 : Hid (Kv w b g cap ts m6 r d.k d.a (.slice pa rv.length pc) rv (w6.alloc (Obj.cells #[.int .i64 y.act.k, .int .i64 y.act.a, vn, vc] 150))) := C2.out.alloc _
         have s7 : (w6.alloc (Obj.cells #[.int .i64 y.act.k, .int .i64 y.act.a, vn, vc] 150)).cell? ⟨r, 2, none⟩ = some (.slice pa rv.length pc) := C3.out.kq.blk.cell 2
         refine hK.out _ _ trivial (fun hHeld => ?_)
         clear hK K
         try simp only [Act.put, zA, zB, zC, zD, zE, zF]
         refine wpAnyH_ready (rs := [8]) (by kernel_rfl) (by simp) ?_
         refine AllReadyH.cons rfl (fun K hK => ?_) AllReadyH.nil
         refine step_append_rule (by rfl) (.tmp 16) (.tmp 22) (by rfl) (r + 1) _ rv.length rv (by rfl) C3.out.own ⟨y, vn, vc⟩ (owns_cell HX2.out.1) (owns_cell HX2.out.2) ⟨w6.heap.size, 0, none⟩ (by rfl) (rule_new w6 ⟨y, vn, vc⟩) (by omega) C3.out.kq.blk.lt ?_
         intro v8 w8 ho8 hg8
         have C8 : Hid (Kv w b g cap ts m6 r d.k d.a v8 (rv ++ [⟨y, vn, vc⟩]) (w8.setCell ⟨r, 2, none⟩ v8)) := C3.out.app (HX2.out.over ((Below.refl _ _).alloc (Nat.le_refl _) _)) ho8 hg8
         have D8 : Blk w8 r 58 (rulL d.k d.a (.slice pa rv.length pc)) := C3.out.kq.blk.grown hg8 (fun k e => Nat.lt_of_succ_le (owns_block C3.out.own k e))
         have s8 : w8.cell? ⟨r, 2, none⟩ = some (.slice pa rv.length pc) := D8.cell 2
         have f8 := D8.f 2
         obtain ⟨p8, c8, hv8⟩ := C8.out.slice
         rw [show (rv ++ [(⟨y, vn, vc⟩ : Rv)]).length = rv.length + 1 by simp] at hv8
         subst hv8
         refine hK.out _ _ trivial (fun hHeld => ?_)
         clear hK K
         try simp only [Act.put, zA, zB, zC, zD, zE, zF]
         refine tk 9 ?_ hHeld ?_ ?_
         rotate_left
         ·(intro w hSw; (try dsimp only at hSw); go_simp; try with_reducible rfl)
         try simp only [Act.put, zA, zB, zC, zD, zE, zF]
         refine wpAnyH_ready (rs := [10]) (by kernel_rfl) (by simp) ?_
         refine AllReadyH.cons rfl (fun K hK => ?_) AllReadyH.nil
         go_simp
         refine hK.out _ _ trivial (fun hHeld => ?_)
         clear hK K
         try simp only [Act.put, zA, zB, zC, zD, zE, zF]
         refine wpAnyH_done (by kernel_rfl) ?_ _
         have HL : Hid ((rv ++ [(⟨y, vn, vc⟩ : Rv)]).length <= 64 /\ 65 - lenAt (w8.setCell ⟨r, 2, none⟩ (.slice p8 (rv.length + 1) c8)) r < 65 - lenAt wr r) := by
          have e1 : lenAt (w8.setCell ⟨r, 2, none⟩ (.slice p8 (rv.length + 1) c8)) r = rv.length + 1 := by
           unfold lenAt
           rw [C8.out.kq.blk.cell 2]
           rfl
          rw [e1, HLA.out]
          constructor <;> simp <;> omega
         clear hHeld D8 s8 f8 hg8 ho8
         go_wp2_with fail
         go_roundw
         case rel => exact ⟨_, _, _, C8.out, hm6, HL.out.1, HP2.out⟩
         case measure => exact HL.out.2
        ·
         go_simp
         have C3 : Hid (Kv w b g cap ts m6 r d.k d.a (.slice pa rv.length pc) rv (w6.alloc (Obj.cells #[.int .i64 y.act.k, .int .i64 y.act.a, vn, vc] 150))) := C2.out.alloc _
         have s7 : (w6.alloc (Obj.cells #[.int .i64 y.act.k, .int .i64 y.act.a, vn, vc] 150)).cell? ⟨r, 2, none⟩ = some (.slice pa rv.length pc) := C3.out.kq.blk.cell 2
         refine hK.out _ _ trivial (fun hHeld => ?_)
         clear hK K
         try simp only [Act.put, zA, zB, zC, zD, zE, zF]
         refine wpAnyH_ready (rs := [1]) (by kernel_rfl) (by simp) ?_
         refine (AllReadyH.cons rfl (fun K hK => ?_) AllReadyH.nil)
         go_simp
         refine hK.out _ _ trivial (fun hHeld => ?_)
         clear hK K
         try simp only [Act.put, zA, zB, zC, zD, zE, zF]
         refine wpAnyH_ready (rs := [8]) (by kernel_rfl) (by simp) ?_
         refine AllReadyH.cons rfl (fun K hK => ?_) AllReadyH.nil
         refine step_append_rule (by rfl) (.tmp 16) (.tmp 22) (by rfl) (r + 1) _ rv.length rv (by rfl) C3.out.own ⟨y, vn, vc⟩ (owns_cell HX2.out.1) (owns_cell HX2.out.2) ⟨w6.heap.size, 0, none⟩ (by rfl) (rule_new w6 ⟨y, vn, vc⟩) (by omega) C3.out.kq.blk.lt ?_
         intro v8 w8 ho8 hg8
         have C8 : Hid (Kv w b g cap ts m6 r d.k d.a v8 (rv ++ [⟨y, vn, vc⟩]) (w8.setCell ⟨r, 2, none⟩ v8)) := C3.out.app (HX2.out.over ((Below.refl _ _).alloc (Nat.le_refl _) _)) ho8 hg8
         have D8 : Blk w8 r 58 (rulL d.k d.a (.slice pa rv.length pc)) := C3.out.kq.blk.grown hg8 (fun k e => Nat.lt_of_succ_le (owns_block C3.out.own k e))
         have s8 : w8.cell? ⟨r, 2, none⟩ = some (.slice pa rv.length pc) := D8.cell 2
         have f8 := D8.f 2
         obtain ⟨p8, c8, hv8⟩ := C8.out.slice
         rw [show (rv ++ [(⟨y, vn, vc⟩ : Rv)]).length = rv.length + 1 by simp] at hv8
         subst hv8
         refine hK.out _ _ trivial (fun hHeld => ?_)
         clear hK K
         try simp only [Act.put, zA, zB, zC, zD, zE, zF]
         refine tk 9 ?_ hHeld ?_ ?_
         rotate_left
         ·(intro w hSw; (try dsimp only at hSw); go_simp; try with_reducible rfl)
         try simp only [Act.put, zA, zB, zC, zD, zE, zF]
         refine wpAnyH_ready (rs := [10]) (by kernel_rfl) (by simp) ?_
         refine AllReadyH.cons rfl (fun K hK => ?_) AllReadyH.nil
         go_simp
         refine hK.out _ _ trivial (fun hHeld => ?_)
         clear hK K
         try simp only [Act.put, zA, zB, zC, zD, zE, zF]
         refine wpAnyH_done (by kernel_rfl) ?_ _
         have HL : Hid ((rv ++ [(⟨y, vn, vc⟩ : Rv)]).length <= 64 /\ 65 - lenAt (w8.setCell ⟨r, 2, none⟩ (.slice p8 (rv.length + 1) c8)) r < 65 - lenAt wr r) := by
          have e1 : lenAt (w8.setCell ⟨r, 2, none⟩ (.slice p8 (rv.length + 1) c8)) r = rv.length + 1 := by
           unfold lenAt
           rw [C8.out.kq.blk.cell 2]
           rfl
          rw [e1, HLA.out]
          constructor <;> simp <;> omega
         clear hHeld D8 s8 f8 hg8 ho8
         go_wp2_with fail
         go_roundw
         case rel => exact ⟨_, _, _, C8.out, hm6, HL.out.1, HP2.out⟩
         case measure => exact HL.out.2
   ·rw [h6] at hsm
    have HE3 : Hid (run .s0 ts = .error (7, ts[m2].at')) := HE2.out.trans (s3_no hm2 d h6)
    refine (must_no _ b g cap m2 ts A3.out.rd hm2 _ hsm.symm).mono ?_
    unfold flt
    rintro e w3 ⟨rfl, b3⟩
    go_wp2_with fail
    exact ⟨rfl, rlsR_flt (A3.out.over b3).bt HE3.out⟩
 ·rw [h1] at hdf
  have HE : Hid (run .s0 ts = .error (7, ts[0].at')) := by
   have := s0_no hn h1
   rw [hdr] at this
   exact this
  have HM : Hid (∀ W, Rd W b g cap ts 0 -> Calls Tryz.prog 69 #[.pointer (some ⟨b, 0, none⟩), .string ⟨#[100, 101, 102, 97, 117, 108, 116]⟩] W fun e w' => e = .panicked (fltC 7 ts[0].at') /\ Below W.heap.size W w') := fun W hW => must_no W b g cap 0 ts hW hn _ hdf.symm
  clear h1 hdf hdr
  go_enter Tryz.func35, Tryz.ntmps35
  go_wp2_with fail
  generalize (w.alloc (Obj.cells #[.int .i64 0, .int .i64 0, .slice none 0 0] 58)) = W0 at *
  refine (HM.out _ A0.out.rd).mono ?_
  rintro e w1 ⟨rfl, b1⟩
  go_wp2_with fail
  exact ⟨rfl, rlsR_flt (A0.out.over b1).bt HE.out⟩
end Go.Proofs.YtmcgcbgblgmmkaaGreatDoor.P
namespace Go.Proofs.YtmcgcbgblgmmkaaGreatDoor.F.D
open Go.RowKit
theorem Blk.rowOther {X : World} {b r : Nat} {t : TypeId} {l : List Value} (h : Blk X b t l) (hr : b ≠ r) (cs : Array Value) : Blk (X.setRow r cs) b t l := by
 unfold Blk
 rw [setRow_other _ _ _ _ hr]
 exact h
end Go.Proofs.YtmcgcbgblgmmkaaGreatDoor.F.D
namespace Go.Proofs.YtmcgcbgblgmmkaaGreatDoor.P
open F.D (Blk blk_new)
open Go.RowKit
theorem catch_idle (B0 B1 B2 : Nat) (w : World) :
  CallsD Tryz.prog 34 #[.pointer (some ⟨B0, 0, none⟩), .pointer (some ⟨B1, 0, none⟩), .pointer (some ⟨B2, 0, none⟩)] .returning w fun e u' w' => e = .returned (.tuple #[]) /\ u' = .returning /\ w' = w := by
 have hq : ∀ W : World, (binOp .neq 20 .nilIface .nilIface).run Tryz.prog W = .ok (.bool false) W := fun W => by kernel_rfl
 refine callsD_of_wpS Tryz.func34 rfl fun c₀ cs hu => ?_
 apply wpS_seq
 apply wpS_region
 simp [wpOpsS, go_sem, recoverD, hu, Tryz.ntmps34, Exit.thenS]
 refine wpS_of_wp ?_
 change Code.wp Tryz.prog _ _ { tmps := #[.pointer (some ⟨B0, 0, none⟩), .pointer (some ⟨B1, 0, none⟩), .pointer (some ⟨B2, 0, none⟩), .nilIface, undef, .nilIface, undef, undef, undef, undef, undef, undef, undef, undef, undef], defers := [] } w
 go_wp2
 cases c₀
 simp_all [bodyPostS, results, Tryz.results34]
structure Cq (w : World) (N B0 B1 B2 : Nat) (l0 l1 l2 : List Value) (X : World) : Prop where
 b0 : Blk X B0 58 l0
 b1 : Blk X B1 38 l1
 b2 : Blk X B2 3 l2
 be : Below N w X
 n0 : N <= B0
 n1 : B0 < B1
 n2 : B1 < B2
section
variable {w X Y : World} {N B0 B1 B2 : Nat} {l0 l1 l2 : List Value}
theorem Cq.over (h : Cq w N B0 B1 B2 l0 l1 l2 X) (hb : Below X.heap.size X Y) : Cq w N B0 B1 B2 l0 l1 l2 Y :=
 ⟨h.b0.over hb, h.b1.over hb, h.b2.over hb, h.be.trans (hb.mono (by have := h.b0.lt; have := h.n0; omega)), h.n0, h.n1, h.n2⟩
theorem below_setCell' {a W : World} {N r i : Nat} (h : Below N a W) (hr : N <= r) (v : Value) : Below N a (W.setCell ⟨r, i, none⟩ v) :=
 ⟨h.os, h.tape, h.output, by have := h.size; simpa using this, fun k hk => by rw [heap_setCell_other W ⟨r, i, none⟩ k v (by show k ≠ r; omega)]; exact h.block k hk⟩
theorem below_setRow' {a W : World} {N r : Nat} (h : Below N a W) (hr : N <= r) (cs : Array Value) : Below N a (W.setRow r cs) :=
 ⟨h.os, h.tape, h.output, by have := h.size; simpa using this, fun k hk => by rw [setRow_other _ _ _ _ (by omega)]; exact h.block k hk⟩
open F.D (Blk.rowOther)
theorem Cq.set0 (h : Cq w N B0 B1 B2 l0 l1 l2 X) (l : List Value) : Cq w N B0 B1 B2 l l1 l2 (X.setRow B0 l.toArray) := by
 have n1 := h.n1
 have n2 := h.n2
 exact ⟨h.b0.row _, h.b1.rowOther (by omega) _, h.b2.rowOther (by omega) _, below_setRow' h.be h.n0 _, h.n0, n1, n2⟩
theorem Cq.setc (h : Cq w N B0 B1 B2 l0 l1 l2 X) (i : Nat) (v : Value) : Cq w N B0 B1 B2 (l0.set i v) l1 l2 (X.setCell ⟨B0, i, none⟩ v) := by
 have n0 := h.n0
 have n1 := h.n1
 have n2 := h.n2
 exact ⟨h.b0.set i v, h.b1.other _ _ (by show B1 ≠ B0; omega), h.b2.other _ _ (by show B2 ≠ B0; omega), below_setCell' h.be n0 v, n0, n1, n2⟩
theorem Cq.set1 (h : Cq w N B0 B1 B2 l0 l1 l2 X) (v : Value) : Cq w N B0 B1 B2 l0 (l1.set 0 v) l2 (X.setCell ⟨B1, 0, none⟩ v) := by
 have n0 := h.n0
 have n1 := h.n1
 have n2 := h.n2
 exact ⟨h.b0.other _ _ (by show B0 ≠ B1; omega), h.b1.set 0 v, h.b2.other _ _ (by show B2 ≠ B1; omega), below_setCell' h.be (by omega) v, n0, n1, n2⟩
theorem Cq.set2 (h : Cq w N B0 B1 B2 l0 l1 l2 X) (v : Value) : Cq w N B0 B1 B2 l0 l1 (l2.set 0 v) (X.setCell ⟨B2, 0, none⟩ v) := by
 have n0 := h.n0
 have n1 := h.n1
 have n2 := h.n2
 exact ⟨h.b0.other _ _ (by show B0 ≠ B2; omega), h.b1.other _ _ (by show B1 ≠ B2; omega), h.b2.set 0 v, below_setCell' h.be (by omega) v, n0, n1, n2⟩
end
set_option linter.unusedSimpArgs false in
theorem catch_panicking (v : World) (N B0 B1 B2 : Nat) (k a : Int) (vL v1 v2 : Value) (c p : Nat) (w : World) (h : Cq v N B0 B1 B2 (rulL k a vL) [v1] [v2] w) :
  CallsD Tryz.prog 34 #[.pointer (some ⟨B0, 0, none⟩), .pointer (some ⟨B1, 0, none⟩), .pointer (some ⟨B2, 0, none⟩)] (.panicking (fltC c p)) w fun e u' w' => e = .returned (.tuple #[]) /\ u' = .panicking [{ v := (.iface 99 (.agg #[.int .i64 c, .int .i64 p])), recovered := true }] /\ Cq v N B0 B1 B2 (rulL 0 0 (.slice none 0 0)) [.int .i64 c] [.int .i64 p] w' := by
 unfold fltC
 have hq : ∀ W : World, (binOp .neq 20 (.iface 99 (.agg #[.int .i64 c, .int .i64 p])) .nilIface).run Tryz.prog W = .ok (.bool true) W := fun W => by kernel_rfl
 have hta : ∀ W : World, (Instr.typeAssert (.iface 99 (.agg #[.int .i64 c, .int .i64 p])) 20 99 false).run Tryz.prog W = .ok (.agg #[.int .i64 c, .int .i64 p]) W := fun W => by kernel_rfl
 have HC : Hid (Cq v N B0 B1 B2 (rulL k a vL) [v1] [v2] (w.alloc (Obj.cells #[.int .i64 c, .int .i64 p] 99))) := h.over ((Below.refl _ _).alloc (Nat.le_refl _) _)
 have HF : Hid (Blk (w.alloc (Obj.cells #[.int .i64 c, .int .i64 p] 99)) w.heap.size 99 [.int .i64 c, .int .i64 p] /\ ¬ w.heap.size = B0 /\ ¬ w.heap.size = B1 /\ ¬ w.heap.size = B2) := ⟨blk_new w _ 99, by have := h.b0.lt; omega, by have := h.b1.lt; omega, by have := h.b2.lt; omega⟩
 clear h
 refine callsD_of_wpS Tryz.func34 rfl fun c₀ cs hu => ?_
 apply wpS_seq
 apply wpS_region
 simp [wpOpsS, go_sem, recoverD, hu, Tryz.ntmps34, Exit.thenS]
 refine wpS_of_wp ?_
 change Code.wp Tryz.prog _ _ { tmps := #[.pointer (some ⟨B0, 0, none⟩), .pointer (some ⟨B1, 0, none⟩), .pointer (some ⟨B2, 0, none⟩), (.iface 99 (.agg #[.int .i64 c, .int .i64 p])), undef, (.iface 99 (.agg #[.int .i64 c, .int .i64 p])), undef, undef, undef, undef, undef, undef, undef, undef, undef], defers := [] } w
 go_wp2
 generalize (w.alloc (Obj.cells #[.int .i64 c, .int .i64 p] 99)) = X at *
 generalize w.heap.size = F at *
 refine wp_region_held_drew (S := fun W => Blk W F 99 [.int .i64 c, .int .i64 p]) (by kernel_rfl) (HF.out.1.over (Below.refl _ _).drew) (fun hHeld => ?_)
 simp only [List.size_toArray, List.length_cons, List.length_nil, Nat.reduceAdd]
 have C0 : Hid (Cq v N B0 B1 B2 (rulL k a vL) [v1] [v2] X.drew) := HC.out.over (Below.refl _ _).drew
 refine tk 0 ?_ hHeld ?_ ?_
 rotate_left
 ·(intro w hSw; (try dsimp only at hSw); go_simp; try with_reducible rfl)
 try simp only [Act.put, zA, zB, zC, zD, zE, zF]
 refine tk 1 ?_ hHeld ?_ ?_
 rotate_left
 ·(intro w hSw; (try dsimp only at hSw); go_simp; try with_reducible rfl)
 try simp only [Act.put, zA, zB, zC, zD, zE, zF]
 refine tk 2 ?_ hHeld ?_ ?_
 rotate_left
 ·(intro w hSw; (try dsimp only at hSw); have s0 : w.cell? ⟨F, 0, none⟩ = some (.int .i64 c) := hSw.cell 0; go_simp; try with_reducible rfl)
 try simp only [Act.put, zA, zB, zC, zD, zE, zF]
 refine tk 3 ?_ hHeld ?_ ?_
 rotate_left
 ·(intro w hSw; (try dsimp only at hSw); go_simp; try with_reducible rfl)
 try simp only [Act.put, zA, zB, zC, zD, zE, zF]
 refine tk 4 ?_ hHeld ?_ ?_
 rotate_left
 ·(intro w hSw; (try dsimp only at hSw); have s1 : w.cell? ⟨F, 1, none⟩ = some (.int .i64 p) := hSw.cell 1; go_simp; try with_reducible rfl)
 try simp only [Act.put, zA, zB, zC, zD, zE, zF]
 clear HC
 generalize X.drew = X0 at *
 have t0 : X0.cell? ⟨B0, 0, none⟩ = some (.int .i64 k) := C0.out.b0.cell 0
 have t1 : X0.cell? ⟨B0, 1, none⟩ = some (.int .i64 a) := C0.out.b0.cell 1
 have t2 : X0.cell? ⟨B0, 2, none⟩ = some vL := C0.out.b0.cell 2
 have g0 := C0.out.b0.f 0
 have g1 := C0.out.b0.f 1
 have g2 := C0.out.b0.f 2
 obtain ⟨Y, hY⟩ : ∃ Y, ((X0.setCell ⟨B0, 0, none⟩ (.int .i64 0)).setCell ⟨B0, 1, none⟩ (.int .i64 0)).setCell ⟨B0, 2, none⟩ (.slice none 0 0) = Y := ⟨_, rfl⟩
 have C1 : Hid (Cq v N B0 B1 B2 (rulL 0 0 (.slice none 0 0)) [v1] [v2] Y) := by
  show Cq v N B0 B1 B2 (rulL 0 0 (.slice none 0 0)) [v1] [v2] Y
  rw [<- hY]
  exact ((C0.out.setc 0 _).setc 1 _).setc 2 _
 have HF1 : Hid (Blk Y F 99 [.int .i64 c, .int .i64 p]) := by
  show Blk Y F 99 [.int .i64 c, .int .i64 p]
  rw [<- hY]
  exact ((hHeld.other _ _ HF.out.2.1).other _ _ HF.out.2.1).other _ _ HF.out.2.1
 have HY : Hid (((X0.setCell ⟨B0, 0, none⟩ (.int .i64 0)).setCell ⟨B0, 1, none⟩ (.int .i64 0)).setCell ⟨B0, 2, none⟩ (.slice none 0 0) = Y) := hY
 clear hY
 refine wpAnyH_ready (rs := [5]) (by kernel_rfl) (by simp) ?_
 refine AllReadyH.cons rfl (fun K hK => ?_) AllReadyH.nil
 
 go_simp
 rw [HY.out]
 refine hK.out _ _ (HF1.out) (fun hHeld => ?_)
 clear hK K
 try simp only [Act.put, zA, zB, zC, zD, zE, zF]
 clear t0 t1 t2 g0 g1 g2 HY
 have t0 : Y.cell? ⟨B1, 0, none⟩ = some v1 := C1.out.b1.cell 0
 have g0 := C1.out.b1.f 0
 have C2 : Hid (Cq v N B0 B1 B2 (rulL 0 0 (.slice none 0 0)) [.int .i64 c] [v2] (Y.setCell ⟨B1, 0, none⟩ (.int .i64 c))) := C1.out.set1 _
 refine wpAnyH_ready (rs := [6]) (by kernel_rfl) (by simp) ?_
 refine AllReadyH.cons rfl (fun K hK => ?_) AllReadyH.nil
 
 go_simp
 refine hK.out _ _ (HF1.out.other _ _ HF.out.2.2.1) (fun hHeld => ?_)
 clear hK K
 try simp only [Act.put, zA, zB, zC, zD, zE, zF]
 clear t0 g0
 generalize Y.setCell ⟨B1, 0, none⟩ (.int .i64 c) = Z at *
 have t0 : Z.cell? ⟨B2, 0, none⟩ = some v2 := C2.out.b2.cell 0
 have g0 := C2.out.b2.f 0
 have C3 : Hid (Cq v N B0 B1 B2 (rulL 0 0 (.slice none 0 0)) [.int .i64 c] [.int .i64 p] (Z.setCell ⟨B2, 0, none⟩ (.int .i64 p))) := C2.out.set2 _
 refine wpAnyH_ready (rs := [7]) (by kernel_rfl) (by simp) ?_
 refine AllReadyH.cons rfl (fun K hK => ?_) AllReadyH.nil
 
 go_simp
 refine hK.out _ _ (hHeld.other _ _ HF.out.2.2.2) (fun hHeld => ?_)
 clear hK K
 try simp only [Act.put, zA, zB, zC, zD, zE, zF]
 refine wpAnyH_done (by kernel_rfl) ?_ _
 exact ⟨rfl, _, rfl, .tuple #[], by simp [results, Tryz.results34], rfl, rfl, C3.out⟩
end Go.Proofs.YtmcgcbgblgmmkaaGreatDoor.P
