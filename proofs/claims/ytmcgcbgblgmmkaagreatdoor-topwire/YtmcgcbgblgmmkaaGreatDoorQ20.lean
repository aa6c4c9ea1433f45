/-
  PRule.
-/
import Derived.Test.YtmcgcbgblgmmkaaGreatDoorQ19
set_option maxRecDepth 8000
set_option maxHeartbeats 8000000
namespace Go.Proofs.YtmcgcbgblgmmkaaGreatDoor.P
open M (bar lst)
open Go.RowKit
theorem owns_lt {w : World} {base sz : Nat} {t : TypeId} {v : Value} {n : Nat} {xs : List Value} (h : w.ownsRow base t sz v n xs) : ∀ k, v.ownBlock = some k -> k < w.heap.size := by
 intro k hk
 rcases h.2 with ⟨rfl, rfl⟩ | ⟨g, cap, cur, rfl, hb, hh, _⟩
 ·cases hk
 ·cases hk
  exact lt_of_block hh
theorem owns_same {w w' : World} {base sz : Nat} {t : TypeId} {v : Value} {n : Nat} {xs : List Value} (h : w.ownsRow base t sz v n xs) (hs : ∀ k, v.ownBlock = some k -> w'.heap[k]? = w.heap[k]?) : w'.ownsRow base t sz v n xs := by
 refine ⟨h.1, ?_⟩
 rcases h.2 with hn | ⟨g, cap, cur, hv, hg, hh, q⟩
 ·exact .inl hn
 ·exact .inr ⟨g, cap, cur, hv, hg, by rw [hs g (by rw [hv]; rfl)]; exact hh, q⟩
theorem owns_cell {w : World} {base sz : Nat} {t : TypeId} {v : Value} {n : Nat} {xs : List Value} (h : w.ownsRow base t sz v n xs) : v.oneCell' = true := by
 rcases h.2 with ⟨rfl, _⟩ | ⟨g, cap, cur, rfl, _⟩ <;> rfl
def ruleL (k a : Int) (vn vc : Value) : List Value := [.int .i64 k, .int .i64 a, vn, vc]
theorem Tryz.sizeRule : (Tryz.prog.info? 150).map (·.size) = some 4 := by kernel_rfl
theorem ruleL_size (k a : Int) (vn vc : Value) : (Tryz.prog.info? 150).map (·.size) = some (ruleL k a vn vc).toArray.size := Tryz.sizeRule
theorem ruleL_one {k a : Int} {vn vc : Value} (hn : vn.oneCell' = true) (hc : vc.oneCell' = true) : (ruleL k a vn vc).toArray.all (·.oneCell') = true := by
 have e0 : (Value.int .i64 k).oneCell' = true := rfl
 have e1 : (Value.int .i64 a).oneCell' = true := rfl
 simp [ruleL, hn, hc, e0, e1]
structure Ku (w : World) (b g cap : Nat) (ts : List Tok) (m r : Nat) (k a : Int) (vn : Value) (ns : List (List UInt8)) (vc : Value) (cs : List Cd) (X : World) : Prop where
 kq : Kq w b g cap ts m 150 (ruleL 0 0 (.slice none 0 0) (.slice none 0 0)) r 150 (ruleL k a vn vc) X
 nm : X.ownsRow w.heap.size 9 1 vn ns.length (cellsN ns)
 cd : X.ownsRow w.heap.size 222 4 vc cs.length (cellsC cs)
 an : ∀ j, vn.ownBlock = some j -> j ≠ r /\ j ≠ w.heap.size
 ac : ∀ j, vc.ownBlock = some j -> j ≠ r /\ j ≠ w.heap.size
section
variable {w X Y : World} {b g cap m m' r B : Nat} {ts : List Tok} {k a : Int} {vn vc v' : Value} {ns : List (List UInt8)} {cs : List Cd}
theorem Ku.rd (h : Ku w b g cap ts m r k a vn ns vc cs X) : Rd X b g cap ts m := h.kq.rd
theorem Ku.bt (h : Ku w b g cap ts m r k a vn ns vc cs X) : Bt b w X := h.kq.kr.bt
theorem Ku.over (h : Ku w b g cap ts m r k a vn ns vc cs X) (hb : Below X.heap.size X Y) : Ku w b g cap ts m r k a vn ns vc cs Y :=
 ⟨h.kq.over hb, owns_below h.nm hb (Nat.le_refl _), owns_below h.cd hb (Nat.le_refl _), h.an, h.ac⟩
theorem Ku.on (h : Ku w b g cap ts m r k a vn ns vc cs X) (hb : Bt b X Y) (hp : Rd Y b g cap ts m') : Ku w b g cap ts m' r k a vn ns vc cs Y :=
 ⟨h.kq.on hb hp, owns_bt h.nm hb h.kq.kr.lb, owns_bt h.cd hb h.kq.kr.lb, h.an, h.ac⟩
theorem ku_new (h : Kr w b g cap ts m 150 (ruleL 0 0 (.slice none 0 0) (.slice none 0 0)) X) (ho : X.ownsRow B 9 1 vn ns.length (cellsN ns)) (hB : w.heap.size < B) :
  Ku w b g cap ts m X.heap.size k a vn ns (.slice none 0 0) [] (X.alloc (Obj.cells #[.int .i64 k, .int .i64 a, vn, .slice none 0 0] 150)) := by
 have hb : Below X.heap.size X (X.alloc (Obj.cells #[.int .i64 k, .int .i64 a, vn, .slice none 0 0] 150)) := (Below.refl _ _).alloc (Nat.le_refl _) _
 refine ⟨h.new 150 _, owns_lower (owns_below ho hb (Nat.le_refl _)) (by omega), ⟨rfl, .inl ⟨rfl, rfl⟩⟩, fun j hj => ?_, fun j hj => by cases hj⟩
 have h1 := owns_lt ho j hj
 have h2 := owns_block ho j hj
 exact ⟨by omega, by omega⟩
theorem Ku.cond (h : Ku w b g cap ts m r k a vn ns (.slice none 0 0) [] X) (ho : X.ownsRow B 222 4 v' cs.length (cellsC cs)) (hB : r < B) : Ku w b g cap ts m r k a vn ns v' cs (X.setCell ⟨r, 3, none⟩ v') := by
 have lr := h.kq.lr
 refine ⟨h.kq.set 3 v', owns_same h.nm fun j hj => ?_, owns_lower (owns_same ho fun j hj => ?_) (by omega), h.an, fun j hj => ?_⟩
 ·exact heap_setCell_other X ⟨r, 3, none⟩ j v' (h.an j hj).1
 ·exact heap_setCell_other X ⟨r, 3, none⟩ j v' (by have := owns_block ho j hj; show j ≠ r; omega)
 ·have := owns_block ho j hj
  exact ⟨by omega, by omega⟩
theorem Ku.row (h : Ku w b g cap ts m r k a vn ns vc cs X) (l : List Value) : Kr w b g cap ts m 150 l (X.setRow w.heap.size l.toArray) /\ (X.setRow w.heap.size l.toArray).ownsRow w.heap.size 9 1 vn ns.length (cellsN ns) /\ (X.setRow w.heap.size l.toArray).ownsRow w.heap.size 222 4 vc cs.length (cellsC cs) :=
 ⟨h.kq.kr.row l, owns_same h.nm fun j hj => setRow_other _ _ _ _ (h.an j hj).2, owns_same h.cd fun j hj => setRow_other _ _ _ _ (h.ac j hj).2⟩
theorem Ku.lt (h : Ku w b g cap ts m r k a vn ns vc cs X) : r < X.heap.size := h.kq.blk.lt
end
def RuR (w : World) (b g cap : Nat) (ts : List Tok) (n j : Nat) (e : Ending) (w' : World) : Prop :=
 Bt b w w' /\ ((∃ c p, e = .panicked (fltC c p) /\ ∀ d rs, rs.length = j -> run (.s4 d rs) (ts.drop n) = .error (c, p)) \/
  ∃ (r : Rl) (m : Nat) (vn vc : Value), m < ts.length /\ j < 64 /\ e = .returned (.agg #[.int .i64 r.act.k, .int .i64 r.act.a, vn, vc]) /\ Rd w' b g cap ts m /\ w'.ownsRow w.heap.size 9 1 vn r.names.length (cellsN r.names) /\ w'.ownsRow w.heap.size 222 4 vc r.conds.length (cellsC r.conds) /\
   ∀ d rs, rs.length = j -> run (.s4 d rs) (ts.drop n) = run (.s4 d (rs ++ [r])) (ts.drop m))
theorem ruR_flt {w : World} {b g cap n j : Nat} {ts : List Tok} {c p : Nat} {w' : World} (hb : Bt b w w') (h : ∀ d rs, rs.length = j -> run (.s4 d rs) (ts.drop n) = .error (c, p)) : RuR w b g cap ts n j (.panicked (fltC c p)) w' := ⟨hb, .inl ⟨c, p, rfl, h⟩⟩
section
variable {ts : List Tok} {q : Nat}
theorem s7_when (hq : q < ts.length) (hc : isS ts[q] [44] = false) (hk : isW ts[q] wWhen = true) (d : Ac) (rs : List Rl) (a : Ac) (ns : List (List UInt8)) : run (.s7 d rs a ns) (ts.drop q) = run (.s8 d rs a ns []) (ts.drop (q + 1)) := by
 rw [drop_at hq, run_next rfl]
 simp only [step]
 rw [if_neg (not_of hc), if_pos hk]
theorem s7_semi (hq : q < ts.length) (hc : isS ts[q] [44] = false) (hw : isW ts[q] wWhen = false) (hk : isS ts[q] [59] = true) (d : Ac) (rs : List Rl) (a : Ac) (ns : List (List UInt8)) : run (.s7 d rs a ns) (ts.drop q) = run (.s4 d (rs ++ [⟨a, ns, []⟩])) (ts.drop (q + 1)) := by
 rw [drop_at hq, run_next rfl]
 simp only [step]
 rw [if_neg (not_of hc), if_neg (not_of hw), if_pos hk]
theorem s7_no (hq : q < ts.length) (hc : isS ts[q] [44] = false) (hw : isW ts[q] wWhen = false) (hk : isS ts[q] [59] = false) (d : Ac) (rs : List Rl) (a : Ac) (ns : List (List UInt8)) : run (.s7 d rs a ns) (ts.drop q) = .error (7, ts[q].at') := by
 rw [drop_at hq, run_next rfl]
 simp only [step]
 rw [if_neg (not_of hc), if_neg (not_of hw), if_neg (not_of hk)]
theorem s13_semi (hq : q < ts.length) (hw : isW ts[q] wAnd = false) (hk : isS ts[q] [59] = true) (d : Ac) (rs : List Rl) (a : Ac) (ns : List (List UInt8)) (cs : List Cd) : run (.s13 d rs a ns cs) (ts.drop q) = run (.s4 d (rs ++ [⟨a, ns, cs⟩])) (ts.drop (q + 1)) := by
 rw [drop_at hq, run_next rfl]
 simp only [step]
 rw [if_neg (not_of hw), if_pos hk]
theorem s13_no (hq : q < ts.length) (hw : isW ts[q] wAnd = false) (hk : isS ts[q] [59] = false) (d : Ac) (rs : List Rl) (a : Ac) (ns : List (List UInt8)) (cs : List Cd) : run (.s13 d rs a ns cs) (ts.drop q) = .error (7, ts[q].at') := by
 rw [drop_at hq, run_next rfl]
 simp only [step]
 rw [if_neg (not_of hw), if_neg (not_of hk)]
end
theorem when_at {ts : List Tok} (hT : Tks ts) (n : Nat) (hn : n < ts.length) : isW ts[n] wWhen = (ts[n].t == lst ⟨#[119, 104, 101, 110]⟩) := (hT.tk n hn).isW 119 [104, 101, 110] (by decide)
theorem semi_at {ts : List Tok} (hT : Tks ts) (n : Nat) (hn : n < ts.length) : isS ts[n] [59] = (ts[n].t == lst ⟨#[59]⟩) := (hT.tk n hn).isS 59 [] (by decide) (by decide)
theorem rule_bad (w : World) (b g cap n : Nat) (ts : List Tok) (j : Nat) (hT : Tks ts) (h : Rd w b g cap ts n) (hn : n < ts.length) (h4 : ¬ ts[n].k = 4) (hk : kindOf ts[n].t = 0) :
  Calls Tryz.prog 72 #[.pointer (some ⟨b, 0, none⟩), .int .i64 j] w fun e w' => RuR w b g cap ts n j e w' := by
 have A0 : Hid (Kr w b g cap ts n 150 (ruleL 0 0 (.slice none 0 0) (.slice none 0 0)) (w.alloc (Obj.cells #[.int .i64 0, .int .i64 0, .slice none 0 0, .slice none 0 0] 150))) := kr_new h hn 150 _
 have HN : Hid (∀ W, Rd W b g cap ts n -> Calls Tryz.prog 71 #[.pointer (some ⟨b, 0, none⟩)] W fun e w' => e = .returned (.agg #[.int .i64 ts[n].k, .int .i64 ts[n].at', .string (bar ts[n].t), .int .u64 ts[n].n]) /\ Below W.heap.size W w') := fun W hW => next_at' W b g cap n ts hW hn
 have h2 := fld2
 have HK : Hid (∀ W : World, Calls Tryz.prog 104 #[.string (bar ts[n].t)] W fun e w' => e = .returned (.int .i64 0) /\ w' = W) := fun W => by have := kind_any ts[n].t W; rw [hk] at this; exact this
 have HF : Hid (∀ W, Rd W b g cap ts n -> Calls Tryz.prog 102 #[.pointer (some ⟨b, 0, none⟩), .bool false, .int .i64 7] W fun e w' => e = .panicked (fltC 7 ts[n].at') /\ Below W.heap.size W w') := fun W hW => needs_flt W b g cap n ts hW hn 7
 have HE : Hid (∀ w', Bt b w w' -> RuR w b g cap ts n j (.panicked (fltC 7 ts[n].at')) w') := fun w' hb => ruR_flt hb fun d rs _ => by
  rw [drop_at hn]
  exact run_err h4 (by simp only [step]; rw [if_neg (by rw [(hT.tk n hn).isA, hk]; decide)])
 clear h hk h4 hT
 generalize fltC 7 ts[n].at' = F at *
 generalize ts[n] = x at *
 go_enter Tryz.func72, Tryz.ntmps72
 go_wp2_with fail
 generalize (w.alloc (Obj.cells #[.int .i64 0, .int .i64 0, .slice none 0 0, .slice none 0 0] 150)) = W0 at *
 refine (HN.out _ A0.out.rd).mono ?_
 rintro e w1 ⟨rfl, b1⟩
 have A1 : Hid (Kr w b g cap ts n 150 (ruleL 0 0 (.slice none 0 0) (.slice none 0 0)) w1) := A0.out.over b1
 clear b1 A0
 go_wp2_with fail
 refine (HK.out _).mono ?_
 rintro e w2 ⟨rfl, hw2⟩
 subst w2
 go_wp2_with fail
 refine (HF.out _ A1.out.rd).mono ?_
 rintro e w2 ⟨rfl, b2⟩
 go_wp2_with fail
 exact ⟨rfl, HE.out _ (A1.out.over b2).bt⟩
theorem rule_full (w : World) (b g cap n : Nat) (ts : List Tok) (j : Nat) (hT : Tks ts) (h : Rd w b g cap ts n) (hn : n < ts.length) (h4 : ¬ ts[n].k = 4) (hk : ¬ kindOf ts[n].t = 0) (hj : 64 <= j) :
  Calls Tryz.prog 72 #[.pointer (some ⟨b, 0, none⟩), .int .i64 j] w fun e w' => RuR w b g cap ts n j e w' := by
 have A0 : Hid (Kr w b g cap ts n 150 (ruleL 0 0 (.slice none 0 0) (.slice none 0 0)) (w.alloc (Obj.cells #[.int .i64 0, .int .i64 0, .slice none 0 0, .slice none 0 0] 150))) := kr_new h hn 150 _
 have HN : Hid (∀ W, Rd W b g cap ts n -> Calls Tryz.prog 71 #[.pointer (some ⟨b, 0, none⟩)] W fun e w' => e = .returned (.agg #[.int .i64 ts[n].k, .int .i64 ts[n].at', .string (bar ts[n].t), .int .u64 ts[n].n]) /\ Below W.heap.size W w') := fun W hW => next_at' W b g cap n ts hW hn
 have h2 := fld2
 have HK : Hid (∀ W : World, Calls Tryz.prog 104 #[.string (bar ts[n].t)] W fun e w' => e = .returned (.int .i64 (kindOf ts[n].t)) /\ w' = W) := fun W => kind_any ts[n].t W
 have hz : ((kindOf ts[n].t : Int) == 0) = false := by rw [beq_eq_false_iff_ne]; omega
 have hzn : ((kindOf ts[n].t : Int) != 0) = true := by rw [bne, hz]; rfl
 have hA : isA ts[n] = true := by
  rw [(hT.tk n hn).isA]
  simpa using hk
 have HF : Hid (∀ W, Rd W b g cap ts n -> Calls Tryz.prog 102 #[.pointer (some ⟨b, 0, none⟩), .bool false, .int .i64 4] W fun e w' => e = .panicked (fltC 4 ts[n].at') /\ Below W.heap.size W w') := fun W hW => needs_flt W b g cap n ts hW hn 4
 have HE : Hid (∀ w', Bt b w w' -> RuR w b g cap ts n j (.panicked (fltC 4 ts[n].at')) w') := fun w' hb => ruR_flt hb fun d rs hl => by
  rw [drop_at hn, run_full (by omega) h4, if_pos hA]
 have hd : decide ((j : Int) < 64) = false := by simp; omega
 clear h hk h4 hT hA hj
 generalize fltC 4 ts[n].at' = F at *
 generalize ts[n] = x at *
 generalize kindOf x.t = K at *
 go_enter Tryz.func72, Tryz.ntmps72
 go_wp2_with fail
 generalize (w.alloc (Obj.cells #[.int .i64 0, .int .i64 0, .slice none 0 0, .slice none 0 0] 150)) = W0 at *
 refine (HN.out _ A0.out.rd).mono ?_
 rintro e w1 ⟨rfl, b1⟩
 have A1 : Hid (Kr w b g cap ts n 150 (ruleL 0 0 (.slice none 0 0) (.slice none 0 0)) w1) := A0.out.over b1
 clear b1 A0
 go_wp2_with fail
 refine (HK.out _).mono ?_
 rintro e w2 ⟨rfl, hw2⟩
 subst w2
 go_wp2_with fail
 refine (needs_ok _ b 7).mono ?_
 rintro e w2 ⟨rfl, hw2⟩
 subst w2
 go_wp2_with fail
 refine (HF.out _ A1.out.rd).mono ?_
 rintro e w2 ⟨rfl, b2⟩
 go_wp2_with fail
 exact ⟨rfl, HE.out _ (A1.out.over b2).bt⟩
theorem rule_act (w : World) (b g cap n : Nat) (ts : List Tok) (j : Nat) (hT : Tks ts) (h : Rd w b g cap ts n) (hn : n < ts.length) (h4 : ¬ ts[n].k = 4) (hk : ¬ kindOf ts[n].t = 0) (hj : j < 64) (c1 p1 : Nat) (hR : actD (ts.drop n) = .error (c1, p1)) :
  Calls Tryz.prog 72 #[.pointer (some ⟨b, 0, none⟩), .int .i64 j] w fun e w' => RuR w b g cap ts n j e w' := by
 have A0 : Hid (Kr w b g cap ts n 150 (ruleL 0 0 (.slice none 0 0) (.slice none 0 0)) (w.alloc (Obj.cells #[.int .i64 0, .int .i64 0, .slice none 0 0, .slice none 0 0] 150))) := kr_new h hn 150 _
 have HN : Hid (∀ W, Rd W b g cap ts n -> Calls Tryz.prog 71 #[.pointer (some ⟨b, 0, none⟩)] W fun e w' => e = .returned (.agg #[.int .i64 ts[n].k, .int .i64 ts[n].at', .string (bar ts[n].t), .int .u64 ts[n].n]) /\ Below W.heap.size W w') := fun W hW => next_at' W b g cap n ts hW hn
 have h2 := fld2
 have HK : Hid (∀ W : World, Calls Tryz.prog 104 #[.string (bar ts[n].t)] W fun e w' => e = .returned (.int .i64 (kindOf ts[n].t)) /\ w' = W) := fun W => kind_any ts[n].t W
 have hz : ((kindOf ts[n].t : Int) == 0) = false := by rw [beq_eq_false_iff_ne]; omega
 have hzn : ((kindOf ts[n].t : Int) != 0) = true := by rw [bne, hz]; rfl
 have hA : isA ts[n] = true := by
  rw [(hT.tk n hn).isA]
  simpa using hk
 have HC : Hid (∀ W, Rd W b g cap ts n -> Calls Tryz.prog 70 #[.pointer (some ⟨b, 0, none⟩)] W fun e w' => Bt b W w' /\ e = .panicked (fltC c1 p1)) := by
  intro W hW
  have := act_any W b g cap n ts hT hW hn
  rw [hR] at this
  exact this
 have HE : Hid (∀ w', Bt b w w' -> RuR w b g cap ts n j (.panicked (fltC c1 p1)) w') := fun w' hb => ruR_flt hb fun d rs hl => by
  rw [drop_at hn] at hR
  rw [drop_at hn, run_act4 (by omega) h4, hR]
 have hd : decide ((j : Int) < 64) = true := by simp; omega
 clear h hk h4 hT hA hj hR
 generalize fltC c1 p1 = F at *
 generalize ts[n] = x at *
 generalize kindOf x.t = K at *
 go_enter Tryz.func72, Tryz.ntmps72
 go_wp2_with fail
 generalize (w.alloc (Obj.cells #[.int .i64 0, .int .i64 0, .slice none 0 0, .slice none 0 0] 150)) = W0 at *
 refine (HN.out _ A0.out.rd).mono ?_
 rintro e w1 ⟨rfl, b1⟩
 have A1 : Hid (Kr w b g cap ts n 150 (ruleL 0 0 (.slice none 0 0) (.slice none 0 0)) w1) := A0.out.over b1
 clear b1 A0
 go_wp2_with fail
 refine (HK.out _).mono ?_
 rintro e w2 ⟨rfl, hw2⟩
 subst w2
 go_wp2_with fail
 refine (needs_ok _ b 7).mono ?_
 rintro e w2 ⟨rfl, hw2⟩
 subst w2
 go_wp2_with fail
 refine (needs_ok _ b 4).mono ?_
 rintro e w2 ⟨rfl, hw2⟩
 subst w2
 go_wp2_with fail
 refine (HC.out _ A1.out.rd).mono ?_
 rintro e w2 ⟨b2, rfl⟩
 go_wp2_with fail
 exact ⟨rfl, HE.out _ (A1.out.bt.trans b2)⟩
theorem rule_rest (w : World) (b g cap n : Nat) (ts : List Tok) (j : Nat) (hT : Tks ts) (h : Rd w b g cap ts n) (hn : n < ts.length) (h4 : ¬ ts[n].k = 4) (hk : ¬ kindOf ts[n].t = 0) (hj : j < 64) (v : Ac) (l : List Tok) (hR : actD (ts.drop n) = .ok (v, l)) :
  Calls Tryz.prog 72 #[.pointer (some ⟨b, 0, none⟩), .int .i64 j] w fun e w' => RuR w b g cap ts n j e w' := by
 have A0 : Hid (Kr w b g cap ts n 150 (ruleL 0 0 (.slice none 0 0) (.slice none 0 0)) (w.alloc (Obj.cells #[.int .i64 0, .int .i64 0, .slice none 0 0, .slice none 0 0] 150))) := kr_new h hn 150 _
 have HN : Hid (∀ W, Rd W b g cap ts n -> Calls Tryz.prog 71 #[.pointer (some ⟨b, 0, none⟩)] W fun e w' => e = .returned (.agg #[.int .i64 ts[n].k, .int .i64 ts[n].at', .string (bar ts[n].t), .int .u64 ts[n].n]) /\ Below W.heap.size W w') := fun W hW => next_at' W b g cap n ts hW hn
 have h2 := fld2
 have HK : Hid (∀ W : World, Calls Tryz.prog 104 #[.string (bar ts[n].t)] W fun e w' => e = .returned (.int .i64 (kindOf ts[n].t)) /\ w' = W) := fun W => kind_any ts[n].t W
 have hz : ((kindOf ts[n].t : Int) == 0) = false := by rw [beq_eq_false_iff_ne]; omega
 have hzn : ((kindOf ts[n].t : Int) != 0) = true := by rw [bne, hz]; rfl
 have hA : isA ts[n] = true := by
  rw [(hT.tk n hn).isA]
  simpa using hk
 have HC : Hid (∀ W, Rd W b g cap ts n -> Calls Tryz.prog 70 #[.pointer (some ⟨b, 0, none⟩)] W fun e w' => Bt b W w' /\ ∃ m, l = ts.drop m /\ m < ts.length /\ e = .returned (.agg #[.int .i64 v.k, .int .i64 v.a]) /\ Rd w' b g cap ts m) := by
  intro W hW
  have := act_any W b g cap n ts hT hW hn
  rw [hR] at this
  exact this
 have HE0 : Hid (∀ m, l = ts.drop m -> ∀ d rs, rs.length = j -> run (.s4 d rs) (ts.drop n) = run (.s6 d rs v []) (ts.drop m)) := fun m hm d rs hl => by
  rw [drop_at hn] at hR
  rw [drop_at hn, run_act4 (by omega) h4, hR, hm]
 have HT : Hid (Tks ts) := hT
 have hd : decide ((j : Int) < 64) = true := by simp; omega
 have HJ : Hid (j < 64) := hj
 clear h hk h4 hT hA hj hR
 generalize ts[n] = x at *
 generalize kindOf x.t = K at *
 go_enter Tryz.func72, Tryz.ntmps72
 go_wp2_with fail
 generalize (w.alloc (Obj.cells #[.int .i64 0, .int .i64 0, .slice none 0 0, .slice none 0 0] 150)) = W0 at *
 refine (HN.out _ A0.out.rd).mono ?_
 rintro e w1 ⟨rfl, b1⟩
 have A1 : Hid (Kr w b g cap ts n 150 (ruleL 0 0 (.slice none 0 0) (.slice none 0 0)) w1) := A0.out.over b1
 clear b1 A0
 go_wp2_with fail
 refine (HK.out _).mono ?_
 rintro e w2 ⟨rfl, hw2⟩
 subst w2
 go_wp2_with fail
 refine (needs_ok _ b 7).mono ?_
 rintro e w2 ⟨rfl, hw2⟩
 subst w2
 go_wp2_with fail
 refine (needs_ok _ b 4).mono ?_
 rintro e w2 ⟨rfl, hw2⟩
 subst w2
 go_wp2_with fail
 refine (HC.out _ A1.out.rd).mono ?_
 rintro e w2 ⟨b2, m2, hl2, hm2, rfl, P2⟩
 have A2 : Hid (Kr w b g cap ts m2 150 (ruleL 0 0 (.slice none 0 0) (.slice none 0 0)) w2) := A1.out.on b2 P2
 have HE2 : Hid (∀ d rs, rs.length = j -> run (.s4 d rs) (ts.drop n) = run (.s6 d rs v []) (ts.drop m2)) := HE0.out m2 hl2
 clear b2 P2 A1 HE0 hl2
 go_wp2_with fail
 refine (names_any _ b g cap m2 ts HT.out A2.out.rd hm2).mono ?_
 rintro e w3 ⟨b3, ⟨c3, p3, rfl, h3⟩ | ⟨vn, m3, ns, hm3, rfl, P3, o3, hc3, h3⟩⟩
 ·go_wp2_with fail
  exact ⟨rfl, ruR_flt (A2.out.bt.trans b3) fun d rs hl => (HE2.out d rs hl).trans (h3 d rs v)⟩
 ·have A3 : Hid (Kr w b g cap ts m3 150 (ruleL 0 0 (.slice none 0 0) (.slice none 0 0)) w3) := A2.out.on b3 P3
  have HE3 : Hid (∀ d rs, rs.length = j -> run (.s4 d rs) (ts.drop n) = run (.s7 d rs v ns) (ts.drop m3)) := fun d rs hl => (HE2.out d rs hl).trans (h3 d rs v)
  have HC3 : Hid (isS ts[m3] [44] = false) := hc3
  obtain ⟨X, hX⟩ : ∃ X, w3.alloc (Obj.cells #[.int .i64 v.k, .int .i64 v.a, vn, .slice none 0 0] 150) = X := ⟨_, rfl⟩
  have HX : Hid (w3.alloc (Obj.cells #[.int .i64 v.k, .int .i64 v.a, vn, .slice none 0 0] 150) = X) := hX
  obtain ⟨r, hr⟩ : ∃ r, r = w3.heap.size := ⟨_, rfl⟩
  have A4 : Hid (Ku w b g cap ts m3 r v.k v.a vn ns (.slice none 0 0) [] X) := by
   show Ku w b g cap ts m3 r v.k v.a vn ns (.slice none 0 0) [] X
   rw [<- hX, hr]
   exact ku_new A3.out o3 A2.out.blk.lt
  obtain ⟨an, cn, hvn⟩ : ∃ a c, vn = .slice a ns.length c := by
   rcases o3.2 with ⟨rfl, h0⟩ | ⟨g', c, cur, rfl, _⟩
   ·exact ⟨none, 0, by rw [h0]⟩
   ·exact ⟨_, c, rfl⟩
  subst hvn
  clear hX A3 o3 h3 hc3 P3 b3 HE2 A2
  go_wp2_with (refine switch_world' HX.out ?_)
  rw [<- hr]
  clear hr HX
  have hwh := when_at HT.out m3 hm3
  rcases Bool.eq_false_or_eq_true (isW ts[m3] wWhen) with h5 | h5
  ·rw [h5] at hwh
   have hm4 := HT.out.nx m3 hm3 (isW_4 h5)
   have HE4 : Hid (∀ d rs, rs.length = j -> run (.s4 d rs) (ts.drop n) = run (.s8 d rs v ns []) (ts.drop (m3 + 1))) := fun d rs hl => (HE3.out d rs hl).trans (s7_when hm3 HC3.out h5 d rs v ns)
   refine (passIf_ok _ b g cap m3 ts A4.out.rd hm3 hm4 _ hwh.symm).mono ?_
   rintro e w5 ⟨rfl, b5, P5⟩
   have A5 : Hid (Ku w b g cap ts (m3 + 1) r v.k v.a (.slice an ns.length cn) ns (.slice none 0 0) [] w5) := A4.out.on b5 P5
   clear b5 P5 A4 HE3 HC3 h5 hwh
   go_wp2_with fail
   refine (conds_any _ b g cap (m3 + 1) ts HT.out A5.out.rd hm4).mono ?_
   rintro e w6 ⟨b6, ⟨c6, p6, rfl, h6⟩ | ⟨vc, m6, cs, hm6, rfl, P6, o6, hc6, h6⟩⟩
   ·go_wp2_with fail
    exact ⟨rfl, ruR_flt (A5.out.bt.trans b6) fun d rs hl => (HE4.out d rs hl).trans (h6 d rs v ns)⟩
   ·have A6 : Hid (Ku w b g cap ts m6 r v.k v.a (.slice an ns.length cn) ns (.slice none 0 0) [] w6) := A5.out.on b6 P6
    have HE6 : Hid (∀ d rs, rs.length = j -> run (.s4 d rs) (ts.drop n) = run (.s13 d rs v ns cs) (ts.drop m6)) := fun d rs hl => (HE4.out d rs hl).trans (h6 d rs v ns)
    have HC6 : Hid (isW ts[m6] wAnd = false) := hc6
    have g3 : w6.cell? ⟨r, 3, none⟩ = some (.slice none 0 0) := A6.out.kq.blk.cell 3
    have f3 := A6.out.kq.blk.f 3
    obtain ⟨Z, hZ⟩ : ∃ Z, w6.setCell ⟨r, 3, none⟩ vc = Z := ⟨_, rfl⟩
    have HZ : Hid (w6.setCell ⟨r, 3, none⟩ vc = Z) := hZ
    have A7 : Hid (Ku w b g cap ts m6 r v.k v.a (.slice an ns.length cn) ns vc cs Z) := by
     show Ku w b g cap ts m6 r v.k v.a (.slice an ns.length cn) ns vc cs Z
     rw [<- hZ]
     exact A6.out.cond o6 A5.out.lt
    obtain ⟨ac, cc, hvc⟩ : ∃ a c, vc = .slice a cs.length c := by
     rcases o6.2 with ⟨rfl, h0⟩ | ⟨g', c, cur, rfl, _⟩
     ·exact ⟨none, 0, by rw [h0]⟩
     ·exact ⟨_, c, rfl⟩
    subst hvc
    clear hZ A6 o6 h6 hc6 P6 b6 HE4 A5
    go_wp2_with (refine switch_world' HZ.out ?_)
    clear HZ g3 f3
    have hsm := semi_at HT.out m6 hm6
    rcases Bool.eq_false_or_eq_true (isS ts[m6] [59]) with h6 | h6
    ·rw [h6] at hsm
     have hm9 := HT.out.nx m6 hm6 (isS_4 h6)
     have HE : Hid (∀ d rs, rs.length = j -> run (.s4 d rs) (ts.drop n) = run (.s4 d (rs ++ [⟨v, ns, cs⟩])) (ts.drop (m6 + 1))) := fun d rs hl => (HE6.out d rs hl).trans (s13_semi hm6 HC6.out h6 d rs v ns cs)
     refine (must_ok _ b g cap m6 ts A7.out.rd hm6 hm9 _ hsm.symm).mono ?_
     rintro e w9 ⟨rfl, b9, P9⟩
     have U9 : Hid (Ku w b g cap ts (m6 + 1) r v.k v.a (.slice an ns.length cn) ns (.slice ac cs.length cc) cs w9) := A7.out.on b9 P9
     clear b9 P9
     go_wp2_with (first | (refine at_op' (.load 150 (.tmp 5)) rfl ?_; refine wpList_load_row rfl 150 (.tmp 5) rfl r rfl 150 (ruleL v.k v.a (.slice an ns.length cn) (.slice ac cs.length cc)).toArray (0, 0) _ U9.out.kq.blk Tryz.underlying150 rfl (ruleL_size _ _ _ _) ?_) | (refine at_op' (.store 150 (.tmp 4) (.tmp 29)) rfl ?_; refine wpList_store_row rfl 150 (.tmp 4) (.tmp 29) rfl w.heap.size (ruleL v.k v.a (.slice an ns.length cn) (.slice ac cs.length cc)).toArray rfl rfl 150 _ U9.out.kq.kr.blk (ruleL_size _ _ _ _) rfl (ruleL_one (owns_cell U9.out.nm) (owns_cell U9.out.cd)) ?_))
     obtain ⟨R1, R2, R3⟩ := U9.out.row (ruleL v.k v.a (.slice an ns.length cn) (.slice ac cs.length cc))
     refine bodyPost_ret (v := .agg (ruleL v.k v.a (.slice an ns.length cn) (.slice ac cs.length cc)).toArray) ?_ rfl ⟨R1.bt, .inr ⟨⟨v, ns, cs⟩, _, _, _, hm9, HJ.out, rfl, R1.rd, R2, R3, HE.out⟩⟩
     exact results_cell_row Tryz.results72 _ _ w.heap.size 150 (ruleL v.k v.a (.slice an ns.length cn) (.slice ac cs.length cc)).toArray (0, 0) _ rfl R1.blk Tryz.underlying150 rfl (ruleL_size _ _ _ _)
    ·rw [h6] at hsm
     have HE : Hid (∀ d rs, rs.length = j -> run (.s4 d rs) (ts.drop n) = .error (7, ts[m6].at')) := fun d rs hl => (HE6.out d rs hl).trans (s13_no hm6 HC6.out h6 d rs v ns cs)
     refine (must_no _ b g cap m6 ts A7.out.rd hm6 _ hsm.symm).mono ?_
     unfold flt
     rintro e w9 ⟨rfl, b9⟩
     go_wp2_with fail
     exact ⟨rfl, ruR_flt (A7.out.over b9).bt HE.out⟩
  ·rw [h5] at hwh
   refine (passIf_no _ b g cap m3 ts A4.out.rd hm3 _ hwh.symm).mono ?_
   rintro e w5 ⟨rfl, b5⟩
   have A5 : Hid (Ku w b g cap ts m3 r v.k v.a (.slice an ns.length cn) ns (.slice none 0 0) [] w5) := A4.out.over b5
   have HC5 : Hid (isW ts[m3] wWhen = false) := h5
   clear b5 A4 h5 hwh
   go_wp2_with fail
   have hsm := semi_at HT.out m3 hm3
   rcases Bool.eq_false_or_eq_true (isS ts[m3] [59]) with h6 | h6
   ·rw [h6] at hsm
    have hm9 := HT.out.nx m3 hm3 (isS_4 h6)
    have HE : Hid (∀ d rs, rs.length = j -> run (.s4 d rs) (ts.drop n) = run (.s4 d (rs ++ [⟨v, ns, []⟩])) (ts.drop (m3 + 1))) := fun d rs hl => (HE3.out d rs hl).trans (s7_semi hm3 HC3.out HC5.out h6 d rs v ns)
    refine (must_ok _ b g cap m3 ts A5.out.rd hm3 hm9 _ hsm.symm).mono ?_
    rintro e w9 ⟨rfl, b9, P9⟩
    have U9 : Hid (Ku w b g cap ts (m3 + 1) r v.k v.a (.slice an ns.length cn) ns (.slice none 0 0) [] w9) := A5.out.on b9 P9
    clear b9 P9
    go_wp2_with (first | (refine at_op' (.load 150 (.tmp 5)) rfl ?_; refine wpList_load_row rfl 150 (.tmp 5) rfl r rfl 150 (ruleL v.k v.a (.slice an ns.length cn) (.slice none 0 0)).toArray (0, 0) _ U9.out.kq.blk Tryz.underlying150 rfl (ruleL_size _ _ _ _) ?_) | (refine at_op' (.store 150 (.tmp 4) (.tmp 29)) rfl ?_; refine wpList_store_row rfl 150 (.tmp 4) (.tmp 29) rfl w.heap.size (ruleL v.k v.a (.slice an ns.length cn) (.slice none 0 0)).toArray rfl rfl 150 _ U9.out.kq.kr.blk (ruleL_size _ _ _ _) rfl (ruleL_one (owns_cell U9.out.nm) (owns_cell U9.out.cd)) ?_))
    obtain ⟨R1, R2, R3⟩ := U9.out.row (ruleL v.k v.a (.slice an ns.length cn) (.slice none 0 0))
    refine bodyPost_ret (v := .agg (ruleL v.k v.a (.slice an ns.length cn) (.slice none 0 0)).toArray) ?_ rfl ⟨R1.bt, .inr ⟨⟨v, ns, []⟩, _, _, _, hm9, HJ.out, rfl, R1.rd, R2, R3, HE.out⟩⟩
    exact results_cell_row Tryz.results72 _ _ w.heap.size 150 (ruleL v.k v.a (.slice an ns.length cn) (.slice none 0 0)).toArray (0, 0) _ rfl R1.blk Tryz.underlying150 rfl (ruleL_size _ _ _ _)
   ·rw [h6] at hsm
    have HE : Hid (∀ d rs, rs.length = j -> run (.s4 d rs) (ts.drop n) = .error (7, ts[m3].at')) := fun d rs hl => (HE3.out d rs hl).trans (s7_no hm3 HC3.out HC5.out h6 d rs v ns)
    refine (must_no _ b g cap m3 ts A5.out.rd hm3 _ hsm.symm).mono ?_
    unfold flt
    rintro e w9 ⟨rfl, b9⟩
    go_wp2_with fail
    exact ⟨rfl, ruR_flt (A5.out.over b9).bt HE.out⟩
theorem rule_any (w : World) (b g cap n : Nat) (ts : List Tok) (j : Nat) (hT : Tks ts) (h : Rd w b g cap ts n) (hn : n < ts.length) (h4 : ¬ ts[n].k = 4) :
  Calls Tryz.prog 72 #[.pointer (some ⟨b, 0, none⟩), .int .i64 j] w fun e w' => RuR w b g cap ts n j e w' := by
 by_cases hk : kindOf ts[n].t = 0
 ·exact rule_bad w b g cap n ts j hT h hn h4 hk
 by_cases hj : 64 <= j
 ·exact rule_full w b g cap n ts j hT h hn h4 hk hj
 rcases hR : actD (ts.drop n) with ⟨c1, p1⟩ | ⟨v, l⟩
 ·exact rule_act w b g cap n ts j hT h hn h4 hk (by omega) c1 p1 hR
 ·exact rule_rest w b g cap n ts j hT h hn h4 hk (by omega) v l hR
end Go.Proofs.YtmcgcbgblgmmkaaGreatDoor.P
