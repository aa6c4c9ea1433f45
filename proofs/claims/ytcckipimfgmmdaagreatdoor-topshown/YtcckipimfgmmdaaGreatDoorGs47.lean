/-
  TpBoth TpShw.
-/
import Derived.Test.YtcckipimfgmmdaaGreatDoorGs45
import Derived.Test.YtcckipimfgmmdaaGreatDoorGs46
set_option maxHeartbeats 4000000
namespace Go.Proofs.YtcckipimfgmmdaaGreatDoor
open P (ofR)
open Go.RowKit
def cvC (c : P.Xc) : P.Xc := ⟨c.arg, c.op, c.mask, c.val⟩
def cvL (x : P.Xl) : P.Xl := ⟨x.k, x.a, x.names, x.conds.map cvC⟩
def cvR (x : P.Xr) : P.Xr := ⟨cvL x.r, x.vn, x.vc⟩
theorem cvC_inj {a b : P.Xc} (h : cvC a = cvC b) : a = b := by
 obtain ⟨a1, a2, a3, a4⟩ := a
 obtain ⟨b1, b2, b3, b4⟩ := b
 unfold cvC at h
 simp at h
 simp [h]
theorem map_inj {α β : Type} {f : α -> β} (hf : ∀ a b, f a = f b -> a = b) : ∀ (l m : List α), l.map f = m.map f -> l = m
 | [], [], _ => rfl
 | [], _ :: _, h => by cases h
 | _ :: _, [], h => by cases h
 | a :: l, b :: m, h => by
  simp only [List.map_cons, List.cons.injEq] at h
  rw [hf _ _ h.1, map_inj hf l m h.2]
theorem cvL_inj {x y : P.Xl} (h : cvL x = cvL y) : x = y := by
 obtain ⟨a1, a2, a3, a4⟩ := x
 obtain ⟨b1, b2, b3, b4⟩ := y
 unfold cvL at h
 simp only [P.Xl.mk.injEq] at h
 obtain ⟨h1, h2, h3, h4⟩ := h
 rw [h1, h2, h3, map_inj (fun _ _ => cvC_inj) _ _ h4]
theorem cv_rlR {w : World} {v : Value} {l : List P.Xr} (h : P.RlR w v l) : P.RlR w v (l.map cvR) := by
 obtain ⟨a, cap, rfl, h1, h2, hc, hr⟩ := h
 refine ⟨a, cap, by rw [List.length_map], by rw [List.length_map]; exact h1, h2, fun h0 => ?_, fun x hx => ?_⟩
 ·obtain ⟨b, o, rfl, hx⟩ := hc (by rw [List.length_map] at h0; exact h0)
  refine ⟨b, o, rfl, fun i x hi => ?_⟩
  rw [List.getElem?_map] at hi
  cases hj : l[i]? with
  | none => rw [hj] at hi; cases hi
  | some y => rw [hj] at hi; cases hi; exact hx i y hj
 ·obtain ⟨y, hy, rfl⟩ := List.mem_map.1 hx
  obtain ⟨s1, ⟨a', cap', e, q1, q2, qc⟩⟩ := hr y hy
  refine ⟨s1, a', cap', by show y.vc = Value.slice a' (y.r.conds.map cvC).length cap'; rw [List.length_map]; exact e, by show (y.r.conds.map cvC).length <= cap'; rw [List.length_map]; exact q1, q2, fun h0 => ?_⟩
  obtain ⟨b, o, rfl, hx⟩ := qc (by have : 0 < (y.r.conds.map cvC).length := h0; rw [List.length_map] at this; exact this)
  refine ⟨b, o, rfl, fun i x hi => ?_⟩
  have hi' : (y.r.conds.map cvC)[i]? = some x := hi
  rw [List.getElem?_map] at hi'
  cases hj : y.r.conds[i]? with
  | none => rw [hj] at hi'; cases hi'
  | some z => rw [hj] at hi'; cases hi'; exact hx i z hj
theorem cv_map (l : List P.Xr) : (l.map cvR).map P.Xr.r = (l.map P.Xr.r).map cvL := by rw [List.map_map, List.map_map]; rfl
theorem cv_rule (x : P.Xl) : P.ruleB (cvL x) = P.ruleB x := by
 unfold P.ruleB
 try unfold P.ruleB
 unfold cvL
 simp only [List.length_map, List.all_map]
 rfl
theorem cv_rules (k a : Int) (l : List P.Xl) : P.rulesB k a (l.map cvL) = P.rulesB k a l := by
 unfold P.rulesB
 try unfold P.rulesB
 rw [List.length_map, List.all_map]
 have : (P.ruleB ∘ cvL) = P.ruleB := by funext x; exact cv_rule x
 rw [this]
 all_goals rfl
theorem cv_of (r : P.Rl) : cvL (ofR r) = P.ofR r := by
 unfold cvL ofR
 try unfold P.ofR
 simp only [List.map_map]
 rfl
theorem fit_u {z : P.Xc} (h : V.U64 z.mask /\ V.U64 z.val) : P.U64 (cvC z).mask /\ P.U64 (cvC z).val := by
 obtain ⟨⟨h1, h2⟩, h3, h4⟩ := h
 exact ⟨⟨h1, by show z.mask < 18446744073709551616; omega⟩, h3, by show z.val < 18446744073709551616; omega⟩
theorem back_of {k a : Int} {rs : List P.Xr} (h : P.rulesB k a (rs.map P.Xr.r) = true) (hf : Fits rs) : (((rs.map P.Xr.r).map cvL).map P.toR).map ofR = rs.map P.Xr.r /\ (k.toNat : Int) = k /\ (a.toNat : Int) = a := by
 have hB : P.rulesB k a ((rs.map P.Xr.r).map cvL) = true := by rw [cv_rules]; exact h
 unfold P.rulesB at hB
 simp only [Bool.and_eq_true, decide_eq_true_eq, List.all_eq_true] at hB
 refine ⟨?_, by have := P.actB_out hB.1.1; omega⟩
 rw [List.map_map, List.map_map]
 conv => rhs; rw [<- List.map_id (rs.map P.Xr.r)]
 apply List.map_congr_left
 intro x hx
 apply cvL_inj
 show cvL (ofR (P.toR (cvL x))) = cvL x
 rw [cv_of]
 refine P.ofR_toR ⟨hB.2 _ (List.mem_map.2 ⟨x, hx, rfl⟩), fun c hc => ?_⟩
 obtain ⟨y, hy, rfl⟩ := List.mem_map.1 hx
 obtain ⟨z, hz, rfl⟩ := List.mem_map.1 hc
 exact fit_u (hf y hy z hz)
theorem rules_of_chk {k a : Int} {l : List P.Xl} (h : (M.checkP k a l).1 = 0) : P.rulesB k a l = true := by
 unfold M.checkP at h
 cases hq : P.rulesB k a l with
 | false => rw [hq, if_neg (by decide)] at h; exact absurd h (by decide)
 | true => rfl
theorem few_lt {l : List P.Xr} (h : M.Lt l) : Few l := ⟨h.1, fun x hx => ⟨(h.2 x hx).1, (h.2 x hx).2.1, trivial⟩⟩
theorem textM (T : List Int) (w : World) (k a : Int) (v : Value) (l : List P.Xr) (h : P.RlR w v l) (hL : M.Lt l) (hf : Fits l) (hB : P.rulesB k a (l.map P.Xr.r) = true) (ht : P.Tb T w) :
  Calls Tryz.prog 16 #[.agg #[.int .i64 k, .int .i64 a, v]] w fun e w' => e = .returned (.tuple #[.string (P.bar (P.textT T k a ((l.map P.Xr.r).map cvL))), .int .i64 0]) /\ Below w.heap.size w w' := by
 have := P.text_yes T w k a v (l.map cvR) (cv_rlR h) (by rw [List.length_map]; have := hL.1; omega) (fun x hx => by
  obtain ⟨y, hy, rfl⟩ := List.mem_map.1 hx
  have h1 := (hL.2 y hy).1
  have h2 := (hL.2 y hy).2.1
  exact ⟨by show y.r.names.length <= 9000000; omega, by show (y.r.conds.map cvC).length <= 9000000; rw [List.length_map]; omega⟩) (by rw [cv_map, cv_rules]; exact hB) (fun x hx => by
  obtain ⟨y, hy, rfl⟩ := List.mem_map.1 hx
  refine ⟨fun s hs => by have := (hL.2 y hy).2.2 s hs; omega, fun c hc => ?_⟩
  obtain ⟨z, hz, rfl⟩ := List.mem_map.1 hc
  exact fit_u (hf y hy z hz)) ht
 rw [cv_map] at this
 exact this
theorem textN (w : World) (k a : Int) (v : Value) (l : List P.Xr) (h : P.RlR w v l) (hL : M.Lt l) (hB : P.rulesB k a (l.map P.Xr.r) = false) :
  Calls Tryz.prog 16 #[.agg #[.int .i64 k, .int .i64 a, v]] w fun e w' => e = .returned (.tuple #[.string ⟨#[]⟩, .int .i64 1]) /\ Below w.heap.size w w' :=
 P.text_no w k a v (l.map cvR) (cv_rlR h) (by rw [List.length_map]; have := hL.1; omega) (fun x hx => by
  obtain ⟨y, hy, rfl⟩ := List.mem_map.1 hx
  have h1 := (hL.2 y hy).1
  have h2 := (hL.2 y hy).2.1
  exact ⟨by show y.r.names.length <= 9000000; omega, by show (y.r.conds.map cvC).length <= 9000000; rw [List.length_map]; omega⟩) (by rw [cv_map, cv_rules]; exact hB)
theorem prs_back (T : List Int) {k a : Int} {rs : List P.Xr} (h : P.rulesB k a (rs.map P.Xr.r) = true) (hf : Fits rs) (hlen : (P.textT T k a ((rs.map P.Xr.r).map cvL)).length <= 8192) :
  P.prs (P.textT T k a ((rs.map P.Xr.r).map cvL)) = .ok (⟨k.toNat, a.toNat⟩, ((rs.map P.Xr.r).map cvL).map P.toR) :=
 P.prs_text T (by rw [cv_rules]; exact h) (fun x hx c hc => by
  obtain ⟨y, hy, rfl⟩ := List.mem_map.1 hx
  obtain ⟨u, hu, rfl⟩ := List.mem_map.1 hy
  obtain ⟨z, hz, rfl⟩ := List.mem_map.1 hc
  exact fit_u (hf u hu z hz)) hlen
theorem parse_back (T : List Int) {k a : Int} {rs : List P.Xr} (h : P.rulesB k a (rs.map P.Xr.r) = true) (hf : Fits rs) (hlen : (P.textT T k a ((rs.map P.Xr.r).map cvL)).length <= 8192) (w : World) (hv : P.Vars w) :
  Calls Tryz.prog 6 #[.string (P.bar (P.textT T k a ((rs.map P.Xr.r).map cvL)))] w fun e w' => ∃ p c l, e = .returned (.tuple #[.agg #[.int .i64 k, .int .i64 a, .slice p l.length c], .int .i64 0, .int .i64 (-1)]) /\ Below w.heap.size w w' /\ l.map P.Xr.r = rs.map P.Xr.r /\ P.RlR w' (.slice p l.length c) l /\ Few l /\ Fits l := by
 refine (parseM (P.bar (P.textT T k a ((rs.map P.Xr.r).map cvL))) w hv).mono ?_
 rintro e w' ⟨hb, hp⟩
 obtain ⟨b1, b2, b3⟩ := back_of h hf
 rw [P.lst_bar, prs_back T h hf hlen] at hp
 obtain ⟨v, l, h1, rfl, h3, h4, h5⟩ := hp
 obtain ⟨p, c, rfl⟩ : ∃ p c, v = .slice p l.length c := by obtain ⟨p, c, e, _⟩ := h3; exact ⟨p, c, e⟩
 exact ⟨p, c, l, by show Ending.returned (.tuple #[.agg #[.int .i64 (k.toNat : Int), .int .i64 (a.toNat : Int), .slice p l.length c], .int .i64 0, .int .i64 (-1)]) = _; rw [b2, b3], hb, h1.trans b1, h3, h4, h5⟩
theorem nums_map (l m : List P.Xr) (h : l.map P.Xr.r = m.map P.Xr.r) : ∀ z, z ∈ M.numsR l ↔ z ∈ M.numsR m := by
 have e : ∀ l : List P.Xr, M.numsR l = M.numsR ((l.map P.Xr.r).map fun r => ⟨r, .nilFunc, .nilFunc⟩) := by
  intro l
  induction l with
  | nil => rfl
  | cons x l ih =>
   unfold M.numsR at ih ⊢
   simp only [List.map_cons, List.flatMap_cons] at ih ⊢
   rw [ih]
 rw [e l, e m, h]
 exact fun _ => Iff.rfl
theorem nrs_one {ns ns' : List Int} {rs rs' : List P.Xr} (h : Nrs ns rs) (h' : Nrs ns' rs') (he : rs.map P.Xr.r = rs'.map P.Xr.r) : ns = ns' := by
 have hp : ns.Perm ns' := (List.perm_ext_iff_of_nodup h.nodup h'.nodup).2 fun z => ((h.mem z).trans (nums_map rs rs' he z)).trans (h'.mem z).symm
 exact List.Perm.eq_of_pairwise (le := fun a b => a < b) (fun a b _ _ h1 h2 => by omega) h.rise h'.rise hp
def cvI (x : V.In) : V.In := ⟨x.c, x.t, x.f, x.k⟩
theorem cv_ins {w : World} {a : Option Addr} {n : Nat} {l : List V.In} (h : V.Ins w a n l) : V.Ins w a n (l.map cvI) := by
 refine ⟨by rw [List.length_map]; exact h.1, fun x hx => by obtain ⟨y, hy, rfl⟩ := List.mem_map.1 hx; exact h.2.1 y hy, fun h0 => ?_⟩
 obtain ⟨b, o, rfl, hx⟩ := h.2.2 h0
 refine ⟨b, o, rfl, fun i x hi => ?_⟩
 rw [List.getElem?_map] at hi
 cases hj : l[i]? with
 | none => rw [hj] at hi; cases hi
 | some y => rw [hj] at hi; cases hi; exact hx i y hj
theorem cells_cv (l : List V.In) : V.cellsI (l.map cvI) = V.cellsI l := by
 unfold V.cellsI
 try unfold V.cellsI
 rw [List.flatMap_map]
 rfl
theorem bytesM (a : Option Addr) (cap : Nat) (l : List V.In) (w : World) (hl : l.length <= 4096) (h : V.Ins w a l.length l) :
  Calls Tryz.prog 18 #[.slice a l.length cap] w fun e w' => Below w.heap.size w w' /\ ∃ p c, e = .returned (.slice p (l.length * 8) c) /\ I.Bs w' p (l.length * 8) (I.encAll (l.map cvI)) /\ l.length * 8 <= c := by
 refine (I.bytes_any a l.length cap (l.map cvI) w (by omega) (cv_ins h)).mono ?_
 rintro e w' ⟨hb, v, rfl, ho⟩
 obtain ⟨p, c, rfl, h1, h2, _⟩ := I.owns_bs ho (I.encAll_byt _ (cv_ins h).2.1)
 exact ⟨hb, p, c, rfl, h1, h2⟩
theorem allM (p : Option Addr) (c : Nat) (l : List V.In) (w : World) (hl : l.length <= 4096) (hok : ∀ x ∈ l, x.ok) (hb : I.Bs w p (l.length * 8) (I.encAll (l.map cvI))) (hc : l.length * 8 <= c) :
  Calls Tryz.prog 17 #[.slice p (l.length * 8) c] w fun e w' => Below w.heap.size w w' /\ ∃ q d, e = .returned (.tuple #[.slice q l.length d, .int .i64 0]) /\ V.Ins w' q l.length l := by
 have hok' : ∀ x ∈ l.map cvI, x.ok := fun x hx => by obtain ⟨y, hy, rfl⟩ := List.mem_map.1 hx; exact hok y hy
 refine (I.all_any p (l.length * 8) c _ w (by omega) hc hb).mono ?_
 rintro e w' ⟨hb', v, rfl, ho⟩
 have e1 : I.decAll (I.encAll (l.map cvI)) = l.map cvI := by
  unfold I.decAll
  have hlen := I.encAll_len (l.map cvI)
  rw [if_pos (by omega), hlen, Nat.mul_div_cancel _ (by decide)]
  exact I.decN_encAll _ hok'
 rw [e1, List.length_map, cells_cv] at ho
 have e2 : I.errAll (l.length * 8) = 0 := by unfold I.errAll; rw [if_pos (by omega)]
 obtain ⟨q, d, rfl, h1⟩ := V.owns_ins ho hok
 exact ⟨hb', q, d, by rw [e2], h1⟩
open V (below_new)
def sameI (x y : V.In) : Bool := x.c == y.c && x.t == y.t && x.f == y.f && x.k == y.k
theorem sameI_self (x : V.In) : sameI x x = true := by simp [sameI]
theorem equalIn_in (x y : V.In) (w : World) : (Op.equalIn 10000 60 x.val y.val).run Tryz.prog w = .ok (sameI x y) w := by
 have u22 := Tryz.underlying58
 have a22 := Tryz.isAgg58
 have z22 := Tryz.sizeOf58
 have u5 := Tryz.underlying5
 have a5 := Tryz.isAgg5
 have z5 := Tryz.sizeOf5
 have u25 := Tryz.underlying23
 have a25 := Tryz.isAgg23
 have z25 := Tryz.sizeOf23
 have hS : Tryz.prog.underlying 60 = some (.struct (Tryz.prog.fieldsOf 60)) := by kernel_rfl
 have hp : Tryz.prog.stoodInHeld 60 = false := by kernel_rfl
 unfold V.In.val
 rw [show (10000 : Nat) = 9999 + 1 from rfl, run_equalIn_agg w 9999 60 _ _ hS hp]
 simp only [Program.fieldsOf, Tryz.underlying60]
 go_simp
 obtain ⟨a, b, c, d⟩ := x
 obtain ⟨a', b', c', d'⟩ := y
 unfold sameI
 by_cases h1 : a = a' <;> by_cases h2 : b = b' <;> by_cases h3 : c = c' <;> by_cases h4 : d = d' <;> simp [h1, h2, h3, h4]
theorem neq_in (x y : V.In) (w : World) : (binOp .neq 60 x.val y.val).run Tryz.prog w = .ok (.bool (!sameI x y)) w := by
 unfold V.In.val
 rw [run_neq_struct]
 have := equalIn_in x y w
 unfold V.In.val at this
 rw [this]
 rfl
theorem bel_drewN (w : World) (n : Nat) : Below w.heap.size w (w.drewN n) := ⟨rfl, rfl, rfl, Nat.le_refl _, fun _ _ => rfl⟩
def CmQ (w : World) (k a : Int) (rs : List P.Xr) (e : Ending) (w' : World) : Prop :=
 ∃ v er, e = .returned (.tuple #[v, .int .i64 er]) /\ Below w.heap.size w w' /\
  (er ≠ 0 \/ (er = 0 /\ (M.checkP k a (rs.map P.Xr.r)).1 = 0 /\ ∃ ns q c, Nrs ns rs /\ v = .slice q (progI ns k a (rs.map P.Xr.r)).length c /\ V.Ins w' q (progI ns k a (rs.map P.Xr.r)).length (progI ns k a (rs.map P.Xr.r)) /\ Pgm k a (rs.map P.Xr.r) (progI ns k a (rs.map P.Xr.r))))
theorem CmT.q {w w' : World} {k a : Int} {rs : List P.Xr} {e : Ending} (h : CmT w k a rs e w') : CmQ w k a rs e w' := by
 obtain ⟨v, er, rfl, hb, ⟨h1, rfl, rfl⟩ | ⟨h0, hR, ns, hn, ⟨h1, rfl, rfl⟩ | ⟨h1, rfl, ho⟩⟩⟩ := h
 ·exact ⟨_, _, rfl, hb, .inl h1⟩
 ·exact ⟨_, _, rfl, hb, .inl (by decide)⟩
 ·obtain ⟨q, c, rfl, hi⟩ := own_ins ho (pgm_of hR hn h1).ok
  exact ⟨_, _, rfl, hb, .inr ⟨rfl, h0, ns, q, c, hn, rfl, hi, pgm_of hR hn h1⟩⟩
theorem compile2 (w : World) (k a : Int) (v : Value) (l rs : List P.Xr) (ns : List Int) (h : P.RlR w v l) (hF : Few l) (hf : Fits l) (he : l.map P.Xr.r = rs.map P.Xr.r) (h0 : (M.checkP k a (rs.map P.Xr.r)).1 = 0) (hn : Nrs ns rs) (h4 : (progI ns k a (rs.map P.Xr.r)).length <= 4096) :
  Calls Tryz.prog 7 #[.agg #[.int .i64 k, .int .i64 a, v]] w fun e w' => ∃ q c, e = .returned (.tuple #[.slice q (progI ns k a (rs.map P.Xr.r)).length c, .int .i64 0]) /\ Below w.heap.size w w' /\ V.Ins w' q (progI ns k a (rs.map P.Xr.r)).length (progI ns k a (rs.map P.Xr.r)) := by
 refine (compile_any w k a v l h hF hf).mono ?_
 rintro e w' ⟨v', er, rfl, hb, ⟨h1, _, _⟩ | ⟨_, hR, ns', hn', ⟨h1, _, _⟩ | ⟨h1, rfl, ho⟩⟩⟩
 ·rw [he] at h1
  exact absurd h0 h1
 ·rw [he, <- nrs_one hn hn' he.symm] at h1
  omega
 ·obtain ⟨q, c, rfl, hi⟩ := own_ins ho (pgm_of hR hn' h1).ok
  rw [he, <- nrs_one hn hn' he.symm] at hi ⊢
  exact ⟨q, c, rfl, hb, hi⟩
theorem textA (T : List Int) (w : World) (k a : Int) (v : Value) (l : List P.Xr) (h : P.RlR w v l) (hL : M.Lt l) (hf : Fits l) (ht : P.Tb T w) :
  Calls Tryz.prog 16 #[.agg #[.int .i64 k, .int .i64 a, v]] w fun e w' => ∃ s f, e = .returned (.tuple #[.string s, .int .i64 f]) /\ Below w.heap.size w w' := by
 cases hB : P.rulesB k a (l.map P.Xr.r) with
 | true => exact (textM T w k a v l h hL hf hB ht).mono fun e w' ⟨h1, h2⟩ => ⟨_, _, h1, h2⟩
 | false => exact (textN w k a v l h hL hB).mono fun e w' ⟨h1, h2⟩ => ⟨_, _, h1, h2⟩
set_option linter.unusedSimpArgs false in
set_option maxRecDepth 8000 in
theorem shown_walk (T : List Int) (w : World) (k a : Int) (v : Value) (rs : List P.Xr) (d : V.Da) (hv : P.Vars w) (ht : P.Tb T w) (h : P.RlR w v rs) (hf : Fits rs) (hd : d.ok) :
  Calls Tryz.prog 4 #[.agg #[.int .i64 k, .int .i64 a, v], .agg d.cells.toArray] w fun e w' => e = .returned (.bool true) /\ Below w.heap.size w w' := by
 obtain ⟨p1, c1, rfl⟩ : ∃ p c, v = .slice p rs.length c := by obtain ⟨p, c, e, _⟩ := h; exact ⟨p, c, e⟩
 have HRu : Hid (∀ W q n c (l : List V.In), n <= 4096 -> V.Ins W q n l -> V.errV l = 0 -> Calls Tryz.prog 20 #[.slice q n c, .agg d.cells.toArray] W fun e w' => e = .returned (.tuple #[.int .u32 (V.ansV l (toV d)), .int .i64 ((V.plV l (toV d)).length : Nat), .int .i64 0]) /\ Below W.heap.size W w') := fun W q n c l h1 h2 h3 => by
  have := V.run_any q n c l (toV d) W (by unfold maxLen; omega) h2 hd
  unfold V.RunTold at this
  rw [h3] at this
  exact this
 obtain ⟨d1v, d2v, d3v, d4v, d5v, d6v, d7v, d8v, hAA⟩ := M.nine_of d hd
 rw [hAA] at HRu ⊢
 generalize hdn : d.n = dn at *
 clear hdn hAA
 have BE : Hid (Below w.heap.size w ((w.alloc (Obj.cells #[.int .i64 k, .int .i64 a, .slice p1 rs.length c1] 39)).alloc (Obj.cells #[.int .u32 dn, d1v, d2v, d3v, d4v, d5v, d6v, d7v, d8v] 27))) := ((Below.refl _ _).alloc (Nat.le_refl _) _).alloc (by simp) _
 have K0 : Hid (P.Blk ((w.alloc (Obj.cells #[.int .i64 k, .int .i64 a, .slice p1 rs.length c1] 39)).alloc (Obj.cells #[.int .u32 dn, d1v, d2v, d3v, d4v, d5v, d6v, d7v, d8v] 27)) w.heap.size 39 [.int .i64 k, .int .i64 a, .slice p1 rs.length c1]) := (P.blk_new w _ 39).over (below_new _ _)
 have K1 : Hid (P.Blk ((w.alloc (Obj.cells #[.int .i64 k, .int .i64 a, .slice p1 rs.length c1] 39)).alloc (Obj.cells #[.int .u32 dn, d1v, d2v, d3v, d4v, d5v, d6v, d7v, d8v] 27)) (w.heap.size + 1) 27 [.int .u32 dn, d1v, d2v, d3v, d4v, d5v, d6v, d7v, d8v]) := by
  have := P.blk_new (w.alloc (Obj.cells #[.int .i64 k, .int .i64 a, .slice p1 rs.length c1] 39)) #[.int .u32 dn, d1v, d2v, d3v, d4v, d5v, d6v, d7v, d8v] 27
  rw [P.size_alloc'] at this
  exact this
 have HX0 : Hid (∀ W, Below w.heap.size w W -> P.RlR W (.slice p1 rs.length c1) rs /\ P.Vars W /\ P.Tb T W) := fun W hW => ⟨h.below hW, hv.below hW, ht.below hW⟩
 have HF : Hid (Fits rs) := hf
 clear h hv ht hf hd
 go_enter Tryz.func4, Tryz.ntmps4
 go_upto_region 1 with fail
 generalize ((w.alloc (Obj.cells #[.int .i64 k, .int .i64 a, .slice p1 rs.length c1] 39)).alloc (Obj.cells #[.int .u32 dn, d1v, d2v, d3v, d4v, d5v, d6v, d7v, d8v] 27)) = X1 at *
 generalize w.heap.size + 1 = N1 at *
 have HT : Hid (∀ W, Below X1.heap.size X1 W -> Below w.heap.size w W) := fun W hW => BE.out.trans (hW.mono BE.out.size)
 have HX : Hid (∀ W, Below X1.heap.size X1 W -> W.cell? ⟨w.heap.size, 0, none⟩ = some (.int .i64 k) /\ W.cell? ⟨w.heap.size, 1, none⟩ = some (.int .i64 a) /\ W.cell? ⟨w.heap.size, 2, none⟩ = some (.slice p1 rs.length c1) /\ P.RlR W (.slice p1 rs.length c1) rs) := fun W hW => ⟨(K0.out.over hW).cell 0, (K0.out.over hW).cell 1, (K0.out.over hW).cell 2, (HX0.out W (HT.out W hW)).1⟩
 have HKd : Hid (∀ W, Below X1.heap.size X1 W -> P.Blk W N1 27 [.int .u32 dn, d1v, d2v, d3v, d4v, d5v, d6v, d7v, d8v]) := fun W hW => K1.out.over hW
 go_upto_region 3 with (first
  | (go_at_call 5; refine (awake_any _ (HX0.out _ BE.out).2.1).mono ?_; rintro e w1 ⟨rfl, b1⟩; obtain ⟨q0, q1, q2, r1⟩ := HX.out _ b1)
  | (go_at_call 15; refine (M.light_any _ k a _ rs r1).mono ?_; rintro e w2 ⟨bb, rfl, b2, hbb⟩))
 have B2 : Hid (Below X1.heap.size X1 w2) := b1.trans (b2.mono b1.size)
 clear q0 q1 q2 r1 b1 b2 K0 K1
 cases bb with
 | false =>
  go_wp2_with fail
  go_ret
  exact ⟨rfl, HT.out _ B2.out⟩
 | true =>
  have HLt : Hid (M.Lt rs) := hbb rfl
  clear hbb
  obtain ⟨q0, q1, q2, r2⟩ := HX.out _ B2.out
  have HC2 : Hid (Calls Tryz.prog 7 #[.agg #[.int .i64 k, .int .i64 a, .slice p1 rs.length c1]] w2 fun e w' => CmQ w2 k a rs e w') := (compile_any w2 k a _ rs r2 (few_lt HLt.out) HF.out).mono fun _ _ h => h.q
  clear r2
  go_upto_region 6 with (first | (go_at_call 7; refine HC2.out.mono ?_; rintro e w3 ⟨v3, er, rfl, b3, hcase⟩))
  have B3 : Hid (Below X1.heap.size X1 w3) := B2.out.trans (b3.mono B2.out.size)
  clear q0 q1 q2 b3 HC2
  obtain ⟨q0, q1, q2, r3⟩ := HX.out _ B3.out
  rcases hcase with her | ⟨rfl, h0, ns, qa, qc, hn, rfl, hi, pg⟩
  ·have hc1 : (er == 0) = false := by rw [beq_eq_false_iff_ne]; exact her
   have hc2 : (er != 0) = true := by rw [bne, hc1]; rfl
   have HTx : Hid (Calls Tryz.prog 16 #[.agg #[.int .i64 k, .int .i64 a, .slice p1 rs.length c1]] w3 fun e w' => ∃ s f, e = .returned (.tuple #[.string s, .int .i64 f]) /\ Below w3.heap.size w3 w') := textA T w3 k a _ rs r3 HLt.out HF.out (HX0.out _ (HT.out _ B3.out)).2.2
   clear r3
   go_wp2_with (first | (go_at_call 16; refine HTx.out.mono ?_; rintro e w4 ⟨s4, f4, rfl, b4⟩))
   go_ret
   exact ⟨rfl, HT.out _ (B3.out.trans (b4.mono B3.out.size))⟩
  ·have HB : Hid (P.rulesB k a (rs.map P.Xr.r) = true) := rules_of_chk h0
   have HTx : Hid (Calls Tryz.prog 16 #[.agg #[.int .i64 k, .int .i64 a, .slice p1 rs.length c1]] w3 fun e w' => e = .returned (.tuple #[.string (P.bar (P.textT T k a ((rs.map P.Xr.r).map cvL))), .int .i64 0]) /\ Below w3.heap.size w3 w') := textM T w3 k a _ rs r3 HLt.out HF.out HB.out (HX0.out _ (HT.out _ B3.out)).2.2
   have HPa : Hid ((P.textT T k a ((rs.map P.Xr.r).map cvL)).length <= 8192 -> ∀ W, P.Vars W -> Calls Tryz.prog 6 #[.string (P.bar (P.textT T k a ((rs.map P.Xr.r).map cvL)))] W fun e w' => ∃ p c l, e = .returned (.tuple #[.agg #[.int .i64 k, .int .i64 a, .slice p l.length c], .int .i64 0, .int .i64 (-1)]) /\ Below W.heap.size W w' /\ l.map P.Xr.r = rs.map P.Xr.r /\ P.RlR w' (.slice p l.length c) l /\ Few l /\ Fits l) := fun hl W hW => parse_back T HB.out HF.out hl W hW
   have HC4 : Hid (∀ W v l, P.RlR W v l -> Few l -> Fits l -> l.map P.Xr.r = rs.map P.Xr.r -> Calls Tryz.prog 7 #[.agg #[.int .i64 k, .int .i64 a, v]] W fun e w' => ∃ q c, e = .returned (.tuple #[.slice q (progI ns k a (rs.map P.Xr.r)).length c, .int .i64 0]) /\ Below W.heap.size W w' /\ V.Ins w' q (progI ns k a (rs.map P.Xr.r)).length (progI ns k a (rs.map P.Xr.r))) := fun W v l h1 h2 h3 h4 => compile2 W k a v l rs ns h1 h2 h3 h4 h0 hn pg.len
   have HI3 : Hid (∀ W, Below w3.heap.size w3 W -> V.Ins W qa (progI ns k a (rs.map P.Xr.r)).length (progI ns k a (rs.map P.Xr.r))) := fun W hW => hi.below hW
   have HPg : Hid ((V.chk (progI ns k a (rs.map P.Xr.r))).1 = 0 /\ (∀ x ∈ progI ns k a (rs.map P.Xr.r), x.ok) /\ (progI ns k a (rs.map P.Xr.r)).length <= 4096) := ⟨pg.chk, pg.ok, pg.len⟩
   clear r3 h0 hn hi pg HB
   generalize progI ns k a (rs.map P.Xr.r) = pr at *
   generalize P.textT T k a ((rs.map P.Xr.r).map cvL) = TX at *
   have h4096 := HPg.out.2.2
   go_upto_region 7 with (first | (go_at_call 16; refine HTx.out.mono ?_; rintro e w4 ⟨rfl, b4⟩))
   have B4 : Hid (Below X1.heap.size X1 w4) := B3.out.trans (b4.mono B3.out.size)
   have B34 : Hid (Below w3.heap.size w3 w4) := b4
   clear q0 q1 q2 b4 HTx
   by_cases hlen : TX.length <= 8192
   ·have hsz : ¬ 8192 < ((P.bar TX).size : Int) := by rw [P.bar_size]; omega
    have HP4 : Hid (Calls Tryz.prog 6 #[.string (P.bar TX)] w4 fun e w' => ∃ p c l, e = .returned (.tuple #[.agg #[.int .i64 k, .int .i64 a, .slice p l.length c], .int .i64 0, .int .i64 (-1)]) /\ Below w4.heap.size w4 w' /\ l.map P.Xr.r = rs.map P.Xr.r /\ P.RlR w' (.slice p l.length c) l /\ Few l /\ Fits l) := HPa.out hlen w4 (HX0.out _ (HT.out _ B4.out)).2.1
    clear HPa hlen
    go_upto_region 10 with (first | (go_at_call 6; refine HP4.out.mono ?_; rintro e w5 ⟨p5, c5, l5, rfl, b5, e5, r5, f5, g5⟩))
    have B5 : Hid (Below w3.heap.size w3 (w5.alloc (Obj.cells #[.int .i64 k, .int .i64 a, .slice p5 l5.length c5] 39))) := (B34.out.trans (b5.mono B34.out.size)).alloc (B34.out.trans (b5.mono B34.out.size)).size _
    have HC5 : Hid (Calls Tryz.prog 7 #[.agg #[.int .i64 k, .int .i64 a, .slice p5 l5.length c5]] (w5.alloc (Obj.cells #[.int .i64 k, .int .i64 a, .slice p5 l5.length c5] 39)) fun e w' => ∃ q c, e = .returned (.tuple #[.slice q pr.length c, .int .i64 0]) /\ Below (w5.alloc (Obj.cells #[.int .i64 k, .int .i64 a, .slice p5 l5.length c5] 39)).heap.size (w5.alloc (Obj.cells #[.int .i64 k, .int .i64 a, .slice p5 l5.length c5] 39)) w' /\ V.Ins w' q pr.length pr) := HC4.out _ _ l5 (r5.below (below_new _ _)) f5 g5 e5
    clear b5 e5 r5 f5 g5 HC4 HP4
    go_upto_region 11 with (first | (go_at_call 7; refine HC5.out.mono ?_; rintro e w6 ⟨q6, c6, rfl, b6, i6⟩))
    have B6 : Hid (Below w3.heap.size w3 w6) := B5.out.trans (b6.mono B5.out.size)
    have HI6 : Hid (∀ W, Below w6.heap.size w6 W -> V.Ins W q6 pr.length pr) := fun W hW => i6.below hW
    have HX6 : Hid (∀ W, Below w6.heap.size w6 W -> Below X1.heap.size X1 W /\ V.Ins W qa pr.length pr) := fun W hW => ⟨B3.out.trans ((B6.out.trans (hW.mono B6.out.size)).mono B3.out.size), HI3.out W (B6.out.trans (hW.mono B6.out.size))⟩
    clear b6 i6 HC5 B5 B6 B34 B4
    have hnn : ((pr.length : Int) != (pr.length : Int)) = false := by simp
    go_wp2_with fail
    go_loopw [16] (fun vi wr => ∃ i : Nat, vi = .int .i64 i /\ i <= pr.length /\ Below w6.heap.size w6 wr) (fun vi _ => pr.length - (intOf vi).toNat)
    case atStart => exact ⟨0, rfl, Nat.zero_le _, Below.refl _ _⟩
    case round =>
     obtain ⟨i, rfl, hi2, hb⟩ := hrel
     have HBr : Hid (Below w6.heap.size w6 wr) := hb
     by_cases hlt : i < pr.length
     ·have hi1 : (i : Int) < (pr.length : Int) := by omega
      obtain ⟨b, off, rfl, hc⟩ := (HX6.out wr hb).2.2.2 (by omega)
      obtain ⟨b', off', rfl, hc'⟩ := (HI6.out wr hb).2.2 (by omega)
      obtain ⟨q1, q2, q3, q4⟩ := hc i pr[i] (List.getElem?_eq_getElem hlt)
      obtain ⟨s1, s2, s3, s4⟩ := hc' i pr[i] (List.getElem?_eq_getElem hlt)
      clear hc hc' hb
      generalize pr[i] = x at *
      have hq1 : ∀ W : World, (binOp .neq 60 x.val x.val).run Tryz.prog W = .ok (.bool false) W := fun W => by rw [neq_in, sameI_self]; rfl
      have hq2 : ∀ W : World, (Op.equalIn 10000 60 x.val x.val).run Tryz.prog W = .ok true W := fun W => by rw [equalIn_in, sameI_self]
      obtain ⟨xc, xt, xf, xk⟩ := x
      unfold V.In.val at *
      simp only at q1 q2 q3 q4 s1 s2 s3 s4
      go_wp2_with fail
      go_quiet (fail)
      go_wp2_with fail
      go_roundw
      case rel => exact ⟨i + 1, by go_num, hlt, HBr.out.trans ((bel_drewN _ _).mono HBr.out.size)⟩
      case measure => simp [intOf]; omega
     ·have hi1 : ¬ (i : Int) < (pr.length : Int) := by omega
      have hge : ¬ i < pr.length := hlt
      have HBy : Hid (Calls Tryz.prog 18 #[.slice qa pr.length qc] wr fun e w' => Below wr.heap.size wr w' /\ ∃ p c, e = .returned (.slice p (pr.length * 8) c) /\ I.Bs w' p (pr.length * 8) (I.encAll (pr.map cvI)) /\ pr.length * 8 <= c) := bytesM qa qc pr wr h4096 (HX6.out wr hb).2
      clear hb
      go_upto_region 19 with (first
       | (go_at_call 18; refine HBy.out.mono ?_; rintro e w7 ⟨b7, p7, c7, rfl, s7, n7⟩)
       | (go_at_call 17; refine (allM p7 c7 pr w7 h4096 HPg.out.2.1 s7 n7).mono ?_; rintro e w8 ⟨b8, q8, c8, rfl, i8⟩))
      have B8 : Hid (Below w6.heap.size w6 w8) := (HBr.out.trans (b7.mono HBr.out.size)).trans (b8.mono (HBr.out.trans (b7.mono HBr.out.size)).size)
      have HI8 : Hid (∀ W, Below w8.heap.size w8 W -> V.Ins W q8 pr.length pr) := fun W hW => i8.below hW
      have HCk : Hid (Calls Tryz.prog 19 #[.slice q8 pr.length c8] w8 fun e w' => V.Told w8 w' e (V.chk pr)) := V.check_any q8 pr.length c8 pr w8 (by unfold maxLen; omega) i8
      have HE : Hid (V.errV pr = 0) := HPg.out.1
      unfold V.Told at HCk
      rw [HPg.out.1] at HCk
      generalize (V.chk pr).2 = cz at *
      clear b7 s7 n7 b8 i8 HBy
      go_upto_region 20 with (first | (go_at_call 19; refine HCk.out.mono ?_; rintro e w9 ⟨rfl, b9⟩))
      have B9 : Hid (Below w6.heap.size w6 w9) := B8.out.trans (b9.mono B8.out.size)
      have HRa : Hid (Calls Tryz.prog 20 #[.slice q8 pr.length c8, .agg #[.int .u32 dn, d1v, d2v, d3v, d4v, d5v, d6v, d7v, d8v]] w9 fun e w' => e = .returned (.tuple #[.int .u32 (V.ansV pr (toV d)), .int .i64 ((V.plV pr (toV d)).length : Nat), .int .i64 0]) /\ Below w9.heap.size w9 w') := HRu.out w9 q8 pr.length c8 pr h4096 (HI8.out w9 b9) HE.out
      have HRb : Hid (∀ W, Below w9.heap.size w9 W -> Calls Tryz.prog 20 #[.slice qa pr.length qc, .agg #[.int .u32 dn, d1v, d2v, d3v, d4v, d5v, d6v, d7v, d8v]] W fun e w' => e = .returned (.tuple #[.int .u32 (V.ansV pr (toV d)), .int .i64 ((V.plV pr (toV d)).length : Nat), .int .i64 0]) /\ Below W.heap.size W w') := fun W hW => HRu.out W qa pr.length qc pr h4096 (HX6.out W (B9.out.trans (hW.mono B9.out.size))).2 HE.out
      generalize V.ansV pr (toV d) = av at *
      generalize (V.plV pr (toV d)).length = np at *
      have hKd := HKd.out w9 (HX6.out w9 B9.out).1
      have n0 := hKd.cell 0
      have n1 := hKd.cell 1
      have n2 := hKd.cell 2
      have n3 := hKd.cell 3
      have n4 := hKd.cell 4
      have n5 := hKd.cell 5
      have n6 := hKd.cell 6
      have n7 := hKd.cell 7
      have n8 := hKd.cell 8
      simp only [List.getElem?_cons_zero, List.getElem?_cons_succ] at n0 n1 n2 n3 n4 n5 n6 n7 n8
      clear hKd b9 HCk HI8
      go_upto_region 21 with (first | (go_at_call 20; refine HRa.out.mono ?_; rintro e w10 ⟨rfl, b10⟩))
      have HRc : Hid (Calls Tryz.prog 20 #[.slice qa pr.length qc, .agg #[.int .u32 dn, d1v, d2v, d3v, d4v, d5v, d6v, d7v, d8v]] w10 fun e w' => e = .returned (.tuple #[.int .u32 av, .int .i64 np, .int .i64 0]) /\ Below w10.heap.size w10 w') := HRb.out w10 b10
      have B10 : Hid (Below w6.heap.size w6 w10) := B9.out.trans (b10.mono B9.out.size)
      clear n0 n1 n2 n3 n4 n5 n6 n7 n8 b10 HRa HRb
      have hKd := HKd.out w10 (HX6.out w10 B10.out).1
      have n0 := hKd.cell 0
      have n1 := hKd.cell 1
      have n2 := hKd.cell 2
      have n3 := hKd.cell 3
      have n4 := hKd.cell 4
      have n5 := hKd.cell 5
      have n6 := hKd.cell 6
      have n7 := hKd.cell 7
      have n8 := hKd.cell 8
      simp only [List.getElem?_cons_zero, List.getElem?_cons_succ] at n0 n1 n2 n3 n4 n5 n6 n7 n8
      clear hKd
      have hav : (av == av) = true := by simp
      go_wp2_with (first | (go_at_call 20; refine HRc.out.mono ?_; rintro e w11 ⟨rfl, b11⟩))
      go_ret
      exact ⟨rfl, HT.out _ (HX6.out _ (B10.out.trans (b11.mono B10.out.size))).1⟩
   ·have hsz : 8192 < ((P.bar TX).size : Int) := by rw [P.bar_size]; omega
    clear HPa hlen HC4
    go_wp2_with fail
    go_ret
    exact ⟨rfl, HT.out _ B4.out⟩
end Go.Proofs.YtcckipimfgmmdaaGreatDoor
