/-
  GLate GMsRd0 GMsRdE GMsRdF.
-/
import Derived.Test.YtmcgcbgblgmmkaaGreatDoorQ6
import Derived.Test.YtmcgcbgblgmmkaaGreatDoorQ0
set_option maxRecDepth 100000
set_option maxHeartbeats 1600000
namespace Go.Proofs.YtmcgcbgblgmmkaaGreatDoor.G
section
variable {P : Program} {ops : Array Oper} {Q : Exit -> Act -> World -> Prop} {md : Region.Mode} {S : World -> Prop} {E : List Nat}
def wpAnyL (P : Program) (md : Region.Mode) (ops : Array Oper) (Q : Exit -> Act -> World -> Prop) (S : World -> Prop) (E : List Nat) : Nat -> Array Bool -> Act -> World -> Prop
 | 0, listed, a, w => Region.ready md ops listed = [] /\ Q .normal a w
 | fuel + 1, listed, a, w => (Region.ready md ops listed = [] -> Q .normal a w) /\ ∀ i ∈ Region.ready md ops listed, wpOp P ops Q i (fun a' w' => (E.contains i = false -> S w') /\ wpAnyL P md ops Q S E fuel (listed.setIfInBounds i true) a' w') a w
theorem wpAny_of_late : ∀ (fuel : Nat) (listed : Array Bool) (a : Act) (w : World), wpAnyL P md ops Q S E fuel listed a w -> wpAny P md ops Q fuel listed a w
 | 0, _, _, _, h => h
 | fuel + 1, _, _, _, h => ⟨h.1, fun i hi => wpOp_mono (fun a' w' h' => wpAny_of_late fuel _ a' w' h'.2) (h.2 i hi)⟩
def Waits (md : Region.Mode) (ops : Array Oper) (i : Nat) (D : List Nat) : Bool := D.all fun j => match ops[j]? with | some o => o.after.any (fun e => Region.binds md e && (e.on == i || D.contains e.on)) | none => false
def Unl (listed : Array Bool) (D : List Nat) : Bool := D.all fun j => !listed.getD j true
theorem unl_out {listed : Array Bool} {k : Nat} (h : listed.getD k true = false) : listed.getD k false = false := by
 rcases Nat.lt_or_ge k listed.size with h' | h'
 ·simp [h'] at h ⊢; exact h
 ·simp [Array.getElem?_eq_none h'] at h
theorem not_down {listed : Array Bool} {i j : Nat} {D : List Nat} (hi : listed.getD i true = false) (hD : ∀ d ∈ D, listed.getD d true = false) (hW : Waits md ops i D = true) (hj : j ∈ Region.ready md ops listed) : j ∉ D := by
 intro hjD
 obtain ⟨_, o, ho, hall⟩ := mem_ready.1 hj
 have h1 := List.all_eq_true.1 hW j hjD
 simp only [ho] at h1
 obtain ⟨k, hk, h2⟩ := Array.any_eq_true.1 h1
 rw [Bool.and_eq_true, Bool.or_eq_true] at h2
 have h3 := hall _ (Array.getElem_mem hk) h2.1
 rcases h2.2 with h4 | h4
 ·rw [eq_of_beq h4, unl_out hi] at h3
  cases h3
 ·rw [unl_out (hD _ (List.contains_iff_mem.1 h4))] at h3
  cases h3
theorem wpAnyL_first {i : Nat} {oi : Oper} {v : Value} {D : List Nat} (hi : ops[i]? = some oi) (hsel : ∀ (j : Nat) (o : Oper) cs b, ops[j]? = some o -> o.op ≠ .select cs b)
  (hQ : ∀ c a w, Q (.panic c) (a.put oi.dst v) w -> Q (.panic c) a w) (hW : Waits md ops i D = true) (hE : ∀ j, E.contains j = true -> j ∈ D) :
  ∀ (fuel : Nat) (listed : Array Bool) (a : Act) (w : World),
   (∀ j oj, ops[j]? = some oj -> j ≠ i -> listed.getD j true = false -> (∀ e ∈ oj.after, Region.binds md e = true -> e.on ≠ i) -> oi.apart ops oj = true) ->
   i ∈ Region.ready md ops listed -> (∀ d ∈ D, listed.getD d true = false) -> YieldsIf P ops S oi v a -> S w ->
   wpAnyL P md ops Q S E fuel (listed.setIfInBounds i true) (a.put oi.dst v) w -> wpAnyL P md ops Q S E (fuel + 1) listed a w := by
 intro fuel
 induction fuel with
 | zero =>
  intro listed a w _ hr _ hy hS H
  refine ⟨fun h => absurd hr (by rw [h]; exact List.not_mem_nil), fun j hj => ?_⟩
  by_cases hji : j = i
  ·subst hji
   exact hy.wpOp hi hS ⟨fun _ => hS, H⟩
  ·exact absurd (ready_mono hj hji) (by rw [H.1]; exact List.not_mem_nil)
 | succ fuel ih =>
  intro listed a w hfree hr hD hy hS H
  refine ⟨fun h => absurd hr (by rw [h]; exact List.not_mem_nil), fun j hj => ?_⟩
  by_cases hji : j = i
  ·subst hji
   exact hy.wpOp hi hS ⟨fun _ => hS, H⟩
  ·have hiu := (mem_ready.1 hr).1
   have hjD := not_down hiu hD hW hj
   have hjE : E.contains j = false := by
    cases hc : E.contains j with
    | false => rfl
    | true => exact absurd (hE j hc) hjD
   obtain ⟨hjun, oj, hoj, hall⟩ := mem_ready.1 hj
   have hnot : ∀ e ∈ oj.after, Region.binds md e = true -> e.on ≠ i := fun e he hb heq => by
    have h1 := hall e he hb
    rw [heq, unl_out hiu] at h1
    cases h1
   have h2 := wpOp_putIf hoj (hfree j oj hoj hji hjun hnot) (fun cs b => hsel i oi cs b hi) (fun cs b => hsel j oj cs b hoj) hQ hy (H.2 j (ready_mono hj hji))
   refine wpOp_mono (fun a' w' h3 => ⟨h3.2.1, ih (listed.setIfInBounds j true) a' w' (fun k ok hk hki hun hno => hfree k ok hk hki ?_ hno) (ready_mono hr (Ne.symm hji)) (fun d hd => ?_) h3.1 (h3.2.1 hjE) ?_⟩) h2
   ·by_cases hjk : j = k
    ·exact hjk ▸ hjun
    ·rw [getD_set_ne true hjk] at hun
     exact hun
   ·rw [getD_set_ne true (fun e : j = d => hjD (by rw [e]; exact hd))]
    exact hD d hd
   ·rw [Array.setIfInBounds_comm _ _ hji]
    exact h3.2.2
theorem wpAnyL_take {i : Nat} {oi : Oper} {v : Value} {fuel : Nat} {listed : Array Bool} {a : Act} {w : World} (D : List Nat) (hW : Waits md ops i D = true) (hE : E.all (D.contains ·) = true) (hD : Unl listed D = true) (hi : ops[i]? = some oi)
  (hs : Region.noSelect ops = true) (hf : Region.free md ops listed i = true) (hr : (Region.ready md ops listed).contains i = true)
  (hQ : ∀ c a w, Q (.panic c) (a.put oi.dst v) w -> Q (.panic c) a w) (hy : YieldsIf P ops S oi v a) (hS : S w)
  (h : wpAnyL P md ops Q S E fuel (listed.setIfInBounds i true) (a.put oi.dst v) w) : wpAnyL P md ops Q S E (fuel + 1) listed a w :=
 wpAnyL_first hi (Region.noSelect_spec hs) hQ hW (fun j hj => List.contains_iff_mem.1 (List.all_eq_true.1 hE j (List.contains_iff_mem.1 hj))) fuel listed a w (Region.free_spec hi hf) (List.contains_iff_mem.1 hr)
  (fun d hd => by have := List.all_eq_true.1 hD d hd; simpa using this) hy hS h
theorem wpAnyL_one {i fuel : Nat} {listed : Array Bool} {a : Act} {w : World} {o : Oper} (hr : Region.ready md ops listed = [i]) (ho : ops[i]? = some o)
  (h : ∀ K : Act -> World -> Prop, Shut (∀ a w, (E.contains i = false -> S w) -> wpAnyL P md ops Q S E fuel (listed.setIfInBounds i true) a w -> K a w) -> if Region.wanted o (yielded ops a.tmps) = true then Oper.wp P o a w K Q else K (a.put o.dst undef) w) :
  wpAnyL P md ops Q S E (fuel + 1) listed a w :=
 ⟨fun h0 => (by rw [hr] at h0; cases h0), fun j hj => by
  rw [hr] at hj
  cases List.mem_singleton.1 hj
  exact wpOp_step ho (fun K hK => h K (fun a w hS hW => hK a w ⟨hS, hW⟩))⟩
theorem wpAnyL_done {listed : Array Bool} {a : Act} {w : World} (hr : Region.ready md ops listed = []) (h : Q .normal a w) : ∀ fuel, wpAnyL P md ops Q S E fuel listed a w
 | 0 => ⟨hr, h⟩
 | _ + 1 => ⟨fun _ => h, fun i hi => (by rw [hr] at hi; cases hi)⟩
theorem wp_region_late {id : Nat} {a : Act} {w : World} (hm : P.follows .mixedOrders = true) (hS : S w.drew)
  (h : S w.drew -> wpAnyL P .any ops Q S E ops.size (Array.replicate ops.size false) a w.drew) : (Code.region id ops true).wp P Q a w :=
 wp_region_any hm (wpAny_of_late _ _ _ _ (h hS))
end
open Go.RowKit
open D (Da Blk)
open K (numR textR endR)
structure MR (w0 : World) (res mb rb : Nat) (st : List Int × Int) (R : List Value) (W : World) : Prop where
 rd : K.Rd W rb st
 m : Blk W mb 36 R
 r : Blk W res 36 zero15
 b : Below w0.heap.size w0 W
 h1 : rb ≠ mb
 h2 : rb ≠ res
 h3 : mb ≠ res
 l1 : w0.heap.size <= rb
 l2 : w0.heap.size <= mb
 l3 : w0.heap.size <= res
theorem blk_grown {w w' : World} {g b : Nat} {t : TypeId} {R : List Value} (h : Blk w g t R) (k : w.grownBy w' (some b)) (hne : b ≠ g) : Blk w' g t R := by
 unfold D.Blk at *
 rw [k.block g (lt_of_block h) (fun e => hne (by cases e; rfl))]
 exact h
theorem MR.num {w0 W W' : World} {res mb rb : Nat} {st st' : List Int × Int} {R : List Value} (h : MR w0 res mb rb st R W) (hr : K.Rd W' rb st') (hg : W.grownBy W' (some rb)) : MR w0 res mb rb st' R W' :=
 ⟨hr, blk_grown h.m hg h.h1, blk_grown h.r hg h.h2, h.b.grown hg h.b.size (fun k e => by cases e; exact h.l1), h.h1, h.h2, h.h3, h.l1, h.l2, h.l3⟩
theorem MR.set {w0 W : World} {res mb rb : Nat} {st : List Int × Int} {R : List Value} (h : MR w0 res mb rb st R W) (i : Nat) (v : Value) : MR w0 res mb rb st (R.set i v) (W.setCell ⟨mb, i, none⟩ v) := by
 refine ⟨?_, h.m.set i v, h.r.other _ _ (fun e => h.h3 e.symm), h.b.setCell h.l2 _, h.h1, h.h2, h.h3, h.l1, h.l2, h.l3⟩
 refine h.rd.grown (row := some mb) (K.grown_set _ _ _ _) (fun e => h.h1 (by cases e; rfl)) (fun g C f hC e => ?_)
 cases e
 have hm := h.m
 unfold D.Blk at hm
 rw [hm] at hC
 simp at hC
theorem MR.drew {w0 W : World} {res mb rb : Nat} {st : List Int × Int} {R : List Value} (h : MR w0 res mb rb st R W) : MR w0 res mb rb st R W.drew :=
 ⟨h.rd.below (D.below_drewN W 1), h.m.drew, h.r.drew, h.b.drew, h.h1, h.h2, h.h3, h.l1, h.l2, h.l3⟩
theorem results_mg {fn : Func} {p u : Tmp} (h : fn.results = #[.cell p 36, .tmp u]) (tmps : Array Value) (w : World) (g : Nat) (l : List Value) (y : Value)
  (hp : tmps.getD p undef = .pointer (some ⟨g, 0, none⟩)) (hg : Blk w g 36 l) (hl : (Tryz.prog.info? 36).map (·.size) = some l.toArray.size) (hy : tmps.getD u undef = y) :
  (results fn tmps).run Tryz.prog w = .ok (.tuple #[.agg l.toArray, y]) w := by
 rw [results_cell_tmp h, hp, hy]
 simp [asAddr, run_loadVar_row w g 36 36 l.toArray (0, 0) _ hg Tryz.underlying36 rfl hl]
set_option linter.unusedSimpArgs false in
theorem read_none (a : Option Addr) (len cap : Nat) (l : List Int) (w : World) (hao : a = none -> cap = 0) (hlen : len <= 900000000) (hb : K.Bs w a len l) (k ep : Int) (s1 s2 : List Int × Int) (q1 : idQ k = false) (q2 : caQ k = false) (q3 : vaQ k = false) (e1 : numR (l, 0) 1 = (k, s1)) (e2 : numR s1 8 = (ep, s2)) (bk : 0 <= k) (ck : k <= 65535) :
  Calls Tryz.prog 32 #[.slice a len cap] w fun e w' => e = .returned (.tuple #[.agg #[.int .i64 k, .int .u64 ep, .int .u64 0, .int .i64 0, .int .i64 0, .int .u32 0, .int .u32 0, .int .u64 0, .int .u64 0, .int .u64 0, .int .u64 0, .int .u64 0, .int .u64 0, .int .u64 0, .string ⟨#[]⟩], .int .i64 (endR s2)]) /\ Below w.heap.size w w' := by
 have wk : IntKind.i64.wrap k = k := by rw [IntKind.wrap_i64]; omega
 clear bk ck
 have H1 : Hid (∀ (W : World) (b : Nat), K.Rd W b (l, 0) -> Calls Tryz.prog 59 #[.pointer (some ⟨b, 0, none⟩), .int .i64 1] W fun e w' => e = .returned (.int .u64 k) /\ K.Rd w' b s1 /\ W.grownBy w' (some b)) := fun W b h => by have := K.rnum_any W b (l, 0) 1 h; rw [e1] at this; exact this
 have H2 : Hid (∀ (W : World) (b : Nat), K.Rd W b s1 -> Calls Tryz.prog 59 #[.pointer (some ⟨b, 0, none⟩), .int .i64 8] W fun e w' => e = .returned (.int .u64 ep) /\ K.Rd w' b s2 /\ W.grownBy w' (some b)) := fun W b h => by have := K.rnum_any W b s1 8 h; rw [e2] at this; exact this
 have HE : Hid (∀ (W : World) (b : Nat), K.Rd W b s2 -> Calls Tryz.prog 64 #[.pointer (some ⟨b, 0, none⟩)] W fun e w' => e = .returned (.int .i64 (endR s2)) /\ w' = W) := fun W b h => K.rend_any W b s2 h
 have HZ : Hid ((Tryz.prog.info? 36).map (·.size) = some (15 : Nat)) := Tryz.size36
 generalize endR s2 = en at *
 clear e1 e2
 have E0 : Below w.heap.size w (w.alloc (Obj.cells #[.int .i64 0, .int .u64 0, .int .u64 0, .int .i64 0, .int .i64 0, .int .u32 0, .int .u32 0, .int .u64 0, .int .u64 0, .int .u64 0, .int .u64 0, .int .u64 0, .int .u64 0, .int .u64 0, .string ⟨#[]⟩] 36)) := (Below.refl _ _).alloc (Nat.le_refl _) _
 have R0 : Blk (w.alloc (Obj.cells #[.int .i64 0, .int .u64 0, .int .u64 0, .int .i64 0, .int .i64 0, .int .u32 0, .int .u32 0, .int .u64 0, .int .u64 0, .int .u64 0, .int .u64 0, .int .u64 0, .int .u64 0, .int .u64 0, .string ⟨#[]⟩] 36)) w.heap.size 36 zero15 := D.blk_new w _ 36
 have hb0 := hb.below E0
 go_enter Tryz.func32, Tryz.ntmps32
 go_wp2_with fail
 refine (R.read_any a len cap l _ hao hlen hb0).mono ?_
 rintro e w2 ⟨rb, rfl, r2, g2, b2⟩
 have M0 : MR w w.heap.size w2.heap.size rb (l, 0) [.int .i64 0, .int .u64 0, .int .u64 0, .int .i64 0, .int .i64 0, .int .u32 0, .int .u32 0, .int .u64 0, .int .u64 0, .int .u64 0, .int .u64 0, .int .u64 0, .int .u64 0, .int .u64 0, .string ⟨#[]⟩] (w2.alloc (Obj.cells #[.int .i64 0, .int .u64 0, .int .u64 0, .int .i64 0, .int .i64 0, .int .u32 0, .int .u32 0, .int .u64 0, .int .u64 0, .int .u64 0, .int .u64 0, .int .u64 0, .int .u64 0, .int .u64 0, .string ⟨#[]⟩] 36)) := by
  have hs := b2.size
  have hlt := r2.lt
  have ha := D.size_alloc' w (Obj.cells #[.int .i64 0, .int .u64 0, .int .u64 0, .int .i64 0, .int .i64 0, .int .u32 0, .int .u32 0, .int .u64 0, .int .u64 0, .int .u64 0, .int .u64 0, .int .u64 0, .int .u64 0, .int .u64 0, .string ⟨#[]⟩] 36)
  refine ⟨(r2.rd).below ((Below.refl _ _).alloc (Nat.le_refl _) _), D.blk_new w2 _ 36, (R0.over b2).alloc _, (E0.trans (b2.mono E0.size)).alloc (by omega) _, by omega, by omega, by omega, by omega, by omega, Nat.le_refl _⟩
 clear R0 E0 hb0 r2 g2 b2
 generalize w.heap.size = rs at *
 go_wp2_with fail
 generalize w2.alloc (Obj.cells #[.int .i64 0, .int .u64 0, .int .u64 0, .int .i64 0, .int .i64 0, .int .u32 0, .int .u32 0, .int .u64 0, .int .u64 0, .int .u64 0, .int .u64 0, .int .u64 0, .int .u64 0, .int .u64 0, .string ⟨#[]⟩] 36) = wa at *
 generalize w2.heap.size = mb at *
 refine (H1.out _ rb M0.rd).mono ?_
 rintro e u1 ⟨rfl, r1, g1⟩
 have N1 := M0.num r1 g1
 clear M0 r1 g1
 have c1_0 : u1.cell? ⟨mb, 0, none⟩ = some (.int .i64 0) := N1.m.cell 0
 have f1_0 := N1.m.f 0
 have M1 : MR w rs mb rb s1 [.int .i64 k, .int .u64 0, .int .u64 0, .int .i64 0, .int .i64 0, .int .u32 0, .int .u32 0, .int .u64 0, .int .u64 0, .int .u64 0, .int .u64 0, .int .u64 0, .int .u64 0, .int .u64 0, .string ⟨#[]⟩] (u1.setCell ⟨mb, 0, none⟩ (.int .i64 k)) := (N1.set 0 (.int .i64 k))
 have d1 : ((u1.setCell ⟨mb, 0, none⟩ (.int .i64 k))).cell? ⟨mb, 0, none⟩ = some (.int .i64 k) := M1.m.cell 0
 go_wp2_with (first | (go_at_call 60; refine (hasID_any _ _).mono ?_; rintro e w' ⟨rfl, hw'⟩; subst hw'; rw [q1]) | (go_at_call 47; refine (hasCall_any _ _).mono ?_; rintro e w' ⟨rfl, hw'⟩; subst hw'; rw [q2]) | (go_at_call 63; refine (hasVal_any _ _).mono ?_; rintro e w' ⟨rfl, hw'⟩; subst hw'; rw [q3]))
 refine (H2.out _ rb M1.rd).mono ?_
 rintro e u2 ⟨rfl, r2, g2⟩
 have N2 := M1.num r2 g2
 clear M1 r2 g2 c1_0 f1_0 d1 N1
 have c2_1 : u2.cell? ⟨mb, 1, none⟩ = some (.int .u64 0) := N2.m.cell 1
 have f2_1 := N2.m.f 1
 have M2 : MR w rs mb rb s2 [.int .i64 k, .int .u64 ep, .int .u64 0, .int .i64 0, .int .i64 0, .int .u32 0, .int .u32 0, .int .u64 0, .int .u64 0, .int .u64 0, .int .u64 0, .int .u64 0, .int .u64 0, .int .u64 0, .string ⟨#[]⟩] (u2.setCell ⟨mb, 1, none⟩ (.int .u64 ep)) := (N2.set 1 (.int .u64 ep))
 have d2 : ((u2.setCell ⟨mb, 1, none⟩ (.int .u64 ep))).cell? ⟨mb, 0, none⟩ = some (.int .i64 k) := M2.m.cell 0
 go_wp2_with (first | (go_at_call 60; refine (hasID_any _ _).mono ?_; rintro e w' ⟨rfl, hw'⟩; subst hw'; rw [q1]) | (go_at_call 47; refine (hasCall_any _ _).mono ?_; rintro e w' ⟨rfl, hw'⟩; subst hw'; rw [q2]) | (go_at_call 63; refine (hasVal_any _ _).mono ?_; rintro e w' ⟨rfl, hw'⟩; subst hw'; rw [q3]))
 generalize (u2.setCell ⟨mb, 1, none⟩ (.int .u64 ep)) = uf at *
 refine wp_region_late (E := [3, 4]) (S := (fun X => MR w rs mb rb s2 [.int .i64 k, .int .u64 ep, .int .u64 0, .int .i64 0, .int .i64 0, .int .u32 0, .int .u32 0, .int .u64 0, .int .u64 0, .int .u64 0, .int .u64 0, .int .u64 0, .int .u64 0, .int .u64 0, .string ⟨#[]⟩] X)) (by kernel_rfl) (M2.drew) (fun hHeld => ?_)
 simp only [List.size_toArray, List.length_cons, List.length_nil, Nat.reduceAdd]
 refine wpAnyL_take [3, 4] (i := 0) (v := _) (by kernel_rfl) (by kernel_rfl) (by kernel_rfl) rfl (by kernel_rfl) (by kernel_rfl) (by kernel_rfl) (fun _ _ _ h => h) (Or.inl ⟨by rfl, fun w hSw => exec_load_mg rfl rfl hSw.m HZ.out⟩) hHeld ?_
 try simp only [Act.put, zA, zB, zC, zD, zE, zF]
 refine wpAnyL_take [2, 3, 4] (i := 1) (v := ?_) (by kernel_rfl) (by kernel_rfl) (by kernel_rfl) rfl (by kernel_rfl) (by kernel_rfl) (by kernel_rfl) (fun _ _ _ h => h) (Or.inl ⟨by rfl, ?_⟩) hHeld ?_
 rotate_left
 ·(intro w hSw; (try dsimp only at hSw); skip; go_simp; try with_reducible rfl)
 try simp only [Act.put, zA, zB, zC, zD, zE, zF]
 refine wpAnyL_one (i := 2) (by kernel_rfl) rfl (fun K hK => ?_)
 go_simp
 refine (HE.out _ rb hHeld.rd).mono ?_
 rintro e x2 ⟨rfl, hx2⟩
 subst hx2
 go_wp2_with fail
 refine hK.out _ _ (fun _ => hHeld) ?_
 replace hHeld := hHeld
 clear hK K
 try simp only [Act.put, zA, zB, zC, zD, zE, zF]
 refine wpAnyL_one (i := 3) (by kernel_rfl) rfl (fun K hK => ?_)
 rw [if_pos (by rfl)]
 refine wp_store_row (P := Tryz.prog) 36 (.tmp 2) (.tmp 41) rfl rs ([.int .i64 k, .int .u64 ep, .int .u64 0, .int .i64 0, .int .i64 0, .int .u32 0, .int .u32 0, .int .u64 0, .int .u64 0, .int .u64 0, .int .u64 0, .int .u64 0, .int .u64 0, .int .u64 0, .string ⟨#[]⟩]).toArray rfl rfl 36 _ hHeld.r HZ.out rfl (by simp [Value.oneCell']) ?_
 refine hK.out _ _ (fun h => by cases h) ?_
 clear hK K
 try simp only [Act.put, zA, zB, zC, zD, zE, zF]
 refine wpAnyL_one (i := 4) (by kernel_rfl) rfl (fun K hK => ?_)
 go_simp
 refine hK.out _ _ (fun h => by cases h) ?_
 clear hK K
 try simp only [Act.put, zA, zB, zC, zD, zE, zF]
 refine wpAnyL_done (by kernel_rfl) ?_ _
 go_wp2_with fail
 refine bodyPost_ret (v := .tuple #[.agg [.int .i64 k, .int .u64 ep, .int .u64 0, .int .i64 0, .int .i64 0, .int .u32 0, .int .u32 0, .int .u64 0, .int .u64 0, .int .u64 0, .int .u64 0, .int .u64 0, .int .u64 0, .int .u64 0, .string ⟨#[]⟩].toArray, .int .i64 en]) (results_mg Tryz.results32 _ _ rs [.int .i64 k, .int .u64 ep, .int .u64 0, .int .i64 0, .int .i64 0, .int .u32 0, .int .u32 0, .int .u64 0, .int .u64 0, .int .u64 0, .int .u64 0, .int .u64 0, .int .u64 0, .int .u64 0, .string ⟨#[]⟩] _ rfl (hHeld.r.row _) HZ.out rfl) rfl ⟨rfl, below_setRow hHeld.b hHeld.l3 _⟩
set_option linter.unusedSimpArgs false in
theorem read_id (a : Option Addr) (len cap : Nat) (l : List Int) (w : World) (hao : a = none -> cap = 0) (hlen : len <= 900000000) (hb : K.Bs w a len l) (k ep id : Int) (s1 s2 s3 : List Int × Int) (q1 : idQ k = true) (q2 : caQ k = false) (q3 : vaQ k = false) (e1 : numR (l, 0) 1 = (k, s1)) (e2 : numR s1 8 = (ep, s2)) (e3 : numR s2 8 = (id, s3)) (bk : 0 <= k) (ck : k <= 65535) :
  Calls Tryz.prog 32 #[.slice a len cap] w fun e w' => e = .returned (.tuple #[.agg #[.int .i64 k, .int .u64 ep, .int .u64 id, .int .i64 0, .int .i64 0, .int .u32 0, .int .u32 0, .int .u64 0, .int .u64 0, .int .u64 0, .int .u64 0, .int .u64 0, .int .u64 0, .int .u64 0, .string ⟨#[]⟩], .int .i64 (endR s3)]) /\ Below w.heap.size w w' := by
 have wk : IntKind.i64.wrap k = k := by rw [IntKind.wrap_i64]; omega
 clear bk ck
 have H1 : Hid (∀ (W : World) (b : Nat), K.Rd W b (l, 0) -> Calls Tryz.prog 59 #[.pointer (some ⟨b, 0, none⟩), .int .i64 1] W fun e w' => e = .returned (.int .u64 k) /\ K.Rd w' b s1 /\ W.grownBy w' (some b)) := fun W b h => by have := K.rnum_any W b (l, 0) 1 h; rw [e1] at this; exact this
 have H2 : Hid (∀ (W : World) (b : Nat), K.Rd W b s1 -> Calls Tryz.prog 59 #[.pointer (some ⟨b, 0, none⟩), .int .i64 8] W fun e w' => e = .returned (.int .u64 ep) /\ K.Rd w' b s2 /\ W.grownBy w' (some b)) := fun W b h => by have := K.rnum_any W b s1 8 h; rw [e2] at this; exact this
 have H3 : Hid (∀ (W : World) (b : Nat), K.Rd W b s2 -> Calls Tryz.prog 59 #[.pointer (some ⟨b, 0, none⟩), .int .i64 8] W fun e w' => e = .returned (.int .u64 id) /\ K.Rd w' b s3 /\ W.grownBy w' (some b)) := fun W b h => by have := K.rnum_any W b s2 8 h; rw [e3] at this; exact this
 have HE : Hid (∀ (W : World) (b : Nat), K.Rd W b s3 -> Calls Tryz.prog 64 #[.pointer (some ⟨b, 0, none⟩)] W fun e w' => e = .returned (.int .i64 (endR s3)) /\ w' = W) := fun W b h => K.rend_any W b s3 h
 have HZ : Hid ((Tryz.prog.info? 36).map (·.size) = some (15 : Nat)) := Tryz.size36
 generalize endR s3 = en at *
 clear e1 e2 e3
 have E0 : Below w.heap.size w (w.alloc (Obj.cells #[.int .i64 0, .int .u64 0, .int .u64 0, .int .i64 0, .int .i64 0, .int .u32 0, .int .u32 0, .int .u64 0, .int .u64 0, .int .u64 0, .int .u64 0, .int .u64 0, .int .u64 0, .int .u64 0, .string ⟨#[]⟩] 36)) := (Below.refl _ _).alloc (Nat.le_refl _) _
 have R0 : Blk (w.alloc (Obj.cells #[.int .i64 0, .int .u64 0, .int .u64 0, .int .i64 0, .int .i64 0, .int .u32 0, .int .u32 0, .int .u64 0, .int .u64 0, .int .u64 0, .int .u64 0, .int .u64 0, .int .u64 0, .int .u64 0, .string ⟨#[]⟩] 36)) w.heap.size 36 zero15 := D.blk_new w _ 36
 have hb0 := hb.below E0
 go_enter Tryz.func32, Tryz.ntmps32
 go_wp2_with fail
 refine (R.read_any a len cap l _ hao hlen hb0).mono ?_
 rintro e w2 ⟨rb, rfl, r2, g2, b2⟩
 have M0 : MR w w.heap.size w2.heap.size rb (l, 0) [.int .i64 0, .int .u64 0, .int .u64 0, .int .i64 0, .int .i64 0, .int .u32 0, .int .u32 0, .int .u64 0, .int .u64 0, .int .u64 0, .int .u64 0, .int .u64 0, .int .u64 0, .int .u64 0, .string ⟨#[]⟩] (w2.alloc (Obj.cells #[.int .i64 0, .int .u64 0, .int .u64 0, .int .i64 0, .int .i64 0, .int .u32 0, .int .u32 0, .int .u64 0, .int .u64 0, .int .u64 0, .int .u64 0, .int .u64 0, .int .u64 0, .int .u64 0, .string ⟨#[]⟩] 36)) := by
  have hs := b2.size
  have hlt := r2.lt
  have ha := D.size_alloc' w (Obj.cells #[.int .i64 0, .int .u64 0, .int .u64 0, .int .i64 0, .int .i64 0, .int .u32 0, .int .u32 0, .int .u64 0, .int .u64 0, .int .u64 0, .int .u64 0, .int .u64 0, .int .u64 0, .int .u64 0, .string ⟨#[]⟩] 36)
  refine ⟨(r2.rd).below ((Below.refl _ _).alloc (Nat.le_refl _) _), D.blk_new w2 _ 36, (R0.over b2).alloc _, (E0.trans (b2.mono E0.size)).alloc (by omega) _, by omega, by omega, by omega, by omega, by omega, Nat.le_refl _⟩
 clear R0 E0 hb0 r2 g2 b2
 generalize w.heap.size = rs at *
 go_wp2_with fail
 generalize w2.alloc (Obj.cells #[.int .i64 0, .int .u64 0, .int .u64 0, .int .i64 0, .int .i64 0, .int .u32 0, .int .u32 0, .int .u64 0, .int .u64 0, .int .u64 0, .int .u64 0, .int .u64 0, .int .u64 0, .int .u64 0, .string ⟨#[]⟩] 36) = wa at *
 generalize w2.heap.size = mb at *
 refine (H1.out _ rb M0.rd).mono ?_
 rintro e u1 ⟨rfl, r1, g1⟩
 have N1 := M0.num r1 g1
 clear M0 r1 g1
 have c1_0 : u1.cell? ⟨mb, 0, none⟩ = some (.int .i64 0) := N1.m.cell 0
 have f1_0 := N1.m.f 0
 have M1 : MR w rs mb rb s1 [.int .i64 k, .int .u64 0, .int .u64 0, .int .i64 0, .int .i64 0, .int .u32 0, .int .u32 0, .int .u64 0, .int .u64 0, .int .u64 0, .int .u64 0, .int .u64 0, .int .u64 0, .int .u64 0, .string ⟨#[]⟩] (u1.setCell ⟨mb, 0, none⟩ (.int .i64 k)) := (N1.set 0 (.int .i64 k))
 have d1 : ((u1.setCell ⟨mb, 0, none⟩ (.int .i64 k))).cell? ⟨mb, 0, none⟩ = some (.int .i64 k) := M1.m.cell 0
 go_wp2_with (first | (go_at_call 60; refine (hasID_any _ _).mono ?_; rintro e w' ⟨rfl, hw'⟩; subst hw'; rw [q1]) | (go_at_call 47; refine (hasCall_any _ _).mono ?_; rintro e w' ⟨rfl, hw'⟩; subst hw'; rw [q2]) | (go_at_call 63; refine (hasVal_any _ _).mono ?_; rintro e w' ⟨rfl, hw'⟩; subst hw'; rw [q3]))
 refine (H2.out _ rb M1.rd).mono ?_
 rintro e u2 ⟨rfl, r2, g2⟩
 have N2 := M1.num r2 g2
 clear M1 r2 g2 c1_0 f1_0 d1 N1
 have c2_1 : u2.cell? ⟨mb, 1, none⟩ = some (.int .u64 0) := N2.m.cell 1
 have f2_1 := N2.m.f 1
 have M2 : MR w rs mb rb s2 [.int .i64 k, .int .u64 ep, .int .u64 0, .int .i64 0, .int .i64 0, .int .u32 0, .int .u32 0, .int .u64 0, .int .u64 0, .int .u64 0, .int .u64 0, .int .u64 0, .int .u64 0, .int .u64 0, .string ⟨#[]⟩] (u2.setCell ⟨mb, 1, none⟩ (.int .u64 ep)) := (N2.set 1 (.int .u64 ep))
 have d2 : ((u2.setCell ⟨mb, 1, none⟩ (.int .u64 ep))).cell? ⟨mb, 0, none⟩ = some (.int .i64 k) := M2.m.cell 0
 go_wp2_with (first | (go_at_call 60; refine (hasID_any _ _).mono ?_; rintro e w' ⟨rfl, hw'⟩; subst hw'; rw [q1]) | (go_at_call 47; refine (hasCall_any _ _).mono ?_; rintro e w' ⟨rfl, hw'⟩; subst hw'; rw [q2]) | (go_at_call 63; refine (hasVal_any _ _).mono ?_; rintro e w' ⟨rfl, hw'⟩; subst hw'; rw [q3]))
 refine (H3.out _ rb M2.rd).mono ?_
 rintro e u3 ⟨rfl, r3, g3⟩
 have N3 := M2.num r3 g3
 clear M2 r3 g3 c2_1 f2_1 d2 N2
 have c3_2 : u3.cell? ⟨mb, 2, none⟩ = some (.int .u64 0) := N3.m.cell 2
 have f3_2 := N3.m.f 2
 have M3 : MR w rs mb rb s3 [.int .i64 k, .int .u64 ep, .int .u64 id, .int .i64 0, .int .i64 0, .int .u32 0, .int .u32 0, .int .u64 0, .int .u64 0, .int .u64 0, .int .u64 0, .int .u64 0, .int .u64 0, .int .u64 0, .string ⟨#[]⟩] (u3.setCell ⟨mb, 2, none⟩ (.int .u64 id)) := (N3.set 2 (.int .u64 id))
 have d3 : ((u3.setCell ⟨mb, 2, none⟩ (.int .u64 id))).cell? ⟨mb, 0, none⟩ = some (.int .i64 k) := M3.m.cell 0
 go_wp2_with (first | (go_at_call 60; refine (hasID_any _ _).mono ?_; rintro e w' ⟨rfl, hw'⟩; subst hw'; rw [q1]) | (go_at_call 47; refine (hasCall_any _ _).mono ?_; rintro e w' ⟨rfl, hw'⟩; subst hw'; rw [q2]) | (go_at_call 63; refine (hasVal_any _ _).mono ?_; rintro e w' ⟨rfl, hw'⟩; subst hw'; rw [q3]))
 generalize (u3.setCell ⟨mb, 2, none⟩ (.int .u64 id)) = uf at *
 refine wp_region_late (E := [3, 4]) (S := (fun X => MR w rs mb rb s3 [.int .i64 k, .int .u64 ep, .int .u64 id, .int .i64 0, .int .i64 0, .int .u32 0, .int .u32 0, .int .u64 0, .int .u64 0, .int .u64 0, .int .u64 0, .int .u64 0, .int .u64 0, .int .u64 0, .string ⟨#[]⟩] X)) (by kernel_rfl) (M3.drew) (fun hHeld => ?_)
 simp only [List.size_toArray, List.length_cons, List.length_nil, Nat.reduceAdd]
 refine wpAnyL_take [3, 4] (i := 0) (v := _) (by kernel_rfl) (by kernel_rfl) (by kernel_rfl) rfl (by kernel_rfl) (by kernel_rfl) (by kernel_rfl) (fun _ _ _ h => h) (Or.inl ⟨by rfl, fun w hSw => exec_load_mg rfl rfl hSw.m HZ.out⟩) hHeld ?_
 try simp only [Act.put, zA, zB, zC, zD, zE, zF]
 refine wpAnyL_take [2, 3, 4] (i := 1) (v := ?_) (by kernel_rfl) (by kernel_rfl) (by kernel_rfl) rfl (by kernel_rfl) (by kernel_rfl) (by kernel_rfl) (fun _ _ _ h => h) (Or.inl ⟨by rfl, ?_⟩) hHeld ?_
 rotate_left
 ·(intro w hSw; (try dsimp only at hSw); skip; go_simp; try with_reducible rfl)
 try simp only [Act.put, zA, zB, zC, zD, zE, zF]
 refine wpAnyL_one (i := 2) (by kernel_rfl) rfl (fun K hK => ?_)
 go_simp
 refine (HE.out _ rb hHeld.rd).mono ?_
 rintro e x2 ⟨rfl, hx2⟩
 subst hx2
 go_wp2_with fail
 refine hK.out _ _ (fun _ => hHeld) ?_
 replace hHeld := hHeld
 clear hK K
 try simp only [Act.put, zA, zB, zC, zD, zE, zF]
 refine wpAnyL_one (i := 3) (by kernel_rfl) rfl (fun K hK => ?_)
 rw [if_pos (by rfl)]
 refine wp_store_row (P := Tryz.prog) 36 (.tmp 2) (.tmp 41) rfl rs ([.int .i64 k, .int .u64 ep, .int .u64 id, .int .i64 0, .int .i64 0, .int .u32 0, .int .u32 0, .int .u64 0, .int .u64 0, .int .u64 0, .int .u64 0, .int .u64 0, .int .u64 0, .int .u64 0, .string ⟨#[]⟩]).toArray rfl rfl 36 _ hHeld.r HZ.out rfl (by simp [Value.oneCell']) ?_
 refine hK.out _ _ (fun h => by cases h) ?_
 clear hK K
 try simp only [Act.put, zA, zB, zC, zD, zE, zF]
 refine wpAnyL_one (i := 4) (by kernel_rfl) rfl (fun K hK => ?_)
 go_simp
 refine hK.out _ _ (fun h => by cases h) ?_
 clear hK K
 try simp only [Act.put, zA, zB, zC, zD, zE, zF]
 refine wpAnyL_done (by kernel_rfl) ?_ _
 go_wp2_with fail
 refine bodyPost_ret (v := .tuple #[.agg [.int .i64 k, .int .u64 ep, .int .u64 id, .int .i64 0, .int .i64 0, .int .u32 0, .int .u32 0, .int .u64 0, .int .u64 0, .int .u64 0, .int .u64 0, .int .u64 0, .int .u64 0, .int .u64 0, .string ⟨#[]⟩].toArray, .int .i64 en]) (results_mg Tryz.results32 _ _ rs [.int .i64 k, .int .u64 ep, .int .u64 id, .int .i64 0, .int .i64 0, .int .u32 0, .int .u32 0, .int .u64 0, .int .u64 0, .int .u64 0, .int .u64 0, .int .u64 0, .int .u64 0, .int .u64 0, .string ⟨#[]⟩] _ rfl (hHeld.r.row _) HZ.out rfl) rfl ⟨rfl, below_setRow hHeld.b hHeld.l3 _⟩
set_option linter.unusedSimpArgs false in
theorem read_val (a : Option Addr) (len cap : Nat) (l : List Int) (w : World) (hao : a = none -> cap = 0) (hlen : len <= 900000000) (hb : K.Bs w a len l) (k ep id v : Int) (s1 s2 s3 s4 : List Int × Int) (q1 : idQ k = true) (q2 : caQ k = false) (q3 : vaQ k = true) (e1 : numR (l, 0) 1 = (k, s1)) (e2 : numR s1 8 = (ep, s2)) (e3 : numR s2 8 = (id, s3)) (e4 : numR s3 2 = (v, s4)) (bk : 0 <= k) (ck : k <= 65535) (bv : 0 <= v) (cv : v <= 65535) :
  Calls Tryz.prog 32 #[.slice a len cap] w fun e w' => e = .returned (.tuple #[.agg #[.int .i64 k, .int .u64 ep, .int .u64 id, .int .i64 0, .int .i64 v, .int .u32 0, .int .u32 0, .int .u64 0, .int .u64 0, .int .u64 0, .int .u64 0, .int .u64 0, .int .u64 0, .int .u64 0, .string ⟨#[]⟩], .int .i64 (endR s4)]) /\ Below w.heap.size w w' := by
 have wk : IntKind.i64.wrap k = k := by rw [IntKind.wrap_i64]; omega
 clear bk ck
 have wv : IntKind.i64.wrap v = v := by rw [IntKind.wrap_i64]; omega
 clear bv cv
 have H1 : Hid (∀ (W : World) (b : Nat), K.Rd W b (l, 0) -> Calls Tryz.prog 59 #[.pointer (some ⟨b, 0, none⟩), .int .i64 1] W fun e w' => e = .returned (.int .u64 k) /\ K.Rd w' b s1 /\ W.grownBy w' (some b)) := fun W b h => by have := K.rnum_any W b (l, 0) 1 h; rw [e1] at this; exact this
 have H2 : Hid (∀ (W : World) (b : Nat), K.Rd W b s1 -> Calls Tryz.prog 59 #[.pointer (some ⟨b, 0, none⟩), .int .i64 8] W fun e w' => e = .returned (.int .u64 ep) /\ K.Rd w' b s2 /\ W.grownBy w' (some b)) := fun W b h => by have := K.rnum_any W b s1 8 h; rw [e2] at this; exact this
 have H3 : Hid (∀ (W : World) (b : Nat), K.Rd W b s2 -> Calls Tryz.prog 59 #[.pointer (some ⟨b, 0, none⟩), .int .i64 8] W fun e w' => e = .returned (.int .u64 id) /\ K.Rd w' b s3 /\ W.grownBy w' (some b)) := fun W b h => by have := K.rnum_any W b s2 8 h; rw [e3] at this; exact this
 have H4 : Hid (∀ (W : World) (b : Nat), K.Rd W b s3 -> Calls Tryz.prog 59 #[.pointer (some ⟨b, 0, none⟩), .int .i64 2] W fun e w' => e = .returned (.int .u64 v) /\ K.Rd w' b s4 /\ W.grownBy w' (some b)) := fun W b h => by have := K.rnum_any W b s3 2 h; rw [e4] at this; exact this
 have HE : Hid (∀ (W : World) (b : Nat), K.Rd W b s4 -> Calls Tryz.prog 64 #[.pointer (some ⟨b, 0, none⟩)] W fun e w' => e = .returned (.int .i64 (endR s4)) /\ w' = W) := fun W b h => K.rend_any W b s4 h
 have HZ : Hid ((Tryz.prog.info? 36).map (·.size) = some (15 : Nat)) := Tryz.size36
 generalize endR s4 = en at *
 clear e1 e2 e3 e4
 have E0 : Below w.heap.size w (w.alloc (Obj.cells #[.int .i64 0, .int .u64 0, .int .u64 0, .int .i64 0, .int .i64 0, .int .u32 0, .int .u32 0, .int .u64 0, .int .u64 0, .int .u64 0, .int .u64 0, .int .u64 0, .int .u64 0, .int .u64 0, .string ⟨#[]⟩] 36)) := (Below.refl _ _).alloc (Nat.le_refl _) _
 have R0 : Blk (w.alloc (Obj.cells #[.int .i64 0, .int .u64 0, .int .u64 0, .int .i64 0, .int .i64 0, .int .u32 0, .int .u32 0, .int .u64 0, .int .u64 0, .int .u64 0, .int .u64 0, .int .u64 0, .int .u64 0, .int .u64 0, .string ⟨#[]⟩] 36)) w.heap.size 36 zero15 := D.blk_new w _ 36
 have hb0 := hb.below E0
 go_enter Tryz.func32, Tryz.ntmps32
 go_wp2_with fail
 refine (R.read_any a len cap l _ hao hlen hb0).mono ?_
 rintro e w2 ⟨rb, rfl, r2, g2, b2⟩
 have M0 : MR w w.heap.size w2.heap.size rb (l, 0) [.int .i64 0, .int .u64 0, .int .u64 0, .int .i64 0, .int .i64 0, .int .u32 0, .int .u32 0, .int .u64 0, .int .u64 0, .int .u64 0, .int .u64 0, .int .u64 0, .int .u64 0, .int .u64 0, .string ⟨#[]⟩] (w2.alloc (Obj.cells #[.int .i64 0, .int .u64 0, .int .u64 0, .int .i64 0, .int .i64 0, .int .u32 0, .int .u32 0, .int .u64 0, .int .u64 0, .int .u64 0, .int .u64 0, .int .u64 0, .int .u64 0, .int .u64 0, .string ⟨#[]⟩] 36)) := by
  have hs := b2.size
  have hlt := r2.lt
  have ha := D.size_alloc' w (Obj.cells #[.int .i64 0, .int .u64 0, .int .u64 0, .int .i64 0, .int .i64 0, .int .u32 0, .int .u32 0, .int .u64 0, .int .u64 0, .int .u64 0, .int .u64 0, .int .u64 0, .int .u64 0, .int .u64 0, .string ⟨#[]⟩] 36)
  refine ⟨(r2.rd).below ((Below.refl _ _).alloc (Nat.le_refl _) _), D.blk_new w2 _ 36, (R0.over b2).alloc _, (E0.trans (b2.mono E0.size)).alloc (by omega) _, by omega, by omega, by omega, by omega, by omega, Nat.le_refl _⟩
 clear R0 E0 hb0 r2 g2 b2
 generalize w.heap.size = rs at *
 go_wp2_with fail
 generalize w2.alloc (Obj.cells #[.int .i64 0, .int .u64 0, .int .u64 0, .int .i64 0, .int .i64 0, .int .u32 0, .int .u32 0, .int .u64 0, .int .u64 0, .int .u64 0, .int .u64 0, .int .u64 0, .int .u64 0, .int .u64 0, .string ⟨#[]⟩] 36) = wa at *
 generalize w2.heap.size = mb at *
 refine (H1.out _ rb M0.rd).mono ?_
 rintro e u1 ⟨rfl, r1, g1⟩
 have N1 := M0.num r1 g1
 clear M0 r1 g1
 have c1_0 : u1.cell? ⟨mb, 0, none⟩ = some (.int .i64 0) := N1.m.cell 0
 have f1_0 := N1.m.f 0
 have M1 : MR w rs mb rb s1 [.int .i64 k, .int .u64 0, .int .u64 0, .int .i64 0, .int .i64 0, .int .u32 0, .int .u32 0, .int .u64 0, .int .u64 0, .int .u64 0, .int .u64 0, .int .u64 0, .int .u64 0, .int .u64 0, .string ⟨#[]⟩] (u1.setCell ⟨mb, 0, none⟩ (.int .i64 k)) := (N1.set 0 (.int .i64 k))
 have d1 : ((u1.setCell ⟨mb, 0, none⟩ (.int .i64 k))).cell? ⟨mb, 0, none⟩ = some (.int .i64 k) := M1.m.cell 0
 go_wp2_with (first | (go_at_call 60; refine (hasID_any _ _).mono ?_; rintro e w' ⟨rfl, hw'⟩; subst hw'; rw [q1]) | (go_at_call 47; refine (hasCall_any _ _).mono ?_; rintro e w' ⟨rfl, hw'⟩; subst hw'; rw [q2]) | (go_at_call 63; refine (hasVal_any _ _).mono ?_; rintro e w' ⟨rfl, hw'⟩; subst hw'; rw [q3]))
 refine (H2.out _ rb M1.rd).mono ?_
 rintro e u2 ⟨rfl, r2, g2⟩
 have N2 := M1.num r2 g2
 clear M1 r2 g2 c1_0 f1_0 d1 N1
 have c2_1 : u2.cell? ⟨mb, 1, none⟩ = some (.int .u64 0) := N2.m.cell 1
 have f2_1 := N2.m.f 1
 have M2 : MR w rs mb rb s2 [.int .i64 k, .int .u64 ep, .int .u64 0, .int .i64 0, .int .i64 0, .int .u32 0, .int .u32 0, .int .u64 0, .int .u64 0, .int .u64 0, .int .u64 0, .int .u64 0, .int .u64 0, .int .u64 0, .string ⟨#[]⟩] (u2.setCell ⟨mb, 1, none⟩ (.int .u64 ep)) := (N2.set 1 (.int .u64 ep))
 have d2 : ((u2.setCell ⟨mb, 1, none⟩ (.int .u64 ep))).cell? ⟨mb, 0, none⟩ = some (.int .i64 k) := M2.m.cell 0
 go_wp2_with (first | (go_at_call 60; refine (hasID_any _ _).mono ?_; rintro e w' ⟨rfl, hw'⟩; subst hw'; rw [q1]) | (go_at_call 47; refine (hasCall_any _ _).mono ?_; rintro e w' ⟨rfl, hw'⟩; subst hw'; rw [q2]) | (go_at_call 63; refine (hasVal_any _ _).mono ?_; rintro e w' ⟨rfl, hw'⟩; subst hw'; rw [q3]))
 refine (H3.out _ rb M2.rd).mono ?_
 rintro e u3 ⟨rfl, r3, g3⟩
 have N3 := M2.num r3 g3
 clear M2 r3 g3 c2_1 f2_1 d2 N2
 have c3_2 : u3.cell? ⟨mb, 2, none⟩ = some (.int .u64 0) := N3.m.cell 2
 have f3_2 := N3.m.f 2
 have M3 : MR w rs mb rb s3 [.int .i64 k, .int .u64 ep, .int .u64 id, .int .i64 0, .int .i64 0, .int .u32 0, .int .u32 0, .int .u64 0, .int .u64 0, .int .u64 0, .int .u64 0, .int .u64 0, .int .u64 0, .int .u64 0, .string ⟨#[]⟩] (u3.setCell ⟨mb, 2, none⟩ (.int .u64 id)) := (N3.set 2 (.int .u64 id))
 have d3 : ((u3.setCell ⟨mb, 2, none⟩ (.int .u64 id))).cell? ⟨mb, 0, none⟩ = some (.int .i64 k) := M3.m.cell 0
 go_wp2_with (first | (go_at_call 60; refine (hasID_any _ _).mono ?_; rintro e w' ⟨rfl, hw'⟩; subst hw'; rw [q1]) | (go_at_call 47; refine (hasCall_any _ _).mono ?_; rintro e w' ⟨rfl, hw'⟩; subst hw'; rw [q2]) | (go_at_call 63; refine (hasVal_any _ _).mono ?_; rintro e w' ⟨rfl, hw'⟩; subst hw'; rw [q3]))
 refine (H4.out _ rb M3.rd).mono ?_
 rintro e u4 ⟨rfl, r4, g4⟩
 have N4 := M3.num r4 g4
 clear M3 r4 g4 c3_2 f3_2 d3 N3
 have c4_4 : u4.cell? ⟨mb, 4, none⟩ = some (.int .i64 0) := N4.m.cell 4
 have f4_4 := N4.m.f 4
 have M4 : MR w rs mb rb s4 [.int .i64 k, .int .u64 ep, .int .u64 id, .int .i64 0, .int .i64 v, .int .u32 0, .int .u32 0, .int .u64 0, .int .u64 0, .int .u64 0, .int .u64 0, .int .u64 0, .int .u64 0, .int .u64 0, .string ⟨#[]⟩] (u4.setCell ⟨mb, 4, none⟩ (.int .i64 v)) := (N4.set 4 (.int .i64 v))
 have d4 : ((u4.setCell ⟨mb, 4, none⟩ (.int .i64 v))).cell? ⟨mb, 0, none⟩ = some (.int .i64 k) := M4.m.cell 0
 go_wp2_with (first | (go_at_call 60; refine (hasID_any _ _).mono ?_; rintro e w' ⟨rfl, hw'⟩; subst hw'; rw [q1]) | (go_at_call 47; refine (hasCall_any _ _).mono ?_; rintro e w' ⟨rfl, hw'⟩; subst hw'; rw [q2]) | (go_at_call 63; refine (hasVal_any _ _).mono ?_; rintro e w' ⟨rfl, hw'⟩; subst hw'; rw [q3]))
 generalize (u4.setCell ⟨mb, 4, none⟩ (.int .i64 v)) = uf at *
 refine wp_region_late (E := [3, 4]) (S := (fun X => MR w rs mb rb s4 [.int .i64 k, .int .u64 ep, .int .u64 id, .int .i64 0, .int .i64 v, .int .u32 0, .int .u32 0, .int .u64 0, .int .u64 0, .int .u64 0, .int .u64 0, .int .u64 0, .int .u64 0, .int .u64 0, .string ⟨#[]⟩] X)) (by kernel_rfl) (M4.drew) (fun hHeld => ?_)
 simp only [List.size_toArray, List.length_cons, List.length_nil, Nat.reduceAdd]
 refine wpAnyL_take [3, 4] (i := 0) (v := _) (by kernel_rfl) (by kernel_rfl) (by kernel_rfl) rfl (by kernel_rfl) (by kernel_rfl) (by kernel_rfl) (fun _ _ _ h => h) (Or.inl ⟨by rfl, fun w hSw => exec_load_mg rfl rfl hSw.m HZ.out⟩) hHeld ?_
 try simp only [Act.put, zA, zB, zC, zD, zE, zF]
 refine wpAnyL_take [2, 3, 4] (i := 1) (v := ?_) (by kernel_rfl) (by kernel_rfl) (by kernel_rfl) rfl (by kernel_rfl) (by kernel_rfl) (by kernel_rfl) (fun _ _ _ h => h) (Or.inl ⟨by rfl, ?_⟩) hHeld ?_
 rotate_left
 ·(intro w hSw; (try dsimp only at hSw); skip; go_simp; try with_reducible rfl)
 try simp only [Act.put, zA, zB, zC, zD, zE, zF]
 refine wpAnyL_one (i := 2) (by kernel_rfl) rfl (fun K hK => ?_)
 go_simp
 refine (HE.out _ rb hHeld.rd).mono ?_
 rintro e x2 ⟨rfl, hx2⟩
 subst hx2
 go_wp2_with fail
 refine hK.out _ _ (fun _ => hHeld) ?_
 replace hHeld := hHeld
 clear hK K
 try simp only [Act.put, zA, zB, zC, zD, zE, zF]
 refine wpAnyL_one (i := 3) (by kernel_rfl) rfl (fun K hK => ?_)
 rw [if_pos (by rfl)]
 refine wp_store_row (P := Tryz.prog) 36 (.tmp 2) (.tmp 41) rfl rs ([.int .i64 k, .int .u64 ep, .int .u64 id, .int .i64 0, .int .i64 v, .int .u32 0, .int .u32 0, .int .u64 0, .int .u64 0, .int .u64 0, .int .u64 0, .int .u64 0, .int .u64 0, .int .u64 0, .string ⟨#[]⟩]).toArray rfl rfl 36 _ hHeld.r HZ.out rfl (by simp [Value.oneCell']) ?_
 refine hK.out _ _ (fun h => by cases h) ?_
 clear hK K
 try simp only [Act.put, zA, zB, zC, zD, zE, zF]
 refine wpAnyL_one (i := 4) (by kernel_rfl) rfl (fun K hK => ?_)
 go_simp
 refine hK.out _ _ (fun h => by cases h) ?_
 clear hK K
 try simp only [Act.put, zA, zB, zC, zD, zE, zF]
 refine wpAnyL_done (by kernel_rfl) ?_ _
 go_wp2_with fail
 refine bodyPost_ret (v := .tuple #[.agg [.int .i64 k, .int .u64 ep, .int .u64 id, .int .i64 0, .int .i64 v, .int .u32 0, .int .u32 0, .int .u64 0, .int .u64 0, .int .u64 0, .int .u64 0, .int .u64 0, .int .u64 0, .int .u64 0, .string ⟨#[]⟩].toArray, .int .i64 en]) (results_mg Tryz.results32 _ _ rs [.int .i64 k, .int .u64 ep, .int .u64 id, .int .i64 0, .int .i64 v, .int .u32 0, .int .u32 0, .int .u64 0, .int .u64 0, .int .u64 0, .int .u64 0, .int .u64 0, .int .u64 0, .int .u64 0, .string ⟨#[]⟩] _ rfl (hHeld.r.row _) HZ.out rfl) rfl ⟨rfl, below_setRow hHeld.b hHeld.l3 _⟩
set_option linter.unusedSimpArgs false in
theorem read_call (a : Option Addr) (len cap : Nat) (l : List Int) (w : World) (hao : a = none -> cap = 0) (hlen : len <= 900000000) (hb : K.Bs w a len l) (k ep id t : Int) (s1 s2 s3 s4 s5 s6 : List Int × Int) (q1 : idQ k = true) (q2 : caQ k = true) (q3 : vaQ k = false) (dn da dp x0 x1 x2 x3 x4 x5 : Int) (DL : List Int) (sp : ByteArray) (e1 : numR (l, 0) 1 = (k, s1)) (e2 : numR s1 8 = (ep, s2)) (e3 : numR s2 8 = (id, s3)) (e4 : numR s3 1 = (t, s4)) (e5 : byteR s4 64 = (DL, s5)) (ed : D.decOf DL = ⟨dn, da, dp, [x0, x1, x2, x3, x4, x5]⟩) (e6 : (textR s5).2 = s6) (es : strOfNums (textR s5).1 = sp) (bk : 0 <= k) (ck : k <= 65535) (bt : 0 <= t) (ct : t <= 65535) :
  Calls Tryz.prog 32 #[.slice a len cap] w fun e w' => e = .returned (.tuple #[.agg #[.int .i64 k, .int .u64 ep, .int .u64 id, .int .i64 t, .int .i64 0, .int .u32 dn, .int .u32 da, .int .u64 dp, .int .u64 x0, .int .u64 x1, .int .u64 x2, .int .u64 x3, .int .u64 x4, .int .u64 x5, .string sp], .int .i64 (endR s6)]) /\ Below w.heap.size w w' := by
 have wk : IntKind.i64.wrap k = k := by rw [IntKind.wrap_i64]; omega
 clear bk ck
 have wt : IntKind.i64.wrap t = t := by rw [IntKind.wrap_i64]; omega
 clear bt ct
 have H1 : Hid (∀ (W : World) (b : Nat), K.Rd W b (l, 0) -> Calls Tryz.prog 59 #[.pointer (some ⟨b, 0, none⟩), .int .i64 1] W fun e w' => e = .returned (.int .u64 k) /\ K.Rd w' b s1 /\ W.grownBy w' (some b)) := fun W b h => by have := K.rnum_any W b (l, 0) 1 h; rw [e1] at this; exact this
 have H2 : Hid (∀ (W : World) (b : Nat), K.Rd W b s1 -> Calls Tryz.prog 59 #[.pointer (some ⟨b, 0, none⟩), .int .i64 8] W fun e w' => e = .returned (.int .u64 ep) /\ K.Rd w' b s2 /\ W.grownBy w' (some b)) := fun W b h => by have := K.rnum_any W b s1 8 h; rw [e2] at this; exact this
 have H3 : Hid (∀ (W : World) (b : Nat), K.Rd W b s2 -> Calls Tryz.prog 59 #[.pointer (some ⟨b, 0, none⟩), .int .i64 8] W fun e w' => e = .returned (.int .u64 id) /\ K.Rd w' b s3 /\ W.grownBy w' (some b)) := fun W b h => by have := K.rnum_any W b s2 8 h; rw [e3] at this; exact this
 have H4 : Hid (∀ (W : World) (b : Nat), K.Rd W b s3 -> Calls Tryz.prog 59 #[.pointer (some ⟨b, 0, none⟩), .int .i64 1] W fun e w' => e = .returned (.int .u64 t) /\ K.Rd w' b s4 /\ W.grownBy w' (some b)) := fun W b h => by have := K.rnum_any W b s3 1 h; rw [e4] at this; exact this
 have H5 : Hid (∀ (W : World) (b : Nat), K.Rd W b s4 -> Calls Tryz.prog 61 #[.pointer (some ⟨b, 0, none⟩)] W fun e w' => e = .returned (.agg #[.int .u32 dn, .int .u32 da, .int .u64 dp, .int .u64 x0, .int .u64 x1, .int .u64 x2, .int .u64 x3, .int .u64 x4, .int .u64 x5]) /\ K.Rd w' b s5 /\ W.grownBy w' (some b)) := fun W b h => by have := call_any W b s4 h; rw [e5] at this; dsimp only at this; rw [ed] at this; exact this
 have H6 : Hid (∀ (W : World) (b : Nat), K.Rd W b s5 -> Calls Tryz.prog 62 #[.pointer (some ⟨b, 0, none⟩)] W fun e w' => e = .returned (.string sp) /\ K.Rd w' b s6 /\ W.grownBy w' (some b)) := fun W b h => by have := K.rtext_any W b s5 h; rw [e6, es] at this; exact this
 have HE : Hid (∀ (W : World) (b : Nat), K.Rd W b s6 -> Calls Tryz.prog 64 #[.pointer (some ⟨b, 0, none⟩)] W fun e w' => e = .returned (.int .i64 (endR s6)) /\ w' = W) := fun W b h => K.rend_any W b s6 h
 have HZ : Hid ((Tryz.prog.info? 36).map (·.size) = some (15 : Nat)) := Tryz.size36
 generalize endR s6 = en at *
 clear e1 e2 e3 e4 e5 e6 ed es
 have E0 : Below w.heap.size w (w.alloc (Obj.cells #[.int .i64 0, .int .u64 0, .int .u64 0, .int .i64 0, .int .i64 0, .int .u32 0, .int .u32 0, .int .u64 0, .int .u64 0, .int .u64 0, .int .u64 0, .int .u64 0, .int .u64 0, .int .u64 0, .string ⟨#[]⟩] 36)) := (Below.refl _ _).alloc (Nat.le_refl _) _
 have R0 : Blk (w.alloc (Obj.cells #[.int .i64 0, .int .u64 0, .int .u64 0, .int .i64 0, .int .i64 0, .int .u32 0, .int .u32 0, .int .u64 0, .int .u64 0, .int .u64 0, .int .u64 0, .int .u64 0, .int .u64 0, .int .u64 0, .string ⟨#[]⟩] 36)) w.heap.size 36 zero15 := D.blk_new w _ 36
 have hb0 := hb.below E0
 go_enter Tryz.func32, Tryz.ntmps32
 go_wp2_with fail
 refine (R.read_any a len cap l _ hao hlen hb0).mono ?_
 rintro e w2 ⟨rb, rfl, r2, g2, b2⟩
 have M0 : MR w w.heap.size w2.heap.size rb (l, 0) [.int .i64 0, .int .u64 0, .int .u64 0, .int .i64 0, .int .i64 0, .int .u32 0, .int .u32 0, .int .u64 0, .int .u64 0, .int .u64 0, .int .u64 0, .int .u64 0, .int .u64 0, .int .u64 0, .string ⟨#[]⟩] (w2.alloc (Obj.cells #[.int .i64 0, .int .u64 0, .int .u64 0, .int .i64 0, .int .i64 0, .int .u32 0, .int .u32 0, .int .u64 0, .int .u64 0, .int .u64 0, .int .u64 0, .int .u64 0, .int .u64 0, .int .u64 0, .string ⟨#[]⟩] 36)) := by
  have hs := b2.size
  have hlt := r2.lt
  have ha := D.size_alloc' w (Obj.cells #[.int .i64 0, .int .u64 0, .int .u64 0, .int .i64 0, .int .i64 0, .int .u32 0, .int .u32 0, .int .u64 0, .int .u64 0, .int .u64 0, .int .u64 0, .int .u64 0, .int .u64 0, .int .u64 0, .string ⟨#[]⟩] 36)
  refine ⟨(r2.rd).below ((Below.refl _ _).alloc (Nat.le_refl _) _), D.blk_new w2 _ 36, (R0.over b2).alloc _, (E0.trans (b2.mono E0.size)).alloc (by omega) _, by omega, by omega, by omega, by omega, by omega, Nat.le_refl _⟩
 clear R0 E0 hb0 r2 g2 b2
 generalize w.heap.size = rs at *
 go_wp2_with fail
 generalize w2.alloc (Obj.cells #[.int .i64 0, .int .u64 0, .int .u64 0, .int .i64 0, .int .i64 0, .int .u32 0, .int .u32 0, .int .u64 0, .int .u64 0, .int .u64 0, .int .u64 0, .int .u64 0, .int .u64 0, .int .u64 0, .string ⟨#[]⟩] 36) = wa at *
 generalize w2.heap.size = mb at *
 refine (H1.out _ rb M0.rd).mono ?_
 rintro e u1 ⟨rfl, r1, g1⟩
 have N1 := M0.num r1 g1
 clear M0 r1 g1
 have c1_0 : u1.cell? ⟨mb, 0, none⟩ = some (.int .i64 0) := N1.m.cell 0
 have f1_0 := N1.m.f 0
 have M1 : MR w rs mb rb s1 [.int .i64 k, .int .u64 0, .int .u64 0, .int .i64 0, .int .i64 0, .int .u32 0, .int .u32 0, .int .u64 0, .int .u64 0, .int .u64 0, .int .u64 0, .int .u64 0, .int .u64 0, .int .u64 0, .string ⟨#[]⟩] (u1.setCell ⟨mb, 0, none⟩ (.int .i64 k)) := (N1.set 0 (.int .i64 k))
 have d1 : ((u1.setCell ⟨mb, 0, none⟩ (.int .i64 k))).cell? ⟨mb, 0, none⟩ = some (.int .i64 k) := M1.m.cell 0
 go_wp2_with (first | (go_at_call 60; refine (hasID_any _ _).mono ?_; rintro e w' ⟨rfl, hw'⟩; subst hw'; rw [q1]) | (go_at_call 47; refine (hasCall_any _ _).mono ?_; rintro e w' ⟨rfl, hw'⟩; subst hw'; rw [q2]) | (go_at_call 63; refine (hasVal_any _ _).mono ?_; rintro e w' ⟨rfl, hw'⟩; subst hw'; rw [q3]))
 refine (H2.out _ rb M1.rd).mono ?_
 rintro e u2 ⟨rfl, r2, g2⟩
 have N2 := M1.num r2 g2
 clear M1 r2 g2 c1_0 f1_0 d1 N1
 have c2_1 : u2.cell? ⟨mb, 1, none⟩ = some (.int .u64 0) := N2.m.cell 1
 have f2_1 := N2.m.f 1
 have M2 : MR w rs mb rb s2 [.int .i64 k, .int .u64 ep, .int .u64 0, .int .i64 0, .int .i64 0, .int .u32 0, .int .u32 0, .int .u64 0, .int .u64 0, .int .u64 0, .int .u64 0, .int .u64 0, .int .u64 0, .int .u64 0, .string ⟨#[]⟩] (u2.setCell ⟨mb, 1, none⟩ (.int .u64 ep)) := (N2.set 1 (.int .u64 ep))
 have d2 : ((u2.setCell ⟨mb, 1, none⟩ (.int .u64 ep))).cell? ⟨mb, 0, none⟩ = some (.int .i64 k) := M2.m.cell 0
 go_wp2_with (first | (go_at_call 60; refine (hasID_any _ _).mono ?_; rintro e w' ⟨rfl, hw'⟩; subst hw'; rw [q1]) | (go_at_call 47; refine (hasCall_any _ _).mono ?_; rintro e w' ⟨rfl, hw'⟩; subst hw'; rw [q2]) | (go_at_call 63; refine (hasVal_any _ _).mono ?_; rintro e w' ⟨rfl, hw'⟩; subst hw'; rw [q3]))
 refine (H3.out _ rb M2.rd).mono ?_
 rintro e u3 ⟨rfl, r3, g3⟩
 have N3 := M2.num r3 g3
 clear M2 r3 g3 c2_1 f2_1 d2 N2
 have c3_2 : u3.cell? ⟨mb, 2, none⟩ = some (.int .u64 0) := N3.m.cell 2
 have f3_2 := N3.m.f 2
 have M3 : MR w rs mb rb s3 [.int .i64 k, .int .u64 ep, .int .u64 id, .int .i64 0, .int .i64 0, .int .u32 0, .int .u32 0, .int .u64 0, .int .u64 0, .int .u64 0, .int .u64 0, .int .u64 0, .int .u64 0, .int .u64 0, .string ⟨#[]⟩] (u3.setCell ⟨mb, 2, none⟩ (.int .u64 id)) := (N3.set 2 (.int .u64 id))
 have d3 : ((u3.setCell ⟨mb, 2, none⟩ (.int .u64 id))).cell? ⟨mb, 0, none⟩ = some (.int .i64 k) := M3.m.cell 0
 go_wp2_with (first | (go_at_call 60; refine (hasID_any _ _).mono ?_; rintro e w' ⟨rfl, hw'⟩; subst hw'; rw [q1]) | (go_at_call 47; refine (hasCall_any _ _).mono ?_; rintro e w' ⟨rfl, hw'⟩; subst hw'; rw [q2]) | (go_at_call 63; refine (hasVal_any _ _).mono ?_; rintro e w' ⟨rfl, hw'⟩; subst hw'; rw [q3]))
 refine (H4.out _ rb M3.rd).mono ?_
 rintro e u4 ⟨rfl, r4, g4⟩
 have N4 := M3.num r4 g4
 clear M3 r4 g4 c3_2 f3_2 d3 N3
 have c4_3 : u4.cell? ⟨mb, 3, none⟩ = some (.int .i64 0) := N4.m.cell 3
 have f4_3 := N4.m.f 3
 have M4 : MR w rs mb rb s4 [.int .i64 k, .int .u64 ep, .int .u64 id, .int .i64 t, .int .i64 0, .int .u32 0, .int .u32 0, .int .u64 0, .int .u64 0, .int .u64 0, .int .u64 0, .int .u64 0, .int .u64 0, .int .u64 0, .string ⟨#[]⟩] (u4.setCell ⟨mb, 3, none⟩ (.int .i64 t)) := (N4.set 3 (.int .i64 t))
 have d4 : ((u4.setCell ⟨mb, 3, none⟩ (.int .i64 t))).cell? ⟨mb, 0, none⟩ = some (.int .i64 k) := M4.m.cell 0
 go_wp2_with (first | (go_at_call 60; refine (hasID_any _ _).mono ?_; rintro e w' ⟨rfl, hw'⟩; subst hw'; rw [q1]) | (go_at_call 47; refine (hasCall_any _ _).mono ?_; rintro e w' ⟨rfl, hw'⟩; subst hw'; rw [q2]) | (go_at_call 63; refine (hasVal_any _ _).mono ?_; rintro e w' ⟨rfl, hw'⟩; subst hw'; rw [q3]))
 refine (H5.out _ rb M4.rd).mono ?_
 rintro e u5 ⟨rfl, r5, g5⟩
 have N5 := M4.num r5 g5
 clear M4 r5 g5 c4_3 f4_3 d4 N4
 have c5_5 : u5.cell? ⟨mb, 5, none⟩ = some (.int .u32 0) := N5.m.cell 5
 have f5_5 := N5.m.f 5
 have c5_6 : u5.cell? ⟨mb, 6, none⟩ = some (.int .u32 0) := N5.m.cell 6
 have f5_6 := N5.m.f 6
 have c5_7 : u5.cell? ⟨mb, 7, none⟩ = some (.int .u64 0) := N5.m.cell 7
 have f5_7 := N5.m.f 7
 have c5_8 : u5.cell? ⟨mb, 8, none⟩ = some (.int .u64 0) := N5.m.cell 8
 have f5_8 := N5.m.f 8
 have c5_9 : u5.cell? ⟨mb, 9, none⟩ = some (.int .u64 0) := N5.m.cell 9
 have f5_9 := N5.m.f 9
 have c5_10 : u5.cell? ⟨mb, 10, none⟩ = some (.int .u64 0) := N5.m.cell 10
 have f5_10 := N5.m.f 10
 have c5_11 : u5.cell? ⟨mb, 11, none⟩ = some (.int .u64 0) := N5.m.cell 11
 have f5_11 := N5.m.f 11
 have c5_12 : u5.cell? ⟨mb, 12, none⟩ = some (.int .u64 0) := N5.m.cell 12
 have f5_12 := N5.m.f 12
 have c5_13 : u5.cell? ⟨mb, 13, none⟩ = some (.int .u64 0) := N5.m.cell 13
 have f5_13 := N5.m.f 13
 have M5 : MR w rs mb rb s5 [.int .i64 k, .int .u64 ep, .int .u64 id, .int .i64 t, .int .i64 0, .int .u32 dn, .int .u32 da, .int .u64 dp, .int .u64 x0, .int .u64 x1, .int .u64 x2, .int .u64 x3, .int .u64 x4, .int .u64 x5, .string ⟨#[]⟩] (((((((((u5.setCell ⟨mb, 5, none⟩ (.int .u32 dn)).setCell ⟨mb, 6, none⟩ (.int .u32 da)).setCell ⟨mb, 7, none⟩ (.int .u64 dp)).setCell ⟨mb, 8, none⟩ (.int .u64 x0)).setCell ⟨mb, 9, none⟩ (.int .u64 x1)).setCell ⟨mb, 10, none⟩ (.int .u64 x2)).setCell ⟨mb, 11, none⟩ (.int .u64 x3)).setCell ⟨mb, 12, none⟩ (.int .u64 x4)).setCell ⟨mb, 13, none⟩ (.int .u64 x5)) := (((((((((N5.set 5 (.int .u32 dn)).set 6 (.int .u32 da)).set 7 (.int .u64 dp)).set 8 (.int .u64 x0)).set 9 (.int .u64 x1)).set 10 (.int .u64 x2)).set 11 (.int .u64 x3)).set 12 (.int .u64 x4)).set 13 (.int .u64 x5))
 have d5 : ((((((((((u5.setCell ⟨mb, 5, none⟩ (.int .u32 dn)).setCell ⟨mb, 6, none⟩ (.int .u32 da)).setCell ⟨mb, 7, none⟩ (.int .u64 dp)).setCell ⟨mb, 8, none⟩ (.int .u64 x0)).setCell ⟨mb, 9, none⟩ (.int .u64 x1)).setCell ⟨mb, 10, none⟩ (.int .u64 x2)).setCell ⟨mb, 11, none⟩ (.int .u64 x3)).setCell ⟨mb, 12, none⟩ (.int .u64 x4)).setCell ⟨mb, 13, none⟩ (.int .u64 x5))).cell? ⟨mb, 0, none⟩ = some (.int .i64 k) := M5.m.cell 0
 go_wp2_with (first | (go_at_call 60; refine (hasID_any _ _).mono ?_; rintro e w' ⟨rfl, hw'⟩; subst hw'; rw [q1]) | (go_at_call 47; refine (hasCall_any _ _).mono ?_; rintro e w' ⟨rfl, hw'⟩; subst hw'; rw [q2]) | (go_at_call 63; refine (hasVal_any _ _).mono ?_; rintro e w' ⟨rfl, hw'⟩; subst hw'; rw [q3]))
 refine (H6.out _ rb M5.rd).mono ?_
 rintro e u6 ⟨rfl, r6, g6⟩
 have N6 := M5.num r6 g6
 clear M5 r6 g6 c5_5 f5_5 c5_6 f5_6 c5_7 f5_7 c5_8 f5_8 c5_9 f5_9 c5_10 f5_10 c5_11 f5_11 c5_12 f5_12 c5_13 f5_13 d5 N5
 have c6_14 : u6.cell? ⟨mb, 14, none⟩ = some (.string ⟨#[]⟩) := N6.m.cell 14
 have f6_14 := N6.m.f 14
 have M6 : MR w rs mb rb s6 [.int .i64 k, .int .u64 ep, .int .u64 id, .int .i64 t, .int .i64 0, .int .u32 dn, .int .u32 da, .int .u64 dp, .int .u64 x0, .int .u64 x1, .int .u64 x2, .int .u64 x3, .int .u64 x4, .int .u64 x5, .string sp] (u6.setCell ⟨mb, 14, none⟩ (.string sp)) := (N6.set 14 (.string sp))
 have d6 : ((u6.setCell ⟨mb, 14, none⟩ (.string sp))).cell? ⟨mb, 0, none⟩ = some (.int .i64 k) := M6.m.cell 0
 go_wp2_with (first | (go_at_call 60; refine (hasID_any _ _).mono ?_; rintro e w' ⟨rfl, hw'⟩; subst hw'; rw [q1]) | (go_at_call 47; refine (hasCall_any _ _).mono ?_; rintro e w' ⟨rfl, hw'⟩; subst hw'; rw [q2]) | (go_at_call 63; refine (hasVal_any _ _).mono ?_; rintro e w' ⟨rfl, hw'⟩; subst hw'; rw [q3]))
 generalize (u6.setCell ⟨mb, 14, none⟩ (.string sp)) = uf at *
 refine wp_region_late (E := [3, 4]) (S := (fun X => MR w rs mb rb s6 [.int .i64 k, .int .u64 ep, .int .u64 id, .int .i64 t, .int .i64 0, .int .u32 dn, .int .u32 da, .int .u64 dp, .int .u64 x0, .int .u64 x1, .int .u64 x2, .int .u64 x3, .int .u64 x4, .int .u64 x5, .string sp] X)) (by kernel_rfl) (M6.drew) (fun hHeld => ?_)
 simp only [List.size_toArray, List.length_cons, List.length_nil, Nat.reduceAdd]
 refine wpAnyL_take [3, 4] (i := 0) (v := _) (by kernel_rfl) (by kernel_rfl) (by kernel_rfl) rfl (by kernel_rfl) (by kernel_rfl) (by kernel_rfl) (fun _ _ _ h => h) (Or.inl ⟨by rfl, fun w hSw => exec_load_mg rfl rfl hSw.m HZ.out⟩) hHeld ?_
 try simp only [Act.put, zA, zB, zC, zD, zE, zF]
 refine wpAnyL_take [2, 3, 4] (i := 1) (v := ?_) (by kernel_rfl) (by kernel_rfl) (by kernel_rfl) rfl (by kernel_rfl) (by kernel_rfl) (by kernel_rfl) (fun _ _ _ h => h) (Or.inl ⟨by rfl, ?_⟩) hHeld ?_
 rotate_left
 ·(intro w hSw; (try dsimp only at hSw); skip; go_simp; try with_reducible rfl)
 try simp only [Act.put, zA, zB, zC, zD, zE, zF]
 refine wpAnyL_one (i := 2) (by kernel_rfl) rfl (fun K hK => ?_)
 go_simp
 refine (HE.out _ rb hHeld.rd).mono ?_
 rintro e x2 ⟨rfl, hx2⟩
 subst hx2
 go_wp2_with fail
 refine hK.out _ _ (fun _ => hHeld) ?_
 replace hHeld := hHeld
 clear hK K
 try simp only [Act.put, zA, zB, zC, zD, zE, zF]
 refine wpAnyL_one (i := 3) (by kernel_rfl) rfl (fun K hK => ?_)
 rw [if_pos (by rfl)]
 refine wp_store_row (P := Tryz.prog) 36 (.tmp 2) (.tmp 41) rfl rs ([.int .i64 k, .int .u64 ep, .int .u64 id, .int .i64 t, .int .i64 0, .int .u32 dn, .int .u32 da, .int .u64 dp, .int .u64 x0, .int .u64 x1, .int .u64 x2, .int .u64 x3, .int .u64 x4, .int .u64 x5, .string sp]).toArray rfl rfl 36 _ hHeld.r HZ.out rfl (by simp [Value.oneCell']) ?_
 refine hK.out _ _ (fun h => by cases h) ?_
 clear hK K
 try simp only [Act.put, zA, zB, zC, zD, zE, zF]
 refine wpAnyL_one (i := 4) (by kernel_rfl) rfl (fun K hK => ?_)
 go_simp
 refine hK.out _ _ (fun h => by cases h) ?_
 clear hK K
 try simp only [Act.put, zA, zB, zC, zD, zE, zF]
 refine wpAnyL_done (by kernel_rfl) ?_ _
 go_wp2_with fail
 refine bodyPost_ret (v := .tuple #[.agg [.int .i64 k, .int .u64 ep, .int .u64 id, .int .i64 t, .int .i64 0, .int .u32 dn, .int .u32 da, .int .u64 dp, .int .u64 x0, .int .u64 x1, .int .u64 x2, .int .u64 x3, .int .u64 x4, .int .u64 x5, .string sp].toArray, .int .i64 en]) (results_mg Tryz.results32 _ _ rs [.int .i64 k, .int .u64 ep, .int .u64 id, .int .i64 t, .int .i64 0, .int .u32 dn, .int .u32 da, .int .u64 dp, .int .u64 x0, .int .u64 x1, .int .u64 x2, .int .u64 x3, .int .u64 x4, .int .u64 x5, .string sp] _ rfl (hHeld.r.row _) HZ.out rfl) rfl ⟨rfl, below_setRow hHeld.b hHeld.l3 _⟩
end Go.Proofs.YtmcgcbgblgmmkaaGreatDoor.G
