/-
  The message of bytes, by package msg, read by its kind: kinds that have a value, and that have a call.
-/
import Derived.Test.YtpdndcmaaghnjaaMsRd0
import Derived.Laws.CopyOwn
namespace Go.Proofs.Ytpdndcmaaghnjaa
open Go.RowKit
open D (Da Blk)
open K (numR textR endR)

set_option linter.unusedSimpArgs false in
set_option maxRecDepth 8000 in
set_option maxHeartbeats 1600000 in
theorem read_val (a : Option Addr) (len cap : Nat) (l : List Int) (w : World) (hao : a = none → cap = 0) (hlen : len ≤ 900000000) (hb : K.Bs w a len l) (k ep id v : Int) (s1 s2 s3 s4 : List Int × Int) (q1 : idQ k = true) (q2 : caQ k = false) (q3 : vaQ k = true) (e1 : numR (l, 0) 1 = (k, s1)) (e2 : numR s1 8 = (ep, s2)) (e3 : numR s2 8 = (id, s3)) (e4 : numR s3 2 = (v, s4)) (bk : 0 ≤ k) (ck : k ≤ 65535) (bv : 0 ≤ v) (cv : v ≤ 65535) :
    Calls Try.prog 23 #[.slice a len cap] w fun e w' => e = .returned (.tuple #[.agg #[.int .i64 k, .int .u64 ep, .int .u64 id, .int .i64 0, .int .i64 v, .int .u32 0, .int .u32 0, .int .u64 0, .int .u64 0, .int .u64 0, .int .u64 0, .int .u64 0, .int .u64 0, .int .u64 0, .string ⟨#[]⟩], .int .i64 (endR s4)]) ∧ Below w.heap.size w w' := by
  have wk : IntKind.i64.wrap k = k := by rw [IntKind.wrap_i64]; omega
  clear bk ck
  have wv : IntKind.i64.wrap v = v := by rw [IntKind.wrap_i64]; omega
  clear bv cv
  have H1 : Hid (∀ (W : World) (b : Nat), K.Rd W b (l, 0) → Calls Try.prog 36 #[.pointer (some ⟨b, 0, none⟩), .int .i64 1] W fun e w' => e = .returned (.int .u64 k) ∧ K.Rd w' b s1 ∧ W.grownBy w' (some b)) := fun W b h => by have := K.rnum_any W b (l, 0) 1 h; rw [e1] at this; exact this
  have H2 : Hid (∀ (W : World) (b : Nat), K.Rd W b s1 → Calls Try.prog 36 #[.pointer (some ⟨b, 0, none⟩), .int .i64 8] W fun e w' => e = .returned (.int .u64 ep) ∧ K.Rd w' b s2 ∧ W.grownBy w' (some b)) := fun W b h => by have := K.rnum_any W b s1 8 h; rw [e2] at this; exact this
  have H3 : Hid (∀ (W : World) (b : Nat), K.Rd W b s2 → Calls Try.prog 36 #[.pointer (some ⟨b, 0, none⟩), .int .i64 8] W fun e w' => e = .returned (.int .u64 id) ∧ K.Rd w' b s3 ∧ W.grownBy w' (some b)) := fun W b h => by have := K.rnum_any W b s2 8 h; rw [e3] at this; exact this
  have H4 : Hid (∀ (W : World) (b : Nat), K.Rd W b s3 → Calls Try.prog 36 #[.pointer (some ⟨b, 0, none⟩), .int .i64 2] W fun e w' => e = .returned (.int .u64 v) ∧ K.Rd w' b s4 ∧ W.grownBy w' (some b)) := fun W b h => by have := K.rnum_any W b s3 2 h; rw [e4] at this; exact this
  have HE : Hid (∀ (W : World) (b : Nat), K.Rd W b s4 → Calls Try.prog 39 #[.pointer (some ⟨b, 0, none⟩)] W fun e w' => e = .returned (.int .i64 (endR s4)) ∧ w' = W) := fun W b h => K.rend_any W b s4 h
  have HZ : Hid ((Try.prog.info? 28).map (·.size) = some (15 : Nat)) := Try.size28
  generalize endR s4 = en at *
  clear e1 e2 e3 e4
  have E0 : Below w.heap.size w (w.alloc (Obj.cells #[.int .i64 0, .int .u64 0, .int .u64 0, .int .i64 0, .int .i64 0, .int .u32 0, .int .u32 0, .int .u64 0, .int .u64 0, .int .u64 0, .int .u64 0, .int .u64 0, .int .u64 0, .int .u64 0, .string ⟨#[]⟩] 28)) := (Below.refl _ _).alloc (Nat.le_refl _) _
  have R0 : Blk (w.alloc (Obj.cells #[.int .i64 0, .int .u64 0, .int .u64 0, .int .i64 0, .int .i64 0, .int .u32 0, .int .u32 0, .int .u64 0, .int .u64 0, .int .u64 0, .int .u64 0, .int .u64 0, .int .u64 0, .int .u64 0, .string ⟨#[]⟩] 28)) w.heap.size 28 zero15 := D.blk_new w _ 28
  have hb0 := hb.below E0
  go_enter Try.func23, Try.ntmps23
  go_wp2_with fail
  refine (R.read_any a len cap l _ hao hlen hb0).mono ?_
  rintro e w2 ⟨rb, rfl, r2, g2, b2⟩
  have M0 : MR w w.heap.size w2.heap.size rb (l, 0) [.int .i64 0, .int .u64 0, .int .u64 0, .int .i64 0, .int .i64 0, .int .u32 0, .int .u32 0, .int .u64 0, .int .u64 0, .int .u64 0, .int .u64 0, .int .u64 0, .int .u64 0, .int .u64 0, .string ⟨#[]⟩] (w2.alloc (Obj.cells #[.int .i64 0, .int .u64 0, .int .u64 0, .int .i64 0, .int .i64 0, .int .u32 0, .int .u32 0, .int .u64 0, .int .u64 0, .int .u64 0, .int .u64 0, .int .u64 0, .int .u64 0, .int .u64 0, .string ⟨#[]⟩] 28)) := by
    have hs := b2.size
    have hlt := r2.lt
    have ha := D.size_alloc' w (Obj.cells #[.int .i64 0, .int .u64 0, .int .u64 0, .int .i64 0, .int .i64 0, .int .u32 0, .int .u32 0, .int .u64 0, .int .u64 0, .int .u64 0, .int .u64 0, .int .u64 0, .int .u64 0, .int .u64 0, .string ⟨#[]⟩] 28)
    refine ⟨(r2.rd).below ((Below.refl _ _).alloc (Nat.le_refl _) _), D.blk_new w2 _ 28, (R0.over b2).alloc _, (E0.trans (b2.mono E0.size)).alloc (by omega) _, by omega, by omega, by omega, by omega, by omega, Nat.le_refl _⟩
  clear R0 E0 hb0 r2 g2 b2
  generalize w.heap.size = rs at *
  go_wp2_with fail
  generalize w2.alloc (Obj.cells #[.int .i64 0, .int .u64 0, .int .u64 0, .int .i64 0, .int .i64 0, .int .u32 0, .int .u32 0, .int .u64 0, .int .u64 0, .int .u64 0, .int .u64 0, .int .u64 0, .int .u64 0, .int .u64 0, .string ⟨#[]⟩] 28) = wa at *
  generalize w2.heap.size = mb at *
  refine (H1.out _ rb M0.rd).mono ?_
  rintro e u1 ⟨rfl, r1, g1⟩
  have N1 := M0.num r1 g1
  clear M0 r1 g1
  have c1_0 : u1.cell? ⟨mb, 0, none⟩ = some (.int .i64 0) := N1.m.cell 0
  have f1_0 := N1.m.f 0
  have M1 : MR w rs mb rb s1 [.int .i64 k, .int .u64 0, .int .u64 0, .int .i64 0, .int .i64 0, .int .u32 0, .int .u32 0, .int .u64 0, .int .u64 0, .int .u64 0, .int .u64 0, .int .u64 0, .int .u64 0, .int .u64 0, .string ⟨#[]⟩] (u1.setCell ⟨mb, 0, none⟩ (.int .i64 k)) := (N1.set 0 (.int .i64 k))
  have d1 : ((u1.setCell ⟨mb, 0, none⟩ (.int .i64 k))).cell? ⟨mb, 0, none⟩ = some (.int .i64 k) := M1.m.cell 0
  go_wp2_with (first | (go_at_call 33; refine (hasID_any _ _).mono ?_; rintro e w' ⟨rfl, hw'⟩; subst hw'; rw [q1]) | (go_at_call 29; refine (hasCall_any _ _).mono ?_; rintro e w' ⟨rfl, hw'⟩; subst hw'; rw [q2]) | (go_at_call 34; refine (hasVal_any _ _).mono ?_; rintro e w' ⟨rfl, hw'⟩; subst hw'; rw [q3]))
  refine (H2.out _ rb M1.rd).mono ?_
  rintro e u2 ⟨rfl, r2, g2⟩
  have N2 := M1.num r2 g2
  clear M1 r2 g2 c1_0 f1_0 d1 N1
  have c2_1 : u2.cell? ⟨mb, 1, none⟩ = some (.int .u64 0) := N2.m.cell 1
  have f2_1 := N2.m.f 1
  have M2 : MR w rs mb rb s2 [.int .i64 k, .int .u64 ep, .int .u64 0, .int .i64 0, .int .i64 0, .int .u32 0, .int .u32 0, .int .u64 0, .int .u64 0, .int .u64 0, .int .u64 0, .int .u64 0, .int .u64 0, .int .u64 0, .string ⟨#[]⟩] (u2.setCell ⟨mb, 1, none⟩ (.int .u64 ep)) := (N2.set 1 (.int .u64 ep))
  have d2 : ((u2.setCell ⟨mb, 1, none⟩ (.int .u64 ep))).cell? ⟨mb, 0, none⟩ = some (.int .i64 k) := M2.m.cell 0
  go_wp2_with (first | (go_at_call 33; refine (hasID_any _ _).mono ?_; rintro e w' ⟨rfl, hw'⟩; subst hw'; rw [q1]) | (go_at_call 29; refine (hasCall_any _ _).mono ?_; rintro e w' ⟨rfl, hw'⟩; subst hw'; rw [q2]) | (go_at_call 34; refine (hasVal_any _ _).mono ?_; rintro e w' ⟨rfl, hw'⟩; subst hw'; rw [q3]))
  refine (H3.out _ rb M2.rd).mono ?_
  rintro e u3 ⟨rfl, r3, g3⟩
  have N3 := M2.num r3 g3
  clear M2 r3 g3 c2_1 f2_1 d2 N2
  have c3_2 : u3.cell? ⟨mb, 2, none⟩ = some (.int .u64 0) := N3.m.cell 2
  have f3_2 := N3.m.f 2
  have M3 : MR w rs mb rb s3 [.int .i64 k, .int .u64 ep, .int .u64 id, .int .i64 0, .int .i64 0, .int .u32 0, .int .u32 0, .int .u64 0, .int .u64 0, .int .u64 0, .int .u64 0, .int .u64 0, .int .u64 0, .int .u64 0, .string ⟨#[]⟩] (u3.setCell ⟨mb, 2, none⟩ (.int .u64 id)) := (N3.set 2 (.int .u64 id))
  have d3 : ((u3.setCell ⟨mb, 2, none⟩ (.int .u64 id))).cell? ⟨mb, 0, none⟩ = some (.int .i64 k) := M3.m.cell 0
  go_wp2_with (first | (go_at_call 33; refine (hasID_any _ _).mono ?_; rintro e w' ⟨rfl, hw'⟩; subst hw'; rw [q1]) | (go_at_call 29; refine (hasCall_any _ _).mono ?_; rintro e w' ⟨rfl, hw'⟩; subst hw'; rw [q2]) | (go_at_call 34; refine (hasVal_any _ _).mono ?_; rintro e w' ⟨rfl, hw'⟩; subst hw'; rw [q3]))
  refine (H4.out _ rb M3.rd).mono ?_
  rintro e u4 ⟨rfl, r4, g4⟩
  have N4 := M3.num r4 g4
  clear M3 r4 g4 c3_2 f3_2 d3 N3
  have c4_4 : u4.cell? ⟨mb, 4, none⟩ = some (.int .i64 0) := N4.m.cell 4
  have f4_4 := N4.m.f 4
  have M4 : MR w rs mb rb s4 [.int .i64 k, .int .u64 ep, .int .u64 id, .int .i64 0, .int .i64 v, .int .u32 0, .int .u32 0, .int .u64 0, .int .u64 0, .int .u64 0, .int .u64 0, .int .u64 0, .int .u64 0, .int .u64 0, .string ⟨#[]⟩] (u4.setCell ⟨mb, 4, none⟩ (.int .i64 v)) := (N4.set 4 (.int .i64 v))
  have d4 : ((u4.setCell ⟨mb, 4, none⟩ (.int .i64 v))).cell? ⟨mb, 0, none⟩ = some (.int .i64 k) := M4.m.cell 0
  go_wp2_with (first | (go_at_call 33; refine (hasID_any _ _).mono ?_; rintro e w' ⟨rfl, hw'⟩; subst hw'; rw [q1]) | (go_at_call 29; refine (hasCall_any _ _).mono ?_; rintro e w' ⟨rfl, hw'⟩; subst hw'; rw [q2]) | (go_at_call 34; refine (hasVal_any _ _).mono ?_; rintro e w' ⟨rfl, hw'⟩; subst hw'; rw [q3]))
  generalize (u4.setCell ⟨mb, 4, none⟩ (.int .i64 v)) = uf at *
  refine wp_region_late (E := [3, 4]) (S := (fun X => MR w rs mb rb s4 [.int .i64 k, .int .u64 ep, .int .u64 id, .int .i64 0, .int .i64 v, .int .u32 0, .int .u32 0, .int .u64 0, .int .u64 0, .int .u64 0, .int .u64 0, .int .u64 0, .int .u64 0, .int .u64 0, .string ⟨#[]⟩] X)) (by kernel_rfl) (M4.drew) (fun hHeld => ?_)
  simp only [List.size_toArray, List.length_cons, List.length_nil, Nat.reduceAdd]
  refine wpAnyL_take [3, 4] (i := 0) (v := _) (by kernel_rfl) (by kernel_rfl) (by kernel_rfl) rfl (by kernel_rfl) (by kernel_rfl) (by kernel_rfl) (fun _ _ _ h => h) (Or.inl ⟨by rfl, fun w hSw => exec_load_mg rfl rfl hSw.m HZ.out⟩) hHeld ?_
  try simp only [Act.put, List.setIfInBounds_toArray, List.set_cons_zero, List.set_cons_succ, List.getElem_toArray, List.getElem_cons_zero, List.getElem_cons_succ]
  refine wpAnyL_take [2, 3, 4] (i := 1) (v := ?_) (by kernel_rfl) (by kernel_rfl) (by kernel_rfl) rfl (by kernel_rfl) (by kernel_rfl) (by kernel_rfl) (fun _ _ _ h => h) (Or.inl ⟨by rfl, ?_⟩) hHeld ?_
  rotate_left
  · (intro w hSw; (try dsimp only at hSw); skip; go_simp; try with_reducible rfl)
  try simp only [Act.put, List.setIfInBounds_toArray, List.set_cons_zero, List.set_cons_succ, List.getElem_toArray, List.getElem_cons_zero, List.getElem_cons_succ]
  refine wpAnyL_one (i := 2) (by kernel_rfl) rfl (fun K hK => ?_)
  go_simp
  refine (HE.out _ rb hHeld.rd).mono ?_
  rintro e x2 ⟨rfl, hx2⟩
  subst hx2
  go_wp2_with fail
  refine hK.out _ _ (fun _ => hHeld) ?_
  replace hHeld := hHeld
  clear hK K
  try simp only [Act.put, List.setIfInBounds_toArray, List.set_cons_zero, List.set_cons_succ, List.getElem_toArray, List.getElem_cons_zero, List.getElem_cons_succ]
  refine wpAnyL_one (i := 3) (by kernel_rfl) rfl (fun K hK => ?_)
  rw [if_pos (by rfl)]
  refine wp_store_row (P := Try.prog) 28 (.tmp 2) (.tmp 41) rfl rs ([.int .i64 k, .int .u64 ep, .int .u64 id, .int .i64 0, .int .i64 v, .int .u32 0, .int .u32 0, .int .u64 0, .int .u64 0, .int .u64 0, .int .u64 0, .int .u64 0, .int .u64 0, .int .u64 0, .string ⟨#[]⟩]).toArray rfl rfl 28 _ hHeld.r HZ.out rfl (by simp [Value.oneCell']) ?_
  refine hK.out _ _ (fun h => by cases h) ?_
  clear hK K
  try simp only [Act.put, List.setIfInBounds_toArray, List.set_cons_zero, List.set_cons_succ, List.getElem_toArray, List.getElem_cons_zero, List.getElem_cons_succ]
  refine wpAnyL_one (i := 4) (by kernel_rfl) rfl (fun K hK => ?_)
  go_simp
  refine hK.out _ _ (fun h => by cases h) ?_
  clear hK K
  try simp only [Act.put, List.setIfInBounds_toArray, List.set_cons_zero, List.set_cons_succ, List.getElem_toArray, List.getElem_cons_zero, List.getElem_cons_succ]
  refine wpAnyL_done (by kernel_rfl) ?_ _
  go_wp2_with fail
  refine bodyPost_ret (v := .tuple #[.agg [.int .i64 k, .int .u64 ep, .int .u64 id, .int .i64 0, .int .i64 v, .int .u32 0, .int .u32 0, .int .u64 0, .int .u64 0, .int .u64 0, .int .u64 0, .int .u64 0, .int .u64 0, .int .u64 0, .string ⟨#[]⟩].toArray, .int .i64 en]) (results_mg Try.results23 _ _ rs [.int .i64 k, .int .u64 ep, .int .u64 id, .int .i64 0, .int .i64 v, .int .u32 0, .int .u32 0, .int .u64 0, .int .u64 0, .int .u64 0, .int .u64 0, .int .u64 0, .int .u64 0, .int .u64 0, .string ⟨#[]⟩] _ rfl (hHeld.r.row _) HZ.out rfl) rfl ⟨rfl, below_setRow hHeld.b hHeld.l3 _⟩

end Go.Proofs.Ytpdndcmaaghnjaa

namespace Go.Proofs.Ytpdndcmaaghnjaa
open Go.RowKit
open D (Da Blk)
open K (numR textR endR)

set_option linter.unusedSimpArgs false in
set_option maxRecDepth 8000 in
set_option maxHeartbeats 1600000 in
theorem read_call (a : Option Addr) (len cap : Nat) (l : List Int) (w : World) (hao : a = none → cap = 0) (hlen : len ≤ 900000000) (hb : K.Bs w a len l) (k ep id t : Int) (s1 s2 s3 s4 s5 s6 : List Int × Int) (q1 : idQ k = true) (q2 : caQ k = true) (q3 : vaQ k = false) (dn da dp x0 x1 x2 x3 x4 x5 : Int) (DL : List Int) (sp : ByteArray) (e1 : numR (l, 0) 1 = (k, s1)) (e2 : numR s1 8 = (ep, s2)) (e3 : numR s2 8 = (id, s3)) (e4 : numR s3 1 = (t, s4)) (e5 : byteR s4 64 = (DL, s5)) (ed : D.decOf DL = ⟨dn, da, dp, [x0, x1, x2, x3, x4, x5]⟩) (e6 : (textR s5).2 = s6) (es : strOfNums (textR s5).1 = sp) (bk : 0 ≤ k) (ck : k ≤ 65535) (bt : 0 ≤ t) (ct : t ≤ 65535) :
    Calls Try.prog 23 #[.slice a len cap] w fun e w' => e = .returned (.tuple #[.agg #[.int .i64 k, .int .u64 ep, .int .u64 id, .int .i64 t, .int .i64 0, .int .u32 dn, .int .u32 da, .int .u64 dp, .int .u64 x0, .int .u64 x1, .int .u64 x2, .int .u64 x3, .int .u64 x4, .int .u64 x5, .string sp], .int .i64 (endR s6)]) ∧ Below w.heap.size w w' := by
  have wk : IntKind.i64.wrap k = k := by rw [IntKind.wrap_i64]; omega
  clear bk ck
  have wt : IntKind.i64.wrap t = t := by rw [IntKind.wrap_i64]; omega
  clear bt ct
  have H1 : Hid (∀ (W : World) (b : Nat), K.Rd W b (l, 0) → Calls Try.prog 36 #[.pointer (some ⟨b, 0, none⟩), .int .i64 1] W fun e w' => e = .returned (.int .u64 k) ∧ K.Rd w' b s1 ∧ W.grownBy w' (some b)) := fun W b h => by have := K.rnum_any W b (l, 0) 1 h; rw [e1] at this; exact this
  have H2 : Hid (∀ (W : World) (b : Nat), K.Rd W b s1 → Calls Try.prog 36 #[.pointer (some ⟨b, 0, none⟩), .int .i64 8] W fun e w' => e = .returned (.int .u64 ep) ∧ K.Rd w' b s2 ∧ W.grownBy w' (some b)) := fun W b h => by have := K.rnum_any W b s1 8 h; rw [e2] at this; exact this
  have H3 : Hid (∀ (W : World) (b : Nat), K.Rd W b s2 → Calls Try.prog 36 #[.pointer (some ⟨b, 0, none⟩), .int .i64 8] W fun e w' => e = .returned (.int .u64 id) ∧ K.Rd w' b s3 ∧ W.grownBy w' (some b)) := fun W b h => by have := K.rnum_any W b s2 8 h; rw [e3] at this; exact this
  have H4 : Hid (∀ (W : World) (b : Nat), K.Rd W b s3 → Calls Try.prog 36 #[.pointer (some ⟨b, 0, none⟩), .int .i64 1] W fun e w' => e = .returned (.int .u64 t) ∧ K.Rd w' b s4 ∧ W.grownBy w' (some b)) := fun W b h => by have := K.rnum_any W b s3 1 h; rw [e4] at this; exact this
  have H5 : Hid (∀ (W : World) (b : Nat), K.Rd W b s4 → Calls Try.prog 37 #[.pointer (some ⟨b, 0, none⟩)] W fun e w' => e = .returned (.agg #[.int .u32 dn, .int .u32 da, .int .u64 dp, .int .u64 x0, .int .u64 x1, .int .u64 x2, .int .u64 x3, .int .u64 x4, .int .u64 x5]) ∧ K.Rd w' b s5 ∧ W.grownBy w' (some b)) := fun W b h => by have := call_any W b s4 h; rw [e5] at this; dsimp only at this; rw [ed] at this; exact this
  have H6 : Hid (∀ (W : World) (b : Nat), K.Rd W b s5 → Calls Try.prog 38 #[.pointer (some ⟨b, 0, none⟩)] W fun e w' => e = .returned (.string sp) ∧ K.Rd w' b s6 ∧ W.grownBy w' (some b)) := fun W b h => by have := K.rtext_any W b s5 h; rw [e6, es] at this; exact this
  have HE : Hid (∀ (W : World) (b : Nat), K.Rd W b s6 → Calls Try.prog 39 #[.pointer (some ⟨b, 0, none⟩)] W fun e w' => e = .returned (.int .i64 (endR s6)) ∧ w' = W) := fun W b h => K.rend_any W b s6 h
  have HZ : Hid ((Try.prog.info? 28).map (·.size) = some (15 : Nat)) := Try.size28
  generalize endR s6 = en at *
  clear e1 e2 e3 e4 e5 e6 ed es
  have E0 : Below w.heap.size w (w.alloc (Obj.cells #[.int .i64 0, .int .u64 0, .int .u64 0, .int .i64 0, .int .i64 0, .int .u32 0, .int .u32 0, .int .u64 0, .int .u64 0, .int .u64 0, .int .u64 0, .int .u64 0, .int .u64 0, .int .u64 0, .string ⟨#[]⟩] 28)) := (Below.refl _ _).alloc (Nat.le_refl _) _
  have R0 : Blk (w.alloc (Obj.cells #[.int .i64 0, .int .u64 0, .int .u64 0, .int .i64 0, .int .i64 0, .int .u32 0, .int .u32 0, .int .u64 0, .int .u64 0, .int .u64 0, .int .u64 0, .int .u64 0, .int .u64 0, .int .u64 0, .string ⟨#[]⟩] 28)) w.heap.size 28 zero15 := D.blk_new w _ 28
  have hb0 := hb.below E0
  go_enter Try.func23, Try.ntmps23
  go_wp2_with fail
  refine (R.read_any a len cap l _ hao hlen hb0).mono ?_
  rintro e w2 ⟨rb, rfl, r2, g2, b2⟩
  have M0 : MR w w.heap.size w2.heap.size rb (l, 0) [.int .i64 0, .int .u64 0, .int .u64 0, .int .i64 0, .int .i64 0, .int .u32 0, .int .u32 0, .int .u64 0, .int .u64 0, .int .u64 0, .int .u64 0, .int .u64 0, .int .u64 0, .int .u64 0, .string ⟨#[]⟩] (w2.alloc (Obj.cells #[.int .i64 0, .int .u64 0, .int .u64 0, .int .i64 0, .int .i64 0, .int .u32 0, .int .u32 0, .int .u64 0, .int .u64 0, .int .u64 0, .int .u64 0, .int .u64 0, .int .u64 0, .int .u64 0, .string ⟨#[]⟩] 28)) := by
    have hs := b2.size
    have hlt := r2.lt
    have ha := D.size_alloc' w (Obj.cells #[.int .i64 0, .int .u64 0, .int .u64 0, .int .i64 0, .int .i64 0, .int .u32 0, .int .u32 0, .int .u64 0, .int .u64 0, .int .u64 0, .int .u64 0, .int .u64 0, .int .u64 0, .int .u64 0, .string ⟨#[]⟩] 28)
    refine ⟨(r2.rd).below ((Below.refl _ _).alloc (Nat.le_refl _) _), D.blk_new w2 _ 28, (R0.over b2).alloc _, (E0.trans (b2.mono E0.size)).alloc (by omega) _, by omega, by omega, by omega, by omega, by omega, Nat.le_refl _⟩
  clear R0 E0 hb0 r2 g2 b2
  generalize w.heap.size = rs at *
  go_wp2_with fail
  generalize w2.alloc (Obj.cells #[.int .i64 0, .int .u64 0, .int .u64 0, .int .i64 0, .int .i64 0, .int .u32 0, .int .u32 0, .int .u64 0, .int .u64 0, .int .u64 0, .int .u64 0, .int .u64 0, .int .u64 0, .int .u64 0, .string ⟨#[]⟩] 28) = wa at *
  generalize w2.heap.size = mb at *
  refine (H1.out _ rb M0.rd).mono ?_
  rintro e u1 ⟨rfl, r1, g1⟩
  have N1 := M0.num r1 g1
  clear M0 r1 g1
  have c1_0 : u1.cell? ⟨mb, 0, none⟩ = some (.int .i64 0) := N1.m.cell 0
  have f1_0 := N1.m.f 0
  have M1 : MR w rs mb rb s1 [.int .i64 k, .int .u64 0, .int .u64 0, .int .i64 0, .int .i64 0, .int .u32 0, .int .u32 0, .int .u64 0, .int .u64 0, .int .u64 0, .int .u64 0, .int .u64 0, .int .u64 0, .int .u64 0, .string ⟨#[]⟩] (u1.setCell ⟨mb, 0, none⟩ (.int .i64 k)) := (N1.set 0 (.int .i64 k))
  have d1 : ((u1.setCell ⟨mb, 0, none⟩ (.int .i64 k))).cell? ⟨mb, 0, none⟩ = some (.int .i64 k) := M1.m.cell 0
  go_wp2_with (first | (go_at_call 33; refine (hasID_any _ _).mono ?_; rintro e w' ⟨rfl, hw'⟩; subst hw'; rw [q1]) | (go_at_call 29; refine (hasCall_any _ _).mono ?_; rintro e w' ⟨rfl, hw'⟩; subst hw'; rw [q2]) | (go_at_call 34; refine (hasVal_any _ _).mono ?_; rintro e w' ⟨rfl, hw'⟩; subst hw'; rw [q3]))
  refine (H2.out _ rb M1.rd).mono ?_
  rintro e u2 ⟨rfl, r2, g2⟩
  have N2 := M1.num r2 g2
  clear M1 r2 g2 c1_0 f1_0 d1 N1
  have c2_1 : u2.cell? ⟨mb, 1, none⟩ = some (.int .u64 0) := N2.m.cell 1
  have f2_1 := N2.m.f 1
  have M2 : MR w rs mb rb s2 [.int .i64 k, .int .u64 ep, .int .u64 0, .int .i64 0, .int .i64 0, .int .u32 0, .int .u32 0, .int .u64 0, .int .u64 0, .int .u64 0, .int .u64 0, .int .u64 0, .int .u64 0, .int .u64 0, .string ⟨#[]⟩] (u2.setCell ⟨mb, 1, none⟩ (.int .u64 ep)) := (N2.set 1 (.int .u64 ep))
  have d2 : ((u2.setCell ⟨mb, 1, none⟩ (.int .u64 ep))).cell? ⟨mb, 0, none⟩ = some (.int .i64 k) := M2.m.cell 0
  go_wp2_with (first | (go_at_call 33; refine (hasID_any _ _).mono ?_; rintro e w' ⟨rfl, hw'⟩; subst hw'; rw [q1]) | (go_at_call 29; refine (hasCall_any _ _).mono ?_; rintro e w' ⟨rfl, hw'⟩; subst hw'; rw [q2]) | (go_at_call 34; refine (hasVal_any _ _).mono ?_; rintro e w' ⟨rfl, hw'⟩; subst hw'; rw [q3]))
  refine (H3.out _ rb M2.rd).mono ?_
  rintro e u3 ⟨rfl, r3, g3⟩
  have N3 := M2.num r3 g3
  clear M2 r3 g3 c2_1 f2_1 d2 N2
  have c3_2 : u3.cell? ⟨mb, 2, none⟩ = some (.int .u64 0) := N3.m.cell 2
  have f3_2 := N3.m.f 2
  have M3 : MR w rs mb rb s3 [.int .i64 k, .int .u64 ep, .int .u64 id, .int .i64 0, .int .i64 0, .int .u32 0, .int .u32 0, .int .u64 0, .int .u64 0, .int .u64 0, .int .u64 0, .int .u64 0, .int .u64 0, .int .u64 0, .string ⟨#[]⟩] (u3.setCell ⟨mb, 2, none⟩ (.int .u64 id)) := (N3.set 2 (.int .u64 id))
  have d3 : ((u3.setCell ⟨mb, 2, none⟩ (.int .u64 id))).cell? ⟨mb, 0, none⟩ = some (.int .i64 k) := M3.m.cell 0
  go_wp2_with (first | (go_at_call 33; refine (hasID_any _ _).mono ?_; rintro e w' ⟨rfl, hw'⟩; subst hw'; rw [q1]) | (go_at_call 29; refine (hasCall_any _ _).mono ?_; rintro e w' ⟨rfl, hw'⟩; subst hw'; rw [q2]) | (go_at_call 34; refine (hasVal_any _ _).mono ?_; rintro e w' ⟨rfl, hw'⟩; subst hw'; rw [q3]))
  refine (H4.out _ rb M3.rd).mono ?_
  rintro e u4 ⟨rfl, r4, g4⟩
  have N4 := M3.num r4 g4
  clear M3 r4 g4 c3_2 f3_2 d3 N3
  have c4_3 : u4.cell? ⟨mb, 3, none⟩ = some (.int .i64 0) := N4.m.cell 3
  have f4_3 := N4.m.f 3
  have M4 : MR w rs mb rb s4 [.int .i64 k, .int .u64 ep, .int .u64 id, .int .i64 t, .int .i64 0, .int .u32 0, .int .u32 0, .int .u64 0, .int .u64 0, .int .u64 0, .int .u64 0, .int .u64 0, .int .u64 0, .int .u64 0, .string ⟨#[]⟩] (u4.setCell ⟨mb, 3, none⟩ (.int .i64 t)) := (N4.set 3 (.int .i64 t))
  have d4 : ((u4.setCell ⟨mb, 3, none⟩ (.int .i64 t))).cell? ⟨mb, 0, none⟩ = some (.int .i64 k) := M4.m.cell 0
  go_wp2_with (first | (go_at_call 33; refine (hasID_any _ _).mono ?_; rintro e w' ⟨rfl, hw'⟩; subst hw'; rw [q1]) | (go_at_call 29; refine (hasCall_any _ _).mono ?_; rintro e w' ⟨rfl, hw'⟩; subst hw'; rw [q2]) | (go_at_call 34; refine (hasVal_any _ _).mono ?_; rintro e w' ⟨rfl, hw'⟩; subst hw'; rw [q3]))
  refine (H5.out _ rb M4.rd).mono ?_
  rintro e u5 ⟨rfl, r5, g5⟩
  have N5 := M4.num r5 g5
  clear M4 r5 g5 c4_3 f4_3 d4 N4
  have c5_5 : u5.cell? ⟨mb, 5, none⟩ = some (.int .u32 0) := N5.m.cell 5
  have f5_5 := N5.m.f 5
  have c5_6 : u5.cell? ⟨mb, 6, none⟩ = some (.int .u32 0) := N5.m.cell 6
  have f5_6 := N5.m.f 6
  have c5_7 : u5.cell? ⟨mb, 7, none⟩ = some (.int .u64 0) := N5.m.cell 7
  have f5_7 := N5.m.f 7
  have c5_8 : u5.cell? ⟨mb, 8, none⟩ = some (.int .u64 0) := N5.m.cell 8
  have f5_8 := N5.m.f 8
  have c5_9 : u5.cell? ⟨mb, 9, none⟩ = some (.int .u64 0) := N5.m.cell 9
  have f5_9 := N5.m.f 9
  have c5_10 : u5.cell? ⟨mb, 10, none⟩ = some (.int .u64 0) := N5.m.cell 10
  have f5_10 := N5.m.f 10
  have c5_11 : u5.cell? ⟨mb, 11, none⟩ = some (.int .u64 0) := N5.m.cell 11
  have f5_11 := N5.m.f 11
  have c5_12 : u5.cell? ⟨mb, 12, none⟩ = some (.int .u64 0) := N5.m.cell 12
  have f5_12 := N5.m.f 12
  have c5_13 : u5.cell? ⟨mb, 13, none⟩ = some (.int .u64 0) := N5.m.cell 13
  have f5_13 := N5.m.f 13
  have M5 : MR w rs mb rb s5 [.int .i64 k, .int .u64 ep, .int .u64 id, .int .i64 t, .int .i64 0, .int .u32 dn, .int .u32 da, .int .u64 dp, .int .u64 x0, .int .u64 x1, .int .u64 x2, .int .u64 x3, .int .u64 x4, .int .u64 x5, .string ⟨#[]⟩] (((((((((u5.setCell ⟨mb, 5, none⟩ (.int .u32 dn)).setCell ⟨mb, 6, none⟩ (.int .u32 da)).setCell ⟨mb, 7, none⟩ (.int .u64 dp)).setCell ⟨mb, 8, none⟩ (.int .u64 x0)).setCell ⟨mb, 9, none⟩ (.int .u64 x1)).setCell ⟨mb, 10, none⟩ (.int .u64 x2)).setCell ⟨mb, 11, none⟩ (.int .u64 x3)).setCell ⟨mb, 12, none⟩ (.int .u64 x4)).setCell ⟨mb, 13, none⟩ (.int .u64 x5)) := (((((((((N5.set 5 (.int .u32 dn)).set 6 (.int .u32 da)).set 7 (.int .u64 dp)).set 8 (.int .u64 x0)).set 9 (.int .u64 x1)).set 10 (.int .u64 x2)).set 11 (.int .u64 x3)).set 12 (.int .u64 x4)).set 13 (.int .u64 x5))
  have d5 : ((((((((((u5.setCell ⟨mb, 5, none⟩ (.int .u32 dn)).setCell ⟨mb, 6, none⟩ (.int .u32 da)).setCell ⟨mb, 7, none⟩ (.int .u64 dp)).setCell ⟨mb, 8, none⟩ (.int .u64 x0)).setCell ⟨mb, 9, none⟩ (.int .u64 x1)).setCell ⟨mb, 10, none⟩ (.int .u64 x2)).setCell ⟨mb, 11, none⟩ (.int .u64 x3)).setCell ⟨mb, 12, none⟩ (.int .u64 x4)).setCell ⟨mb, 13, none⟩ (.int .u64 x5))).cell? ⟨mb, 0, none⟩ = some (.int .i64 k) := M5.m.cell 0
  go_wp2_with (first | (go_at_call 33; refine (hasID_any _ _).mono ?_; rintro e w' ⟨rfl, hw'⟩; subst hw'; rw [q1]) | (go_at_call 29; refine (hasCall_any _ _).mono ?_; rintro e w' ⟨rfl, hw'⟩; subst hw'; rw [q2]) | (go_at_call 34; refine (hasVal_any _ _).mono ?_; rintro e w' ⟨rfl, hw'⟩; subst hw'; rw [q3]))
  refine (H6.out _ rb M5.rd).mono ?_
  rintro e u6 ⟨rfl, r6, g6⟩
  have N6 := M5.num r6 g6
  clear M5 r6 g6 c5_5 f5_5 c5_6 f5_6 c5_7 f5_7 c5_8 f5_8 c5_9 f5_9 c5_10 f5_10 c5_11 f5_11 c5_12 f5_12 c5_13 f5_13 d5 N5
  have c6_14 : u6.cell? ⟨mb, 14, none⟩ = some (.string ⟨#[]⟩) := N6.m.cell 14
  have f6_14 := N6.m.f 14
  have M6 : MR w rs mb rb s6 [.int .i64 k, .int .u64 ep, .int .u64 id, .int .i64 t, .int .i64 0, .int .u32 dn, .int .u32 da, .int .u64 dp, .int .u64 x0, .int .u64 x1, .int .u64 x2, .int .u64 x3, .int .u64 x4, .int .u64 x5, .string sp] (u6.setCell ⟨mb, 14, none⟩ (.string sp)) := (N6.set 14 (.string sp))
  have d6 : ((u6.setCell ⟨mb, 14, none⟩ (.string sp))).cell? ⟨mb, 0, none⟩ = some (.int .i64 k) := M6.m.cell 0
  go_wp2_with (first | (go_at_call 33; refine (hasID_any _ _).mono ?_; rintro e w' ⟨rfl, hw'⟩; subst hw'; rw [q1]) | (go_at_call 29; refine (hasCall_any _ _).mono ?_; rintro e w' ⟨rfl, hw'⟩; subst hw'; rw [q2]) | (go_at_call 34; refine (hasVal_any _ _).mono ?_; rintro e w' ⟨rfl, hw'⟩; subst hw'; rw [q3]))
  generalize (u6.setCell ⟨mb, 14, none⟩ (.string sp)) = uf at *
  refine wp_region_late (E := [3, 4]) (S := (fun X => MR w rs mb rb s6 [.int .i64 k, .int .u64 ep, .int .u64 id, .int .i64 t, .int .i64 0, .int .u32 dn, .int .u32 da, .int .u64 dp, .int .u64 x0, .int .u64 x1, .int .u64 x2, .int .u64 x3, .int .u64 x4, .int .u64 x5, .string sp] X)) (by kernel_rfl) (M6.drew) (fun hHeld => ?_)
  simp only [List.size_toArray, List.length_cons, List.length_nil, Nat.reduceAdd]
  refine wpAnyL_take [3, 4] (i := 0) (v := _) (by kernel_rfl) (by kernel_rfl) (by kernel_rfl) rfl (by kernel_rfl) (by kernel_rfl) (by kernel_rfl) (fun _ _ _ h => h) (Or.inl ⟨by rfl, fun w hSw => exec_load_mg rfl rfl hSw.m HZ.out⟩) hHeld ?_
  try simp only [Act.put, List.setIfInBounds_toArray, List.set_cons_zero, List.set_cons_succ, List.getElem_toArray, List.getElem_cons_zero, List.getElem_cons_succ]
  refine wpAnyL_take [2, 3, 4] (i := 1) (v := ?_) (by kernel_rfl) (by kernel_rfl) (by kernel_rfl) rfl (by kernel_rfl) (by kernel_rfl) (by kernel_rfl) (fun _ _ _ h => h) (Or.inl ⟨by rfl, ?_⟩) hHeld ?_
  rotate_left
  · (intro w hSw; (try dsimp only at hSw); skip; go_simp; try with_reducible rfl)
  try simp only [Act.put, List.setIfInBounds_toArray, List.set_cons_zero, List.set_cons_succ, List.getElem_toArray, List.getElem_cons_zero, List.getElem_cons_succ]
  refine wpAnyL_one (i := 2) (by kernel_rfl) rfl (fun K hK => ?_)
  go_simp
  refine (HE.out _ rb hHeld.rd).mono ?_
  rintro e x2 ⟨rfl, hx2⟩
  subst hx2
  go_wp2_with fail
  refine hK.out _ _ (fun _ => hHeld) ?_
  replace hHeld := hHeld
  clear hK K
  try simp only [Act.put, List.setIfInBounds_toArray, List.set_cons_zero, List.set_cons_succ, List.getElem_toArray, List.getElem_cons_zero, List.getElem_cons_succ]
  refine wpAnyL_one (i := 3) (by kernel_rfl) rfl (fun K hK => ?_)
  rw [if_pos (by rfl)]
  refine wp_store_row (P := Try.prog) 28 (.tmp 2) (.tmp 41) rfl rs ([.int .i64 k, .int .u64 ep, .int .u64 id, .int .i64 t, .int .i64 0, .int .u32 dn, .int .u32 da, .int .u64 dp, .int .u64 x0, .int .u64 x1, .int .u64 x2, .int .u64 x3, .int .u64 x4, .int .u64 x5, .string sp]).toArray rfl rfl 28 _ hHeld.r HZ.out rfl (by simp [Value.oneCell']) ?_
  refine hK.out _ _ (fun h => by cases h) ?_
  clear hK K
  try simp only [Act.put, List.setIfInBounds_toArray, List.set_cons_zero, List.set_cons_succ, List.getElem_toArray, List.getElem_cons_zero, List.getElem_cons_succ]
  refine wpAnyL_one (i := 4) (by kernel_rfl) rfl (fun K hK => ?_)
  go_simp
  refine hK.out _ _ (fun h => by cases h) ?_
  clear hK K
  try simp only [Act.put, List.setIfInBounds_toArray, List.set_cons_zero, List.set_cons_succ, List.getElem_toArray, List.getElem_cons_zero, List.getElem_cons_succ]
  refine wpAnyL_done (by kernel_rfl) ?_ _
  go_wp2_with fail
  refine bodyPost_ret (v := .tuple #[.agg [.int .i64 k, .int .u64 ep, .int .u64 id, .int .i64 t, .int .i64 0, .int .u32 dn, .int .u32 da, .int .u64 dp, .int .u64 x0, .int .u64 x1, .int .u64 x2, .int .u64 x3, .int .u64 x4, .int .u64 x5, .string sp].toArray, .int .i64 en]) (results_mg Try.results23 _ _ rs [.int .i64 k, .int .u64 ep, .int .u64 id, .int .i64 t, .int .i64 0, .int .u32 dn, .int .u32 da, .int .u64 dp, .int .u64 x0, .int .u64 x1, .int .u64 x2, .int .u64 x3, .int .u64 x4, .int .u64 x5, .string sp] _ rfl (hHeld.r.row _) HZ.out rfl) rfl ⟨rfl, below_setRow hHeld.b hHeld.l3 _⟩

end Go.Proofs.Ytpdndcmaaghnjaa

