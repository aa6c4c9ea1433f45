/-
  GMsLay GMsEnc GDOpen GMsOpen GMsNamed.
-/
import Derived.Test.YtmcgcbgblgmmkaaGreatDoorQ8
import Derived.ProofKit
import Derived.Deep.Slices
import Derived.Deep.Fields
import Derived.ChangeArms
import Derived.Test.YtmcgcbgblgmmkaaGreatDoorQ0
set_option maxRecDepth 100000
set_option maxHeartbeats 1600000
namespace Go.Proofs.YtmcgcbgblgmmkaaGreatDoor.G
open Go.RowKit
open D (Da Blk)
open K (numW digs pow256 layW textW bytesOf)
def numsM (m : Mg) : List Int := m.kind :: (digs 8 m.epoch ++ (idB m ++ ((if m.kind = 2 then m.task :: m.data.enc else []) ++ vaB m)))
def txB (m : Mg) : List Int := if m.kind = 2 then digs 2 m.path.length ++ m.path else []
theorem encM_nums (m : Mg) : encM m = numsM m ++ txB m := by
 unfold encM numsM txB ntB vaB
 by_cases h : m.kind = 2
 ·simp only [if_pos h, if_neg (show ¬ (m.kind = 4 \/ m.kind = 5 \/ m.kind = 7) by omega)]
  simp only [List.cons_append, List.append_assoc, List.append_nil]
 ·simp only [if_neg h, List.append_nil]
theorem nums_any (Y : Nat -> Prop) (w : World) (b : Nat) (l : List Int) (m : Mg) (h : WY Y w b (l, 0)) (hl : l.length <= 1000) (hr : MgR m) (ho : m.ok) :
  Calls Tryz.prog 45 #[m.vl, .func (Fn.func 46) #[.pointer (some ⟨b, 0, none⟩)] #[]] w fun e w' => e = .returned (.tuple #[]) /\ WY Y w' b (l ++ numsM m, 0) /\ FY Y w w' := by
 obtain ⟨k0, k7, r1, r2, r3, r4, r5, r6⟩ := hr
 obtain ⟨oe, oi, od, op⟩ := ho
 by_cases h2 : m.kind = 2
 ·have q1 : idQ m.kind = true := by unfold idQ; rw [beq_false_of_ne (by omega)]; rfl
  have q2 : caQ m.kind = true := by unfold caQ; rw [h2]; rfl
  have q3 : vaQ m.kind = false := by rw [va_iff]; exact decide_eq_false (by omega)
  have e : numsM m = m.kind :: (digs 8 m.epoch ++ (digs 8 m.id ++ (m.task :: m.data.enc))) := by
   unfold numsM idB vaB
   rw [if_neg (show ¬ m.kind = 1 by omega), if_pos h2, if_neg (show ¬ (m.kind = 4 \/ m.kind = 5 \/ m.kind = 7) by omega), List.append_nil]
  rw [e]
  exact nums_call Y w b l m.kind m.epoch m.id m.task m.val m.cells h hl m.c0 m.c1 m.c2 m.c3 m.c4 k0 k7 oe oi q1 q2 q3 (r3 h2).1 (r3 h2).2.1 m.data od (m.cD od)
 ·have q2 : caQ m.kind = false := beq_false_of_ne h2
  by_cases h1 : m.kind = 1
  ·have q1 : idQ m.kind = false := by unfold idQ; rw [h1]; rfl
   have q3 : vaQ m.kind = false := by rw [va_iff]; exact decide_eq_false (by omega)
   have e : numsM m = m.kind :: digs 8 m.epoch := by
    unfold numsM idB vaB
    rw [if_pos h1, if_neg h2, if_neg (show ¬ (m.kind = 4 \/ m.kind = 5 \/ m.kind = 7) by omega)]
    simp only [List.append_nil]
   rw [e]
   exact nums_none Y w b l m.kind m.epoch m.id m.task m.val m.cells h hl m.c0 m.c1 m.c2 m.c3 m.c4 k0 k7 oe oi q1 q2 q3
  ·have q1 : idQ m.kind = true := by unfold idQ; rw [beq_false_of_ne h1]; rfl
   by_cases h4 : m.kind = 4 \/ m.kind = 5 \/ m.kind = 7
   ·have q3 : vaQ m.kind = true := by rw [va_iff]; exact decide_eq_true h4
    have e : numsM m = m.kind :: (digs 8 m.epoch ++ (digs 8 m.id ++ digs 2 m.val)) := by
     unfold numsM idB vaB
     rw [if_neg h1, if_neg h2, if_pos h4, List.nil_append]
    rw [e]
    exact nums_val Y w b l m.kind m.epoch m.id m.task m.val m.cells h hl m.c0 m.c1 m.c2 m.c3 m.c4 k0 k7 oe oi q1 q2 q3 (r5 h4).1 (r5 h4).2
   ·have q3 : vaQ m.kind = false := by rw [va_iff]; exact decide_eq_false h4
    have e : numsM m = m.kind :: (digs 8 m.epoch ++ digs 8 m.id) := by
     unfold numsM idB vaB
     rw [if_neg h1, if_neg h2, if_neg h4, List.nil_append, List.append_nil]
    rw [e]
    exact nums_id Y w b l m.kind m.epoch m.id m.task m.val m.cells h hl m.c0 m.c1 m.c2 m.c3 m.c4 k0 k7 oe oi q1 q2 q3
theorem numsM_len (m : Mg) (hr : MgR m) (ho : m.ok) : (numsM m).length <= 512 := by
 have h := enc_most hr ho
 rw [encM_nums, List.length_append] at h
 omega
theorem textW_ok (l p : List Int) (hp : D.Byt p) (h : p.length <= 256) : textW (l, 0) (strOfNums p) = (l ++ (digs 2 p.length ++ p), 0) := by
 have hb : bytesOf (strOfNums p) = p := D.bytes_str p hp
 unfold textW
 rw [if_neg (by rw [strOfNums_size]; omega), strOfNums_size, hb, numW_2 _ _ (by omega)]
 unfold layW
 rw [if_pos rfl, List.append_assoc]
set_option linter.unusedSimpArgs false in
theorem message_none (Y : Nat -> Prop) (w : World) (b : Nat) (l : List Int) (m : Mg) (h : WY Y w b (l, 0)) (hl : l.length <= 1000) (hr : MgR m) (ho : m.ok) (q2 : caQ m.kind = false) :
  Calls Tryz.prog 19 #[.pointer (some ⟨b, 0, none⟩), m.vl] w fun e w' => e = .returned (.tuple #[]) /\ WY Y w' b (l ++ encM m, 0) /\ FY Y w w' := by
 have HNu : Hid (∀ W : World, WY (And1 Y w.heap.size) W b (l, 0) -> Calls Tryz.prog 45 #[.agg m.cells.toArray, .func (Fn.func 46) #[.pointer (some ⟨b, 0, none⟩)] #[]] W fun e w' => e = .returned (.tuple #[]) /\ WY (And1 Y w.heap.size) w' b (l ++ numsM m, 0) /\ FY (And1 Y w.heap.size) W w') := fun W hW => nums_any _ W b l m hW hl hr ho
 have HZ : Hid ((Tryz.prog.info? 36).map (·.size) = some m.cells.toArray.size) := m.size ho.2.2.1
 have HC0 : Hid (m.cells[0]? = some (.int .i64 m.kind)) := m.c0
 have HC14 : Hid (m.cells[14]? = some (.string (strOfNums m.path))) := m.c14 ho.2.2.1
 have HE : Hid (encM m = numsM m ++ txB m) := encM_nums m
 have h0 := h.one (Obj.cells m.cells.toArray 36)
 have h0l := h.lt
 have Z0 : Blk (w.alloc (Obj.cells m.cells.toArray 36)) w.heap.size 36 m.cells := D.blk_new w m.cells.toArray 36
 have F0 : Hid (FY Y w (w.alloc (Obj.cells m.cells.toArray 36))) := fy_below h.lt ((Below.refl _ _).alloc (Nat.le_refl _) _)
 unfold Mg.vl
 generalize m.cells = R at *
 generalize encM m = EN at *
 generalize numsM m = NU at *
 obtain ⟨k, HK⟩ : ∃ k, Hid (m.kind = k) := ⟨_, rfl⟩
 rw [HK.out] at HC0 q2
 clear h hr ho
 go_enter Tryz.func19, Tryz.ntmps19
 go_wp2_with fail
 generalize w.alloc (Obj.cells R.toArray 36) = w0 at *
 generalize w.heap.size = g at *
 refine wp_region_late (E := [5]) (S := (fun X => Blk X g 36 R /\ WY (And1 Y g) X b (l, 0) /\ FY Y w X)) (by kernel_rfl) (⟨Z0.drew, h0.same (D.below_drewN w0 1), F0.out.trans (fy_below (fun k hk => h0.lt k (.inl hk)) (D.below_drewN w0 1))⟩) (fun hHeld => ?_)
 simp only [List.size_toArray, List.length_cons, List.length_nil, Nat.reduceAdd]
 generalize w0.drew = X0 at *
 refine wpAnyL_take [5] (i := 0) (v := _) (by kernel_rfl) (by kernel_rfl) (by kernel_rfl) rfl (by kernel_rfl) (by kernel_rfl) (by kernel_rfl) (fun _ _ _ h => h) (Or.inl ⟨by rfl, fun w hSw => exec_load_mg rfl rfl hSw.1 HZ.out⟩) hHeld ?_
 try simp only [Act.put, zA, zB, zC, zD, zE, zF]
 refine wpAnyL_take [2, 3, 4, 5] (i := 1) (v := ?_) (by kernel_rfl) (by kernel_rfl) (by kernel_rfl) rfl (by kernel_rfl) (by kernel_rfl) (by kernel_rfl) (fun _ _ _ h => h) (Or.inl ⟨by rfl, ?_⟩) hHeld ?_
 rotate_left
 ·(intro w hSw; (try dsimp only at hSw); go_simp; try with_reducible rfl)
 try simp only [Act.put, zA, zB, zC, zD, zE, zF]
 refine wpAnyL_take [3, 4, 5] (i := 2) (v := ?_) (by kernel_rfl) (by kernel_rfl) (by kernel_rfl) rfl (by kernel_rfl) (by kernel_rfl) (by kernel_rfl) (fun _ _ _ h => h) (Or.inl ⟨by rfl, ?_⟩) hHeld ?_
 rotate_left
 ·(intro w hSw; (try dsimp only at hSw); go_simp; try with_reducible rfl)
 try simp only [Act.put, zA, zB, zC, zD, zE, zF]
 refine wpAnyL_take [4, 5] (i := 3) (v := ?_) (by kernel_rfl) (by kernel_rfl) (by kernel_rfl) rfl (by kernel_rfl) (by kernel_rfl) (by kernel_rfl) (fun _ _ _ h => h) (Or.inl ⟨by rfl, ?_⟩) hHeld ?_
 rotate_left
 ·(intro w hSw; (try dsimp only at hSw); go_simp; try with_reducible rfl)
 try simp only [Act.put, zA, zB, zC, zD, zE, zF]
 refine wpAnyL_take [5] (i := 4) (v := ?_) (by kernel_rfl) (by kernel_rfl) (by kernel_rfl) rfl (by kernel_rfl) (by kernel_rfl) (by kernel_rfl) (fun _ _ _ h => h) (Or.inl ⟨by rfl, ?_⟩) hHeld ?_
 rotate_left
 ·(intro w hSw; (try dsimp only at hSw); go_simp; try with_reducible rfl)
 try simp only [Act.put, zA, zB, zC, zD, zE, zF]
 refine wpAnyL_one (i := 5) (by kernel_rfl) rfl (fun K hK => ?_)
 go_simp
 refine (HNu.out _ hHeld.2.1).mono ?_
 rintro e w1 ⟨rfl, h1, f1⟩
 have F1 : Hid (FY Y w w1) := hHeld.2.2.trans f1.one
 have Z1 := f1.blk hHeld.1 (.inr rfl)
 go_wp2_with fail
 refine hK.out _ _ (fun h => by cases h) ?_
 clear hK K
 try simp only [Act.put, zA, zB, zC, zD, zE, zF]
 refine wpAnyL_done (by kernel_rfl) ?_ _
 have c0 := (Z1.cell 0).trans HC0.out
 have c14 := (Z1.cell 14).trans HC14.out
 go_wp2_with (first | (go_at_call 47; refine (hasCall_any _ _).mono ?_; rintro e w2 ⟨rfl, hw2⟩; subst hw2; rw [q2]))
 go_end0
 refine ⟨rfl, ?_, F1.out⟩
 rw [HE.out, show txB m = [] from if_neg (fun e => by rw [HK.out] at e; rw [e] at q2; cases q2), List.append_nil]
 exact h1.mono fun _ hk => .inl hk
set_option linter.unusedSimpArgs false in
theorem message_call (Y : Nat -> Prop) (w : World) (b : Nat) (l : List Int) (m : Mg) (h : WY Y w b (l, 0)) (hl : l.length <= 1000) (hr : MgR m) (ho : m.ok) (q2 : caQ m.kind = true) :
  Calls Tryz.prog 19 #[.pointer (some ⟨b, 0, none⟩), m.vl] w fun e w' => e = .returned (.tuple #[]) /\ WY Y w' b (l ++ encM m, 0) /\ FY Y w w' := by
 have HNu : Hid (∀ W : World, WY (And1 Y w.heap.size) W b (l, 0) -> Calls Tryz.prog 45 #[.agg m.cells.toArray, .func (Fn.func 46) #[.pointer (some ⟨b, 0, none⟩)] #[]] W fun e w' => e = .returned (.tuple #[]) /\ WY (And1 Y w.heap.size) w' b (l ++ numsM m, 0) /\ FY (And1 Y w.heap.size) W w') := fun W hW => nums_any _ W b l m hW hl hr ho
 have HZ : Hid ((Tryz.prog.info? 36).map (·.size) = some m.cells.toArray.size) := m.size ho.2.2.1
 have HC0 : Hid (m.cells[0]? = some (.int .i64 m.kind)) := m.c0
 have HC14 : Hid (m.cells[14]? = some (.string (strOfNums m.path))) := m.c14 ho.2.2.1
 have HE : Hid (encM m = numsM m ++ txB m) := encM_nums m
 have HTx : Hid (txB m = digs 2 m.path.length ++ m.path) := if_pos (beq_iff_eq.1 q2)
 have HTW : Hid (textW (l ++ numsM m, 0) (strOfNums m.path) = (l ++ numsM m ++ (digs 2 m.path.length ++ m.path), 0)) := textW_ok _ _ ho.2.2.2 (hr.2.2.2.2.1 (beq_iff_eq.1 q2)).2.2
 have HLn : Hid ((l ++ numsM m).length <= 800000000) := by unfold Hid; rw [List.length_append]; have := numsM_len m hr ho; omega
 have h0 := h.one (Obj.cells m.cells.toArray 36)
 have h0l := h.lt
 have Z0 : Blk (w.alloc (Obj.cells m.cells.toArray 36)) w.heap.size 36 m.cells := D.blk_new w m.cells.toArray 36
 have F0 : Hid (FY Y w (w.alloc (Obj.cells m.cells.toArray 36))) := fy_below h.lt ((Below.refl _ _).alloc (Nat.le_refl _) _)
 unfold Mg.vl
 generalize m.cells = R at *
 generalize encM m = EN at *
 generalize numsM m = NU at *
 generalize m.kind = k at *
 clear h hr ho
 go_enter Tryz.func19, Tryz.ntmps19
 go_wp2_with fail
 generalize w.alloc (Obj.cells R.toArray 36) = w0 at *
 generalize w.heap.size = g at *
 refine wp_region_late (E := [5]) (S := (fun X => Blk X g 36 R /\ WY (And1 Y g) X b (l, 0) /\ FY Y w X)) (by kernel_rfl) (⟨Z0.drew, h0.same (D.below_drewN w0 1), F0.out.trans (fy_below (fun k hk => h0.lt k (.inl hk)) (D.below_drewN w0 1))⟩) (fun hHeld => ?_)
 simp only [List.size_toArray, List.length_cons, List.length_nil, Nat.reduceAdd]
 generalize w0.drew = X0 at *
 refine wpAnyL_take [5] (i := 0) (v := _) (by kernel_rfl) (by kernel_rfl) (by kernel_rfl) rfl (by kernel_rfl) (by kernel_rfl) (by kernel_rfl) (fun _ _ _ h => h) (Or.inl ⟨by rfl, fun w hSw => exec_load_mg rfl rfl hSw.1 HZ.out⟩) hHeld ?_
 try simp only [Act.put, zA, zB, zC, zD, zE, zF]
 refine wpAnyL_take [2, 3, 4, 5] (i := 1) (v := ?_) (by kernel_rfl) (by kernel_rfl) (by kernel_rfl) rfl (by kernel_rfl) (by kernel_rfl) (by kernel_rfl) (fun _ _ _ h => h) (Or.inl ⟨by rfl, ?_⟩) hHeld ?_
 rotate_left
 ·(intro w hSw; (try dsimp only at hSw); go_simp; try with_reducible rfl)
 try simp only [Act.put, zA, zB, zC, zD, zE, zF]
 refine wpAnyL_take [3, 4, 5] (i := 2) (v := ?_) (by kernel_rfl) (by kernel_rfl) (by kernel_rfl) rfl (by kernel_rfl) (by kernel_rfl) (by kernel_rfl) (fun _ _ _ h => h) (Or.inl ⟨by rfl, ?_⟩) hHeld ?_
 rotate_left
 ·(intro w hSw; (try dsimp only at hSw); go_simp; try with_reducible rfl)
 try simp only [Act.put, zA, zB, zC, zD, zE, zF]
 refine wpAnyL_take [4, 5] (i := 3) (v := ?_) (by kernel_rfl) (by kernel_rfl) (by kernel_rfl) rfl (by kernel_rfl) (by kernel_rfl) (by kernel_rfl) (fun _ _ _ h => h) (Or.inl ⟨by rfl, ?_⟩) hHeld ?_
 rotate_left
 ·(intro w hSw; (try dsimp only at hSw); go_simp; try with_reducible rfl)
 try simp only [Act.put, zA, zB, zC, zD, zE, zF]
 refine wpAnyL_take [5] (i := 4) (v := ?_) (by kernel_rfl) (by kernel_rfl) (by kernel_rfl) rfl (by kernel_rfl) (by kernel_rfl) (by kernel_rfl) (fun _ _ _ h => h) (Or.inl ⟨by rfl, ?_⟩) hHeld ?_
 rotate_left
 ·(intro w hSw; (try dsimp only at hSw); go_simp; try with_reducible rfl)
 try simp only [Act.put, zA, zB, zC, zD, zE, zF]
 refine wpAnyL_one (i := 5) (by kernel_rfl) rfl (fun K hK => ?_)
 go_simp
 refine (HNu.out _ hHeld.2.1).mono ?_
 rintro e w1 ⟨rfl, h1, f1⟩
 have F1 : Hid (FY Y w w1) := hHeld.2.2.trans f1.one
 have Z1 := f1.blk hHeld.1 (.inr rfl)
 go_wp2_with fail
 refine hK.out _ _ (fun h => by cases h) ?_
 clear hK K
 try simp only [Act.put, zA, zB, zC, zD, zE, zF]
 refine wpAnyL_done (by kernel_rfl) ?_ _
 have c0 := (Z1.cell 0).trans HC0.out
 have c14 := (Z1.cell 14).trans HC14.out
 go_wp2_with (first | (go_at_call 47; refine (hasCall_any _ _).mono ?_; rintro e w2 ⟨rfl, hw2⟩; subst hw2; rw [q2]))
 have HD : ∀ n, FY Y w (w2.drewN n) := fun n => F1.out.trans (fy_below (fun k hk => h1.lt k (.inl hk)) (D.below_drewN w2 n))
 have HW2 : Hid (∀ W : World, WY (And1 Y g) W b (l ++ NU, 0) -> Calls Tryz.prog 48 #[.pointer (some ⟨b, 0, none⟩), .string (strOfNums m.path)] W fun e w' => e = .returned (.tuple #[]) /\ WY (And1 Y g) w' b (textW (l ++ NU, 0) (strOfNums m.path)) /\ FY (And1 Y g) W w') := fun W hW => wtext_y _ _ b _ (strOfNums m.path) hW HLn.out
 rw [HTW.out] at HW2
 generalize strOfNums m.path = SP at *
 refine wp_region_late (E := [5]) (S := (fun X => X.cell? ⟨g, 14, none⟩ = some (.string SP) /\ WY (And1 Y g) X b (l ++ NU, 0) /\ FY Y w X)) (by kernel_rfl) (⟨c14, h1.same (D.below_drewN w2 1), HD 1⟩) (fun hHeld => ?_)
 simp only [List.size_toArray, List.length_cons, List.length_nil, Nat.reduceAdd]
 refine wpAnyL_take [1, 2, 5] (i := 0) (v := ?_) (by kernel_rfl) (by kernel_rfl) (by kernel_rfl) rfl (by kernel_rfl) (by kernel_rfl) (by kernel_rfl) (fun _ _ _ h => h) (Or.inl ⟨by rfl, ?_⟩) hHeld ?_
 rotate_left
 ·(intro w hSw; (try dsimp only at hSw); have s0 := hSw.1; go_simp; try with_reducible rfl)
 try simp only [Act.put, zA, zB, zC, zD, zE, zF]
 refine wpAnyL_take [2, 5] (i := 1) (v := ?_) (by kernel_rfl) (by kernel_rfl) (by kernel_rfl) rfl (by kernel_rfl) (by kernel_rfl) (by kernel_rfl) (fun _ _ _ h => h) (Or.inl ⟨by rfl, ?_⟩) hHeld ?_
 rotate_left
 ·(intro w hSw; (try dsimp only at hSw); have s0 := hSw.1; go_simp; try with_reducible rfl)
 try simp only [Act.put, zA, zB, zC, zD, zE, zF]
 refine wpAnyL_take [5] (i := 2) (v := ?_) (by kernel_rfl) (by kernel_rfl) (by kernel_rfl) rfl (by kernel_rfl) (by kernel_rfl) (by kernel_rfl) (fun _ _ _ h => h) (Or.inl ⟨by rfl, ?_⟩) hHeld ?_
 rotate_left
 ·(intro w hSw; (try dsimp only at hSw); have s0 := hSw.1; go_simp; try with_reducible rfl)
 try simp only [Act.put, zA, zB, zC, zD, zE, zF]
 refine wpAnyL_take [4, 5] (i := 3) (v := ?_) (by kernel_rfl) (by kernel_rfl) (by kernel_rfl) rfl (by kernel_rfl) (by kernel_rfl) (by kernel_rfl) (fun _ _ _ h => h) (Or.inl ⟨by rfl, ?_⟩) hHeld ?_
 rotate_left
 ·(intro w hSw; (try dsimp only at hSw); have s0 := hSw.1; go_simp; try with_reducible rfl)
 try simp only [Act.put, zA, zB, zC, zD, zE, zF]
 refine wpAnyL_take [5] (i := 4) (v := ?_) (by kernel_rfl) (by kernel_rfl) (by kernel_rfl) rfl (by kernel_rfl) (by kernel_rfl) (by kernel_rfl) (fun _ _ _ h => h) (Or.inl ⟨by rfl, ?_⟩) hHeld ?_
 rotate_left
 ·(intro w hSw; (try dsimp only at hSw); have s0 := hSw.1; go_simp; try with_reducible rfl)
 try simp only [Act.put, zA, zB, zC, zD, zE, zF]
 refine wpAnyL_one (i := 5) (by kernel_rfl) rfl (fun K hK => ?_)
 go_simp
 refine (HW2.out _ hHeld.2.1).mono ?_
 rintro e w3 ⟨rfl, h3, f3⟩
 have F3 : Hid (FY Y w w3) := hHeld.2.2.trans f3.one
 go_wp2_with fail
 refine hK.out _ _ (fun h => by cases h) ?_
 clear hK K
 try simp only [Act.put, zA, zB, zC, zD, zE, zF]
 refine wpAnyL_done (by kernel_rfl) ?_ _
 go_end0
 refine ⟨rfl, ?_, F3.out⟩
 rw [HE.out, HTx.out, <- List.append_assoc l]
 exact h3.mono fun _ hk => .inl hk
theorem message_any (Y : Nat -> Prop) (w : World) (b : Nat) (l : List Int) (m : Mg) (h : WY Y w b (l, 0)) (hl : l.length <= 1000) (hr : MgR m) (ho : m.ok) :
  Calls Tryz.prog 19 #[.pointer (some ⟨b, 0, none⟩), m.vl] w fun e w' => e = .returned (.tuple #[]) /\ WY Y w' b (l ++ encM m, 0) /\ FY Y w w' := by
 cases q2 : caQ m.kind
 ·exact message_none Y w b l m h hl hr ho q2
 ·exact message_call Y w b l m h hl hr ho q2
def encL (m : Mg) : List Int := if rightB m = true then encM m else []
def encE (m : Mg) : Int := if rightB m = true then 0 else 1
theorem wy_new (w : World) : WY (· < w.heap.size) (w.alloc (.cells #[.slice none 0 0, .int .i64 0] 75)) w.heap.size ([], 0) := by
 refine ⟨⟨.slice none 0 0, D.blk_new w _ 75, ⟨rfl, .inl ⟨rfl, rfl⟩⟩, fun k hk => by cases hk⟩, Nat.lt_irrefl _, fun k hk => ?_, (fun z hz => by cases hz), fun h => absurd rfl h⟩
 rw [D.size_alloc']
 exact Nat.lt_succ_of_lt hk
theorem encode_any (m : Mg) (w : World) (ho : m.ok) : Calls Tryz.prog 5 #[m.vl] w fun e w' => Below w.heap.size w w' /\ ∃ v, e = .returned (.tuple #[v, .int .i64 (encE m)]) /\ w'.ownsRow w.heap.size 5 1 v (encL m).length (K.cellsB (encL m)) := by
 have HR : Hid (∀ W : World, Calls Tryz.prog 18 #[.agg m.cells.toArray] W fun e w' => e = .returned (.bool (rightB m)) /\ Below W.heap.size W w') := fun W => right_any m W ho.2.2.1 ho.2.2.2
 have HZ : Hid ((Tryz.prog.info? 36).map (·.size) = some m.cells.toArray.size) := m.size ho.2.2.1
 have Z0 : Hid (Blk (w.alloc (Obj.cells m.cells.toArray 36)) w.heap.size 36 m.cells) := D.blk_new w m.cells.toArray 36
 have B0 : Hid (Below w.heap.size w (w.alloc (Obj.cells m.cells.toArray 36))) := (Below.refl _ _).alloc (Nat.le_refl _) _
 cases hq : rightB m
 ·have e1 : encL m = [] := by unfold encL; rw [hq]; rfl
  have e2 : encE m = 1 := by unfold encE; rw [hq]; rfl
  rw [e1, e2]
  rw [hq] at HR
  unfold Mg.vl
  clear hq e1 e2 ho
  generalize m.cells = R at *
  go_enter Tryz.func5, Tryz.ntmps5
  go_wp2_with (first | (refine wpList_load_row rfl 36 (.tmp 1) rfl w.heap.size rfl 36 R.toArray (0, 0) _ Z0.out Tryz.underlying36 rfl HZ.out ?_) | (go_at_call 18; refine (HR.out _).mono ?_; rintro e w1 ⟨rfl, b1⟩))
  go_ret2
  exact ⟨B0.out.trans (b1.mono B0.out.size), _, rfl, rfl, .inl ⟨rfl, rfl⟩⟩
 ·have hr := (rightB_iff m).1 hq
  have e1 : encL m = encM m := by unfold encL; rw [hq]; rfl
  have e2 : encE m = 0 := by unfold encE; rw [hq]; rfl
  have HL : Hid ((encM m).length <= 900000000) := Nat.le_trans (enc_most hr ho) (by decide)
  have HM : Hid (∀ (W : World) (Y : Nat -> Prop) (b : Nat), WY Y W b ([], 0) -> Calls Tryz.prog 19 #[.pointer (some ⟨b, 0, none⟩), .agg m.cells.toArray] W fun e w' => e = .returned (.tuple #[]) /\ WY Y w' b (encM m, 0) /\ FY Y W w') := fun W Y b hW => message_any Y W b [] m hW (by decide) hr ho
  rw [e1, e2]
  rw [hq] at HR
  unfold Mg.vl
  clear hq e1 e2 ho hr
  generalize m.cells = R at *
  generalize encM m = EN at *
  go_enter Tryz.func5, Tryz.ntmps5
  go_wp2_with (first | (refine wpList_load_row rfl 36 (.tmp 1) rfl w.heap.size rfl 36 R.toArray (0, 0) _ Z0.out Tryz.underlying36 rfl HZ.out ?_) | (go_at_call 18; refine (HR.out _).mono ?_; rintro e w1 ⟨rfl, b1⟩; have B1 : Hid (Below w.heap.size w w1) := B0.out.trans (b1.mono B0.out.size); have Z1 : Hid (Blk (w1.alloc (Obj.cells #[.slice none 0 0, .int .i64 0] 75)) w.heap.size 36 R) := (Z0.out.over b1).alloc _; have S1 : Hid (w.heap.size < w1.heap.size) := Nat.lt_of_lt_of_le (Z0.out.lt) b1.size; clear b1) | (refine wpList_load_row rfl 36 (.tmp 1) rfl w.heap.size rfl 36 R.toArray (0, 0) _ Z1.out Tryz.underlying36 rfl HZ.out ?_) | (go_at_call 19; refine (HM.out _ (· < w1.heap.size) w1.heap.size (wy_new w1)).mono ?_; rintro e w2 ⟨rfl, h2, f2⟩; have B2 : Hid (Below w.heap.size w w2) := B1.out.trans (((Below.refl _ _).alloc (Nat.le_refl _) _).trans ((f2.below (B := w1.heap.size) fun k hk => hk)) |>.mono (Nat.le_of_lt S1.out)); clear f2) | (go_at_call 20; refine (K.wbytes_any 0 w2 w1.heap.size _ h2.wr HL.out).mono ?_; rintro e w3 ⟨b3, v, rfl, o3⟩))
  go_ret2
  exact ⟨B2.out.trans (b3.mono B2.out.size), v, rfl, D.owns_lower o3 B2.out.size⟩
end Go.Proofs.YtmcgcbgblgmmkaaGreatDoor.G
namespace Go.Proofs.YtmcgcbgblgmmkaaGreatDoor.G.D
open Go.ChangeShapes Go.WideShapes Go.ChangeAt Go.RowKit Go.Deep
theorem cells26 : Tryz.prog.cellsOf 34 = 9 := by kernel_rfl
theorem cells22 : Tryz.prog.cellsOf 31 = 1 := by kernel_rfl
theorem cells23 : Tryz.prog.cellsOf 30 = 1 := by kernel_rfl
theorem cells24 : Tryz.prog.cellsOf 32 = 6 := by kernel_rfl
theorem open_cells {H : Type} {enc : TypeId × Value -> H} {w : World} {base : Nat} {spare : Nat -> Bool} {held : Bool} {n : Nat} {cs : List Value} {x : DataW H × List MemPlace} (hl : cs.length = 9) (h : DataW.trod enc Tryz.prog w base spare held n 34 cs = some x) :
  ∃ y : Da, y.ok /\ cs = y.cells := by
 obtain ⟨xs, k, _, _, _, hxl, hf⟩ := DataW.trod_struct Tryz.underlying34 h
 match xs, hxl, cs, hl with
 | [y0, y1, y2, y3], _, [v0, v1, v2, v3, v4, v5, v6, v7, v8], _ =>
  have g0 := hf 0 _ rfl
  have g1 := hf 1 _ rfl
  have g2 := hf 2 _ rfl
  have g3 := hf 3 _ rfl
  simp [cells22, cells23, cells24] at g0 g1 g2 g3
  obtain ⟨a, ha, _, wa⟩ := DataW.trod_int Tryz.underlying31 g0
  obtain ⟨b, hb, _, wb⟩ := DataW.trod_int Tryz.underlying31 g1
  obtain ⟨c, hc, _, wc⟩ := DataW.trod_int Tryz.underlying30 g2
  obtain ⟨zs, m, _, _, _, hlen, hi⟩ := DataW.trod_array Tryz.underlying32 g3
  have i0 := hi 0 (by omega)
  have i1 := hi 1 (by omega)
  have i2 := hi 2 (by omega)
  have i3 := hi 3 (by omega)
  have i4 := hi 4 (by omega)
  have i5 := hi 5 (by omega)
  rw [cells23] at i0 i1 i2 i3 i4 i5
  match zs, hlen with
  | [z0, z1, z2, z3, z4, z5], _ =>
   obtain ⟨x0, e0, _, w0⟩ := DataW.trod_int Tryz.underlying30 (by simpa using i0)
   obtain ⟨x1, e1, _, w1⟩ := DataW.trod_int Tryz.underlying30 (by simpa using i1)
   obtain ⟨x2, e2, _, w2⟩ := DataW.trod_int Tryz.underlying30 (by simpa using i2)
   obtain ⟨x3, e3, _, w3⟩ := DataW.trod_int Tryz.underlying30 (by simpa using i3)
   obtain ⟨x4, e4, _, w4⟩ := DataW.trod_int Tryz.underlying30 (by simpa using i4)
   obtain ⟨x5, e5, _, w5⟩ := DataW.trod_int Tryz.underlying30 (by simpa using i5)
   simp at ha hb hc e0 e1 e2 e3 e4 e5
   subst ha hb hc e0 e1 e2 e3 e4 e5
   refine ⟨⟨a, b, c, [x0, x1, x2, x3, x4, x5]⟩, ⟨bounds_u32 wa, bounds_u32 wb, bounds_u64 wc, rfl, ?_⟩, rfl⟩
   intro z hz
   simp only [List.mem_cons, List.not_mem_nil, or_false] at hz
   rcases hz with rfl | rfl | rfl | rfl | rfl | rfl
   ·exact bounds_u64 w0
   ·exact bounds_u64 w1
   ·exact bounds_u64 w2
   ·exact bounds_u64 w3
   ·exact bounds_u64 w4
   ·exact bounds_u64 w5
end Go.Proofs.YtmcgcbgblgmmkaaGreatDoor.G.D
namespace Go.Proofs.YtmcgcbgblgmmkaaGreatDoor.G
open Go.ChangeShapes Go.WideShapes Go.ChangeAt Go.RowKit Go.Deep
theorem cells3 : Tryz.prog.cellsOf 3 = 1 := by kernel_rfl
theorem cells9 : Tryz.prog.cellsOf 9 = 1 := by kernel_rfl
theorem bytes_bd (s : ByteArray) : D.Byt (D.bytesOf s) := by
 intro z hz
 obtain ⟨b, _, rfl⟩ := List.mem_map.1 hz
 have := b.toNat_lt
 omega
theorem str_back (s : ByteArray) : strOfNums (D.bytesOf s) = s := by
 have e : (strOfNums (D.bytesOf s)).data = s.data := by
  apply Array.toList_inj.1
  rw [strOfNums_data]
  unfold D.bytesOf
  rw [List.map_map]
  conv => rhs; rw [<- List.map_id s.data.toList]
  apply List.map_congr_left
  intro b _
  simp
 cases hs : strOfNums (D.bytesOf s)
 rw [hs] at e
 cases s
 cases e
 rfl
theorem open_cells_mg {H : Type} {enc : TypeId × Value -> H} {w : World} {base : Nat} {spare : Nat -> Bool} {held : Bool} {n : Nat} {cs : List Value} {x : DataW H × List MemPlace} (hl : cs.length = 15) (h : DataW.trod enc Tryz.prog w base spare held n 36 cs = some x) :
  ∃ y : Mg, y.ok /\ cs = y.cells := by
 obtain ⟨xs, k, _, _, _, hxl, hf⟩ := DataW.trod_struct Tryz.underlying36 h
 match xs, hxl, cs, hl with
 | [y0, y1, y2, y3, y4, y5, y6], _, [v0, v1, v2, v3, v4, v5, v6, v7, v8, v9, v10, v11, v12, v13, v14], _ =>
  have g0 := hf 0 _ rfl
  have g1 := hf 1 _ rfl
  have g2 := hf 2 _ rfl
  have g3 := hf 3 _ rfl
  have g4 := hf 4 _ rfl
  have g5 := hf 5 _ rfl
  have g6 := hf 6 _ rfl
  simp [cells3, cells9, D.cells23, D.cells26] at g0 g1 g2 g3 g4 g5 g6
  obtain ⟨a, ha, _, wa⟩ := DataW.trod_int Tryz.underlying3 g0
  obtain ⟨b, hb, _, wb⟩ := DataW.trod_int Tryz.underlying30 g1
  obtain ⟨c, hc, _, wc⟩ := DataW.trod_int Tryz.underlying30 g2
  obtain ⟨d, hd, _, wd⟩ := DataW.trod_int Tryz.underlying3 g3
  obtain ⟨e, he, _, we⟩ := DataW.trod_int Tryz.underlying3 g4
  obtain ⟨dd, hdd, hD⟩ := D.open_cells (by rfl) g5
  obtain ⟨s, hs, _, _⟩ := DataW.trod_string Tryz.underlying9 g6
  simp at ha hb hc hd he hs
  subst ha hb hc hd he hs
  refine ⟨⟨a, b, c, d, e, dd, D.bytesOf s⟩, ⟨bounds_u64 wb, bounds_u64 wc, hdd, bytes_bd s⟩, ?_⟩
  unfold Mg.cells
  dsimp only
  rw [<- hD, str_back]
  rfl
open Go.RowKit
open D (Da Blk)
theorem wpList_store_r {P : Program} {ops : Array Oper} {rest : List Oper} {o : Oper} {a : Act} {w : World} {Q : Exit -> Act -> World -> Prop} (hgd : o.guard = none) (ty : TypeId) (x y : Operand) (ho : o.op = .store ty x y)
  (g : Nat) (cells : Array Value) (hx : a.eval x = .pointer (some ⟨g, 0, none⟩)) (hy : a.eval y = .agg cells)
  (t : TypeId) (old : Array Value) (hg : w.heap[g]? = some (.cells old t (0, 0))) (hi : (P.info? ty).map (·.size) = some cells.size)
  (hold : old.size = cells.size) (h1 : cells.all (·.oneCell') = true)
  (h : ∀ X, X = w.setRow g cells -> wpList P ops Q rest (a.put o.dst undef) X) : wpList P ops Q (o :: rest) a w :=
 wpList_store_row hgd ty x y ho g cells hx hy t old hg hi hold h1 (h _ rfl)
section
variable {w0 W X : World} {g n : Nat} {L : List Value} {q : Mg}
end
end Go.Proofs.YtmcgcbgblgmmkaaGreatDoor.G
