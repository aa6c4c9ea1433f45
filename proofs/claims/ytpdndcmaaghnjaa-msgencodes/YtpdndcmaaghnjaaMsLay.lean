/-
  A message's bytes, laid by package msg: proved of every message.
-/
import Derived.Test.YtpdndcmaaghnjaaMsNumsC
import Derived.Test.YtpdndcmaaghnjaaLate
namespace Go.Proofs.Ytpdndcmaaghnjaa
open Go.RowKit
open D (Da Blk)
open K (numW digs pow256 layW textW bytesOf)

/-- all but its path. -/
def numsM (m : Mg) : List Int := m.kind :: (digs 8 m.epoch ++ (idB m ++ ((if m.kind = 2 then m.task :: m.data.enc else []) ++ vaB m)))
/-- its path, as a text. -/
def txB (m : Mg) : List Int := if m.kind = 2 then digs 2 m.path.length ++ m.path else []
theorem encM_nums (m : Mg) : encM m = numsM m ++ txB m := by
  unfold encM numsM txB ntB vaB
  by_cases h : m.kind = 2
  · simp only [if_pos h, if_neg (show ¬ (m.kind = 4 ∨ m.kind = 5 ∨ m.kind = 7) by omega)]
    simp only [List.cons_append, List.append_assoc, List.append_nil]
  · simp only [if_neg h, List.append_nil]

theorem nums_any (Y : Nat → Prop) (w : World) (b : Nat) (l : List Int) (m : Mg) (h : WY Y w b (l, 0)) (hl : l.length ≤ 1000) (hr : MgR m) (ho : m.ok) :
    Calls Try.prog 27 #[m.vl, .func (Fn.func 28) #[.pointer (some ⟨b, 0, none⟩)] #[]] w fun e w' => e = .returned (.tuple #[]) ∧ WY Y w' b (l ++ numsM m, 0) ∧ FY Y w w' := by
  obtain ⟨k0, k7, r1, r2, r3, r4, r5, r6⟩ := hr
  obtain ⟨oe, oi, od, op⟩ := ho
  by_cases h2 : m.kind = 2
  · have q1 : idQ m.kind = true := by unfold idQ; rw [beq_false_of_ne (by omega)]; rfl
    have q2 : caQ m.kind = true := by unfold caQ; rw [h2]; rfl
    have q3 : vaQ m.kind = false := by rw [va_iff]; exact decide_eq_false (by omega)
    have e : numsM m = m.kind :: (digs 8 m.epoch ++ (digs 8 m.id ++ (m.task :: m.data.enc))) := by
      unfold numsM idB vaB
      rw [if_neg (show ¬ m.kind = 1 by omega), if_pos h2, if_neg (show ¬ (m.kind = 4 ∨ m.kind = 5 ∨ m.kind = 7) by omega), List.append_nil]
    rw [e]
    exact nums_call Y w b l m.kind m.epoch m.id m.task m.val m.cells h hl m.c0 m.c1 m.c2 m.c3 m.c4 k0 k7 oe oi q1 q2 q3 (r3 h2).1 (r3 h2).2.1 m.data od (m.cD od)
  · have q2 : caQ m.kind = false := beq_false_of_ne h2
    by_cases h1 : m.kind = 1
    · have q1 : idQ m.kind = false := by unfold idQ; rw [h1]; rfl
      have q3 : vaQ m.kind = false := by rw [va_iff]; exact decide_eq_false (by omega)
      have e : numsM m = m.kind :: digs 8 m.epoch := by
        unfold numsM idB vaB
        rw [if_pos h1, if_neg h2, if_neg (show ¬ (m.kind = 4 ∨ m.kind = 5 ∨ m.kind = 7) by omega)]
        simp only [List.append_nil]
      rw [e]
      exact nums_none Y w b l m.kind m.epoch m.id m.task m.val m.cells h hl m.c0 m.c1 m.c2 m.c3 m.c4 k0 k7 oe oi q1 q2 q3
    · have q1 : idQ m.kind = true := by unfold idQ; rw [beq_false_of_ne h1]; rfl
      by_cases h4 : m.kind = 4 ∨ m.kind = 5 ∨ m.kind = 7
      · have q3 : vaQ m.kind = true := by rw [va_iff]; exact decide_eq_true h4
        have e : numsM m = m.kind :: (digs 8 m.epoch ++ (digs 8 m.id ++ digs 2 m.val)) := by
          unfold numsM idB vaB
          rw [if_neg h1, if_neg h2, if_pos h4, List.nil_append]
        rw [e]
        exact nums_val Y w b l m.kind m.epoch m.id m.task m.val m.cells h hl m.c0 m.c1 m.c2 m.c3 m.c4 k0 k7 oe oi q1 q2 q3 (r5 h4).1 (r5 h4).2
      · have q3 : vaQ m.kind = false := by rw [va_iff]; exact decide_eq_false h4
        have e : numsM m = m.kind :: (digs 8 m.epoch ++ digs 8 m.id) := by
          unfold numsM idB vaB
          rw [if_neg h1, if_neg h2, if_neg h4, List.nil_append, List.append_nil]
        rw [e]
        exact nums_id Y w b l m.kind m.epoch m.id m.task m.val m.cells h hl m.c0 m.c1 m.c2 m.c3 m.c4 k0 k7 oe oi q1 q2 q3

theorem numsM_len (m : Mg) (hr : MgR m) (ho : m.ok) : (numsM m).length ≤ 512 := by
  have h := enc_most hr ho
  rw [encM_nums, List.length_append] at h
  omega
theorem textW_ok (l p : List Int) (hp : D.Byt p) (h : p.length ≤ 256) : textW (l, 0) (strOfNums p) = (l ++ (digs 2 p.length ++ p), 0) := by
  have hb : bytesOf (strOfNums p) = p := D.bytes_str p hp
  unfold textW
  rw [if_neg (by rw [strOfNums_size]; omega), strOfNums_size, hb, numW_2 _ _ (by omega)]
  unfold layW
  rw [if_pos rfl, List.append_assoc]

set_option linter.unusedSimpArgs false in
set_option maxHeartbeats 1600000 in
theorem message_none (Y : Nat → Prop) (w : World) (b : Nat) (l : List Int) (m : Mg) (h : WY Y w b (l, 0)) (hl : l.length ≤ 1000) (hr : MgR m) (ho : m.ok) (q2 : caQ m.kind = false) :
    Calls Try.prog 15 #[.pointer (some ⟨b, 0, none⟩), m.vl] w fun e w' => e = .returned (.tuple #[]) ∧ WY Y w' b (l ++ encM m, 0) ∧ FY Y w w' := by
  have HNu : Hid (∀ W : World, WY (And1 Y w.heap.size) W b (l, 0) → Calls Try.prog 27 #[.agg m.cells.toArray, .func (Fn.func 28) #[.pointer (some ⟨b, 0, none⟩)] #[]] W fun e w' => e = .returned (.tuple #[]) ∧ WY (And1 Y w.heap.size) w' b (l ++ numsM m, 0) ∧ FY (And1 Y w.heap.size) W w') := fun W hW => nums_any _ W b l m hW hl hr ho
  have HZ : Hid ((Try.prog.info? 28).map (·.size) = some m.cells.toArray.size) := m.size ho.2.2.1
  have HC0 : Hid (m.cells[0]? = some (.int .i64 m.kind)) := m.c0
  have HC14 : Hid (m.cells[14]? = some (.string (strOfNums m.path))) := m.c14 ho.2.2.1
  have HE : Hid (encM m = numsM m ++ txB m) := encM_nums m
  have h0 := h.one (Obj.cells m.cells.toArray 28)
  have h0l := h.lt
  have Z0 : Blk (w.alloc (Obj.cells m.cells.toArray 28)) w.heap.size 28 m.cells := D.blk_new w m.cells.toArray 28
  have F0 : Hid (FY Y w (w.alloc (Obj.cells m.cells.toArray 28))) := fy_below h.lt ((Below.refl _ _).alloc (Nat.le_refl _) _)
  unfold Mg.vl
  generalize m.cells = R at *
  generalize encM m = EN at *
  generalize numsM m = NU at *
  obtain ⟨k, HK⟩ : ∃ k, Hid (m.kind = k) := ⟨_, rfl⟩
  rw [HK.out] at HC0 q2
  clear h hr ho
  go_enter Try.func15, Try.ntmps15
  go_wp2_with fail
  generalize w.alloc (Obj.cells R.toArray 28) = w0 at *
  generalize w.heap.size = g at *
  refine wp_region_late (E := [5]) (S := (fun X => Blk X g 28 R ∧ WY (And1 Y g) X b (l, 0) ∧ FY Y w X)) (by kernel_rfl) (⟨Z0.drew, h0.same (D.below_drewN w0 1), F0.out.trans (fy_below (fun k hk => h0.lt k (.inl hk)) (D.below_drewN w0 1))⟩) (fun hHeld => ?_)
  simp only [List.size_toArray, List.length_cons, List.length_nil, Nat.reduceAdd]
  generalize w0.drew = X0 at *
  refine wpAnyL_take [5] (i := 0) (v := _) (by kernel_rfl) (by kernel_rfl) (by kernel_rfl) rfl (by kernel_rfl) (by kernel_rfl) (by kernel_rfl) (fun _ _ _ h => h) (Or.inl ⟨by rfl, fun w hSw => exec_load_mg rfl rfl hSw.1 HZ.out⟩) hHeld ?_
  try simp only [Act.put, List.setIfInBounds_toArray, List.set_cons_zero, List.set_cons_succ, List.getElem_toArray, List.getElem_cons_zero, List.getElem_cons_succ]
  refine wpAnyL_take [2, 3, 4, 5] (i := 1) (v := ?_) (by kernel_rfl) (by kernel_rfl) (by kernel_rfl) rfl (by kernel_rfl) (by kernel_rfl) (by kernel_rfl) (fun _ _ _ h => h) (Or.inl ⟨by rfl, ?_⟩) hHeld ?_
  rotate_left
  · (intro w hSw; (try dsimp only at hSw); go_simp; try with_reducible rfl)
  try simp only [Act.put, List.setIfInBounds_toArray, List.set_cons_zero, List.set_cons_succ, List.getElem_toArray, List.getElem_cons_zero, List.getElem_cons_succ]
  refine wpAnyL_take [3, 4, 5] (i := 2) (v := ?_) (by kernel_rfl) (by kernel_rfl) (by kernel_rfl) rfl (by kernel_rfl) (by kernel_rfl) (by kernel_rfl) (fun _ _ _ h => h) (Or.inl ⟨by rfl, ?_⟩) hHeld ?_
  rotate_left
  · (intro w hSw; (try dsimp only at hSw); go_simp; try with_reducible rfl)
  try simp only [Act.put, List.setIfInBounds_toArray, List.set_cons_zero, List.set_cons_succ, List.getElem_toArray, List.getElem_cons_zero, List.getElem_cons_succ]
  refine wpAnyL_take [4, 5] (i := 3) (v := ?_) (by kernel_rfl) (by kernel_rfl) (by kernel_rfl) rfl (by kernel_rfl) (by kernel_rfl) (by kernel_rfl) (fun _ _ _ h => h) (Or.inl ⟨by rfl, ?_⟩) hHeld ?_
  rotate_left
  · (intro w hSw; (try dsimp only at hSw); go_simp; try with_reducible rfl)
  try simp only [Act.put, List.setIfInBounds_toArray, List.set_cons_zero, List.set_cons_succ, List.getElem_toArray, List.getElem_cons_zero, List.getElem_cons_succ]
  refine wpAnyL_take [5] (i := 4) (v := ?_) (by kernel_rfl) (by kernel_rfl) (by kernel_rfl) rfl (by kernel_rfl) (by kernel_rfl) (by kernel_rfl) (fun _ _ _ h => h) (Or.inl ⟨by rfl, ?_⟩) hHeld ?_
  rotate_left
  · (intro w hSw; (try dsimp only at hSw); go_simp; try with_reducible rfl)
  try simp only [Act.put, List.setIfInBounds_toArray, List.set_cons_zero, List.set_cons_succ, List.getElem_toArray, List.getElem_cons_zero, List.getElem_cons_succ]
  refine wpAnyL_one (i := 5) (by kernel_rfl) rfl (fun K hK => ?_)
  go_simp
  refine (HNu.out _ hHeld.2.1).mono ?_
  rintro e w1 ⟨rfl, h1, f1⟩
  have F1 : Hid (FY Y w w1) := hHeld.2.2.trans f1.one
  have Z1 := f1.blk hHeld.1 (.inr rfl)
  go_wp2_with fail
  refine hK.out _ _ (fun h => by cases h) ?_
  clear hK K
  try simp only [Act.put, List.setIfInBounds_toArray, List.set_cons_zero, List.set_cons_succ, List.getElem_toArray, List.getElem_cons_zero, List.getElem_cons_succ]
  refine wpAnyL_done (by kernel_rfl) ?_ _
  have c0 := (Z1.cell 0).trans HC0.out
  have c14 := (Z1.cell 14).trans HC14.out
  go_wp2_with (first | (go_at_call 29; refine (hasCall_any _ _).mono ?_; rintro e w2 ⟨rfl, hw2⟩; subst hw2; rw [q2]))
  go_end0
  refine ⟨rfl, ?_, F1.out⟩
  rw [HE.out, show txB m = [] from if_neg (fun e => by rw [HK.out] at e; rw [e] at q2; cases q2), List.append_nil]
  exact h1.mono fun _ hk => .inl hk

set_option linter.unusedSimpArgs false in
set_option maxHeartbeats 1600000 in
theorem message_call (Y : Nat → Prop) (w : World) (b : Nat) (l : List Int) (m : Mg) (h : WY Y w b (l, 0)) (hl : l.length ≤ 1000) (hr : MgR m) (ho : m.ok) (q2 : caQ m.kind = true) :
    Calls Try.prog 15 #[.pointer (some ⟨b, 0, none⟩), m.vl] w fun e w' => e = .returned (.tuple #[]) ∧ WY Y w' b (l ++ encM m, 0) ∧ FY Y w w' := by
  have HNu : Hid (∀ W : World, WY (And1 Y w.heap.size) W b (l, 0) → Calls Try.prog 27 #[.agg m.cells.toArray, .func (Fn.func 28) #[.pointer (some ⟨b, 0, none⟩)] #[]] W fun e w' => e = .returned (.tuple #[]) ∧ WY (And1 Y w.heap.size) w' b (l ++ numsM m, 0) ∧ FY (And1 Y w.heap.size) W w') := fun W hW => nums_any _ W b l m hW hl hr ho
  have HZ : Hid ((Try.prog.info? 28).map (·.size) = some m.cells.toArray.size) := m.size ho.2.2.1
  have HC0 : Hid (m.cells[0]? = some (.int .i64 m.kind)) := m.c0
  have HC14 : Hid (m.cells[14]? = some (.string (strOfNums m.path))) := m.c14 ho.2.2.1
  have HE : Hid (encM m = numsM m ++ txB m) := encM_nums m
  have HTx : Hid (txB m = digs 2 m.path.length ++ m.path) := if_pos (beq_iff_eq.1 q2)
  have HTW : Hid (textW (l ++ numsM m, 0) (strOfNums m.path) = (l ++ numsM m ++ (digs 2 m.path.length ++ m.path), 0)) := textW_ok _ _ ho.2.2.2 (hr.2.2.2.2.1 (beq_iff_eq.1 q2)).2.2
  have HLn : Hid ((l ++ numsM m).length ≤ 800000000) := by unfold Hid; rw [List.length_append]; have := numsM_len m hr ho; omega
  have h0 := h.one (Obj.cells m.cells.toArray 28)
  have h0l := h.lt
  have Z0 : Blk (w.alloc (Obj.cells m.cells.toArray 28)) w.heap.size 28 m.cells := D.blk_new w m.cells.toArray 28
  have F0 : Hid (FY Y w (w.alloc (Obj.cells m.cells.toArray 28))) := fy_below h.lt ((Below.refl _ _).alloc (Nat.le_refl _) _)
  unfold Mg.vl
  generalize m.cells = R at *
  generalize encM m = EN at *
  generalize numsM m = NU at *
  generalize m.kind = k at *
  clear h hr ho
  go_enter Try.func15, Try.ntmps15
  go_wp2_with fail
  generalize w.alloc (Obj.cells R.toArray 28) = w0 at *
  generalize w.heap.size = g at *
  refine wp_region_late (E := [5]) (S := (fun X => Blk X g 28 R ∧ WY (And1 Y g) X b (l, 0) ∧ FY Y w X)) (by kernel_rfl) (⟨Z0.drew, h0.same (D.below_drewN w0 1), F0.out.trans (fy_below (fun k hk => h0.lt k (.inl hk)) (D.below_drewN w0 1))⟩) (fun hHeld => ?_)
  simp only [List.size_toArray, List.length_cons, List.length_nil, Nat.reduceAdd]
  generalize w0.drew = X0 at *
  refine wpAnyL_take [5] (i := 0) (v := _) (by kernel_rfl) (by kernel_rfl) (by kernel_rfl) rfl (by kernel_rfl) (by kernel_rfl) (by kernel_rfl) (fun _ _ _ h => h) (Or.inl ⟨by rfl, fun w hSw => exec_load_mg rfl rfl hSw.1 HZ.out⟩) hHeld ?_
  try simp only [Act.put, List.setIfInBounds_toArray, List.set_cons_zero, List.set_cons_succ, List.getElem_toArray, List.getElem_cons_zero, List.getElem_cons_succ]
  refine wpAnyL_take [2, 3, 4, 5] (i := 1) (v := ?_) (by kernel_rfl) (by kernel_rfl) (by kernel_rfl) rfl (by kernel_rfl) (by kernel_rfl) (by kernel_rfl) (fun _ _ _ h => h) (Or.inl ⟨by rfl, ?_⟩) hHeld ?_
  rotate_left
  · (intro w hSw; (try dsimp only at hSw); go_simp; try with_reducible rfl)
  try simp only [Act.put, List.setIfInBounds_toArray, List.set_cons_zero, List.set_cons_succ, List.getElem_toArray, List.getElem_cons_zero, List.getElem_cons_succ]
  refine wpAnyL_take [3, 4, 5] (i := 2) (v := ?_) (by kernel_rfl) (by kernel_rfl) (by kernel_rfl) rfl (by kernel_rfl) (by kernel_rfl) (by kernel_rfl) (fun _ _ _ h => h) (Or.inl ⟨by rfl, ?_⟩) hHeld ?_
  rotate_left
  · (intro w hSw; (try dsimp only at hSw); go_simp; try with_reducible rfl)
  try simp only [Act.put, List.setIfInBounds_toArray, List.set_cons_zero, List.set_cons_succ, List.getElem_toArray, List.getElem_cons_zero, List.getElem_cons_succ]
  refine wpAnyL_take [4, 5] (i := 3) (v := ?_) (by kernel_rfl) (by kernel_rfl) (by kernel_rfl) rfl (by kernel_rfl) (by kernel_rfl) (by kernel_rfl) (fun _ _ _ h => h) (Or.inl ⟨by rfl, ?_⟩) hHeld ?_
  rotate_left
  · (intro w hSw; (try dsimp only at hSw); go_simp; try with_reducible rfl)
  try simp only [Act.put, List.setIfInBounds_toArray, List.set_cons_zero, List.set_cons_succ, List.getElem_toArray, List.getElem_cons_zero, List.getElem_cons_succ]
  refine wpAnyL_take [5] (i := 4) (v := ?_) (by kernel_rfl) (by kernel_rfl) (by kernel_rfl) rfl (by kernel_rfl) (by kernel_rfl) (by kernel_rfl) (fun _ _ _ h => h) (Or.inl ⟨by rfl, ?_⟩) hHeld ?_
  rotate_left
  · (intro w hSw; (try dsimp only at hSw); go_simp; try with_reducible rfl)
  try simp only [Act.put, List.setIfInBounds_toArray, List.set_cons_zero, List.set_cons_succ, List.getElem_toArray, List.getElem_cons_zero, List.getElem_cons_succ]
  refine wpAnyL_one (i := 5) (by kernel_rfl) rfl (fun K hK => ?_)
  go_simp
  refine (HNu.out _ hHeld.2.1).mono ?_
  rintro e w1 ⟨rfl, h1, f1⟩
  have F1 : Hid (FY Y w w1) := hHeld.2.2.trans f1.one
  have Z1 := f1.blk hHeld.1 (.inr rfl)
  go_wp2_with fail
  refine hK.out _ _ (fun h => by cases h) ?_
  clear hK K
  try simp only [Act.put, List.setIfInBounds_toArray, List.set_cons_zero, List.set_cons_succ, List.getElem_toArray, List.getElem_cons_zero, List.getElem_cons_succ]
  refine wpAnyL_done (by kernel_rfl) ?_ _
  have c0 := (Z1.cell 0).trans HC0.out
  have c14 := (Z1.cell 14).trans HC14.out
  go_wp2_with (first | (go_at_call 29; refine (hasCall_any _ _).mono ?_; rintro e w2 ⟨rfl, hw2⟩; subst hw2; rw [q2]))
  have HD : ∀ n, FY Y w (w2.drewN n) := fun n => F1.out.trans (fy_below (fun k hk => h1.lt k (.inl hk)) (D.below_drewN w2 n))
  have HW2 : Hid (∀ W : World, WY (And1 Y g) W b (l ++ NU, 0) → Calls Try.prog 30 #[.pointer (some ⟨b, 0, none⟩), .string (strOfNums m.path)] W fun e w' => e = .returned (.tuple #[]) ∧ WY (And1 Y g) w' b (textW (l ++ NU, 0) (strOfNums m.path)) ∧ FY (And1 Y g) W w') := fun W hW => wtext_y _ _ b _ (strOfNums m.path) hW HLn.out
  rw [HTW.out] at HW2
  generalize strOfNums m.path = SP at *
  refine wp_region_late (E := [5]) (S := (fun X => X.cell? ⟨g, 14, none⟩ = some (.string SP) ∧ WY (And1 Y g) X b (l ++ NU, 0) ∧ FY Y w X)) (by kernel_rfl) (⟨c14, h1.same (D.below_drewN w2 1), HD 1⟩) (fun hHeld => ?_)
  simp only [List.size_toArray, List.length_cons, List.length_nil, Nat.reduceAdd]
  refine wpAnyL_take [1, 2, 5] (i := 0) (v := ?_) (by kernel_rfl) (by kernel_rfl) (by kernel_rfl) rfl (by kernel_rfl) (by kernel_rfl) (by kernel_rfl) (fun _ _ _ h => h) (Or.inl ⟨by rfl, ?_⟩) hHeld ?_
  rotate_left
  · (intro w hSw; (try dsimp only at hSw); have s0 := hSw.1; go_simp; try with_reducible rfl)
  try simp only [Act.put, List.setIfInBounds_toArray, List.set_cons_zero, List.set_cons_succ, List.getElem_toArray, List.getElem_cons_zero, List.getElem_cons_succ]
  refine wpAnyL_take [2, 5] (i := 1) (v := ?_) (by kernel_rfl) (by kernel_rfl) (by kernel_rfl) rfl (by kernel_rfl) (by kernel_rfl) (by kernel_rfl) (fun _ _ _ h => h) (Or.inl ⟨by rfl, ?_⟩) hHeld ?_
  rotate_left
  · (intro w hSw; (try dsimp only at hSw); have s0 := hSw.1; go_simp; try with_reducible rfl)
  try simp only [Act.put, List.setIfInBounds_toArray, List.set_cons_zero, List.set_cons_succ, List.getElem_toArray, List.getElem_cons_zero, List.getElem_cons_succ]
  refine wpAnyL_take [5] (i := 2) (v := ?_) (by kernel_rfl) (by kernel_rfl) (by kernel_rfl) rfl (by kernel_rfl) (by kernel_rfl) (by kernel_rfl) (fun _ _ _ h => h) (Or.inl ⟨by rfl, ?_⟩) hHeld ?_
  rotate_left
  · (intro w hSw; (try dsimp only at hSw); have s0 := hSw.1; go_simp; try with_reducible rfl)
  try simp only [Act.put, List.setIfInBounds_toArray, List.set_cons_zero, List.set_cons_succ, List.getElem_toArray, List.getElem_cons_zero, List.getElem_cons_succ]
  refine wpAnyL_take [4, 5] (i := 3) (v := ?_) (by kernel_rfl) (by kernel_rfl) (by kernel_rfl) rfl (by kernel_rfl) (by kernel_rfl) (by kernel_rfl) (fun _ _ _ h => h) (Or.inl ⟨by rfl, ?_⟩) hHeld ?_
  rotate_left
  · (intro w hSw; (try dsimp only at hSw); have s0 := hSw.1; go_simp; try with_reducible rfl)
  try simp only [Act.put, List.setIfInBounds_toArray, List.set_cons_zero, List.set_cons_succ, List.getElem_toArray, List.getElem_cons_zero, List.getElem_cons_succ]
  refine wpAnyL_take [5] (i := 4) (v := ?_) (by kernel_rfl) (by kernel_rfl) (by kernel_rfl) rfl (by kernel_rfl) (by kernel_rfl) (by kernel_rfl) (fun _ _ _ h => h) (Or.inl ⟨by rfl, ?_⟩) hHeld ?_
  rotate_left
  · (intro w hSw; (try dsimp only at hSw); have s0 := hSw.1; go_simp; try with_reducible rfl)
  try simp only [Act.put, List.setIfInBounds_toArray, List.set_cons_zero, List.set_cons_succ, List.getElem_toArray, List.getElem_cons_zero, List.getElem_cons_succ]
  refine wpAnyL_one (i := 5) (by kernel_rfl) rfl (fun K hK => ?_)
  go_simp
  refine (HW2.out _ hHeld.2.1).mono ?_
  rintro e w3 ⟨rfl, h3, f3⟩
  have F3 : Hid (FY Y w w3) := hHeld.2.2.trans f3.one
  go_wp2_with fail
  refine hK.out _ _ (fun h => by cases h) ?_
  clear hK K
  try simp only [Act.put, List.setIfInBounds_toArray, List.set_cons_zero, List.set_cons_succ, List.getElem_toArray, List.getElem_cons_zero, List.getElem_cons_succ]
  refine wpAnyL_done (by kernel_rfl) ?_ _
  go_end0
  refine ⟨rfl, ?_, F3.out⟩
  rw [HE.out, HTx.out, ← List.append_assoc l]
  exact h3.mono fun _ hk => .inl hk

theorem message_any (Y : Nat → Prop) (w : World) (b : Nat) (l : List Int) (m : Mg) (h : WY Y w b (l, 0)) (hl : l.length ≤ 1000) (hr : MgR m) (ho : m.ok) :
    Calls Try.prog 15 #[.pointer (some ⟨b, 0, none⟩), m.vl] w fun e w' => e = .returned (.tuple #[]) ∧ WY Y w' b (l ++ encM m, 0) ∧ FY Y w w' := by
  cases q2 : caQ m.kind
  · exact message_none Y w b l m h hl hr ho q2
  · exact message_call Y w b l m h hl hr ho q2

end Go.Proofs.Ytpdndcmaaghnjaa
