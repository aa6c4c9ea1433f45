/-
  Fork.
-/
import Derived.Test.YtamioifoemklfaaStBlt
import Derived.Laws.CopyRow
import Derived.Laws.OwnMore
namespace Go.Proofs.Ytamioifoemklfaa
open Go.RowKit

/-- a whole row copied into another one. -/
theorem run_copy_full {P : Program} (w : World) (dT sT ty elem : TypeId) (i : TypeInfo) (hu : P.underlying dT = some (.slice elem)) (hi : P.info? elem = some i) (g n : Nat) (cur : List Value) (t : TypeId) (hg : V.Blk w g t cur) (hc : cur.length = n * i.size)
    (a : Option Addr) (cap : Nat) (t' : TypeId) (xs : List Value) (hown : w.ownsRow 0 t' i.size (.slice a n cap) n xs) (h1 : ∀ v ∈ xs, v.oneCell' = true) :
    ∃ w', (Builtin.copy_ #[dT, sT] ty #[.slice (some ⟨g, 0, none⟩) n n, .slice a n cap]).run P w = .ok (goInt n) w' ∧ V.Blk w' g t xs ∧ w.grownBy w' (some g) := by
  have hxl : xs.length = cur.length := by rw [hown.1, hc]
  rcases hown.2 with ⟨e, h0⟩ | ⟨g2, c2, cu2, e, _⟩
  · simp at e
    obtain ⟨rfl, rfl, rfl⟩ := e
    have hx : xs = [] := List.eq_nil_of_length_eq_zero (by rw [hown.1, Nat.zero_mul])
    have hcu : cur = [] := List.eq_nil_of_length_eq_zero (by rw [hc, Nat.zero_mul])
    subst hx
    subst hcu
    exact ⟨w, by simp [Builtin.copy_, run_underlying hu, Builtin.lenOf, Builtin.firstCells, sizeOf, typeInfo, hi, storeCells], hg, V.grow_refl _ _⟩
  · simp at e
    obtain ⟨rfl, rfl⟩ := e
    have hf := run_firstCells_some (P := P) w i.size n ⟨g2, 0, none⟩ n cap xs hown.1 (hown.cells (g := g2) rfl)
    have hst := run_storeCells_at P g 0 t xs 0 cur.toArray w hg (by simp; omega) h1
    refine ⟨w.setRow g xs.toArray, ?_, by have := hg.row xs.toArray; simpa using this, ⟨rfl, rfl, rfl, by simp, fun k _ hk => setRow_other w g k _ (fun e => hk (by rw [e]))⟩⟩
    have hd : List.drop xs.length cur = [] := List.drop_eq_nil_of_le (by omega)
    simp [Builtin.copy_, run_underlying hu, Builtin.lenOf, sizeOf, typeInfo, hi, hf, hst, hd]

/-- a fork that is under way: its block, its rows; the stack as it was. -/
structure FkI (X W : World) (b : Nat) (vc ve : Value) (ls : List (List V.In)) (b2 gc ge n k : Nat) (C E : List Value) : Prop where
  blk2 : V.Blk W b2 34 [.slice (some ⟨gc, 0, none⟩) n n, .slice (some ⟨ge, 0, none⟩) k k]
  rc : V.Blk W gc 56 C
  re : V.Blk W ge 3 E
  old : StkV W b vc ve ls
  bel : Below X.heap.size X W
  h1 : X.heap.size ≤ b2
  h2 : X.heap.size ≤ gc
  h3 : X.heap.size ≤ ge
theorem FkI.drew {X W : World} {b : Nat} {vc ve : Value} {ls : List (List V.In)} {b2 gc ge n k : Nat} {C E : List Value} (h : FkI X W b vc ve ls b2 gc ge n k C E) : FkI X W.drew b vc ve ls b2 gc ge n k C E := ⟨h.blk2.drew, h.rc.drew, h.re.drew, h.old.drew, h.bel.drew, h.h1, h.h2, h.h3⟩
/-- what Fork tells. -/
def FrkT (X : World) (ls : List (List V.In)) (e : Ending) (Y : World) : Prop := ∃ b' vc' ve', e = .returned (.pointer (some ⟨b', 0, none⟩)) ∧ StkV Y b' vc' ve' ls ∧ X.heap.size ≤ b' ∧ (∀ j, vc'.ownBlock = some j → X.heap.size ≤ j) ∧ Below X.heap.size X Y

theorem grown_bel {X W Y : World} {g : Nat} (h : Below X.heap.size X W) (hg : W.grownBy Y (some g)) (hb : X.heap.size ≤ g) : Below X.heap.size X Y := h.trans (grown_below hg hb h.size)
/-- the fork's instructions are copied. -/
theorem FkI.code {X W Y : World} {b : Nat} {vc ve : Value} {ls : List (List V.In)} {b2 gc ge n k : Nat} {C E C' : List Value} (h : FkI X W b vc ve ls b2 gc ge n k C E) (hc : ∀ j, vc.ownBlock = some j → j < X.heap.size) (hq : V.Blk Y gc 56 C') (hg : W.grownBy Y (some gc)) : FkI X Y b vc ve ls b2 gc ge n k C' E :=
  ⟨blk_grown h.blk2 hg (fun e => blk_ne (by decide) h.blk2 h.rc (by simpa using e)), hq, blk_grown h.re hg (fun e => blk_ne (by decide) h.re h.rc (by simpa using e)),
    ⟨blk_grown h.old.blk hg (fun e => blk_ne (by decide) h.old.blk h.rc (by simpa using e)), h.old.code.kept hg (.inr fun e => by have := hc gc e; have := h.h2; omega), h.old.ends.kept hg (row_ne (by decide) h.old.ends h.rc)⟩,
    grown_bel h.bel hg h.h2, h.h1, h.h2, h.h3⟩
/-- where its filters end, too. -/
theorem FkI.endr {X W Y : World} {b : Nat} {vc ve : Value} {ls : List (List V.In)} {b2 gc ge n k : Nat} {C E E' : List Value} (h : FkI X W b vc ve ls b2 gc ge n k C E) (hc : ∀ j, ve.ownBlock = some j → j < X.heap.size) (hq : V.Blk Y ge 3 E') (hg : W.grownBy Y (some ge)) : FkI X Y b vc ve ls b2 gc ge n k C E' :=
  ⟨blk_grown h.blk2 hg (fun e => blk_ne (by decide) h.blk2 h.re (by simpa using e)), blk_grown h.rc hg (fun e => blk_ne (by decide) h.rc h.re (by simpa using e)), hq,
    ⟨blk_grown h.old.blk hg (fun e => blk_ne (by decide) h.old.blk h.re (by simpa using e)), h.old.code.kept hg (row_ne (by decide) h.old.code h.re), h.old.ends.kept hg (.inr fun e => by have := hc ge e; have := h.h3; omega)⟩,
    grown_bel h.bel hg h.h3, h.h1, h.h2, h.h3⟩
theorem own_of_blk {W : World} {g n sz : Nat} {t : TypeId} {xs : List Value} (h : V.Blk W g t xs) (hl : xs.length = n * sz) (hn : n ≤ maxLen) : W.ownsRow 0 t sz (.slice (some ⟨g, 0, none⟩) n n) n xs :=
  ⟨hl, .inr ⟨g, n, xs.toArray, rfl, Nat.zero_le _, h, Nat.le_refl _, hn, by simpa using hl, by rw [← hl]; simp⟩⟩
theorem FkI.told {X W : World} {b : Nat} {vc ve : Value} {ls : List (List V.In)} {b2 gc ge n k : Nat} (h : FkI X W b vc ve ls b2 gc ge n k (V.cellsI ls.flatten) (V.cellsN (endsF 0 ls))) (hn : ls.flatten.length = n) (hk : ls.length = k) (hn1 : n ≤ 100000) (hk1 : k ≤ 100000) : FrkT X ls (.returned (.pointer (some ⟨b2, 0, none⟩))) W := by
  subst hn
  subst hk
  refine ⟨b2, _, _, rfl, ⟨h.blk2, own_of_blk h.rc (V.cellsI_length _) (by unfold maxLen; omega), own_of_blk h.re (by simp [V.cellsN, endsF_len]) (by unfold maxLen; omega)⟩, h.h1, fun j hj => ?_, h.bel⟩
  cases hj
  exact h.h2
theorem step_copyI {w : World} {ops : Array Oper} {o : Oper} {a : Act} {K : Act → World → Prop} {Q : Exit → Act → World → Prop} {E : Prop} (hgd : o.guard = none) (s x : Operand)
    (ho : o.op = .call { callee := .builtin .copy, args := #[s, x], argTypes := #[31, 31] }) (g n : Nat) (cur : List Value) (ac : Option Addr) (cc : Nat) (L : List V.In) (hs : a.eval s = .slice (some ⟨g, 0, none⟩) n n) (hx : a.eval x = .slice ac n cc)
    (hg : V.Blk w g 56 cur) (hc : cur.length = n * 4) (hown : w.ownsRow 0 56 4 (.slice ac n cc) n (V.cellsI L))
    (h : ∀ w', V.Blk w' g 56 (V.cellsI L) → w.grownBy w' (some g) → K (a.put o.dst (goInt n)) w') :
    if Region.wanted o (yielded ops a.tmps) = true then Oper.wp Try.prog o a w K Q else E := by
  rw [if_pos (by simp [Region.wanted, hgd])]
  obtain ⟨i0, hi, hz0, hz1, hz2⟩ := info_parts V.Try.info56
  obtain ⟨w', hrun, h1, h2⟩ := run_copy_full (P := Try.prog) w 31 31 o.type 56 i0 Try.underlying31 hi g n cur 56 hg (by rw [hz1]; exact hc) ac cc 56 (V.cellsI L) (by rw [hz1]; exact hown) (V.cellsI_kind L)
  unfold Oper.wp execOp
  simp only [ho, resolve, invoke, builtin, Sem.run_bind, Sem.run_pure, Result.andThen_ok, List.map_toArray, List.map_cons, List.map_nil, hs, hx, hrun]
  exact h _ h1 h2
theorem step_copyN {w : World} {ops : Array Oper} {o : Oper} {a : Act} {K : Act → World → Prop} {Q : Exit → Act → World → Prop} {E : Prop} (hgd : o.guard = none) (s x : Operand)
    (ho : o.op = .call { callee := .builtin .copy, args := #[s, x], argTypes := #[32, 32] }) (g n : Nat) (cur : List Value) (ac : Option Addr) (cc : Nat) (L : List Int) (hs : a.eval s = .slice (some ⟨g, 0, none⟩) n n) (hx : a.eval x = .slice ac n cc)
    (hg : V.Blk w g 3 cur) (hc : cur.length = n * 1) (hown : w.ownsRow 0 3 1 (.slice ac n cc) n (V.cellsN L))
    (h : ∀ w', V.Blk w' g 3 (V.cellsN L) → w.grownBy w' (some g) → K (a.put o.dst (goInt n)) w') :
    if Region.wanted o (yielded ops a.tmps) = true then Oper.wp Try.prog o a w K Q else E := by
  rw [if_pos (by simp [Region.wanted, hgd])]
  obtain ⟨i0, hi, hz0, hz1, hz2⟩ := info_parts V.Try.info3
  obtain ⟨w', hrun, h1, h2⟩ := run_copy_full (P := Try.prog) w 32 32 o.type 3 i0 Try.underlying32 hi g n cur 3 hg (by rw [hz1]; exact hc) ac cc 3 (V.cellsN L) (by rw [hz1]; exact hown) (fun v hv => by unfold V.cellsN at hv; obtain ⟨z, _, rfl⟩ := List.mem_map.1 hv; rfl)
  unfold Oper.wp execOp
  simp only [ho, resolve, invoke, builtin, Sem.run_bind, Sem.run_pure, Result.andThen_ok, List.map_toArray, List.map_cons, List.map_nil, hs, hx, hrun]
  exact h _ h1 h2

set_option linter.unusedSimpArgs false in
set_option maxRecDepth 8000 in
set_option maxHeartbeats 4000000 in
theorem fork_any (X : World) (b : Nat) (vc ve : Value) (ls : List (List V.In)) (hS : StkV X b vc ve ls) (hok : OkS ls) :
    Calls Try.prog 21 #[.pointer (some ⟨b, 0, none⟩)] X fun e Y => FrkT X ls e Y := by
  obtain ⟨ac, cc, rfl⟩ := own_slice hS.code
  obtain ⟨ae, ce, rfl⟩ := own_slice hS.ends
  have hfl : ls.flatten.length + 4 * ls.length ≤ 32768 := by have := hok.2.2; rw [cost_flat] at this; exact this
  obtain ⟨ZC, hZC, hmc⟩ : ∃ ZC : Array Value, ZC.toList.length = ls.flatten.length * 4 ∧ ∀ W : World, (Instr.makeSlice 31 (.int .i64 (ls.flatten.length : Nat)) (.int .i64 (ls.flatten.length : Nat))).run Try.prog W = .ok (.slice (some ⟨W.heap.size, 0, none⟩) ls.flatten.length ls.flatten.length) (W.alloc (Obj.cells ZC 56)) := by
    obtain ⟨i0, hi, hz0, hz1, hz2⟩ := info_parts V.Try.info56
    refine ⟨_, ?_, fun W => by have := run_make (P := Try.prog) W 31 56 i0 _ Try.underlying31 hi hz0 .i64 .i64 (ls.flatten.length : Nat) (ls.flatten.length : Nat) (by omega) (Int.le_refl _) (by rw [hz2]; omega) (by omega); simpa using this⟩
    rw [hz1, Array.length_toList]
    rw [size_madeCells]; try simp
  obtain ⟨ZE, hZE, hme⟩ : ∃ ZE : Array Value, ZE.toList.length = ls.length * 1 ∧ ∀ W : World, (Instr.makeSlice 32 (.int .i64 (ls.length : Nat)) (.int .i64 (ls.length : Nat))).run Try.prog W = .ok (.slice (some ⟨W.heap.size, 0, none⟩) ls.length ls.length) (W.alloc (Obj.cells ZE 3)) := by
    obtain ⟨i0, hi, hz0, hz1, hz2⟩ := info_parts V.Try.info3
    refine ⟨_, ?_, fun W => by have := run_make (P := Try.prog) W 32 3 i0 _ Try.underlying32 hi hz0 .i64 .i64 (ls.length : Nat) (ls.length : Nat) (by omega) (Int.le_refl _) (by rw [hz2]; omega) (by omega); simpa using this⟩
    rw [hz1, Array.length_toList]
    rw [size_madeCells]; try simp
  have hnn : ls.flatten.length = ls.flatten.length := rfl
  have hkk : ls.length = ls.length := rfl
  obtain ⟨n, hn⟩ : ∃ n, ls.flatten.length = n := ⟨_, rfl⟩
  obtain ⟨k, hk⟩ : ∃ k, ls.length = k := ⟨_, rfl⟩
  have HLc : Hid ((ZC.toList.length = n * 4 ∧ ls.flatten.length = n ∧ n ≤ 100000) ∧ (ZE.toList.length = k * 1 ∧ ls.length = k ∧ k ≤ 100000)) := ⟨⟨by rw [hZC, hn], hn, by omega⟩, by rw [hZE, hk], hk, by omega⟩
  have HSt : Hid (StkV X b (.slice ac n cc) (.slice ae k ce) ls) := by rw [hn, hk] at hS; exact hS
  have HLt : Hid ((∀ j, (Value.slice ac n cc).ownBlock = some j → j < X.heap.size) ∧ ∀ j, (Value.slice ae k ce).ownBlock = some j → j < X.heap.size) := ⟨fun j hj => (HSt.out.code.lt j hj).2, fun j hj => (HSt.out.ends.lt j hj).2⟩
  rw [hn] at hmc
  rw [hk] at hme
  clear hS hok hfl hZC hZE hnn hkk hn hk
  go_enter Try.func21, Try.ntmps21
  go_upto_region 1 with fail
  have hS1 : (fun W => W.cell? ⟨b, 0, none⟩ = some (.slice ac n cc) ∧ W.cell? ⟨b, 1, none⟩ = some (.slice ae k ce) ∧ StkV W b (.slice ac n cc) (.slice ae k ce) ls ∧ Below X.heap.size X W) X.drew := ⟨HSt.out.drew.blk.cell 0, HSt.out.drew.blk.cell 1, HSt.out.drew, (Below.refl _ _).drew⟩
  have HZ : Hid (X.heap.size ≤ X.drew.heap.size) := Nat.le_refl _
  clear HSt
  refine wp_region_held_drew (S := (fun W => W.cell? ⟨b, 0, none⟩ = some (.slice ac n cc) ∧ W.cell? ⟨b, 1, none⟩ = some (.slice ae k ce) ∧ StkV W b (.slice ac n cc) (.slice ae k ce) ls ∧ Below X.heap.size X W)) (by kernel_rfl) (hS1) (fun hHeld => ?_)
  simp only [List.size_toArray, List.length_cons, List.length_nil, Nat.reduceAdd]
  generalize X.drew = Z at *
  refine wpAnyH_take (i := 0) (v := ?_) rfl (by kernel_rfl) (by kernel_rfl) (by kernel_rfl) (fun _ _ _ h => h) (Or.inl ⟨by rfl, ?_⟩) hHeld ?_
  rotate_left
  · (intro w hSw; (try dsimp only at hSw); have s0 := hSw.1; have s1 := hSw.2.1; go_simp; try with_reducible rfl)
  try simp only [Act.put, List.setIfInBounds_toArray, List.set_cons_zero, List.set_cons_succ, List.getElem_toArray, List.getElem_cons_zero, List.getElem_cons_succ]
  refine wpAnyH_take (i := 1) (v := ?_) rfl (by kernel_rfl) (by kernel_rfl) (by kernel_rfl) (fun _ _ _ h => h) (Or.inl ⟨by rfl, ?_⟩) hHeld ?_
  rotate_left
  · (intro w hSw; (try dsimp only at hSw); have s0 := hSw.1; have s1 := hSw.2.1; go_simp; try with_reducible rfl)
  try simp only [Act.put, List.setIfInBounds_toArray, List.set_cons_zero, List.set_cons_succ, List.getElem_toArray, List.getElem_cons_zero, List.getElem_cons_succ]
  refine wpAnyH_take (i := 2) (v := ?_) rfl (by kernel_rfl) (by kernel_rfl) (by kernel_rfl) (fun _ _ _ h => h) (Or.inl ⟨by rfl, ?_⟩) hHeld ?_
  rotate_left
  · (intro w hSw; (try dsimp only at hSw); have s0 := hSw.1; have s1 := hSw.2.1; go_simp; try with_reducible rfl)
  try simp only [Act.put, List.setIfInBounds_toArray, List.set_cons_zero, List.set_cons_succ, List.getElem_toArray, List.getElem_cons_zero, List.getElem_cons_succ]
  refine wpAnyH_take (i := 3) (v := ?_) rfl (by kernel_rfl) (by kernel_rfl) (by kernel_rfl) (fun _ _ _ h => h) (Or.inl ⟨by rfl, ?_⟩) hHeld ?_
  rotate_left
  · (intro w hSw; (try dsimp only at hSw); have s0 := hSw.1; have s1 := hSw.2.1; go_simp; try with_reducible rfl)
  try simp only [Act.put, List.setIfInBounds_toArray, List.set_cons_zero, List.set_cons_succ, List.getElem_toArray, List.getElem_cons_zero, List.getElem_cons_succ]
  refine wpAnyH_take (i := 4) (v := ?_) rfl (by kernel_rfl) (by kernel_rfl) (by kernel_rfl) (fun _ _ _ h => h) (Or.inl ⟨by rfl, ?_⟩) hHeld ?_
  rotate_left
  · (intro w hSw; (try dsimp only at hSw); have s0 := hSw.1; have s1 := hSw.2.1; go_simp; try with_reducible rfl)
  try simp only [Act.put, List.setIfInBounds_toArray, List.set_cons_zero, List.set_cons_succ, List.getElem_toArray, List.getElem_cons_zero, List.getElem_cons_succ]
  refine wpAnyH_take (i := 6) (v := ?_) rfl (by kernel_rfl) (by kernel_rfl) (by kernel_rfl) (fun _ _ _ h => h) (Or.inl ⟨by rfl, ?_⟩) hHeld ?_
  rotate_left
  · (intro w hSw; (try dsimp only at hSw); have s0 := hSw.1; have s1 := hSw.2.1; go_simp; try with_reducible rfl)
  try simp only [Act.put, List.setIfInBounds_toArray, List.set_cons_zero, List.set_cons_succ, List.getElem_toArray, List.getElem_cons_zero, List.getElem_cons_succ]
  refine wpAnyH_take (i := 7) (v := ?_) rfl (by kernel_rfl) (by kernel_rfl) (by kernel_rfl) (fun _ _ _ h => h) (Or.inl ⟨by rfl, ?_⟩) hHeld ?_
  rotate_left
  · (intro w hSw; (try dsimp only at hSw); have s0 := hSw.1; have s1 := hSw.2.1; go_simp; try with_reducible rfl)
  try simp only [Act.put, List.setIfInBounds_toArray, List.set_cons_zero, List.set_cons_succ, List.getElem_toArray, List.getElem_cons_zero, List.getElem_cons_succ]
  refine wpAnyH_take (i := 8) (v := ?_) rfl (by kernel_rfl) (by kernel_rfl) (by kernel_rfl) (fun _ _ _ h => h) (Or.inl ⟨by rfl, ?_⟩) hHeld ?_
  rotate_left
  · (intro w hSw; (try dsimp only at hSw); have s0 := hSw.1; have s1 := hSw.2.1; go_simp; try with_reducible rfl)
  try simp only [Act.put, List.setIfInBounds_toArray, List.set_cons_zero, List.set_cons_succ, List.getElem_toArray, List.getElem_cons_zero, List.getElem_cons_succ]
  refine wpAnyH_take (i := 9) (v := ?_) rfl (by kernel_rfl) (by kernel_rfl) (by kernel_rfl) (fun _ _ _ h => h) (Or.inl ⟨by rfl, ?_⟩) hHeld ?_
  rotate_left
  · (intro w hSw; (try dsimp only at hSw); have s0 := hSw.1; have s1 := hSw.2.1; go_simp; try with_reducible rfl)
  try simp only [Act.put, List.setIfInBounds_toArray, List.set_cons_zero, List.set_cons_succ, List.getElem_toArray, List.getElem_cons_zero, List.getElem_cons_succ]
  refine wpAnyH_take (i := 10) (v := ?_) rfl (by kernel_rfl) (by kernel_rfl) (by kernel_rfl) (fun _ _ _ h => h) (Or.inl ⟨by rfl, ?_⟩) hHeld ?_
  rotate_left
  · (intro w hSw; (try dsimp only at hSw); have s0 := hSw.1; have s1 := hSw.2.1; go_simp; try with_reducible rfl)
  try simp only [Act.put, List.setIfInBounds_toArray, List.set_cons_zero, List.set_cons_succ, List.getElem_toArray, List.getElem_cons_zero, List.getElem_cons_succ]
  refine wpAnyH_ready (rs := [5, 11]) (by kernel_rfl) (by simp) ?_
  refine AllReadyH.cons rfl (fun K hK => ?_) (AllReadyH.cons rfl (fun K hK => ?_) AllReadyH.nil)
  · go_simp
    have hm1 : (fun W => W.cell? ⟨b, 0, none⟩ = some (.slice ac n cc) ∧ W.cell? ⟨b, 1, none⟩ = some (.slice ae k ce) ∧ StkV W b (.slice ac n cc) (.slice ae k ce) ls ∧ Below X.heap.size X W) (World.alloc (Z) (Obj.cells ZC 56)) := ⟨cellK hHeld.1 (below_new _ _), cellK hHeld.2.1 (below_new _ _), hHeld.2.2.1.over (below_new _ _), hHeld.2.2.2.alloc hHeld.2.2.2.size _⟩
    refine hK.out _ _ hm1 (fun hHeld => ?_)
    clear hK K
    try simp only [Act.put, List.setIfInBounds_toArray, List.set_cons_zero, List.set_cons_succ, List.getElem_toArray, List.getElem_cons_zero, List.getElem_cons_succ]
    refine wpAnyH_ready (rs := [11]) (by kernel_rfl) (by simp) ?_
    refine AllReadyH.cons rfl (fun K hK => ?_) AllReadyH.nil
    go_simp
    have hm2 : (fun W => W.cell? ⟨b, 0, none⟩ = some (.slice ac n cc) ∧ W.cell? ⟨b, 1, none⟩ = some (.slice ae k ce) ∧ StkV W b (.slice ac n cc) (.slice ae k ce) ls ∧ Below X.heap.size X W) (World.alloc (World.alloc Z (Obj.cells ZC 56)) (Obj.cells ZE 3)) := ⟨cellK hHeld.1 (below_new _ _), cellK hHeld.2.1 (below_new _ _), hHeld.2.2.1.over (below_new _ _), hHeld.2.2.2.alloc hHeld.2.2.2.size _⟩
    refine hK.out _ _ hm2 (fun hHeld => ?_)
    clear hK K
    try simp only [Act.put, List.setIfInBounds_toArray, List.set_cons_zero, List.set_cons_succ, List.getElem_toArray, List.getElem_cons_zero, List.getElem_cons_succ]
    refine wpAnyH_take (i := 12) (v := ?_) rfl (by kernel_rfl) (by kernel_rfl) (by kernel_rfl) (fun _ _ _ h => h) (Or.inl ⟨by rfl, ?_⟩) hHeld ?_
    rotate_left
    · (intro w hSw; (try dsimp only at hSw); go_simp; try with_reducible rfl)
    try simp only [Act.put, List.setIfInBounds_toArray, List.set_cons_zero, List.set_cons_succ, List.getElem_toArray, List.getElem_cons_zero, List.getElem_cons_succ]
    refine wpAnyH_ready (rs := [13]) (by kernel_rfl) (by simp) ?_
    refine AllReadyH.cons rfl (fun K hK => ?_) AllReadyH.nil
    go_simp
    have hm3 : (fun W => W.cell? ⟨b, 0, none⟩ = some (.slice ac n cc) ∧ W.cell? ⟨b, 1, none⟩ = some (.slice ae k ce) ∧ StkV W b (.slice ac n cc) (.slice ae k ce) ls ∧ Below X.heap.size X W) (World.alloc (World.alloc (World.alloc Z (Obj.cells ZC 56)) (Obj.cells ZE 3)) (Obj.cells #[.slice (some ⟨Z.heap.size, 0, none⟩) n n, .slice (some ⟨Z.heap.size + 1, 0, none⟩) k k] 34)) := ⟨cellK hHeld.1 (below_new _ _), cellK hHeld.2.1 (below_new _ _), hHeld.2.2.1.over (below_new _ _), hHeld.2.2.2.alloc hHeld.2.2.2.size _⟩
    refine hK.out _ _ hm3 (fun hHeld => ?_)
    clear hK K
    try simp only [Act.put, List.setIfInBounds_toArray, List.set_cons_zero, List.set_cons_succ, List.getElem_toArray, List.getElem_cons_zero, List.getElem_cons_succ]
    refine wpAnyH_take (i := 14) (v := ?_) rfl (by kernel_rfl) (by kernel_rfl) (by kernel_rfl) (fun _ _ _ h => h) (Or.inl ⟨by rfl, ?_⟩) hHeld ?_
    rotate_left
    · (intro w hSw; (try dsimp only at hSw); go_simp; try with_reducible rfl)
    try simp only [Act.put, List.setIfInBounds_toArray, List.set_cons_zero, List.set_cons_succ, List.getElem_toArray, List.getElem_cons_zero, List.getElem_cons_succ]
    refine wpAnyH_done (by kernel_rfl) ?_ _
    have HFK : Hid (FkI X (World.alloc (World.alloc (World.alloc Z (Obj.cells ZC 56)) (Obj.cells ZE 3)) (Obj.cells #[.slice (some ⟨Z.heap.size, 0, none⟩) n n, .slice (some ⟨Z.heap.size + 1, 0, none⟩) k k] 34)) b (.slice ac n cc) (.slice ae k ce) ls (Z.heap.size + 1 + 1) (Z.heap.size) (Z.heap.size + 1) n k ZC.toList ZE.toList) := by
      have q1 : V.Blk (World.alloc (World.alloc (World.alloc Z (Obj.cells ZC 56)) (Obj.cells ZE 3)) (Obj.cells #[.slice (some ⟨Z.heap.size, 0, none⟩) n n, .slice (some ⟨Z.heap.size + 1, 0, none⟩) k k] 34)) (Z.heap.size + 1 + 1) 34 [.slice (some ⟨Z.heap.size, 0, none⟩) n n, .slice (some ⟨Z.heap.size + 1, 0, none⟩) k k] := by have := V.blk_new (World.alloc (World.alloc Z (Obj.cells ZC 56)) (Obj.cells ZE 3)) #[.slice (some ⟨Z.heap.size, 0, none⟩) n n, .slice (some ⟨Z.heap.size + 1, 0, none⟩) k k] 34; simpa using this
      have q2 : V.Blk (World.alloc (World.alloc (World.alloc Z (Obj.cells ZC 56)) (Obj.cells ZE 3)) (Obj.cells #[.slice (some ⟨Z.heap.size, 0, none⟩) n n, .slice (some ⟨Z.heap.size + 1, 0, none⟩) k k] 34)) (Z.heap.size) 56 ZC.toList := ((V.blk_new Z (ZC) 56).alloc _).alloc _
      have q3 : V.Blk (World.alloc (World.alloc (World.alloc Z (Obj.cells ZC 56)) (Obj.cells ZE 3)) (Obj.cells #[.slice (some ⟨Z.heap.size, 0, none⟩) n n, .slice (some ⟨Z.heap.size + 1, 0, none⟩) k k] 34)) (Z.heap.size + 1) 3 ZE.toList := by have := (V.blk_new (World.alloc Z (Obj.cells ZC 56)) ZE 3).alloc (Obj.cells #[.slice (some ⟨Z.heap.size, 0, none⟩) n n, .slice (some ⟨Z.heap.size + 1, 0, none⟩) k k] 34); simpa using this
      exact ⟨q1, q2, q3, hm3.2.2.1, hm3.2.2.2, by have := HZ.out; omega, by have := HZ.out; omega, by have := HZ.out; omega⟩
    clear hm1 hm2 hm3 hHeld hS1 hmc hme
    generalize (World.alloc (World.alloc (World.alloc Z (Obj.cells ZC 56)) (Obj.cells ZE 3)) (Obj.cells #[.slice (some ⟨Z.heap.size, 0, none⟩) n n, .slice (some ⟨Z.heap.size + 1, 0, none⟩) k k] 34)) = w3 at *
    generalize Z.heap.size + 1 + 1 = b2 at HFK ⊢
    generalize Z.heap.size + 1 = ge at HFK ⊢
    generalize Z.heap.size = gc at HFK ⊢
    clear HZ
    go_upto_region 2 with fail
    have HF2 := HFK.out.drew
    have hS2 : (fun W => W.cell? ⟨b2, 0, none⟩ = some (.slice (some ⟨gc, 0, none⟩) n n) ∧ W.cell? ⟨b, 0, none⟩ = some (.slice ac n cc)) w3.drew := ⟨HF2.blk2.cell 0, HF2.old.blk.cell 0⟩
    have HF2h : Hid (FkI X w3.drew b (.slice ac n cc) (.slice ae k ce) ls b2 gc ge n k ZC.toList ZE.toList) := HF2
    clear HF2 HFK
    refine wp_region_held_drew (S := (fun W => W.cell? ⟨b2, 0, none⟩ = some (.slice (some ⟨gc, 0, none⟩) n n) ∧ W.cell? ⟨b, 0, none⟩ = some (.slice ac n cc))) (by kernel_rfl) (hS2) (fun hHeld => ?_)
    simp only [List.size_toArray, List.length_cons, List.length_nil, Nat.reduceAdd]
    generalize w3.drew = Z2 at *
    refine wpAnyH_take (i := 0) (v := ?_) rfl (by kernel_rfl) (by kernel_rfl) (by kernel_rfl) (fun _ _ _ h => h) (Or.inl ⟨by rfl, ?_⟩) hHeld ?_
    rotate_left
    · (intro w hSw; (try dsimp only at hSw); have s0 := hSw.1; have s1 := hSw.2; go_simp; try with_reducible rfl)
    try simp only [Act.put, List.setIfInBounds_toArray, List.set_cons_zero, List.set_cons_succ, List.getElem_toArray, List.getElem_cons_zero, List.getElem_cons_succ]
    refine wpAnyH_take (i := 1) (v := ?_) rfl (by kernel_rfl) (by kernel_rfl) (by kernel_rfl) (fun _ _ _ h => h) (Or.inl ⟨by rfl, ?_⟩) hHeld ?_
    rotate_left
    · (intro w hSw; (try dsimp only at hSw); have s0 := hSw.1; have s1 := hSw.2; go_simp; try with_reducible rfl)
    try simp only [Act.put, List.setIfInBounds_toArray, List.set_cons_zero, List.set_cons_succ, List.getElem_toArray, List.getElem_cons_zero, List.getElem_cons_succ]
    refine wpAnyH_take (i := 2) (v := ?_) rfl (by kernel_rfl) (by kernel_rfl) (by kernel_rfl) (fun _ _ _ h => h) (Or.inl ⟨by rfl, ?_⟩) hHeld ?_
    rotate_left
    · (intro w hSw; (try dsimp only at hSw); have s0 := hSw.1; have s1 := hSw.2; go_simp; try with_reducible rfl)
    try simp only [Act.put, List.setIfInBounds_toArray, List.set_cons_zero, List.set_cons_succ, List.getElem_toArray, List.getElem_cons_zero, List.getElem_cons_succ]
    refine wpAnyH_take (i := 3) (v := ?_) rfl (by kernel_rfl) (by kernel_rfl) (by kernel_rfl) (fun _ _ _ h => h) (Or.inl ⟨by rfl, ?_⟩) hHeld ?_
    rotate_left
    · (intro w hSw; (try dsimp only at hSw); have s0 := hSw.1; have s1 := hSw.2; go_simp; try with_reducible rfl)
    try simp only [Act.put, List.setIfInBounds_toArray, List.set_cons_zero, List.set_cons_succ, List.getElem_toArray, List.getElem_cons_zero, List.getElem_cons_succ]
    refine wpAnyH_take (i := 4) (v := ?_) rfl (by kernel_rfl) (by kernel_rfl) (by kernel_rfl) (fun _ _ _ h => h) (Or.inl ⟨by rfl, ?_⟩) hHeld ?_
    rotate_left
    · (intro w hSw; (try dsimp only at hSw); have s0 := hSw.1; have s1 := hSw.2; go_simp; try with_reducible rfl)
    try simp only [Act.put, List.setIfInBounds_toArray, List.set_cons_zero, List.set_cons_succ, List.getElem_toArray, List.getElem_cons_zero, List.getElem_cons_succ]
    refine wpAnyH_take (i := 5) (v := ?_) rfl (by kernel_rfl) (by kernel_rfl) (by kernel_rfl) (fun _ _ _ h => h) (Or.inl ⟨by rfl, ?_⟩) hHeld ?_
    rotate_left
    · (intro w hSw; (try dsimp only at hSw); have s0 := hSw.1; have s1 := hSw.2; go_simp; try with_reducible rfl)
    try simp only [Act.put, List.setIfInBounds_toArray, List.set_cons_zero, List.set_cons_succ, List.getElem_toArray, List.getElem_cons_zero, List.getElem_cons_succ]
    refine wpAnyH_take (i := 6) (v := ?_) rfl (by kernel_rfl) (by kernel_rfl) (by kernel_rfl) (fun _ _ _ h => h) (Or.inl ⟨by rfl, ?_⟩) hHeld ?_
    rotate_left
    · (intro w hSw; (try dsimp only at hSw); have s0 := hSw.1; have s1 := hSw.2; go_simp; try with_reducible rfl)
    try simp only [Act.put, List.setIfInBounds_toArray, List.set_cons_zero, List.set_cons_succ, List.getElem_toArray, List.getElem_cons_zero, List.getElem_cons_succ]
    refine wpAnyH_take (i := 7) (v := ?_) rfl (by kernel_rfl) (by kernel_rfl) (by kernel_rfl) (fun _ _ _ h => h) (Or.inl ⟨by rfl, ?_⟩) hHeld ?_
    rotate_left
    · (intro w hSw; (try dsimp only at hSw); have s0 := hSw.1; have s1 := hSw.2; go_simp; try with_reducible rfl)
    try simp only [Act.put, List.setIfInBounds_toArray, List.set_cons_zero, List.set_cons_succ, List.getElem_toArray, List.getElem_cons_zero, List.getElem_cons_succ]
    refine wpAnyH_ready (rs := [8]) (by kernel_rfl) (by simp) ?_
    refine AllReadyH.cons rfl (fun K hK => ?_) AllReadyH.nil
    refine step_copyI rfl _ _ rfl gc n ZC.toList ac cc ls.flatten rfl rfl HF2h.out.rc HLc.out.1.1 (by have := HF2h.out.old.code; rw [HLc.out.1.2.1] at this; exact this) (fun Y4 q4 g4 => ?_)
    have hF4 := HF2h.out.code HLt.out.1 q4 g4
    have hs4 : (fun W => W.cell? ⟨b2, 0, none⟩ = some (.slice (some ⟨gc, 0, none⟩) n n) ∧ W.cell? ⟨b, 0, none⟩ = some (.slice ac n cc)) Y4 := ⟨hF4.blk2.cell 0, hF4.old.blk.cell 0⟩
    refine hK.out _ _ (hs4) (fun hHeld => ?_)
    clear hK K
    try simp only [Act.put, List.setIfInBounds_toArray, List.set_cons_zero, List.set_cons_succ, List.getElem_toArray, List.getElem_cons_zero, List.getElem_cons_succ]
    refine wpAnyH_done (by kernel_rfl) ?_ _
    have HF4 : Hid (FkI X Y4 b (.slice ac n cc) (.slice ae k ce) ls b2 gc ge n k (V.cellsI ls.flatten) ZE.toList) := hF4
    clear hF4 q4 g4 hs4 hHeld hS2 HF2h
    go_upto_region 3 with fail
    have HF3 := HF4.out.drew
    have hS3 : (fun W => W.cell? ⟨b2, 1, none⟩ = some (.slice (some ⟨ge, 0, none⟩) k k) ∧ W.cell? ⟨b, 1, none⟩ = some (.slice ae k ce)) Y4.drew := ⟨HF3.blk2.cell 1, HF3.old.blk.cell 1⟩
    have HF3h : Hid (FkI X Y4.drew b (.slice ac n cc) (.slice ae k ce) ls b2 gc ge n k (V.cellsI ls.flatten) ZE.toList) := HF3
    clear HF3 HF4
    refine wp_region_held_drew (S := (fun W => W.cell? ⟨b2, 1, none⟩ = some (.slice (some ⟨ge, 0, none⟩) k k) ∧ W.cell? ⟨b, 1, none⟩ = some (.slice ae k ce))) (by kernel_rfl) (hS3) (fun hHeld => ?_)
    simp only [List.size_toArray, List.length_cons, List.length_nil, Nat.reduceAdd]
    generalize Y4.drew = Z3 at *
    refine wpAnyH_take (i := 0) (v := ?_) rfl (by kernel_rfl) (by kernel_rfl) (by kernel_rfl) (fun _ _ _ h => h) (Or.inl ⟨by rfl, ?_⟩) hHeld ?_
    rotate_left
    · (intro w hSw; (try dsimp only at hSw); have s0 := hSw.1; have s1 := hSw.2; go_simp; try with_reducible rfl)
    try simp only [Act.put, List.setIfInBounds_toArray, List.set_cons_zero, List.set_cons_succ, List.getElem_toArray, List.getElem_cons_zero, List.getElem_cons_succ]
    refine wpAnyH_take (i := 1) (v := ?_) rfl (by kernel_rfl) (by kernel_rfl) (by kernel_rfl) (fun _ _ _ h => h) (Or.inl ⟨by rfl, ?_⟩) hHeld ?_
    rotate_left
    · (intro w hSw; (try dsimp only at hSw); have s0 := hSw.1; have s1 := hSw.2; go_simp; try with_reducible rfl)
    try simp only [Act.put, List.setIfInBounds_toArray, List.set_cons_zero, List.set_cons_succ, List.getElem_toArray, List.getElem_cons_zero, List.getElem_cons_succ]
    refine wpAnyH_take (i := 2) (v := ?_) rfl (by kernel_rfl) (by kernel_rfl) (by kernel_rfl) (fun _ _ _ h => h) (Or.inl ⟨by rfl, ?_⟩) hHeld ?_
    rotate_left
    · (intro w hSw; (try dsimp only at hSw); have s0 := hSw.1; have s1 := hSw.2; go_simp; try with_reducible rfl)
    try simp only [Act.put, List.setIfInBounds_toArray, List.set_cons_zero, List.set_cons_succ, List.getElem_toArray, List.getElem_cons_zero, List.getElem_cons_succ]
    refine wpAnyH_take (i := 3) (v := ?_) rfl (by kernel_rfl) (by kernel_rfl) (by kernel_rfl) (fun _ _ _ h => h) (Or.inl ⟨by rfl, ?_⟩) hHeld ?_
    rotate_left
    · (intro w hSw; (try dsimp only at hSw); have s0 := hSw.1; have s1 := hSw.2; go_simp; try with_reducible rfl)
    try simp only [Act.put, List.setIfInBounds_toArray, List.set_cons_zero, List.set_cons_succ, List.getElem_toArray, List.getElem_cons_zero, List.getElem_cons_succ]
    refine wpAnyH_take (i := 4) (v := ?_) rfl (by kernel_rfl) (by kernel_rfl) (by kernel_rfl) (fun _ _ _ h => h) (Or.inl ⟨by rfl, ?_⟩) hHeld ?_
    rotate_left
    · (intro w hSw; (try dsimp only at hSw); have s0 := hSw.1; have s1 := hSw.2; go_simp; try with_reducible rfl)
    try simp only [Act.put, List.setIfInBounds_toArray, List.set_cons_zero, List.set_cons_succ, List.getElem_toArray, List.getElem_cons_zero, List.getElem_cons_succ]
    refine wpAnyH_take (i := 5) (v := ?_) rfl (by kernel_rfl) (by kernel_rfl) (by kernel_rfl) (fun _ _ _ h => h) (Or.inl ⟨by rfl, ?_⟩) hHeld ?_
    rotate_left
    · (intro w hSw; (try dsimp only at hSw); have s0 := hSw.1; have s1 := hSw.2; go_simp; try with_reducible rfl)
    try simp only [Act.put, List.setIfInBounds_toArray, List.set_cons_zero, List.set_cons_succ, List.getElem_toArray, List.getElem_cons_zero, List.getElem_cons_succ]
    refine wpAnyH_take (i := 6) (v := ?_) rfl (by kernel_rfl) (by kernel_rfl) (by kernel_rfl) (fun _ _ _ h => h) (Or.inl ⟨by rfl, ?_⟩) hHeld ?_
    rotate_left
    · (intro w hSw; (try dsimp only at hSw); have s0 := hSw.1; have s1 := hSw.2; go_simp; try with_reducible rfl)
    try simp only [Act.put, List.setIfInBounds_toArray, List.set_cons_zero, List.set_cons_succ, List.getElem_toArray, List.getElem_cons_zero, List.getElem_cons_succ]
    refine wpAnyH_take (i := 7) (v := ?_) rfl (by kernel_rfl) (by kernel_rfl) (by kernel_rfl) (fun _ _ _ h => h) (Or.inl ⟨by rfl, ?_⟩) hHeld ?_
    rotate_left
    · (intro w hSw; (try dsimp only at hSw); have s0 := hSw.1; have s1 := hSw.2; go_simp; try with_reducible rfl)
    try simp only [Act.put, List.setIfInBounds_toArray, List.set_cons_zero, List.set_cons_succ, List.getElem_toArray, List.getElem_cons_zero, List.getElem_cons_succ]
    refine wpAnyH_ready (rs := [8]) (by kernel_rfl) (by simp) ?_
    refine AllReadyH.cons rfl (fun K hK => ?_) AllReadyH.nil
    refine step_copyN rfl _ _ rfl ge k ZE.toList ae ce (endsF 0 ls) rfl rfl HF3h.out.re HLc.out.2.1 (by have := HF3h.out.old.ends; rw [HLc.out.2.2.1] at this; exact this) (fun Y5 q5 g5 => ?_)
    have hF5 := HF3h.out.endr HLt.out.2 q5 g5
    have hs5 : (fun W => W.cell? ⟨b2, 1, none⟩ = some (.slice (some ⟨ge, 0, none⟩) k k) ∧ W.cell? ⟨b, 1, none⟩ = some (.slice ae k ce)) Y5 := ⟨hF5.blk2.cell 1, hF5.old.blk.cell 1⟩
    refine hK.out _ _ (hs5) (fun hHeld => ?_)
    clear hK K
    try simp only [Act.put, List.setIfInBounds_toArray, List.set_cons_zero, List.set_cons_succ, List.getElem_toArray, List.getElem_cons_zero, List.getElem_cons_succ]
    refine wpAnyH_done (by kernel_rfl) ?_ _
    have HE : Hid (FrkT X ls (.returned (.pointer (some ⟨b2, 0, none⟩))) Y5) := hF5.told HLc.out.1.2.1 HLc.out.2.2.1 HLc.out.1.2.2 HLc.out.2.2.2
    clear hF5 q5 g5 hs5 hHeld hS3 HF3h
    go_wp2_with fail
    go_ret
    exact HE.out
  · go_simp
    have hm1 : (fun W => W.cell? ⟨b, 0, none⟩ = some (.slice ac n cc) ∧ W.cell? ⟨b, 1, none⟩ = some (.slice ae k ce) ∧ StkV W b (.slice ac n cc) (.slice ae k ce) ls ∧ Below X.heap.size X W) (World.alloc (Z) (Obj.cells ZE 3)) := ⟨cellK hHeld.1 (below_new _ _), cellK hHeld.2.1 (below_new _ _), hHeld.2.2.1.over (below_new _ _), hHeld.2.2.2.alloc hHeld.2.2.2.size _⟩
    refine hK.out _ _ hm1 (fun hHeld => ?_)
    clear hK K
    try simp only [Act.put, List.setIfInBounds_toArray, List.set_cons_zero, List.set_cons_succ, List.getElem_toArray, List.getElem_cons_zero, List.getElem_cons_succ]
    refine wpAnyH_ready (rs := [5]) (by kernel_rfl) (by simp) ?_
    refine AllReadyH.cons rfl (fun K hK => ?_) AllReadyH.nil
    go_simp
    have hm2 : (fun W => W.cell? ⟨b, 0, none⟩ = some (.slice ac n cc) ∧ W.cell? ⟨b, 1, none⟩ = some (.slice ae k ce) ∧ StkV W b (.slice ac n cc) (.slice ae k ce) ls ∧ Below X.heap.size X W) (World.alloc (World.alloc Z (Obj.cells ZE 3)) (Obj.cells ZC 56)) := ⟨cellK hHeld.1 (below_new _ _), cellK hHeld.2.1 (below_new _ _), hHeld.2.2.1.over (below_new _ _), hHeld.2.2.2.alloc hHeld.2.2.2.size _⟩
    refine hK.out _ _ hm2 (fun hHeld => ?_)
    clear hK K
    try simp only [Act.put, List.setIfInBounds_toArray, List.set_cons_zero, List.set_cons_succ, List.getElem_toArray, List.getElem_cons_zero, List.getElem_cons_succ]
    refine wpAnyH_take (i := 12) (v := ?_) rfl (by kernel_rfl) (by kernel_rfl) (by kernel_rfl) (fun _ _ _ h => h) (Or.inl ⟨by rfl, ?_⟩) hHeld ?_
    rotate_left
    · (intro w hSw; (try dsimp only at hSw); go_simp; try with_reducible rfl)
    try simp only [Act.put, List.setIfInBounds_toArray, List.set_cons_zero, List.set_cons_succ, List.getElem_toArray, List.getElem_cons_zero, List.getElem_cons_succ]
    refine wpAnyH_ready (rs := [13]) (by kernel_rfl) (by simp) ?_
    refine AllReadyH.cons rfl (fun K hK => ?_) AllReadyH.nil
    go_simp
    have hm3 : (fun W => W.cell? ⟨b, 0, none⟩ = some (.slice ac n cc) ∧ W.cell? ⟨b, 1, none⟩ = some (.slice ae k ce) ∧ StkV W b (.slice ac n cc) (.slice ae k ce) ls ∧ Below X.heap.size X W) (World.alloc (World.alloc (World.alloc Z (Obj.cells ZE 3)) (Obj.cells ZC 56)) (Obj.cells #[.slice (some ⟨Z.heap.size + 1, 0, none⟩) n n, .slice (some ⟨Z.heap.size, 0, none⟩) k k] 34)) := ⟨cellK hHeld.1 (below_new _ _), cellK hHeld.2.1 (below_new _ _), hHeld.2.2.1.over (below_new _ _), hHeld.2.2.2.alloc hHeld.2.2.2.size _⟩
    refine hK.out _ _ hm3 (fun hHeld => ?_)
    clear hK K
    try simp only [Act.put, List.setIfInBounds_toArray, List.set_cons_zero, List.set_cons_succ, List.getElem_toArray, List.getElem_cons_zero, List.getElem_cons_succ]
    refine wpAnyH_take (i := 14) (v := ?_) rfl (by kernel_rfl) (by kernel_rfl) (by kernel_rfl) (fun _ _ _ h => h) (Or.inl ⟨by rfl, ?_⟩) hHeld ?_
    rotate_left
    · (intro w hSw; (try dsimp only at hSw); go_simp; try with_reducible rfl)
    try simp only [Act.put, List.setIfInBounds_toArray, List.set_cons_zero, List.set_cons_succ, List.getElem_toArray, List.getElem_cons_zero, List.getElem_cons_succ]
    refine wpAnyH_done (by kernel_rfl) ?_ _
    have HFK : Hid (FkI X (World.alloc (World.alloc (World.alloc Z (Obj.cells ZE 3)) (Obj.cells ZC 56)) (Obj.cells #[.slice (some ⟨Z.heap.size + 1, 0, none⟩) n n, .slice (some ⟨Z.heap.size, 0, none⟩) k k] 34)) b (.slice ac n cc) (.slice ae k ce) ls (Z.heap.size + 1 + 1) (Z.heap.size + 1) (Z.heap.size) n k ZC.toList ZE.toList) := by
      have q1 : V.Blk (World.alloc (World.alloc (World.alloc Z (Obj.cells ZE 3)) (Obj.cells ZC 56)) (Obj.cells #[.slice (some ⟨Z.heap.size + 1, 0, none⟩) n n, .slice (some ⟨Z.heap.size, 0, none⟩) k k] 34)) (Z.heap.size + 1 + 1) 34 [.slice (some ⟨Z.heap.size + 1, 0, none⟩) n n, .slice (some ⟨Z.heap.size, 0, none⟩) k k] := by have := V.blk_new (World.alloc (World.alloc Z (Obj.cells ZE 3)) (Obj.cells ZC 56)) #[.slice (some ⟨Z.heap.size + 1, 0, none⟩) n n, .slice (some ⟨Z.heap.size, 0, none⟩) k k] 34; simpa using this
      have q2 : V.Blk (World.alloc (World.alloc (World.alloc Z (Obj.cells ZE 3)) (Obj.cells ZC 56)) (Obj.cells #[.slice (some ⟨Z.heap.size + 1, 0, none⟩) n n, .slice (some ⟨Z.heap.size, 0, none⟩) k k] 34)) (Z.heap.size + 1) 56 ZC.toList := by have := (V.blk_new (World.alloc Z (Obj.cells ZE 3)) ZC 56).alloc (Obj.cells #[.slice (some ⟨Z.heap.size + 1, 0, none⟩) n n, .slice (some ⟨Z.heap.size, 0, none⟩) k k] 34); simpa using this
      have q3 : V.Blk (World.alloc (World.alloc (World.alloc Z (Obj.cells ZE 3)) (Obj.cells ZC 56)) (Obj.cells #[.slice (some ⟨Z.heap.size + 1, 0, none⟩) n n, .slice (some ⟨Z.heap.size, 0, none⟩) k k] 34)) (Z.heap.size) 3 ZE.toList := ((V.blk_new Z (ZE) 3).alloc _).alloc _
      exact ⟨q1, q2, q3, hm3.2.2.1, hm3.2.2.2, by have := HZ.out; omega, by have := HZ.out; omega, by have := HZ.out; omega⟩
    clear hm1 hm2 hm3 hHeld hS1 hmc hme
    generalize (World.alloc (World.alloc (World.alloc Z (Obj.cells ZE 3)) (Obj.cells ZC 56)) (Obj.cells #[.slice (some ⟨Z.heap.size + 1, 0, none⟩) n n, .slice (some ⟨Z.heap.size, 0, none⟩) k k] 34)) = w3 at *
    generalize Z.heap.size + 1 + 1 = b2 at HFK ⊢
    generalize Z.heap.size + 1 = gc at HFK ⊢
    generalize Z.heap.size = ge at HFK ⊢
    clear HZ
    go_upto_region 2 with fail
    have HF2 := HFK.out.drew
    have hS2 : (fun W => W.cell? ⟨b2, 0, none⟩ = some (.slice (some ⟨gc, 0, none⟩) n n) ∧ W.cell? ⟨b, 0, none⟩ = some (.slice ac n cc)) w3.drew := ⟨HF2.blk2.cell 0, HF2.old.blk.cell 0⟩
    have HF2h : Hid (FkI X w3.drew b (.slice ac n cc) (.slice ae k ce) ls b2 gc ge n k ZC.toList ZE.toList) := HF2
    clear HF2 HFK
    refine wp_region_held_drew (S := (fun W => W.cell? ⟨b2, 0, none⟩ = some (.slice (some ⟨gc, 0, none⟩) n n) ∧ W.cell? ⟨b, 0, none⟩ = some (.slice ac n cc))) (by kernel_rfl) (hS2) (fun hHeld => ?_)
    simp only [List.size_toArray, List.length_cons, List.length_nil, Nat.reduceAdd]
    generalize w3.drew = Z2 at *
    refine wpAnyH_take (i := 0) (v := ?_) rfl (by kernel_rfl) (by kernel_rfl) (by kernel_rfl) (fun _ _ _ h => h) (Or.inl ⟨by rfl, ?_⟩) hHeld ?_
    rotate_left
    · (intro w hSw; (try dsimp only at hSw); have s0 := hSw.1; have s1 := hSw.2; go_simp; try with_reducible rfl)
    try simp only [Act.put, List.setIfInBounds_toArray, List.set_cons_zero, List.set_cons_succ, List.getElem_toArray, List.getElem_cons_zero, List.getElem_cons_succ]
    refine wpAnyH_take (i := 1) (v := ?_) rfl (by kernel_rfl) (by kernel_rfl) (by kernel_rfl) (fun _ _ _ h => h) (Or.inl ⟨by rfl, ?_⟩) hHeld ?_
    rotate_left
    · (intro w hSw; (try dsimp only at hSw); have s0 := hSw.1; have s1 := hSw.2; go_simp; try with_reducible rfl)
    try simp only [Act.put, List.setIfInBounds_toArray, List.set_cons_zero, List.set_cons_succ, List.getElem_toArray, List.getElem_cons_zero, List.getElem_cons_succ]
    refine wpAnyH_take (i := 2) (v := ?_) rfl (by kernel_rfl) (by kernel_rfl) (by kernel_rfl) (fun _ _ _ h => h) (Or.inl ⟨by rfl, ?_⟩) hHeld ?_
    rotate_left
    · (intro w hSw; (try dsimp only at hSw); have s0 := hSw.1; have s1 := hSw.2; go_simp; try with_reducible rfl)
    try simp only [Act.put, List.setIfInBounds_toArray, List.set_cons_zero, List.set_cons_succ, List.getElem_toArray, List.getElem_cons_zero, List.getElem_cons_succ]
    refine wpAnyH_take (i := 3) (v := ?_) rfl (by kernel_rfl) (by kernel_rfl) (by kernel_rfl) (fun _ _ _ h => h) (Or.inl ⟨by rfl, ?_⟩) hHeld ?_
    rotate_left
    · (intro w hSw; (try dsimp only at hSw); have s0 := hSw.1; have s1 := hSw.2; go_simp; try with_reducible rfl)
    try simp only [Act.put, List.setIfInBounds_toArray, List.set_cons_zero, List.set_cons_succ, List.getElem_toArray, List.getElem_cons_zero, List.getElem_cons_succ]
    refine wpAnyH_take (i := 4) (v := ?_) rfl (by kernel_rfl) (by kernel_rfl) (by kernel_rfl) (fun _ _ _ h => h) (Or.inl ⟨by rfl, ?_⟩) hHeld ?_
    rotate_left
    · (intro w hSw; (try dsimp only at hSw); have s0 := hSw.1; have s1 := hSw.2; go_simp; try with_reducible rfl)
    try simp only [Act.put, List.setIfInBounds_toArray, List.set_cons_zero, List.set_cons_succ, List.getElem_toArray, List.getElem_cons_zero, List.getElem_cons_succ]
    refine wpAnyH_take (i := 5) (v := ?_) rfl (by kernel_rfl) (by kernel_rfl) (by kernel_rfl) (fun _ _ _ h => h) (Or.inl ⟨by rfl, ?_⟩) hHeld ?_
    rotate_left
    · (intro w hSw; (try dsimp only at hSw); have s0 := hSw.1; have s1 := hSw.2; go_simp; try with_reducible rfl)
    try simp only [Act.put, List.setIfInBounds_toArray, List.set_cons_zero, List.set_cons_succ, List.getElem_toArray, List.getElem_cons_zero, List.getElem_cons_succ]
    refine wpAnyH_take (i := 6) (v := ?_) rfl (by kernel_rfl) (by kernel_rfl) (by kernel_rfl) (fun _ _ _ h => h) (Or.inl ⟨by rfl, ?_⟩) hHeld ?_
    rotate_left
    · (intro w hSw; (try dsimp only at hSw); have s0 := hSw.1; have s1 := hSw.2; go_simp; try with_reducible rfl)
    try simp only [Act.put, List.setIfInBounds_toArray, List.set_cons_zero, List.set_cons_succ, List.getElem_toArray, List.getElem_cons_zero, List.getElem_cons_succ]
    refine wpAnyH_take (i := 7) (v := ?_) rfl (by kernel_rfl) (by kernel_rfl) (by kernel_rfl) (fun _ _ _ h => h) (Or.inl ⟨by rfl, ?_⟩) hHeld ?_
    rotate_left
    · (intro w hSw; (try dsimp only at hSw); have s0 := hSw.1; have s1 := hSw.2; go_simp; try with_reducible rfl)
    try simp only [Act.put, List.setIfInBounds_toArray, List.set_cons_zero, List.set_cons_succ, List.getElem_toArray, List.getElem_cons_zero, List.getElem_cons_succ]
    refine wpAnyH_ready (rs := [8]) (by kernel_rfl) (by simp) ?_
    refine AllReadyH.cons rfl (fun K hK => ?_) AllReadyH.nil
    refine step_copyI rfl _ _ rfl gc n ZC.toList ac cc ls.flatten rfl rfl HF2h.out.rc HLc.out.1.1 (by have := HF2h.out.old.code; rw [HLc.out.1.2.1] at this; exact this) (fun Y4 q4 g4 => ?_)
    have hF4 := HF2h.out.code HLt.out.1 q4 g4
    have hs4 : (fun W => W.cell? ⟨b2, 0, none⟩ = some (.slice (some ⟨gc, 0, none⟩) n n) ∧ W.cell? ⟨b, 0, none⟩ = some (.slice ac n cc)) Y4 := ⟨hF4.blk2.cell 0, hF4.old.blk.cell 0⟩
    refine hK.out _ _ (hs4) (fun hHeld => ?_)
    clear hK K
    try simp only [Act.put, List.setIfInBounds_toArray, List.set_cons_zero, List.set_cons_succ, List.getElem_toArray, List.getElem_cons_zero, List.getElem_cons_succ]
    refine wpAnyH_done (by kernel_rfl) ?_ _
    have HF4 : Hid (FkI X Y4 b (.slice ac n cc) (.slice ae k ce) ls b2 gc ge n k (V.cellsI ls.flatten) ZE.toList) := hF4
    clear hF4 q4 g4 hs4 hHeld hS2 HF2h
    go_upto_region 3 with fail
    have HF3 := HF4.out.drew
    have hS3 : (fun W => W.cell? ⟨b2, 1, none⟩ = some (.slice (some ⟨ge, 0, none⟩) k k) ∧ W.cell? ⟨b, 1, none⟩ = some (.slice ae k ce)) Y4.drew := ⟨HF3.blk2.cell 1, HF3.old.blk.cell 1⟩
    have HF3h : Hid (FkI X Y4.drew b (.slice ac n cc) (.slice ae k ce) ls b2 gc ge n k (V.cellsI ls.flatten) ZE.toList) := HF3
    clear HF3 HF4
    refine wp_region_held_drew (S := (fun W => W.cell? ⟨b2, 1, none⟩ = some (.slice (some ⟨ge, 0, none⟩) k k) ∧ W.cell? ⟨b, 1, none⟩ = some (.slice ae k ce))) (by kernel_rfl) (hS3) (fun hHeld => ?_)
    simp only [List.size_toArray, List.length_cons, List.length_nil, Nat.reduceAdd]
    generalize Y4.drew = Z3 at *
    refine wpAnyH_take (i := 0) (v := ?_) rfl (by kernel_rfl) (by kernel_rfl) (by kernel_rfl) (fun _ _ _ h => h) (Or.inl ⟨by rfl, ?_⟩) hHeld ?_
    rotate_left
    · (intro w hSw; (try dsimp only at hSw); have s0 := hSw.1; have s1 := hSw.2; go_simp; try with_reducible rfl)
    try simp only [Act.put, List.setIfInBounds_toArray, List.set_cons_zero, List.set_cons_succ, List.getElem_toArray, List.getElem_cons_zero, List.getElem_cons_succ]
    refine wpAnyH_take (i := 1) (v := ?_) rfl (by kernel_rfl) (by kernel_rfl) (by kernel_rfl) (fun _ _ _ h => h) (Or.inl ⟨by rfl, ?_⟩) hHeld ?_
    rotate_left
    · (intro w hSw; (try dsimp only at hSw); have s0 := hSw.1; have s1 := hSw.2; go_simp; try with_reducible rfl)
    try simp only [Act.put, List.setIfInBounds_toArray, List.set_cons_zero, List.set_cons_succ, List.getElem_toArray, List.getElem_cons_zero, List.getElem_cons_succ]
    refine wpAnyH_take (i := 2) (v := ?_) rfl (by kernel_rfl) (by kernel_rfl) (by kernel_rfl) (fun _ _ _ h => h) (Or.inl ⟨by rfl, ?_⟩) hHeld ?_
    rotate_left
    · (intro w hSw; (try dsimp only at hSw); have s0 := hSw.1; have s1 := hSw.2; go_simp; try with_reducible rfl)
    try simp only [Act.put, List.setIfInBounds_toArray, List.set_cons_zero, List.set_cons_succ, List.getElem_toArray, List.getElem_cons_zero, List.getElem_cons_succ]
    refine wpAnyH_take (i := 3) (v := ?_) rfl (by kernel_rfl) (by kernel_rfl) (by kernel_rfl) (fun _ _ _ h => h) (Or.inl ⟨by rfl, ?_⟩) hHeld ?_
    rotate_left
    · (intro w hSw; (try dsimp only at hSw); have s0 := hSw.1; have s1 := hSw.2; go_simp; try with_reducible rfl)
    try simp only [Act.put, List.setIfInBounds_toArray, List.set_cons_zero, List.set_cons_succ, List.getElem_toArray, List.getElem_cons_zero, List.getElem_cons_succ]
    refine wpAnyH_take (i := 4) (v := ?_) rfl (by kernel_rfl) (by kernel_rfl) (by kernel_rfl) (fun _ _ _ h => h) (Or.inl ⟨by rfl, ?_⟩) hHeld ?_
    rotate_left
    · (intro w hSw; (try dsimp only at hSw); have s0 := hSw.1; have s1 := hSw.2; go_simp; try with_reducible rfl)
    try simp only [Act.put, List.setIfInBounds_toArray, List.set_cons_zero, List.set_cons_succ, List.getElem_toArray, List.getElem_cons_zero, List.getElem_cons_succ]
    refine wpAnyH_take (i := 5) (v := ?_) rfl (by kernel_rfl) (by kernel_rfl) (by kernel_rfl) (fun _ _ _ h => h) (Or.inl ⟨by rfl, ?_⟩) hHeld ?_
    rotate_left
    · (intro w hSw; (try dsimp only at hSw); have s0 := hSw.1; have s1 := hSw.2; go_simp; try with_reducible rfl)
    try simp only [Act.put, List.setIfInBounds_toArray, List.set_cons_zero, List.set_cons_succ, List.getElem_toArray, List.getElem_cons_zero, List.getElem_cons_succ]
    refine wpAnyH_take (i := 6) (v := ?_) rfl (by kernel_rfl) (by kernel_rfl) (by kernel_rfl) (fun _ _ _ h => h) (Or.inl ⟨by rfl, ?_⟩) hHeld ?_
    rotate_left
    · (intro w hSw; (try dsimp only at hSw); have s0 := hSw.1; have s1 := hSw.2; go_simp; try with_reducible rfl)
    try simp only [Act.put, List.setIfInBounds_toArray, List.set_cons_zero, List.set_cons_succ, List.getElem_toArray, List.getElem_cons_zero, List.getElem_cons_succ]
    refine wpAnyH_take (i := 7) (v := ?_) rfl (by kernel_rfl) (by kernel_rfl) (by kernel_rfl) (fun _ _ _ h => h) (Or.inl ⟨by rfl, ?_⟩) hHeld ?_
    rotate_left
    · (intro w hSw; (try dsimp only at hSw); have s0 := hSw.1; have s1 := hSw.2; go_simp; try with_reducible rfl)
    try simp only [Act.put, List.setIfInBounds_toArray, List.set_cons_zero, List.set_cons_succ, List.getElem_toArray, List.getElem_cons_zero, List.getElem_cons_succ]
    refine wpAnyH_ready (rs := [8]) (by kernel_rfl) (by simp) ?_
    refine AllReadyH.cons rfl (fun K hK => ?_) AllReadyH.nil
    refine step_copyN rfl _ _ rfl ge k ZE.toList ae ce (endsF 0 ls) rfl rfl HF3h.out.re HLc.out.2.1 (by have := HF3h.out.old.ends; rw [HLc.out.2.2.1] at this; exact this) (fun Y5 q5 g5 => ?_)
    have hF5 := HF3h.out.endr HLt.out.2 q5 g5
    have hs5 : (fun W => W.cell? ⟨b2, 1, none⟩ = some (.slice (some ⟨ge, 0, none⟩) k k) ∧ W.cell? ⟨b, 1, none⟩ = some (.slice ae k ce)) Y5 := ⟨hF5.blk2.cell 1, hF5.old.blk.cell 1⟩
    refine hK.out _ _ (hs5) (fun hHeld => ?_)
    clear hK K
    try simp only [Act.put, List.setIfInBounds_toArray, List.set_cons_zero, List.set_cons_succ, List.getElem_toArray, List.getElem_cons_zero, List.getElem_cons_succ]
    refine wpAnyH_done (by kernel_rfl) ?_ _
    have HE : Hid (FrkT X ls (.returned (.pointer (some ⟨b2, 0, none⟩))) Y5) := hF5.told HLc.out.1.2.1 HLc.out.2.2.1 HLc.out.1.2.2 HLc.out.2.2.2
    clear hF5 q5 g5 hs5 hHeld hS3 HF3h
    go_wp2_with fail
    go_ret
    exact HE.out

end Go.Proofs.Ytamioifoemklfaa
