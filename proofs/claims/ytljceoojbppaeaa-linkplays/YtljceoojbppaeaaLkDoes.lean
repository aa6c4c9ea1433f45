/-
  A call at both links.
-/
import Derived.Test.YtljceoojbppaeaaRfSpoil
import Derived.Test.YtljceoojbppaeaaRfTwice
import Derived.Test.YtljceoojbppaeaaLkTake2
namespace Go.Proofs.Ytljceoojbppaeaa
open Go.RowKit D

/-- both links have the same frames. -/
def DoS (B b c : Nat) (w w' : World) : Prop := ∃ s, LkV w' b s ∧ RfV 35 B w' c s ∧ Below B w w'
def DoR (B b c : Nat) (w : World) (e : Ending) (w' : World) : Prop := e = .returned (.bool true) ∧ DoS B b c w w'

set_option maxRecDepth 20000 in
set_option maxHeartbeats 16000000 in
theorem does_any (B b c : Nat) (s : Lk) (w : World) (act n bit : Int) (up : Bool) (a' : Option Addr) (fl c' : Nat) (f : List Int) (hl : LkV w b s) (hr : RfV 35 B w c s) (hb : B ≤ b) (hB : B ≤ w.heap.size) (hp : PcT B w (.slice a' fl c') f) (hn : n < 9223372036854775808) :
    Calls Try.prog 10 #[.pointer (some ⟨b, 0, none⟩), .pointer (some ⟨c, 0, none⟩), .agg #[.int .i64 act, .int .i64 n, .int .i64 bit, .bool up, .slice a' fl c']] w fun e w' => DoR B b c w e w' := by
  have hfl : f.length = fl := by obtain ⟨⟨a, cap, e, _, _⟩, _⟩ := hp; injection e with _ h2 _; exact h2.symm
  have HBx : Hid (Blk (w.alloc (.cells #[.int .i64 act, .int .i64 n, .int .i64 bit, .bool up, .slice a' fl c'] 39)) w.heap.size 39 [.int .i64 act, .int .i64 n, .int .i64 bit, .bool up, .slice a' fl c']) := blk_new w _ _
  have hA := alloc_below w (.cells #[.int .i64 act, .int .i64 n, .int .i64 bit, .bool up, .slice a' fl c'] 39)
  have HG3 : Hid (LkV (w.alloc (.cells #[.int .i64 act, .int .i64 n, .int .i64 bit, .bool up, .slice a' fl c'] 39)) b s ∧ RfV 35 B (w.alloc (.cells #[.int .i64 act, .int .i64 n, .int .i64 bit, .bool up, .slice a' fl c'] 39)) c s ∧ Below B w (w.alloc (.cells #[.int .i64 act, .int .i64 n, .int .i64 bit, .bool up, .slice a' fl c'] 39)) ∧ B ≤ b) := ⟨hl.over hA, hr.over hB hA, hA.mono hB, hb⟩
  have HP3 : Hid (PcT B (w.alloc (.cells #[.int .i64 act, .int .i64 n, .int .i64 bit, .bool up, .slice a' fl c'] 39)) (.slice a' fl c') f) := hp.over hB hA
  have HBs3 : Hid (B ≤ (w.alloc (.cells #[.int .i64 act, .int .i64 n, .int .i64 bit, .bool up, .slice a' fl c'] 39)).heap.size) := Nat.le_trans hB hA.size
  have HOk : Hid (s.ok) := hl.ok
  have HN : Hid (n < 9223372036854775808) := hn
  have HFl : Hid (f.length = fl) := hfl
  clear hA hl hr hb hB hp hn hfl
  go_enter Try.func10, Try.ntmps10
  go_upto_region 1 with fail
  generalize w.alloc (.cells #[.int .i64 act, .int .i64 n, .int .i64 bit, .bool up, .slice a' fl c'] 39) = w3 at *
  generalize w.heap.size = q at *
  have HG : Hid (LkV w3.drew b s ∧ RfV 35 B w3.drew c s ∧ Below B w w3.drew ∧ B ≤ b) := ⟨HG3.out.1.over (Below.refl _ _).drew, HG3.out.2.1.over HBs3.out (Below.refl _ _).drew, HG3.out.2.2.1.drew, HG3.out.2.2.2⟩
  have HP : Hid (PcT B w3.drew (.slice a' fl c') f) := HP3.out.over HBs3.out (Below.refl _ _).drew
  have HBs : Hid (B ≤ w3.drew.heap.size) := HBs3.out
  have HBy : Hid (∀ W, PcT B W (.slice a' fl c') f → Bs W a' fl f) := fun W hW => by
    obtain ⟨⟨a, cap, e, hb, _⟩, _⟩ := hW
    injection e with h1 h2 h3
    subst h1
    rw [h2]
    exact hb
  have z0 := HBx.out.cell 0
  have z1 := HBx.out.cell 1
  have z2 := HBx.out.cell 2
  have z3 := HBx.out.cell 3
  have z4 := HBx.out.cell 4
  simp only [List.getElem?_cons_zero, List.getElem?_cons_succ] at z0 z1 z2 z3 z4
  rcases (show act = 0 ∨ act = 1 ∨ act = 2 ∨ act = 3 ∨ act = 4 ∨ act = 5 ∨ act = 6 ∨ (¬ act = 0 ∧ ¬ act = 1 ∧ ¬ act = 2 ∧ ¬ act = 3 ∧ ¬ act = 4 ∧ ¬ act = 5 ∧ ¬ act = 6) by omega) with rfl | rfl | rfl | rfl | rfl | rfl | rfl | ⟨hA0, hA1, hA2, hA3, hA4, hA5, hA6⟩
  · go_upto_region 4 with fail
    have hS4 : (fun X => Hid (Blk X q 39 [.int .i64 0, .int .i64 n, .int .i64 bit, .bool up, .slice a' fl c'])) w3.drew := (HBx.out.over (Below.refl _ _).drew)
    refine wp_region_late (E := []) (S := (fun X => Hid (Blk X q 39 [.int .i64 0, .int .i64 n, .int .i64 bit, .bool up, .slice a' fl c']))) (by kernel_rfl) (hS4) (fun hHeld => ?_)
    simp only [List.size_toArray, List.length_cons, List.length_nil, Nat.reduceAdd]
    refine wpAnyL_take [5, 12, 13] (i := 0) (v := ?_) (by kernel_rfl) (by kernel_rfl) (by kernel_rfl) rfl (by kernel_rfl) (by kernel_rfl) (by kernel_rfl) (fun _ _ _ h => h) (Or.inl ⟨by rfl, ?_⟩) hHeld ?_
    rotate_left
    · (intro w hSw; (try dsimp only at hSw); go_simp; try with_reducible rfl)
    try simp only [Act.put, List.setIfInBounds_toArray, List.set_cons_zero, List.set_cons_succ, List.getElem_toArray, List.getElem_cons_zero]
    refine wpAnyL_take [2, 5, 12, 13] (i := 1) (v := ?_) (by kernel_rfl) (by kernel_rfl) (by kernel_rfl) rfl (by kernel_rfl) (by kernel_rfl) (by kernel_rfl) (fun _ _ _ h => h) (Or.inl ⟨by rfl, ?_⟩) hHeld ?_
    rotate_left
    · (intro w hSw; (try dsimp only at hSw); go_simp; try with_reducible rfl)
    try simp only [Act.put, List.setIfInBounds_toArray, List.set_cons_zero, List.set_cons_succ, List.getElem_toArray, List.getElem_cons_zero, List.getElem_cons_succ]
    refine wpAnyL_take [5, 12, 13] (i := 2) (v := ?_) (by kernel_rfl) (by kernel_rfl) (by kernel_rfl) rfl (by kernel_rfl) (by kernel_rfl) (by kernel_rfl) (fun _ _ _ h => h) (Or.inl ⟨by rfl, ?_⟩) hHeld ?_
    rotate_left
    · (intro w hSw; (try dsimp only at hSw); have z0 := hSw.out.cell 0; have z1 := hSw.out.cell 1; have z2 := hSw.out.cell 2; have z3 := hSw.out.cell 3; have z4 := hSw.out.cell 4; simp only [List.getElem?_cons_zero, List.getElem?_cons_succ] at z0 z1 z2 z3 z4; go_simp; try with_reducible rfl)
    try simp only [Act.put, List.setIfInBounds_toArray, List.set_cons_zero, List.set_cons_succ, List.getElem_toArray, List.getElem_cons_zero, List.getElem_cons_succ]
    refine wpAnyL_take [4, 5, 12, 13] (i := 3) (v := ?_) (by kernel_rfl) (by kernel_rfl) (by kernel_rfl) rfl (by kernel_rfl) (by kernel_rfl) (by kernel_rfl) (fun _ _ _ h => h) (Or.inl ⟨by rfl, ?_⟩) hHeld ?_
    rotate_left
    · (intro w hSw; (try dsimp only at hSw); go_simp; try with_reducible rfl)
    try simp only [Act.put, List.setIfInBounds_toArray, List.set_cons_zero, List.set_cons_succ, List.getElem_toArray, List.getElem_cons_zero, List.getElem_cons_succ]
    refine wpAnyL_take [5, 12, 13] (i := 4) (v := ?_) (by kernel_rfl) (by kernel_rfl) (by kernel_rfl) rfl (by kernel_rfl) (by kernel_rfl) (by kernel_rfl) (fun _ _ _ h => h) (Or.inl ⟨by rfl, ?_⟩) hHeld ?_
    rotate_left
    · (intro w hSw; (try dsimp only at hSw); have z0 := hSw.out.cell 0; have z1 := hSw.out.cell 1; have z2 := hSw.out.cell 2; have z3 := hSw.out.cell 3; have z4 := hSw.out.cell 4; simp only [List.getElem?_cons_zero, List.getElem?_cons_succ] at z0 z1 z2 z3 z4; go_simp; try with_reducible rfl)
    try simp only [Act.put, List.setIfInBounds_toArray, List.set_cons_zero, List.set_cons_succ, List.getElem_toArray, List.getElem_cons_zero, List.getElem_cons_succ]
    refine wpAnyL_take [11, 12, 13] (i := 6) (v := ?_) (by kernel_rfl) (by kernel_rfl) (by kernel_rfl) rfl (by kernel_rfl) (by kernel_rfl) (by kernel_rfl) (fun _ _ _ h => h) (Or.inl ⟨by rfl, ?_⟩) hHeld ?_
    rotate_left
    · (intro w hSw; (try dsimp only at hSw); go_simp; try with_reducible rfl)
    try simp only [Act.put, List.setIfInBounds_toArray, List.set_cons_zero, List.set_cons_succ, List.getElem_toArray, List.getElem_cons_zero, List.getElem_cons_succ]
    refine wpAnyL_take [8, 11, 12, 13] (i := 7) (v := ?_) (by kernel_rfl) (by kernel_rfl) (by kernel_rfl) rfl (by kernel_rfl) (by kernel_rfl) (by kernel_rfl) (fun _ _ _ h => h) (Or.inl ⟨by rfl, ?_⟩) hHeld ?_
    rotate_left
    · (intro w hSw; (try dsimp only at hSw); go_simp; try with_reducible rfl)
    try simp only [Act.put, List.setIfInBounds_toArray, List.set_cons_zero, List.set_cons_succ, List.getElem_toArray, List.getElem_cons_zero, List.getElem_cons_succ]
    refine wpAnyL_take [11, 12, 13] (i := 8) (v := ?_) (by kernel_rfl) (by kernel_rfl) (by kernel_rfl) rfl (by kernel_rfl) (by kernel_rfl) (by kernel_rfl) (fun _ _ _ h => h) (Or.inl ⟨by rfl, ?_⟩) hHeld ?_
    rotate_left
    · (intro w hSw; (try dsimp only at hSw); have z0 := hSw.out.cell 0; have z1 := hSw.out.cell 1; have z2 := hSw.out.cell 2; have z3 := hSw.out.cell 3; have z4 := hSw.out.cell 4; simp only [List.getElem?_cons_zero, List.getElem?_cons_succ] at z0 z1 z2 z3 z4; go_simp; try with_reducible rfl)
    try simp only [Act.put, List.setIfInBounds_toArray, List.set_cons_zero, List.set_cons_succ, List.getElem_toArray, List.getElem_cons_zero, List.getElem_cons_succ]
    refine wpAnyL_take [10, 11, 12, 13] (i := 9) (v := ?_) (by kernel_rfl) (by kernel_rfl) (by kernel_rfl) rfl (by kernel_rfl) (by kernel_rfl) (by kernel_rfl) (fun _ _ _ h => h) (Or.inl ⟨by rfl, ?_⟩) hHeld ?_
    rotate_left
    · (intro w hSw; (try dsimp only at hSw); go_simp; try with_reducible rfl)
    try simp only [Act.put, List.setIfInBounds_toArray, List.set_cons_zero, List.set_cons_succ, List.getElem_toArray, List.getElem_cons_zero, List.getElem_cons_succ]
    refine wpAnyL_take [11, 12, 13] (i := 10) (v := ?_) (by kernel_rfl) (by kernel_rfl) (by kernel_rfl) rfl (by kernel_rfl) (by kernel_rfl) (by kernel_rfl) (fun _ _ _ h => h) (Or.inl ⟨by rfl, ?_⟩) hHeld ?_
    rotate_left
    · (intro w hSw; (try dsimp only at hSw); have z0 := hSw.out.cell 0; have z1 := hSw.out.cell 1; have z2 := hSw.out.cell 2; have z3 := hSw.out.cell 3; have z4 := hSw.out.cell 4; simp only [List.getElem?_cons_zero, List.getElem?_cons_succ] at z0 z1 z2 z3 z4; go_simp; try with_reducible rfl)
    try simp only [Act.put, List.setIfInBounds_toArray, List.set_cons_zero, List.set_cons_succ, List.getElem_toArray, List.getElem_cons_zero, List.getElem_cons_succ]
    refine wpAnyL_one (i := 5) (by kernel_rfl) rfl (fun K hK => ?_)
    go_simp
    go_at_call 13
    refine (send_to (up := up) HG.out.1 (HBy.out _ HP.out) rfl rfl).mono ?_
    rintro e w5 ⟨rfl, h5, k5⟩
    have hk5 : Sk [30] B w3.drew w5 := sk_kb k5 HG.out.1.blk (by simp) HG.out.2.2.2
    have HL5 : Hid (LkV w5 b (s.send up f)) := h5
    have HR5 : Hid (RfV 35 B w5 c s ∧ Below B w w5 ∧ B ≤ w5.heap.size) := ⟨HG.out.2.1.sk hk5 (by simp) (by simp) (by simp), HG.out.2.2.1.trans hk5.bel, Nat.le_trans HBs.out hk5.bel.size⟩
    have HP5 : Hid (PcT B w5 (.slice a' fl c') f) := HP.out.sk hk5 (by simp)
    have s1 : (fun X => Hid (Blk X q 39 [.int .i64 0, .int .i64 n, .int .i64 bit, .bool up, .slice a' fl c'])) w5 := hk5.blk hHeld.out (by simp)
    clear h5 k5 hk5
    refine hK.out _ _ (fun _ => s1) ?_
    replace hHeld := s1
    clear hK K
    try simp only [Act.put, List.setIfInBounds_toArray, List.set_cons_zero, List.set_cons_succ, List.getElem_toArray, List.getElem_cons_zero, List.getElem_cons_succ]
    refine wpAnyL_one (i := 11) (by kernel_rfl) rfl (fun K hK => ?_)
    go_simp
    go_at_call 19
    refine (refSend_any B c s up a' fl c' f w5 HR5.out.1 HOk.out (HBy.out _ HP5.out) HR5.out.2.2).mono ?_
    rintro e w6 ⟨rfl, h6, k6⟩
    have HD : Hid (DoS B b c w w6) := ⟨s.send up f, HL5.out.sk k6 (by simp), h6, HR5.out.2.1.trans k6.bel⟩
    have s2 : (fun X => Hid (Blk X q 39 [.int .i64 0, .int .i64 n, .int .i64 bit, .bool up, .slice a' fl c'])) w6 := k6.blk hHeld.out (by simp)
    clear h6 k6
    refine hK.out _ _ (fun _ => s2) ?_
    replace hHeld := s2
    clear hK K
    try simp only [Act.put, List.setIfInBounds_toArray, List.set_cons_zero, List.set_cons_succ, List.getElem_toArray, List.getElem_cons_zero, List.getElem_cons_succ]
    refine wpAnyL_take [13] (i := 12) (v := ?_) (by kernel_rfl) (by kernel_rfl) (by kernel_rfl) rfl (by kernel_rfl) (by kernel_rfl) (by kernel_rfl) (fun _ _ _ h => h) (Or.inl ⟨by rfl, ?_⟩) hHeld ?_
    rotate_left
    · (intro w hSw; (try dsimp only at hSw); go_simp; try with_reducible rfl)
    try simp only [Act.put, List.setIfInBounds_toArray, List.set_cons_zero, List.set_cons_succ, List.getElem_toArray, List.getElem_cons_zero, List.getElem_cons_succ]
    refine wpAnyL_take [] (i := 13) (v := ?_) (by kernel_rfl) (by kernel_rfl) (by kernel_rfl) rfl (by kernel_rfl) (by kernel_rfl) (by kernel_rfl) (fun _ _ _ h => h) (Or.inl ⟨by rfl, ?_⟩) hHeld ?_
    rotate_left
    · (intro w hSw; (try dsimp only at hSw); go_simp; try with_reducible rfl)
    try simp only [Act.put, List.setIfInBounds_toArray, List.set_cons_zero, List.set_cons_succ, List.getElem_toArray, List.getElem_cons_zero, List.getElem_cons_succ]
    refine wpAnyL_done (by kernel_rfl) ?_ _
    go_wp2
    go_ret
    exact ⟨rfl, HD.out⟩
  · go_upto_region 4 with fail
    have hS4 : (fun X => Hid (Blk X q 39 [.int .i64 1, .int .i64 n, .int .i64 bit, .bool up, .slice a' fl c'])) w3.drew := (HBx.out.over (Below.refl _ _).drew)
    refine wp_region_late (E := []) (S := (fun X => Hid (Blk X q 39 [.int .i64 1, .int .i64 n, .int .i64 bit, .bool up, .slice a' fl c']))) (by kernel_rfl) (hS4) (fun hHeld => ?_)
    simp only [List.size_toArray, List.length_cons, List.length_nil, Nat.reduceAdd]
    refine wpAnyL_take [5, 12, 13] (i := 0) (v := ?_) (by kernel_rfl) (by kernel_rfl) (by kernel_rfl) rfl (by kernel_rfl) (by kernel_rfl) (by kernel_rfl) (fun _ _ _ h => h) (Or.inl ⟨by rfl, ?_⟩) hHeld ?_
    rotate_left
    · (intro w hSw; (try dsimp only at hSw); go_simp; try with_reducible rfl)
    try simp only [Act.put, List.setIfInBounds_toArray, List.set_cons_zero, List.set_cons_succ, List.getElem_toArray, List.getElem_cons_zero]
    refine wpAnyL_take [2, 5, 12, 13] (i := 1) (v := ?_) (by kernel_rfl) (by kernel_rfl) (by kernel_rfl) rfl (by kernel_rfl) (by kernel_rfl) (by kernel_rfl) (fun _ _ _ h => h) (Or.inl ⟨by rfl, ?_⟩) hHeld ?_
    rotate_left
    · (intro w hSw; (try dsimp only at hSw); go_simp; try with_reducible rfl)
    try simp only [Act.put, List.setIfInBounds_toArray, List.set_cons_zero, List.set_cons_succ, List.getElem_toArray, List.getElem_cons_zero, List.getElem_cons_succ]
    refine wpAnyL_take [5, 12, 13] (i := 2) (v := ?_) (by kernel_rfl) (by kernel_rfl) (by kernel_rfl) rfl (by kernel_rfl) (by kernel_rfl) (by kernel_rfl) (fun _ _ _ h => h) (Or.inl ⟨by rfl, ?_⟩) hHeld ?_
    rotate_left
    · (intro w hSw; (try dsimp only at hSw); have z0 := hSw.out.cell 0; have z1 := hSw.out.cell 1; have z2 := hSw.out.cell 2; have z3 := hSw.out.cell 3; have z4 := hSw.out.cell 4; simp only [List.getElem?_cons_zero, List.getElem?_cons_succ] at z0 z1 z2 z3 z4; go_simp; try with_reducible rfl)
    try simp only [Act.put, List.setIfInBounds_toArray, List.set_cons_zero, List.set_cons_succ, List.getElem_toArray, List.getElem_cons_zero, List.getElem_cons_succ]
    refine wpAnyL_take [4, 5, 12, 13] (i := 3) (v := ?_) (by kernel_rfl) (by kernel_rfl) (by kernel_rfl) rfl (by kernel_rfl) (by kernel_rfl) (by kernel_rfl) (fun _ _ _ h => h) (Or.inl ⟨by rfl, ?_⟩) hHeld ?_
    rotate_left
    · (intro w hSw; (try dsimp only at hSw); go_simp; try with_reducible rfl)
    try simp only [Act.put, List.setIfInBounds_toArray, List.set_cons_zero, List.set_cons_succ, List.getElem_toArray, List.getElem_cons_zero, List.getElem_cons_succ]
    refine wpAnyL_take [5, 12, 13] (i := 4) (v := ?_) (by kernel_rfl) (by kernel_rfl) (by kernel_rfl) rfl (by kernel_rfl) (by kernel_rfl) (by kernel_rfl) (fun _ _ _ h => h) (Or.inl ⟨by rfl, ?_⟩) hHeld ?_
    rotate_left
    · (intro w hSw; (try dsimp only at hSw); have z0 := hSw.out.cell 0; have z1 := hSw.out.cell 1; have z2 := hSw.out.cell 2; have z3 := hSw.out.cell 3; have z4 := hSw.out.cell 4; simp only [List.getElem?_cons_zero, List.getElem?_cons_succ] at z0 z1 z2 z3 z4; go_simp; try with_reducible rfl)
    try simp only [Act.put, List.setIfInBounds_toArray, List.set_cons_zero, List.set_cons_succ, List.getElem_toArray, List.getElem_cons_zero, List.getElem_cons_succ]
    refine wpAnyL_take [11, 12, 13] (i := 6) (v := ?_) (by kernel_rfl) (by kernel_rfl) (by kernel_rfl) rfl (by kernel_rfl) (by kernel_rfl) (by kernel_rfl) (fun _ _ _ h => h) (Or.inl ⟨by rfl, ?_⟩) hHeld ?_
    rotate_left
    · (intro w hSw; (try dsimp only at hSw); go_simp; try with_reducible rfl)
    try simp only [Act.put, List.setIfInBounds_toArray, List.set_cons_zero, List.set_cons_succ, List.getElem_toArray, List.getElem_cons_zero, List.getElem_cons_succ]
    refine wpAnyL_take [8, 11, 12, 13] (i := 7) (v := ?_) (by kernel_rfl) (by kernel_rfl) (by kernel_rfl) rfl (by kernel_rfl) (by kernel_rfl) (by kernel_rfl) (fun _ _ _ h => h) (Or.inl ⟨by rfl, ?_⟩) hHeld ?_
    rotate_left
    · (intro w hSw; (try dsimp only at hSw); go_simp; try with_reducible rfl)
    try simp only [Act.put, List.setIfInBounds_toArray, List.set_cons_zero, List.set_cons_succ, List.getElem_toArray, List.getElem_cons_zero, List.getElem_cons_succ]
    refine wpAnyL_take [11, 12, 13] (i := 8) (v := ?_) (by kernel_rfl) (by kernel_rfl) (by kernel_rfl) rfl (by kernel_rfl) (by kernel_rfl) (by kernel_rfl) (fun _ _ _ h => h) (Or.inl ⟨by rfl, ?_⟩) hHeld ?_
    rotate_left
    · (intro w hSw; (try dsimp only at hSw); have z0 := hSw.out.cell 0; have z1 := hSw.out.cell 1; have z2 := hSw.out.cell 2; have z3 := hSw.out.cell 3; have z4 := hSw.out.cell 4; simp only [List.getElem?_cons_zero, List.getElem?_cons_succ] at z0 z1 z2 z3 z4; go_simp; try with_reducible rfl)
    try simp only [Act.put, List.setIfInBounds_toArray, List.set_cons_zero, List.set_cons_succ, List.getElem_toArray, List.getElem_cons_zero, List.getElem_cons_succ]
    refine wpAnyL_take [10, 11, 12, 13] (i := 9) (v := ?_) (by kernel_rfl) (by kernel_rfl) (by kernel_rfl) rfl (by kernel_rfl) (by kernel_rfl) (by kernel_rfl) (fun _ _ _ h => h) (Or.inl ⟨by rfl, ?_⟩) hHeld ?_
    rotate_left
    · (intro w hSw; (try dsimp only at hSw); go_simp; try with_reducible rfl)
    try simp only [Act.put, List.setIfInBounds_toArray, List.set_cons_zero, List.set_cons_succ, List.getElem_toArray, List.getElem_cons_zero, List.getElem_cons_succ]
    refine wpAnyL_take [11, 12, 13] (i := 10) (v := ?_) (by kernel_rfl) (by kernel_rfl) (by kernel_rfl) rfl (by kernel_rfl) (by kernel_rfl) (by kernel_rfl) (fun _ _ _ h => h) (Or.inl ⟨by rfl, ?_⟩) hHeld ?_
    rotate_left
    · (intro w hSw; (try dsimp only at hSw); have z0 := hSw.out.cell 0; have z1 := hSw.out.cell 1; have z2 := hSw.out.cell 2; have z3 := hSw.out.cell 3; have z4 := hSw.out.cell 4; simp only [List.getElem?_cons_zero, List.getElem?_cons_succ] at z0 z1 z2 z3 z4; go_simp; try with_reducible rfl)
    try simp only [Act.put, List.setIfInBounds_toArray, List.set_cons_zero, List.set_cons_succ, List.getElem_toArray, List.getElem_cons_zero, List.getElem_cons_succ]
    refine wpAnyL_one (i := 5) (by kernel_rfl) rfl (fun K hK => ?_)
    go_simp
    go_at_call 13
    refine (send_to (up := up) HG.out.1 (HBy.out _ HP.out) rfl rfl).mono ?_
    rintro e w5 ⟨rfl, h5, k5⟩
    have hk5 : Sk [30] B w3.drew w5 := sk_kb k5 HG.out.1.blk (by simp) HG.out.2.2.2
    have HL5 : Hid (LkV w5 b (s.send up f)) := h5
    have HR5 : Hid (RfV 35 B w5 c s ∧ Below B w w5 ∧ B ≤ w5.heap.size) := ⟨HG.out.2.1.sk hk5 (by simp) (by simp) (by simp), HG.out.2.2.1.trans hk5.bel, Nat.le_trans HBs.out hk5.bel.size⟩
    have HP5 : Hid (PcT B w5 (.slice a' fl c') f) := HP.out.sk hk5 (by simp)
    have s1 : (fun X => Hid (Blk X q 39 [.int .i64 1, .int .i64 n, .int .i64 bit, .bool up, .slice a' fl c'])) w5 := hk5.blk hHeld.out (by simp)
    clear h5 k5 hk5
    refine hK.out _ _ (fun _ => s1) ?_
    replace hHeld := s1
    clear hK K
    try simp only [Act.put, List.setIfInBounds_toArray, List.set_cons_zero, List.set_cons_succ, List.getElem_toArray, List.getElem_cons_zero, List.getElem_cons_succ]
    refine wpAnyL_one (i := 11) (by kernel_rfl) rfl (fun K hK => ?_)
    go_simp
    go_at_call 19
    refine (refSend_any B c s up a' fl c' f w5 HR5.out.1 HOk.out (HBy.out _ HP5.out) HR5.out.2.2).mono ?_
    rintro e w6 ⟨rfl, h6, k6⟩
    have HD : Hid (DoS B b c w w6) := ⟨s.send up f, HL5.out.sk k6 (by simp), h6, HR5.out.2.1.trans k6.bel⟩
    have s2 : (fun X => Hid (Blk X q 39 [.int .i64 1, .int .i64 n, .int .i64 bit, .bool up, .slice a' fl c'])) w6 := k6.blk hHeld.out (by simp)
    clear h6 k6
    refine hK.out _ _ (fun _ => s2) ?_
    replace hHeld := s2
    clear hK K
    try simp only [Act.put, List.setIfInBounds_toArray, List.set_cons_zero, List.set_cons_succ, List.getElem_toArray, List.getElem_cons_zero, List.getElem_cons_succ]
    refine wpAnyL_take [13] (i := 12) (v := ?_) (by kernel_rfl) (by kernel_rfl) (by kernel_rfl) rfl (by kernel_rfl) (by kernel_rfl) (by kernel_rfl) (fun _ _ _ h => h) (Or.inl ⟨by rfl, ?_⟩) hHeld ?_
    rotate_left
    · (intro w hSw; (try dsimp only at hSw); go_simp; try with_reducible rfl)
    try simp only [Act.put, List.setIfInBounds_toArray, List.set_cons_zero, List.set_cons_succ, List.getElem_toArray, List.getElem_cons_zero, List.getElem_cons_succ]
    refine wpAnyL_take [] (i := 13) (v := ?_) (by kernel_rfl) (by kernel_rfl) (by kernel_rfl) rfl (by kernel_rfl) (by kernel_rfl) (by kernel_rfl) (fun _ _ _ h => h) (Or.inl ⟨by rfl, ?_⟩) hHeld ?_
    rotate_left
    · (intro w hSw; (try dsimp only at hSw); go_simp; try with_reducible rfl)
    try simp only [Act.put, List.setIfInBounds_toArray, List.set_cons_zero, List.set_cons_succ, List.getElem_toArray, List.getElem_cons_zero, List.getElem_cons_succ]
    refine wpAnyL_done (by kernel_rfl) ?_ _
    go_wp2
    go_ret
    exact ⟨rfl, HD.out⟩
  · go_upto_region 7 with (go_at_call 14; refine (take_tag_to (up := up) (n := n) HG3.out.1 rfl rfl rfl).mono ?_; rintro e w5 ⟨v5, rfl, hp5, hn5, h5, k5⟩)
    have hk5 : Sk [30] B w3 w5 := sk_kb k5 HG3.out.1.blk (by simp) HG3.out.2.2.2
    have HL5 : Hid (LkV w5 b (s.take up n)) := h5
    have HR5 : Hid (RfV 35 B w5 c s ∧ Below B w w5 ∧ B ≤ w5.heap.size) := ⟨HG3.out.2.1.sk hk5 (by simp) (by simp) (by simp), HG3.out.2.2.1.trans hk5.bel, Nat.le_trans HBs3.out hk5.bel.size⟩
    have HV5 : Hid (PcT B w5 v5 (s.came up n)) := hp5 B
    have HB5 := hk5.blk HBx.out (by simp)
    have y1 := HB5.cell 1
    have y3 := HB5.cell 3
    simp only [List.getElem?_cons_zero, List.getElem?_cons_succ] at y1 y3
    clear HB5 h5 k5 hk5 hp5 hn5 z0 z1 z2 z3 z4
    go_upto_region 8 with (go_at_call 20; refine (refTake_any B c s up n w5 HR5.out.1 HOk.out HR5.out.2.2).mono ?_; rintro e w6 ⟨v6, rfl, hp6, h6, k6⟩)
    have HD : Hid (DoS B b c w w6) := ⟨s.take up n, HL5.out.sk k6 (by simp), h6, HR5.out.2.1.trans k6.bel⟩
    obtain ⟨⟨a5, c5, hv5, hb5, _⟩, _⟩ := HV5.out.sk k6 (by simp)
    obtain ⟨⟨a6, c6, hv6, hb6, _⟩, _⟩ := hp6
    subst hv5 hv6
    have x5 := run_text hb5 c5
    have x6 := run_text hb6 c6
    have hbq : ((strOfNums (s.came up n)).toList == (strOfNums (s.came up n)).toList) = true := beq_self_eq_true _
    clear h6 k6 hb5 hb6 y1 y3 HV5 HL5 HR5
    generalize (s.came up n).length = ml at *
    generalize strOfNums (s.came up n) = ms at *
    generalize hasN (s.sel up) n = hq at *
    have hbb : (hq == hq) = true := beq_self_eq_true _
    go_wp2
    go_ret
    exact ⟨rfl, HD.out⟩
  · go_upto_region 10 with fail
    have hS4 : (fun X => Hid (Blk X q 39 [.int .i64 3, .int .i64 n, .int .i64 bit, .bool up, .slice a' fl c'])) w3.drew := (HBx.out.over (Below.refl _ _).drew)
    refine wp_region_late (E := []) (S := (fun X => Hid (Blk X q 39 [.int .i64 3, .int .i64 n, .int .i64 bit, .bool up, .slice a' fl c']))) (by kernel_rfl) (hS4) (fun hHeld => ?_)
    simp only [List.size_toArray, List.length_cons, List.length_nil, Nat.reduceAdd]
    refine wpAnyL_take [3, 8, 9] (i := 0) (v := ?_) (by kernel_rfl) (by kernel_rfl) (by kernel_rfl) rfl (by kernel_rfl) (by kernel_rfl) (by kernel_rfl) (fun _ _ _ h => h) (Or.inl ⟨by rfl, ?_⟩) hHeld ?_
    rotate_left
    · (intro w hSw; (try dsimp only at hSw); go_simp; try with_reducible rfl)
    try simp only [Act.put, List.setIfInBounds_toArray, List.set_cons_zero, List.set_cons_succ, List.getElem_toArray, List.getElem_cons_zero]
    refine wpAnyL_take [2, 3, 8, 9] (i := 1) (v := ?_) (by kernel_rfl) (by kernel_rfl) (by kernel_rfl) rfl (by kernel_rfl) (by kernel_rfl) (by kernel_rfl) (fun _ _ _ h => h) (Or.inl ⟨by rfl, ?_⟩) hHeld ?_
    rotate_left
    · (intro w hSw; (try dsimp only at hSw); go_simp; try with_reducible rfl)
    try simp only [Act.put, List.setIfInBounds_toArray, List.set_cons_zero, List.set_cons_succ, List.getElem_toArray, List.getElem_cons_zero, List.getElem_cons_succ]
    refine wpAnyL_take [3, 8, 9] (i := 2) (v := ?_) (by kernel_rfl) (by kernel_rfl) (by kernel_rfl) rfl (by kernel_rfl) (by kernel_rfl) (by kernel_rfl) (fun _ _ _ h => h) (Or.inl ⟨by rfl, ?_⟩) hHeld ?_
    rotate_left
    · (intro w hSw; (try dsimp only at hSw); have z0 := hSw.out.cell 0; have z1 := hSw.out.cell 1; have z2 := hSw.out.cell 2; have z3 := hSw.out.cell 3; have z4 := hSw.out.cell 4; simp only [List.getElem?_cons_zero, List.getElem?_cons_succ] at z0 z1 z2 z3 z4; go_simp; try with_reducible rfl)
    try simp only [Act.put, List.setIfInBounds_toArray, List.set_cons_zero, List.set_cons_succ, List.getElem_toArray, List.getElem_cons_zero, List.getElem_cons_succ]
    refine wpAnyL_take [7, 8, 9] (i := 4) (v := ?_) (by kernel_rfl) (by kernel_rfl) (by kernel_rfl) rfl (by kernel_rfl) (by kernel_rfl) (by kernel_rfl) (fun _ _ _ h => h) (Or.inl ⟨by rfl, ?_⟩) hHeld ?_
    rotate_left
    · (intro w hSw; (try dsimp only at hSw); go_simp; try with_reducible rfl)
    try simp only [Act.put, List.setIfInBounds_toArray, List.set_cons_zero, List.set_cons_succ, List.getElem_toArray, List.getElem_cons_zero, List.getElem_cons_succ]
    refine wpAnyL_take [6, 7, 8, 9] (i := 5) (v := ?_) (by kernel_rfl) (by kernel_rfl) (by kernel_rfl) rfl (by kernel_rfl) (by kernel_rfl) (by kernel_rfl) (fun _ _ _ h => h) (Or.inl ⟨by rfl, ?_⟩) hHeld ?_
    rotate_left
    · (intro w hSw; (try dsimp only at hSw); go_simp; try with_reducible rfl)
    try simp only [Act.put, List.setIfInBounds_toArray, List.set_cons_zero, List.set_cons_succ, List.getElem_toArray, List.getElem_cons_zero, List.getElem_cons_succ]
    refine wpAnyL_take [7, 8, 9] (i := 6) (v := ?_) (by kernel_rfl) (by kernel_rfl) (by kernel_rfl) rfl (by kernel_rfl) (by kernel_rfl) (by kernel_rfl) (fun _ _ _ h => h) (Or.inl ⟨by rfl, ?_⟩) hHeld ?_
    rotate_left
    · (intro w hSw; (try dsimp only at hSw); have z0 := hSw.out.cell 0; have z1 := hSw.out.cell 1; have z2 := hSw.out.cell 2; have z3 := hSw.out.cell 3; have z4 := hSw.out.cell 4; simp only [List.getElem?_cons_zero, List.getElem?_cons_succ] at z0 z1 z2 z3 z4; go_simp; try with_reducible rfl)
    try simp only [Act.put, List.setIfInBounds_toArray, List.set_cons_zero, List.set_cons_succ, List.getElem_toArray, List.getElem_cons_zero, List.getElem_cons_succ]
    refine wpAnyL_one (i := 3) (by kernel_rfl) rfl (fun K hK => ?_)
    go_simp
    go_at_call 15
    refine (drop_any b s _ HG.out.1 n HN.out).mono ?_
    rintro e w5 ⟨rfl, h5, k5⟩
    have hk5 : Sk [30] B w3.drew w5 := sk_kb k5 HG.out.1.blk (by simp) HG.out.2.2.2
    have HL5 : Hid (LkV w5 b (s.drop n)) := h5
    have HR5 : Hid (RfV 35 B w5 c s ∧ Below B w w5 ∧ B ≤ w5.heap.size) := ⟨HG.out.2.1.sk hk5 (by simp) (by simp) (by simp), HG.out.2.2.1.trans hk5.bel, Nat.le_trans HBs.out hk5.bel.size⟩
    have HP5 : Hid (PcT B w5 (.slice a' fl c') f) := HP.out.sk hk5 (by simp)
    have s1 : (fun X => Hid (Blk X q 39 [.int .i64 3, .int .i64 n, .int .i64 bit, .bool up, .slice a' fl c'])) w5 := hk5.blk hHeld.out (by simp)
    clear h5 k5 hk5
    refine hK.out _ _ (fun _ => s1) ?_
    replace hHeld := s1
    clear hK K
    try simp only [Act.put, List.setIfInBounds_toArray, List.set_cons_zero, List.set_cons_succ, List.getElem_toArray, List.getElem_cons_zero, List.getElem_cons_succ]
    refine wpAnyL_one (i := 7) (by kernel_rfl) rfl (fun K hK => ?_)
    go_simp
    go_at_call 21
    refine (refDrop_any B c s n w5 HR5.out.1 HOk.out HR5.out.2.2 HN.out).mono ?_
    rintro e w6 ⟨rfl, h6, k6⟩
    have HD : Hid (DoS B b c w w6) := ⟨s.drop n, HL5.out.sk k6 (by simp), h6, HR5.out.2.1.trans k6.bel⟩
    have s2 : (fun X => Hid (Blk X q 39 [.int .i64 3, .int .i64 n, .int .i64 bit, .bool up, .slice a' fl c'])) w6 := k6.blk hHeld.out (by simp)
    clear h6 k6
    refine hK.out _ _ (fun _ => s2) ?_
    replace hHeld := s2
    clear hK K
    try simp only [Act.put, List.setIfInBounds_toArray, List.set_cons_zero, List.set_cons_succ, List.getElem_toArray, List.getElem_cons_zero, List.getElem_cons_succ]
    refine wpAnyL_take [9] (i := 8) (v := ?_) (by kernel_rfl) (by kernel_rfl) (by kernel_rfl) rfl (by kernel_rfl) (by kernel_rfl) (by kernel_rfl) (fun _ _ _ h => h) (Or.inl ⟨by rfl, ?_⟩) hHeld ?_
    rotate_left
    · (intro w hSw; (try dsimp only at hSw); go_simp; try with_reducible rfl)
    try simp only [Act.put, List.setIfInBounds_toArray, List.set_cons_zero, List.set_cons_succ, List.getElem_toArray, List.getElem_cons_zero, List.getElem_cons_succ]
    refine wpAnyL_take [] (i := 9) (v := ?_) (by kernel_rfl) (by kernel_rfl) (by kernel_rfl) rfl (by kernel_rfl) (by kernel_rfl) (by kernel_rfl) (fun _ _ _ h => h) (Or.inl ⟨by rfl, ?_⟩) hHeld ?_
    rotate_left
    · (intro w hSw; (try dsimp only at hSw); go_simp; try with_reducible rfl)
    try simp only [Act.put, List.setIfInBounds_toArray, List.set_cons_zero, List.set_cons_succ, List.getElem_toArray, List.getElem_cons_zero, List.getElem_cons_succ]
    refine wpAnyL_done (by kernel_rfl) ?_ _
    go_wp2
    go_ret
    exact ⟨rfl, HD.out⟩
  · go_upto_region 12 with fail
    have hS4 : (fun X => Hid (Blk X q 39 [.int .i64 4, .int .i64 n, .int .i64 bit, .bool up, .slice a' fl c'])) w3.drew := (HBx.out.over (Below.refl _ _).drew)
    refine wp_region_late (E := []) (S := (fun X => Hid (Blk X q 39 [.int .i64 4, .int .i64 n, .int .i64 bit, .bool up, .slice a' fl c']))) (by kernel_rfl) (hS4) (fun hHeld => ?_)
    simp only [List.size_toArray, List.length_cons, List.length_nil, Nat.reduceAdd]
    refine wpAnyL_take [3, 8, 9] (i := 0) (v := ?_) (by kernel_rfl) (by kernel_rfl) (by kernel_rfl) rfl (by kernel_rfl) (by kernel_rfl) (by kernel_rfl) (fun _ _ _ h => h) (Or.inl ⟨by rfl, ?_⟩) hHeld ?_
    rotate_left
    · (intro w hSw; (try dsimp only at hSw); go_simp; try with_reducible rfl)
    try simp only [Act.put, List.setIfInBounds_toArray, List.set_cons_zero, List.set_cons_succ, List.getElem_toArray, List.getElem_cons_zero]
    refine wpAnyL_take [2, 3, 8, 9] (i := 1) (v := ?_) (by kernel_rfl) (by kernel_rfl) (by kernel_rfl) rfl (by kernel_rfl) (by kernel_rfl) (by kernel_rfl) (fun _ _ _ h => h) (Or.inl ⟨by rfl, ?_⟩) hHeld ?_
    rotate_left
    · (intro w hSw; (try dsimp only at hSw); go_simp; try with_reducible rfl)
    try simp only [Act.put, List.setIfInBounds_toArray, List.set_cons_zero, List.set_cons_succ, List.getElem_toArray, List.getElem_cons_zero, List.getElem_cons_succ]
    refine wpAnyL_take [3, 8, 9] (i := 2) (v := ?_) (by kernel_rfl) (by kernel_rfl) (by kernel_rfl) rfl (by kernel_rfl) (by kernel_rfl) (by kernel_rfl) (fun _ _ _ h => h) (Or.inl ⟨by rfl, ?_⟩) hHeld ?_
    rotate_left
    · (intro w hSw; (try dsimp only at hSw); have z0 := hSw.out.cell 0; have z1 := hSw.out.cell 1; have z2 := hSw.out.cell 2; have z3 := hSw.out.cell 3; have z4 := hSw.out.cell 4; simp only [List.getElem?_cons_zero, List.getElem?_cons_succ] at z0 z1 z2 z3 z4; go_simp; try with_reducible rfl)
    try simp only [Act.put, List.setIfInBounds_toArray, List.set_cons_zero, List.set_cons_succ, List.getElem_toArray, List.getElem_cons_zero, List.getElem_cons_succ]
    refine wpAnyL_take [7, 8, 9] (i := 4) (v := ?_) (by kernel_rfl) (by kernel_rfl) (by kernel_rfl) rfl (by kernel_rfl) (by kernel_rfl) (by kernel_rfl) (fun _ _ _ h => h) (Or.inl ⟨by rfl, ?_⟩) hHeld ?_
    rotate_left
    · (intro w hSw; (try dsimp only at hSw); go_simp; try with_reducible rfl)
    try simp only [Act.put, List.setIfInBounds_toArray, List.set_cons_zero, List.set_cons_succ, List.getElem_toArray, List.getElem_cons_zero, List.getElem_cons_succ]
    refine wpAnyL_take [6, 7, 8, 9] (i := 5) (v := ?_) (by kernel_rfl) (by kernel_rfl) (by kernel_rfl) rfl (by kernel_rfl) (by kernel_rfl) (by kernel_rfl) (fun _ _ _ h => h) (Or.inl ⟨by rfl, ?_⟩) hHeld ?_
    rotate_left
    · (intro w hSw; (try dsimp only at hSw); go_simp; try with_reducible rfl)
    try simp only [Act.put, List.setIfInBounds_toArray, List.set_cons_zero, List.set_cons_succ, List.getElem_toArray, List.getElem_cons_zero, List.getElem_cons_succ]
    refine wpAnyL_take [7, 8, 9] (i := 6) (v := ?_) (by kernel_rfl) (by kernel_rfl) (by kernel_rfl) rfl (by kernel_rfl) (by kernel_rfl) (by kernel_rfl) (fun _ _ _ h => h) (Or.inl ⟨by rfl, ?_⟩) hHeld ?_
    rotate_left
    · (intro w hSw; (try dsimp only at hSw); have z0 := hSw.out.cell 0; have z1 := hSw.out.cell 1; have z2 := hSw.out.cell 2; have z3 := hSw.out.cell 3; have z4 := hSw.out.cell 4; simp only [List.getElem?_cons_zero, List.getElem?_cons_succ] at z0 z1 z2 z3 z4; go_simp; try with_reducible rfl)
    try simp only [Act.put, List.setIfInBounds_toArray, List.set_cons_zero, List.set_cons_succ, List.getElem_toArray, List.getElem_cons_zero, List.getElem_cons_succ]
    refine wpAnyL_one (i := 3) (by kernel_rfl) rfl (fun K hK => ?_)
    go_simp
    go_at_call 16
    refine (twice_any b s _ HG.out.1 n HN.out).mono ?_
    rintro e w5 ⟨rfl, h5, k5⟩
    have hk5 : Sk [30] B w3.drew w5 := sk_kb k5 HG.out.1.blk (by simp) HG.out.2.2.2
    have HL5 : Hid (LkV w5 b (s.twice n)) := h5
    have HR5 : Hid (RfV 35 B w5 c s ∧ Below B w w5 ∧ B ≤ w5.heap.size) := ⟨HG.out.2.1.sk hk5 (by simp) (by simp) (by simp), HG.out.2.2.1.trans hk5.bel, Nat.le_trans HBs.out hk5.bel.size⟩
    have HP5 : Hid (PcT B w5 (.slice a' fl c') f) := HP.out.sk hk5 (by simp)
    have s1 : (fun X => Hid (Blk X q 39 [.int .i64 4, .int .i64 n, .int .i64 bit, .bool up, .slice a' fl c'])) w5 := hk5.blk hHeld.out (by simp)
    clear h5 k5 hk5
    refine hK.out _ _ (fun _ => s1) ?_
    replace hHeld := s1
    clear hK K
    try simp only [Act.put, List.setIfInBounds_toArray, List.set_cons_zero, List.set_cons_succ, List.getElem_toArray, List.getElem_cons_zero, List.getElem_cons_succ]
    refine wpAnyL_one (i := 7) (by kernel_rfl) rfl (fun K hK => ?_)
    go_simp
    go_at_call 22
    refine (refTwice_any B c s n w5 HR5.out.1 HOk.out HR5.out.2.2 HN.out).mono ?_
    rintro e w6 ⟨rfl, h6, k6⟩
    have HD : Hid (DoS B b c w w6) := ⟨s.twice n, HL5.out.sk k6 (by simp), h6, HR5.out.2.1.trans k6.bel⟩
    have s2 : (fun X => Hid (Blk X q 39 [.int .i64 4, .int .i64 n, .int .i64 bit, .bool up, .slice a' fl c'])) w6 := k6.blk hHeld.out (by simp)
    clear h6 k6
    refine hK.out _ _ (fun _ => s2) ?_
    replace hHeld := s2
    clear hK K
    try simp only [Act.put, List.setIfInBounds_toArray, List.set_cons_zero, List.set_cons_succ, List.getElem_toArray, List.getElem_cons_zero, List.getElem_cons_succ]
    refine wpAnyL_take [9] (i := 8) (v := ?_) (by kernel_rfl) (by kernel_rfl) (by kernel_rfl) rfl (by kernel_rfl) (by kernel_rfl) (by kernel_rfl) (fun _ _ _ h => h) (Or.inl ⟨by rfl, ?_⟩) hHeld ?_
    rotate_left
    · (intro w hSw; (try dsimp only at hSw); go_simp; try with_reducible rfl)
    try simp only [Act.put, List.setIfInBounds_toArray, List.set_cons_zero, List.set_cons_succ, List.getElem_toArray, List.getElem_cons_zero, List.getElem_cons_succ]
    refine wpAnyL_take [] (i := 9) (v := ?_) (by kernel_rfl) (by kernel_rfl) (by kernel_rfl) rfl (by kernel_rfl) (by kernel_rfl) (by kernel_rfl) (fun _ _ _ h => h) (Or.inl ⟨by rfl, ?_⟩) hHeld ?_
    rotate_left
    · (intro w hSw; (try dsimp only at hSw); go_simp; try with_reducible rfl)
    try simp only [Act.put, List.setIfInBounds_toArray, List.set_cons_zero, List.set_cons_succ, List.getElem_toArray, List.getElem_cons_zero, List.getElem_cons_succ]
    refine wpAnyL_done (by kernel_rfl) ?_ _
    go_wp2
    go_ret
    exact ⟨rfl, HD.out⟩
  · go_upto_region 14 with fail
    have hS4 : (fun X => Hid (Blk X q 39 [.int .i64 5, .int .i64 n, .int .i64 bit, .bool up, .slice a' fl c'])) w3.drew := (HBx.out.over (Below.refl _ _).drew)
    refine wp_region_late (E := []) (S := (fun X => Hid (Blk X q 39 [.int .i64 5, .int .i64 n, .int .i64 bit, .bool up, .slice a' fl c']))) (by kernel_rfl) (hS4) (fun hHeld => ?_)
    simp only [List.size_toArray, List.length_cons, List.length_nil, Nat.reduceAdd]
    refine wpAnyL_take [5, 12, 13] (i := 0) (v := ?_) (by kernel_rfl) (by kernel_rfl) (by kernel_rfl) rfl (by kernel_rfl) (by kernel_rfl) (by kernel_rfl) (fun _ _ _ h => h) (Or.inl ⟨by rfl, ?_⟩) hHeld ?_
    rotate_left
    · (intro w hSw; (try dsimp only at hSw); go_simp; try with_reducible rfl)
    try simp only [Act.put, List.setIfInBounds_toArray, List.set_cons_zero, List.set_cons_succ, List.getElem_toArray, List.getElem_cons_zero]
    refine wpAnyL_take [2, 5, 12, 13] (i := 1) (v := ?_) (by kernel_rfl) (by kernel_rfl) (by kernel_rfl) rfl (by kernel_rfl) (by kernel_rfl) (by kernel_rfl) (fun _ _ _ h => h) (Or.inl ⟨by rfl, ?_⟩) hHeld ?_
    rotate_left
    · (intro w hSw; (try dsimp only at hSw); go_simp; try with_reducible rfl)
    try simp only [Act.put, List.setIfInBounds_toArray, List.set_cons_zero, List.set_cons_succ, List.getElem_toArray, List.getElem_cons_zero, List.getElem_cons_succ]
    refine wpAnyL_take [5, 12, 13] (i := 2) (v := ?_) (by kernel_rfl) (by kernel_rfl) (by kernel_rfl) rfl (by kernel_rfl) (by kernel_rfl) (by kernel_rfl) (fun _ _ _ h => h) (Or.inl ⟨by rfl, ?_⟩) hHeld ?_
    rotate_left
    · (intro w hSw; (try dsimp only at hSw); have z0 := hSw.out.cell 0; have z1 := hSw.out.cell 1; have z2 := hSw.out.cell 2; have z3 := hSw.out.cell 3; have z4 := hSw.out.cell 4; simp only [List.getElem?_cons_zero, List.getElem?_cons_succ] at z0 z1 z2 z3 z4; go_simp; try with_reducible rfl)
    try simp only [Act.put, List.setIfInBounds_toArray, List.set_cons_zero, List.set_cons_succ, List.getElem_toArray, List.getElem_cons_zero, List.getElem_cons_succ]
    refine wpAnyL_take [4, 5, 12, 13] (i := 3) (v := ?_) (by kernel_rfl) (by kernel_rfl) (by kernel_rfl) rfl (by kernel_rfl) (by kernel_rfl) (by kernel_rfl) (fun _ _ _ h => h) (Or.inl ⟨by rfl, ?_⟩) hHeld ?_
    rotate_left
    · (intro w hSw; (try dsimp only at hSw); go_simp; try with_reducible rfl)
    try simp only [Act.put, List.setIfInBounds_toArray, List.set_cons_zero, List.set_cons_succ, List.getElem_toArray, List.getElem_cons_zero, List.getElem_cons_succ]
    refine wpAnyL_take [5, 12, 13] (i := 4) (v := ?_) (by kernel_rfl) (by kernel_rfl) (by kernel_rfl) rfl (by kernel_rfl) (by kernel_rfl) (by kernel_rfl) (fun _ _ _ h => h) (Or.inl ⟨by rfl, ?_⟩) hHeld ?_
    rotate_left
    · (intro w hSw; (try dsimp only at hSw); have z0 := hSw.out.cell 0; have z1 := hSw.out.cell 1; have z2 := hSw.out.cell 2; have z3 := hSw.out.cell 3; have z4 := hSw.out.cell 4; simp only [List.getElem?_cons_zero, List.getElem?_cons_succ] at z0 z1 z2 z3 z4; go_simp; try with_reducible rfl)
    try simp only [Act.put, List.setIfInBounds_toArray, List.set_cons_zero, List.set_cons_succ, List.getElem_toArray, List.getElem_cons_zero, List.getElem_cons_succ]
    refine wpAnyL_take [11, 12, 13] (i := 6) (v := ?_) (by kernel_rfl) (by kernel_rfl) (by kernel_rfl) rfl (by kernel_rfl) (by kernel_rfl) (by kernel_rfl) (fun _ _ _ h => h) (Or.inl ⟨by rfl, ?_⟩) hHeld ?_
    rotate_left
    · (intro w hSw; (try dsimp only at hSw); go_simp; try with_reducible rfl)
    try simp only [Act.put, List.setIfInBounds_toArray, List.set_cons_zero, List.set_cons_succ, List.getElem_toArray, List.getElem_cons_zero, List.getElem_cons_succ]
    refine wpAnyL_take [8, 11, 12, 13] (i := 7) (v := ?_) (by kernel_rfl) (by kernel_rfl) (by kernel_rfl) rfl (by kernel_rfl) (by kernel_rfl) (by kernel_rfl) (fun _ _ _ h => h) (Or.inl ⟨by rfl, ?_⟩) hHeld ?_
    rotate_left
    · (intro w hSw; (try dsimp only at hSw); go_simp; try with_reducible rfl)
    try simp only [Act.put, List.setIfInBounds_toArray, List.set_cons_zero, List.set_cons_succ, List.getElem_toArray, List.getElem_cons_zero, List.getElem_cons_succ]
    refine wpAnyL_take [11, 12, 13] (i := 8) (v := ?_) (by kernel_rfl) (by kernel_rfl) (by kernel_rfl) rfl (by kernel_rfl) (by kernel_rfl) (by kernel_rfl) (fun _ _ _ h => h) (Or.inl ⟨by rfl, ?_⟩) hHeld ?_
    rotate_left
    · (intro w hSw; (try dsimp only at hSw); have z0 := hSw.out.cell 0; have z1 := hSw.out.cell 1; have z2 := hSw.out.cell 2; have z3 := hSw.out.cell 3; have z4 := hSw.out.cell 4; simp only [List.getElem?_cons_zero, List.getElem?_cons_succ] at z0 z1 z2 z3 z4; go_simp; try with_reducible rfl)
    try simp only [Act.put, List.setIfInBounds_toArray, List.set_cons_zero, List.set_cons_succ, List.getElem_toArray, List.getElem_cons_zero, List.getElem_cons_succ]
    refine wpAnyL_take [10, 11, 12, 13] (i := 9) (v := ?_) (by kernel_rfl) (by kernel_rfl) (by kernel_rfl) rfl (by kernel_rfl) (by kernel_rfl) (by kernel_rfl) (fun _ _ _ h => h) (Or.inl ⟨by rfl, ?_⟩) hHeld ?_
    rotate_left
    · (intro w hSw; (try dsimp only at hSw); go_simp; try with_reducible rfl)
    try simp only [Act.put, List.setIfInBounds_toArray, List.set_cons_zero, List.set_cons_succ, List.getElem_toArray, List.getElem_cons_zero, List.getElem_cons_succ]
    refine wpAnyL_take [11, 12, 13] (i := 10) (v := ?_) (by kernel_rfl) (by kernel_rfl) (by kernel_rfl) rfl (by kernel_rfl) (by kernel_rfl) (by kernel_rfl) (fun _ _ _ h => h) (Or.inl ⟨by rfl, ?_⟩) hHeld ?_
    rotate_left
    · (intro w hSw; (try dsimp only at hSw); have z0 := hSw.out.cell 0; have z1 := hSw.out.cell 1; have z2 := hSw.out.cell 2; have z3 := hSw.out.cell 3; have z4 := hSw.out.cell 4; simp only [List.getElem?_cons_zero, List.getElem?_cons_succ] at z0 z1 z2 z3 z4; go_simp; try with_reducible rfl)
    try simp only [Act.put, List.setIfInBounds_toArray, List.set_cons_zero, List.set_cons_succ, List.getElem_toArray, List.getElem_cons_zero, List.getElem_cons_succ]
    refine wpAnyL_one (i := 5) (by kernel_rfl) rfl (fun K hK => ?_)
    go_simp
    go_at_call 17
    refine (spoil_any b s _ HG.out.1 n bit HN.out).mono ?_
    rintro e w5 ⟨rfl, h5, k5⟩
    have hk5 : Sk [30] B w3.drew w5 := sk_kb k5 HG.out.1.blk (by simp) HG.out.2.2.2
    have HL5 : Hid (LkV w5 b (s.spoil n bit)) := h5
    have HR5 : Hid (RfV 35 B w5 c s ∧ Below B w w5 ∧ B ≤ w5.heap.size) := ⟨HG.out.2.1.sk hk5 (by simp) (by simp) (by simp), HG.out.2.2.1.trans hk5.bel, Nat.le_trans HBs.out hk5.bel.size⟩
    have HP5 : Hid (PcT B w5 (.slice a' fl c') f) := HP.out.sk hk5 (by simp)
    have s1 : (fun X => Hid (Blk X q 39 [.int .i64 5, .int .i64 n, .int .i64 bit, .bool up, .slice a' fl c'])) w5 := hk5.blk hHeld.out (by simp)
    clear h5 k5 hk5
    refine hK.out _ _ (fun _ => s1) ?_
    replace hHeld := s1
    clear hK K
    try simp only [Act.put, List.setIfInBounds_toArray, List.set_cons_zero, List.set_cons_succ, List.getElem_toArray, List.getElem_cons_zero, List.getElem_cons_succ]
    refine wpAnyL_one (i := 11) (by kernel_rfl) rfl (fun K hK => ?_)
    go_simp
    go_at_call 23
    refine (refSpoil_any B c s n bit w5 HR5.out.1 HOk.out HR5.out.2.2 HN.out).mono ?_
    rintro e w6 ⟨rfl, h6, k6⟩
    have HD : Hid (DoS B b c w w6) := ⟨s.spoil n bit, HL5.out.sk k6 (by simp), h6, HR5.out.2.1.trans k6.bel⟩
    have s2 : (fun X => Hid (Blk X q 39 [.int .i64 5, .int .i64 n, .int .i64 bit, .bool up, .slice a' fl c'])) w6 := k6.blk hHeld.out (by simp)
    clear h6 k6
    refine hK.out _ _ (fun _ => s2) ?_
    replace hHeld := s2
    clear hK K
    try simp only [Act.put, List.setIfInBounds_toArray, List.set_cons_zero, List.set_cons_succ, List.getElem_toArray, List.getElem_cons_zero, List.getElem_cons_succ]
    refine wpAnyL_take [13] (i := 12) (v := ?_) (by kernel_rfl) (by kernel_rfl) (by kernel_rfl) rfl (by kernel_rfl) (by kernel_rfl) (by kernel_rfl) (fun _ _ _ h => h) (Or.inl ⟨by rfl, ?_⟩) hHeld ?_
    rotate_left
    · (intro w hSw; (try dsimp only at hSw); go_simp; try with_reducible rfl)
    try simp only [Act.put, List.setIfInBounds_toArray, List.set_cons_zero, List.set_cons_succ, List.getElem_toArray, List.getElem_cons_zero, List.getElem_cons_succ]
    refine wpAnyL_take [] (i := 13) (v := ?_) (by kernel_rfl) (by kernel_rfl) (by kernel_rfl) rfl (by kernel_rfl) (by kernel_rfl) (by kernel_rfl) (fun _ _ _ h => h) (Or.inl ⟨by rfl, ?_⟩) hHeld ?_
    rotate_left
    · (intro w hSw; (try dsimp only at hSw); go_simp; try with_reducible rfl)
    try simp only [Act.put, List.setIfInBounds_toArray, List.set_cons_zero, List.set_cons_succ, List.getElem_toArray, List.getElem_cons_zero, List.getElem_cons_succ]
    refine wpAnyL_done (by kernel_rfl) ?_ _
    go_wp2
    go_ret
    exact ⟨rfl, HD.out⟩
  · go_upto_region 17 with (go_at_call 18; refine (clear_any b s w3 HG3.out.1).mono ?_; rintro e w5 ⟨rfl, h5, k5⟩)
    have hk5 : Sk [30] B w3 w5 := sk_kb k5 HG3.out.1.blk (by simp) HG3.out.2.2.2
    have HR5 : Hid (RfV 35 B w5 c s) := HG3.out.2.1.sk hk5 (by simp) (by simp) (by simp)
    go_wp2_with (go_at_call 24; refine (refClear_any B c s w5 HR5.out).mono ?_; rintro e w6 ⟨rfl, h6, k6⟩)
    go_ret
    exact ⟨rfl, lk0, h5.sk k6 (by simp), h6, (HG3.out.2.2.1.trans hk5.bel).trans k6.bel⟩
  · have hB0 : (act == 0) = false := beq_eq_false_iff_ne.2 hA0
    have hB1 : (act == 1) = false := beq_eq_false_iff_ne.2 hA1
    have hB2 : (act == 2) = false := beq_eq_false_iff_ne.2 hA2
    have hB3 : (act == 3) = false := beq_eq_false_iff_ne.2 hA3
    have hB4 : (act == 4) = false := beq_eq_false_iff_ne.2 hA4
    have hB5 : (act == 5) = false := beq_eq_false_iff_ne.2 hA5
    have hB6 : (act == 6) = false := beq_eq_false_iff_ne.2 hA6
    go_wp2
    go_ret
    exact ⟨rfl, s, HG3.out.1, HG3.out.2.1, HG3.out.2.2.1⟩

end Go.Proofs.Ytljceoojbppaeaa
