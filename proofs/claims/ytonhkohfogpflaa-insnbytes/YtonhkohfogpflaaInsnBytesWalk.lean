/-
  The law InsnBytes, walked: true for every instruction and all bytes.
-/
import Derived.Test.YtonhkohfogpflaaAwake
import Derived.Test.YtonhkohfogpflaaRefDec
import Derived.Test.YtonhkohfogpflaaRefEnc
import Derived.Test.YtonhkohfogpflaaSame
import Derived.Test.YtonhkohfogpflaaSwitch
namespace Go.Proofs.Ytonhkohfogpflaa
open Go.RowKit

set_option linter.unusedSimpArgs false in
set_option maxHeartbeats 1000000 in
theorem insnBytes_walk (x : In) (a : Option Addr) (len cap : Nat) (l : List Int) (w : World) (hx : x.ok) (hb : Bs w a len l) :
    Calls Try.prog 4 #[x.val, .slice a len cap] w fun e w' => e = .returned (.bool true) ∧ Below w.heap.size w w' := by
  have BX : Hid (Byt x.enc) := x.enc_byt hx
  have HX : Hid (∀ W : World, Calls Try.prog 18 #[x.val] W fun e w' => Below W.heap.size W w' ∧ ∃ v', e = .returned v' ∧ w'.ownsRow W.heap.size 5 1 v' 8 (cellsB x.enc)) := fun W => encode_any x W hx
  have HY : Hid (∀ W : World, Calls Try.prog 19 #[x.val] W fun e w' => Below W.heap.size W w' ∧ ∃ v', e = .returned v' ∧ w'.ownsRow W.heap.size 5 1 v' 8 (cellsB x.enc)) := fun W => refEncode_any x W hx
  have HD : Hid (∀ W : World, Bs W a len l → Calls Try.prog 16 #[.slice a len cap] W fun e w' => e = .returned (.tuple #[(decOf l).val, .int .i64 (errOf len)]) ∧ Below W.heap.size W w') := fun W h => decode_any a len cap l W h
  have HR : Hid (∀ W : World, Bs W a len l → Calls Try.prog 17 #[.slice a len cap] W fun e w' => e = .returned (.tuple #[(decOf l).val, .int .i64 (errOf len)]) ∧ Below W.heap.size W w') := fun W h => refDecode_any a len cap l W h
  have hq1 : ∀ W : World, (binOp .eql 27 (decOf l).val (decOf l).val).run Try.prog W = .ok (.bool true) W := fun W => by rw [eql_in, In.same_self]
  have hq2 : ∀ W : World, (Op.equalIn 10000 27 (decOf l).val (decOf l).val).run Try.prog W = .ok true W := fun W => by rw [equalIn_in, In.same_self]
  generalize x.enc = ex at *
  generalize decOf l = d at *
  generalize errOf len = er at *
  obtain ⟨c, t, f, k⟩ := x
  obtain ⟨c2, t2, f2, k2⟩ := d
  unfold In.val at *
  dsimp only at *
  clear hx
  have f1 := four_new w (.int .u16 c) (.int .u8 t) (.int .u8 f) (.int .u32 k)
  have b1 : Below w.heap.size w (w.alloc (Obj.cells #[.int .u16 c, .int .u8 t, .int .u8 f, .int .u32 k] 27)) := (Below.refl _ _).alloc (Nat.le_refl _) _
  go_enter Try.func4, Try.ntmps4
  go_wp2_with fail
  generalize w.alloc (Obj.cells #[.int .u16 c, .int .u8 t, .int .u8 f, .int .u32 k] 27) = W0 at *
  refine (awake_any _).mono ?_
  rintro e X ⟨rfl, hbX⟩
  have g1 := f1.below hbX f1.lt
  have bX := b1.trans (hbX.mono b1.size)
  clear f1 hbX b1
  go_wp2_with fail
  refine (HD.out X (hb.below bX)).mono ?_
  rintro e Y ⟨rfl, hbY⟩
  have g1 := g1.below hbY g1.lt
  have bY := bX.trans (hbY.mono bX.size)
  clear hbY
  have g2 := four_new Y (.int .u16 c2) (.int .u8 t2) (.int .u8 f2) (.int .u32 k2)
  have bZ := bY.alloc bY.size (Obj.cells #[.int .u16 c2, .int .u8 t2, .int .u8 f2, .int .u32 k2] 27)
  have g1 := g1.below ((Below.refl Y.heap.size Y).alloc (Nat.le_refl _) (Obj.cells #[.int .u16 c2, .int .u8 t2, .int .u8 f2, .int .u32 k2] 27)) g1.lt
  go_wp2_with fail
  generalize hZ : Y.alloc (Obj.cells #[.int .u16 c2, .int .u8 t2, .int .u8 f2, .int .u32 k2] 27) = Z at *
  refine (HR.out Z (hb.below bZ)).mono ?_
  rintro e Y2 ⟨rfl, hbY2⟩
  replace g1 := g1.below hbY2 g1.lt
  replace g2 := g2.below hbY2 g2.lt
  have bY2 := bZ.trans (hbY2.mono bZ.size)
  clear hbY2 bZ hZ bY
  have g3 := four_new Y2 (.int .u16 c2) (.int .u8 t2) (.int .u8 f2) (.int .u32 k2)
  have bV := bY2.alloc bY2.size (Obj.cells #[.int .u16 c2, .int .u8 t2, .int .u8 f2, .int .u32 k2] 27)
  have e3 : Below Y2.heap.size Y2 (Y2.alloc (Obj.cells #[.int .u16 c2, .int .u8 t2, .int .u8 f2, .int .u32 k2] 27)) := (Below.refl Y2.heap.size Y2).alloc (Nat.le_refl _) _
  replace g1 := g1.below e3 g1.lt
  replace g2 := g2.below e3 g2.lt
  clear e3 bY2 hb
  go_wp2_with fail
  generalize Y2.alloc (Obj.cells #[.int .u16 c2, .int .u8 t2, .int .u8 f2, .int .u32 k2] 27) = V at *
  generalize hB1 : w.heap.size = B1 at *
  generalize Y.heap.size = B2 at *
  generalize Y2.heap.size = B3 at *
  refine wp_region_held_drew (S := (fun w' => (Four w' B1 (.int .u16 c) (.int .u8 t) (.int .u8 f) (.int .u32 k) ∧ Four w' B2 (.int .u16 c2) (.int .u8 t2) (.int .u8 f2) (.int .u32 k2) ∧ Four w' B3 (.int .u16 c2) (.int .u8 t2) (.int .u8 f2) (.int .u32 k2)))) (by kernel_rfl) (⟨g1.below (Below.refl _ _).drew g1.lt, g2.below (Below.refl _ _).drew g2.lt, g3.below (Below.refl _ _).drew g3.lt⟩) (fun hHeld => ?_)
  simp only [List.size_toArray, List.length_cons, List.length_nil, Nat.reduceAdd]
  refine wpAnyH_take (i := 0) (v := ?_) rfl (by kernel_rfl) (by kernel_rfl) (by kernel_rfl) (fun _ _ _ h => h) (Or.inl ⟨by rfl, ?_⟩) hHeld ?_
  rotate_left
  · (intro w hSw; (try dsimp only at hSw); go_simp; try with_reducible rfl)
  try simp only [Act.put, List.setIfInBounds_toArray, List.set_cons_zero, List.set_cons_succ, List.getElem_toArray, List.getElem_cons_zero, List.getElem_cons_succ]
  refine wpAnyH_take (i := 1) (v := ?_) rfl (by kernel_rfl) (by kernel_rfl) (by kernel_rfl) (fun _ _ _ h => h) (Or.inl ⟨by rfl, ?_⟩) hHeld ?_
  rotate_left
  · (intro w hSw; (try dsimp only at hSw); go_simp; try with_reducible rfl)
  try simp only [Act.put, List.setIfInBounds_toArray, List.set_cons_zero, List.set_cons_succ, List.getElem_toArray, List.getElem_cons_zero, List.getElem_cons_succ]
  refine wpAnyH_take (i := 2) (v := ?_) rfl (by kernel_rfl) (by kernel_rfl) (by kernel_rfl) (fun _ _ _ h => h) (Or.inl ⟨by rfl, ?_⟩) hHeld ?_
  rotate_left
  · (intro w hSw; (try dsimp only at hSw); have s0 := (hSw.1).c0; have s1 := (hSw.1).c1; have s2 := (hSw.1).c2; have s3 := (hSw.1).c3; go_simp; try with_reducible rfl)
  try simp only [Act.put, List.setIfInBounds_toArray, List.set_cons_zero, List.set_cons_succ, List.getElem_toArray, List.getElem_cons_zero, List.getElem_cons_succ]
  refine wpAnyH_take (i := 5) (v := ?_) rfl (by kernel_rfl) (by kernel_rfl) (by kernel_rfl) (fun _ _ _ h => h) (Or.inl ⟨by rfl, ?_⟩) hHeld ?_
  rotate_left
  · (intro w hSw; (try dsimp only at hSw); have s0 := (hSw.1).c0; have s1 := (hSw.1).c1; have s2 := (hSw.1).c2; have s3 := (hSw.1).c3; go_simp; try with_reducible rfl)
  try simp only [Act.put, List.setIfInBounds_toArray, List.set_cons_zero, List.set_cons_succ, List.getElem_toArray, List.getElem_cons_zero, List.getElem_cons_succ]
  refine wpAnyH_ready (rs := [3]) (by kernel_rfl) (by simp) ?_
  refine AllReadyH.cons rfl (fun K hK => ?_) AllReadyH.nil
  go_simp
  refine (HX.out _).mono ?_
  rintro e w2 ⟨hb2, v2, rfl, ho2⟩
  obtain ⟨a2, cap2, rfl, bs2, _⟩ := owns_bs ho2 BX.out
  go_wp2_with fail
  refine hK.out _ _ (⟨(hHeld).1.below hb2 (hHeld).1.lt, (hHeld).2.1.below hb2 (hHeld).2.1.lt, (hHeld).2.2.below hb2 (hHeld).2.2.lt⟩) (fun hHeld => ?_)
  clear hK K
  try simp only [Act.put, List.setIfInBounds_toArray, List.set_cons_zero, List.set_cons_succ, List.getElem_toArray, List.getElem_cons_zero, List.getElem_cons_succ]
  refine wpAnyH_switch (S2 := (fun w' => (Four w' B1 (.int .u16 c) (.int .u8 t) (.int .u8 f) (.int .u32 k) ∧ Four w' B2 (.int .u16 c2) (.int .u8 t2) (.int .u8 f2) (.int .u32 k2) ∧ Four w' B3 (.int .u16 c2) (.int .u8 t2) (.int .u8 f2) (.int .u32 k2)) ∧ Bs w' a2 8 ex)) (fun _ h => h.1) ?_
  replace hHeld : ((fun w' => (Four w' B1 (.int .u16 c) (.int .u8 t) (.int .u8 f) (.int .u32 k) ∧ Four w' B2 (.int .u16 c2) (.int .u8 t2) (.int .u8 f2) (.int .u32 k2) ∧ Four w' B3 (.int .u16 c2) (.int .u8 t2) (.int .u8 f2) (.int .u32 k2)) ∧ Bs w' a2 8 ex)) _ := ⟨hHeld, bs2⟩
  refine wpAnyH_take (i := 4) (v := ?_) rfl (by kernel_rfl) (by kernel_rfl) (by kernel_rfl) (fun _ _ _ h => h) (Or.inl ⟨by rfl, ?_⟩) hHeld ?_
  rotate_left
  · (intro w hSw; (try dsimp only at hSw); have cx := run_text hSw.2 cap2; go_simp; try with_reducible rfl)
  try simp only [Act.put, List.setIfInBounds_toArray, List.set_cons_zero, List.set_cons_succ, List.getElem_toArray, List.getElem_cons_zero, List.getElem_cons_succ]
  refine wpAnyH_ready (rs := [6]) (by kernel_rfl) (by simp) ?_
  refine AllReadyH.cons rfl (fun K hK => ?_) AllReadyH.nil
  go_simp
  refine (HY.out _).mono ?_
  rintro e w3 ⟨hb3, v3, rfl, ho3⟩
  obtain ⟨a3, cap3, rfl, bs3, _⟩ := owns_bs ho3 BX.out
  go_wp2_with fail
  refine hK.out _ _ (⟨⟨(hHeld.1).1.below hb3 (hHeld.1).1.lt, (hHeld.1).2.1.below hb3 (hHeld.1).2.1.lt, (hHeld.1).2.2.below hb3 (hHeld.1).2.2.lt⟩, hHeld.2.below hb3⟩) (fun hHeld => ?_)
  clear hK K
  try simp only [Act.put, List.setIfInBounds_toArray, List.set_cons_zero, List.set_cons_succ, List.getElem_toArray, List.getElem_cons_zero, List.getElem_cons_succ]
  refine wpAnyH_switch (S2 := (fun w' => ((Four w' B1 (.int .u16 c) (.int .u8 t) (.int .u8 f) (.int .u32 k) ∧ Four w' B2 (.int .u16 c2) (.int .u8 t2) (.int .u8 f2) (.int .u32 k2) ∧ Four w' B3 (.int .u16 c2) (.int .u8 t2) (.int .u8 f2) (.int .u32 k2)) ∧ Bs w' a2 8 ex) ∧ Bs w' a3 8 ex)) (fun _ h => h.1) ?_
  replace hHeld : ((fun w' => ((Four w' B1 (.int .u16 c) (.int .u8 t) (.int .u8 f) (.int .u32 k) ∧ Four w' B2 (.int .u16 c2) (.int .u8 t2) (.int .u8 f2) (.int .u32 k2) ∧ Four w' B3 (.int .u16 c2) (.int .u8 t2) (.int .u8 f2) (.int .u32 k2)) ∧ Bs w' a2 8 ex) ∧ Bs w' a3 8 ex)) _ := ⟨hHeld, bs3⟩
  refine wpAnyH_take (i := 7) (v := ?_) rfl (by kernel_rfl) (by kernel_rfl) (by kernel_rfl) (fun _ _ _ h => h) (Or.inl ⟨by rfl, ?_⟩) hHeld ?_
  rotate_left
  · (intro w hSw; (try dsimp only at hSw); have cx := run_text hSw.2 cap3; go_simp; try with_reducible rfl)
  try simp only [Act.put, List.setIfInBounds_toArray, List.set_cons_zero, List.set_cons_succ, List.getElem_toArray, List.getElem_cons_zero, List.getElem_cons_succ]
  refine wpAnyH_take (i := 8) (v := ?_) rfl (by kernel_rfl) (by kernel_rfl) (by kernel_rfl) (fun _ _ _ h => h) (Or.inl ⟨by rfl, ?_⟩) hHeld ?_
  rotate_left
  · (intro w hSw; (try dsimp only at hSw); go_simp; try with_reducible rfl)
  try simp only [Act.put, List.setIfInBounds_toArray, List.set_cons_zero, List.set_cons_succ, List.getElem_toArray, List.getElem_cons_zero, List.getElem_cons_succ]
  refine wpAnyH_take (i := 9) (v := ?_) rfl (by kernel_rfl) (by kernel_rfl) (by kernel_rfl) (fun _ _ _ h => h) (Or.inl ⟨by rfl, ?_⟩) hHeld ?_
  rotate_left
  · (intro w hSw; (try dsimp only at hSw); go_simp; try with_reducible rfl)
  try simp only [Act.put, List.setIfInBounds_toArray, List.set_cons_zero, List.set_cons_succ, List.getElem_toArray, List.getElem_cons_zero, List.getElem_cons_succ]
  refine wpAnyH_take (i := 10) (v := ?_) rfl (by kernel_rfl) (by kernel_rfl) (by kernel_rfl) (fun _ _ _ h => h) (Or.inl ⟨by rfl, ?_⟩) hHeld ?_
  rotate_left
  · (intro w hSw; (try dsimp only at hSw); go_simp; try with_reducible rfl)
  try simp only [Act.put, List.setIfInBounds_toArray, List.set_cons_zero, List.set_cons_succ, List.getElem_toArray, List.getElem_cons_zero, List.getElem_cons_succ]
  refine wpAnyH_take (i := 11) (v := ?_) rfl (by kernel_rfl) (by kernel_rfl) (by kernel_rfl) (fun _ _ _ h => h) (Or.inl ⟨by rfl, ?_⟩) hHeld ?_
  rotate_left
  · (intro w hSw; (try dsimp only at hSw); have s0 := (hSw.1.1.2.1).c0; have s1 := (hSw.1.1.2.1).c1; have s2 := (hSw.1.1.2.1).c2; have s3 := (hSw.1.1.2.1).c3; go_simp; try with_reducible rfl)
  try simp only [Act.put, List.setIfInBounds_toArray, List.set_cons_zero, List.set_cons_succ, List.getElem_toArray, List.getElem_cons_zero, List.getElem_cons_succ]
  refine wpAnyH_take (i := 12) (v := ?_) rfl (by kernel_rfl) (by kernel_rfl) (by kernel_rfl) (fun _ _ _ h => h) (Or.inl ⟨by rfl, ?_⟩) hHeld ?_
  rotate_left
  · (intro w hSw; (try dsimp only at hSw); have s0 := (hSw.1.1.2.2).c0; have s1 := (hSw.1.1.2.2).c1; have s2 := (hSw.1.1.2.2).c2; have s3 := (hSw.1.1.2.2).c3; go_simp; try with_reducible rfl)
  try simp only [Act.put, List.setIfInBounds_toArray, List.set_cons_zero, List.set_cons_succ, List.getElem_toArray, List.getElem_cons_zero, List.getElem_cons_succ]
  refine wpAnyH_take (i := 13) (v := ?_) rfl (by kernel_rfl) (by kernel_rfl) (by kernel_rfl) (fun _ _ _ h => h) (Or.inl ⟨by rfl, ?_⟩) hHeld ?_
  rotate_left
  · (intro w hSw; (try dsimp only at hSw); go_simp; try with_reducible rfl)
  try simp only [Act.put, List.setIfInBounds_toArray, List.set_cons_zero, List.set_cons_succ, List.getElem_toArray, List.getElem_cons_zero, List.getElem_cons_succ]
  refine wpAnyH_take (i := 14) (v := ?_) rfl (by kernel_rfl) (by kernel_rfl) (by kernel_rfl) (fun _ _ _ h => h) (Or.inl ⟨by rfl, ?_⟩) hHeld ?_
  rotate_left
  · (intro w hSw; (try dsimp only at hSw); go_simp; try with_reducible rfl)
  try simp only [Act.put, List.setIfInBounds_toArray, List.set_cons_zero, List.set_cons_succ, List.getElem_toArray, List.getElem_cons_zero, List.getElem_cons_succ]
  refine wpAnyH_take (i := 15) (v := ?_) rfl (by kernel_rfl) (by kernel_rfl) (by kernel_rfl) (fun _ _ _ h => h) (Or.inl ⟨by rfl, ?_⟩) hHeld ?_
  rotate_left
  · (intro w hSw; (try dsimp only at hSw); go_simp; try with_reducible rfl)
  try simp only [Act.put, List.setIfInBounds_toArray, List.set_cons_zero, List.set_cons_succ, List.getElem_toArray, List.getElem_cons_zero, List.getElem_cons_succ]
  refine wpAnyH_take (i := 16) (v := ?_) rfl (by kernel_rfl) (by kernel_rfl) (by kernel_rfl) (fun _ _ _ h => h) (Or.inl ⟨by rfl, ?_⟩) hHeld ?_
  rotate_left
  · (intro w hSw; (try dsimp only at hSw); go_simp; try with_reducible rfl)
  try simp only [Act.put, List.setIfInBounds_toArray, List.set_cons_zero, List.set_cons_succ, List.getElem_toArray, List.getElem_cons_zero, List.getElem_cons_succ]
  refine wpAnyH_take (i := 17) (v := ?_) rfl (by kernel_rfl) (by kernel_rfl) (by kernel_rfl) (fun _ _ _ h => h) (Or.inl ⟨by rfl, ?_⟩) hHeld ?_
  rotate_left
  · (intro w hSw; (try dsimp only at hSw); go_simp; try with_reducible rfl)
  try simp only [Act.put, List.setIfInBounds_toArray, List.set_cons_zero, List.set_cons_succ, List.getElem_toArray, List.getElem_cons_zero, List.getElem_cons_succ]
  refine wpAnyH_take (i := 18) (v := ?_) rfl (by kernel_rfl) (by kernel_rfl) (by kernel_rfl) (fun _ _ _ h => h) (Or.inl ⟨by rfl, ?_⟩) hHeld ?_
  rotate_left
  · (intro w hSw; (try dsimp only at hSw); go_simp; try with_reducible rfl)
  try simp only [Act.put, List.setIfInBounds_toArray, List.set_cons_zero, List.set_cons_succ, List.getElem_toArray, List.getElem_cons_zero, List.getElem_cons_succ]
  refine wpAnyH_take (i := 19) (v := ?_) rfl (by kernel_rfl) (by kernel_rfl) (by kernel_rfl) (fun _ _ _ h => h) (Or.inl ⟨by rfl, ?_⟩) hHeld ?_
  rotate_left
  · (intro w hSw; (try dsimp only at hSw); go_simp; try with_reducible rfl)
  try simp only [Act.put, List.setIfInBounds_toArray, List.set_cons_zero, List.set_cons_succ, List.getElem_toArray, List.getElem_cons_zero, List.getElem_cons_succ]
  refine wpAnyH_take (i := 20) (v := ?_) rfl (by kernel_rfl) (by kernel_rfl) (by kernel_rfl) (fun _ _ _ h => h) (Or.inl ⟨by rfl, ?_⟩) hHeld ?_
  rotate_left
  · (intro w hSw; (try dsimp only at hSw); go_simp; try with_reducible rfl)
  try simp only [Act.put, List.setIfInBounds_toArray, List.set_cons_zero, List.set_cons_succ, List.getElem_toArray, List.getElem_cons_zero, List.getElem_cons_succ]
  refine wpAnyH_done (by kernel_rfl) ?_ _
  go_wp2_with fail
  go_ret
  have z1 : B1 ≤ V.drew.heap.size := by rw [← hB1]; exact bV.size
  have c1 := bV.drew.trans (hb2.mono z1)
  have z2 : B1 ≤ w2.heap.size := by rw [← hB1]; exact c1.size
  exact ⟨rfl, c1.trans (hb3.mono z2)⟩

end Go.Proofs.Ytonhkohfogpflaa
