/-
  The document's own bytes of a call, proved of every call.
-/
import Derived.Test.YtpdndcmaaghnjaaDRefLow
import Derived.Test.YtpdndcmaaghnjaaDStep
import Derived.Deep.DeepCutAuto
namespace Go.Proofs.Ytpdndcmaaghnjaa.D
open Go.RowKit

set_option linter.unusedSimpArgs false in
set_option maxHeartbeats 2000000 in
theorem refBytes_any (d : Da) (w : World) (hd : d.ok) :
    Calls Try.prog 18 #[d.val] w fun e w' => Below w.heap.size w w' ∧ ∃ v, e = .returned v ∧ w'.ownsRow w.heap.size 5 1 v 64 (cellsB d.enc) := by
  have HE : Hid (low d.n 4 ++ low d.a 4 ++ low d.p 8 ++ lowG d.g = d.enc) := ref_enc d hd
  have Z1 := blk_new w d.cells.toArray 26
  have Z5 : Below w.heap.size w (w.alloc (Obj.cells d.cells.toArray 26)) := (Below.refl _ _).alloc (Nat.le_refl _) _
  have ZS : (w.alloc (Obj.cells d.cells.toArray 26)).heap.size = w.heap.size + 1 := size_alloc' _ _
  have C0 : Hid (d.cells[0]? = some (.int .u32 d.n)) := rfl
  have C1 : Hid (d.cells[1]? = some (.int .u32 d.a)) := rfl
  have CG : Hid (∀ k, k < 6 → d.cells[3 + k]? = some (.int .u64 (d.g.getD k 0))) := by
    intro k hk
    have := hd.2.2.2.1
    rw [Nat.add_comm]
    simp [Da.cells, List.getElem?_eq_getElem (show k < d.g.length by omega)]
  have UG : Hid (∀ k, k < 6 → U64 (d.g.getD k 0)) := by
    intro k hk
    rw [List.getD_eq_getElem?_getD, List.getElem?_eq_getElem (show k < d.g.length by have := hd.2.2.2.1; omega)]
    exact hd.2.2.2.2 _ (List.getElem_mem _)
  have LG : Hid (∀ k, k < 6 → lowG (d.g.take (k + 1)) = lowG (d.g.take k) ++ low (d.g.getD k 0) 8) := fun k hk => lowG_take d.g k (by have := hd.2.2.2.1; omega)
  have LA : Hid (d.g.take 6 = d.g) := List.take_of_length_le (by rw [hd.2.2.2.1]; omega)
  have C2 : Hid (d.cells[2]? = some (.int .u64 d.p)) := rfl
  have UP : Hid (U64 d.p) := hd.2.2.1
  have wn : IntKind.u64.wrap d.n = d.n := by have := hd.1; unfold U32 at this; rw [IntKind.wrap_u64]; omega
  have wa : IntKind.u64.wrap d.a = d.a := by have := hd.2.1; unfold U32 at this; rw [IntKind.wrap_u64]; omega
  have UN : Hid (U64 d.n) := by have := hd.1; unfold U32 at this; unfold Hid U64; omega
  have UA : Hid (U64 d.a) := by have := hd.2.1; unfold U32 at this; unfold Hid U64; omega
  unfold Da.val
  clear hd
  generalize d.enc = en at *
  generalize d.cells = A at *
  obtain ⟨dn, da, dp, dg⟩ := d
  dsimp only at *
  have HL4 : Hid (∀ (x : Int) (W : World), U64 x → Calls Try.prog 32 #[.int .u64 x, .int .i64 4] W fun e w' => Below W.heap.size W w' ∧ ∃ v, e = .returned v ∧ w'.ownsRow W.heap.size 5 1 v 4 (cellsB (low x 4))) := fun x W h => low_any x 4 W h (by decide)
  have HL8 : Hid (∀ (x : Int) (W : World), U64 x → Calls Try.prog 32 #[.int .u64 x, .int .i64 8] W fun e w' => Below W.heap.size W w' ∧ ∃ v, e = .returned v ∧ w'.ownsRow W.heap.size 5 1 v 8 (cellsB (low x 8))) := fun x W h => low_any x 8 W h (by decide)
  go_enter Try.func18, Try.ntmps18
  go_wp2_with fail
  generalize w.alloc (Obj.cells A.toArray 26) = W0 at *
  have z1 : Hid (Blk W0 w.heap.size 26 A) := Z1
  have z5 : Hid (Below w.heap.size w W0) := Z5
  clear Z1 Z5
  go_cut [3] (fun v wc => wc.ownsRow (w.heap.size + 1) 5 1 v 8 (cellsB (low dn 4 ++ low da 4)) ∧ Blk wc w.heap.size 26 A ∧ Below w.heap.size w wc)
  case first =>
    refine wp_region_held_drew (S := (fun w' => Blk w' w.heap.size 26 A)) (by kernel_rfl) (z1.out.drew) (fun hHeld => ?_)
    simp only [List.size_toArray, List.length_cons, List.length_nil, Nat.reduceAdd]
    refine wpAnyH_take (i := 0) (v := ?_) rfl (by kernel_rfl) (by kernel_rfl) (by kernel_rfl) (fun _ _ _ h => h) (Or.inl ⟨by rfl, ?_⟩) hHeld ?_
    rotate_left
    · (intro w hSw; (try dsimp only at hSw); go_simp; try with_reducible rfl)
    try simp only [Act.put, List.setIfInBounds_toArray, List.set_cons_zero, List.set_cons_succ, List.getElem_toArray, List.getElem_cons_zero, List.getElem_cons_succ]
    refine wpAnyH_take (i := 1) (v := ?_) rfl (by kernel_rfl) (by kernel_rfl) (by kernel_rfl) (fun _ _ _ h => h) (Or.inl ⟨by rfl, ?_⟩) hHeld ?_
    rotate_left
    · (intro w hSw; (try dsimp only at hSw); have s0 := (hSw.cell 0).trans C0.out; go_simp; try with_reducible rfl)
    try simp only [Act.put, List.setIfInBounds_toArray, List.set_cons_zero, List.set_cons_succ, List.getElem_toArray, List.getElem_cons_zero, List.getElem_cons_succ]
    refine wpAnyH_take (i := 2) (v := ?_) rfl (by kernel_rfl) (by kernel_rfl) (by kernel_rfl) (fun _ _ _ h => h) (Or.inl ⟨by rfl, ?_⟩) hHeld ?_
    rotate_left
    · (intro w hSw; (try dsimp only at hSw); go_simp; try with_reducible rfl)
    try simp only [Act.put, List.setIfInBounds_toArray, List.set_cons_zero, List.set_cons_succ, List.getElem_toArray, List.getElem_cons_zero, List.getElem_cons_succ]
    refine wpAnyH_take (i := 4) (v := ?_) rfl (by kernel_rfl) (by kernel_rfl) (by kernel_rfl) (fun _ _ _ h => h) (Or.inl ⟨by rfl, ?_⟩) hHeld ?_
    rotate_left
    · (intro w hSw; (try dsimp only at hSw); go_simp; try with_reducible rfl)
    try simp only [Act.put, List.setIfInBounds_toArray, List.set_cons_zero, List.set_cons_succ, List.getElem_toArray, List.getElem_cons_zero, List.getElem_cons_succ]
    refine wpAnyH_take (i := 5) (v := ?_) rfl (by kernel_rfl) (by kernel_rfl) (by kernel_rfl) (fun _ _ _ h => h) (Or.inl ⟨by rfl, ?_⟩) hHeld ?_
    rotate_left
    · (intro w hSw; (try dsimp only at hSw); have s1 := (hSw.cell 1).trans C1.out; go_simp; try with_reducible rfl)
    try simp only [Act.put, List.setIfInBounds_toArray, List.set_cons_zero, List.set_cons_succ, List.getElem_toArray, List.getElem_cons_zero, List.getElem_cons_succ]
    refine wpAnyH_take (i := 6) (v := ?_) rfl (by kernel_rfl) (by kernel_rfl) (by kernel_rfl) (fun _ _ _ h => h) (Or.inl ⟨by rfl, ?_⟩) hHeld ?_
    rotate_left
    · (intro w hSw; (try dsimp only at hSw); go_simp; try with_reducible rfl)
    try simp only [Act.put, List.setIfInBounds_toArray, List.set_cons_zero, List.set_cons_succ, List.getElem_toArray, List.getElem_cons_zero, List.getElem_cons_succ]
    refine wpAnyH_ready (rs := [3]) (by kernel_rfl) (by simp) ?_
    refine AllReadyH.cons rfl (fun K hK => ?_) AllReadyH.nil
    go_simp
    refine (HL4.out _ _ UN.out).mono ?_
    rintro e w2 ⟨hb2, v2, rfl, ho2⟩
    have c2 := z5.out.drew.trans (hb2.mono z5.out.size)
    go_wp2_with fail
    refine hK.out _ _ (hHeld.over hb2) (fun hHeld => ?_)
    clear hK K
    try simp only [Act.put, List.setIfInBounds_toArray, List.set_cons_zero, List.set_cons_succ, List.getElem_toArray, List.getElem_cons_zero, List.getElem_cons_succ]
    refine wpAnyH_ready (rs := [7]) (by kernel_rfl) (by simp) ?_
    refine AllReadyH.cons rfl (fun K hK => ?_) AllReadyH.nil
    go_simp
    refine (HL4.out _ _ UA.out).mono ?_
    rintro e w3 ⟨hb3, v3, rfl, ho3⟩
    have c3 := c2.trans (hb3.mono c2.size)
    have ho2' := owns_below ho2 hb3 (Nat.le_refl _)
    obtain ⟨a3, cap3, rfl, bs3, _, hn3⟩ := owns_bs ho3 (low_byt _ _)
    go_wp2_with fail
    refine hK.out _ _ (hHeld.over hb3) (fun hHeld => ?_)
    clear hK K
    try simp only [Act.put, List.setIfInBounds_toArray, List.set_cons_zero, List.set_cons_succ, List.getElem_toArray, List.getElem_cons_zero, List.getElem_cons_succ]
    refine wpAnyH_ready (rs := [8]) (by kernel_rfl) (by simp) ?_
    refine AllReadyH.cons rfl (fun K hK => ?_) AllReadyH.nil
    refine step_append_bytes (by rfl) (.tmp 8) (.tmp 12) (by rfl) (w.heap.size + 1) _ 4 (low dn 4) (by rfl) (owns_lower ho2' (Nat.le_of_eq ZS.symm)) a3 4 cap3 (low da 4) (by rfl) hn3 bs3 (by decide) (by rw [← ZS]; exact Nat.le_trans hb2.size hb3.size) ?_
    intro v4 w4 ho4 hg4
    have c4 := c3.grown hg4 c3.size (owns_block (owns_lower ho2' z5.out.size))
    refine hK.out _ _ (hHeld.grown hg4 (own_ne ho2' (by show w.heap.size < W0.heap.size; rw [ZS]; omega))) (fun hHeld => ?_)
    clear hK K
    try simp only [Act.put, List.setIfInBounds_toArray, List.set_cons_zero, List.set_cons_succ, List.getElem_toArray, List.getElem_cons_zero, List.getElem_cons_succ]
    refine wpAnyH_take (i := 9) (v := ?_) rfl (by kernel_rfl) (by kernel_rfl) (by kernel_rfl) (fun _ _ _ h => h) (Or.inl ⟨by rfl, ?_⟩) hHeld ?_
    rotate_left
    · (intro w hSw; (try dsimp only at hSw); go_simp; try with_reducible rfl)
    try simp only [Act.put, List.setIfInBounds_toArray, List.set_cons_zero, List.set_cons_succ, List.getElem_toArray, List.getElem_cons_zero, List.getElem_cons_succ]
    refine wpAnyH_done (by kernel_rfl) ?_ _
    go_wp2_with fail
    go_meet
    exact ⟨ho4, hHeld, c4⟩
  case rest =>
    obtain ⟨ho, hA, hB⟩ := hcut
    have s2 := (hA.cell 2).trans C2.out
    have h1 : Hid (Blk wc w.heap.size 26 A) := hA
    have h2 : w.heap.size + 1 ≤ wc.heap.size := hA.lt
    clear z1 z5 ZS hA wn wa
    go_wp2_with (first | (go_at_call 32; refine (HL8.out _ _ UP.out).mono ?_; rintro e w2 ⟨hb2, v2, rfl, ho2⟩; have c2 := hB.trans (hb2.mono hB.size); have ho' := owns_below ho hb2 (Nat.le_refl _); have h3 := h1.out.over hb2; obtain ⟨a2, cap2, rfl, bs2, -, hn2⟩ := owns_bs ho2 (low_byt _ _)) | (at_builtin; refine append_bytes rfl (.tmp 14) (.tmp 17) rfl (w.heap.size + 1) _ 8 _ rfl ho' a2 8 cap2 (low dp 8) rfl hn2 bs2 (by decide) h3.lt ?_; intro v4 w4 ho4 hg4; have c4 := c2.grown hg4 c2.size (owns_block (owns_lower ho' (Nat.le_succ _))); have h4 := h3.grown hg4 (own_ne ho' (Nat.lt_succ_self _))))
    have ho5 : w4.ownsRow (w.heap.size + 1) 5 1 v4 (16 + 0 * 8) (cellsB (low dn 4 ++ low da 4 ++ low dp 8 ++ lowG (dg.take 0))) := by
      have : low dn 4 ++ low da 4 ++ low dp 8 ++ lowG (dg.take 0) = low dn 4 ++ low da 4 ++ low dp 8 := List.append_nil _
      rw [this]
      exact ho4
    clear ho ho' ho2 ho4 hg4 bs2 h3 h1 h2 c2 hb2 hB s2 hn2
    have HE2 : Hid (∀ k, k < 6 → low dn 4 ++ low da 4 ++ low dp 8 ++ lowG (dg.take (k + 1)) = low dn 4 ++ low da 4 ++ low dp 8 ++ lowG (dg.take k) ++ low (dg.getD k 0) 8) := by
      intro k hk
      rw [LG.out k hk, ← List.append_assoc]
    have HE3 : Hid (low dn 4 ++ low da 4 ++ low dp 8 ++ lowG (dg.take 6) = en) := by
      unfold Hid
      rw [LA.out]
      exact HE.out
    generalize low dn 4 ++ low da 4 ++ low dp 8 = P0 at *
    clear HL4 LG LA HE UN UA UP C0 C1 C2
    go_loopw [3, 4] (fun v i wr => ∃ k : Nat, k ≤ 6 ∧ i = .int .i64 k ∧ wr.ownsRow (w.heap.size + 1) 5 1 v (16 + k * 8) (cellsB (P0 ++ lowG (dg.take k))) ∧ Blk wr w.heap.size 26 A ∧ Below w.heap.size w wr) (fun _ i _ => 6 - (intOf i).toNat)
    case atStart => exact ⟨0, by decide, rfl, ho5, h4, c4⟩
    case round =>
      obtain ⟨k, hk, rfl, ho, hA, hB⟩ := hrel
      clear ho5 h4 c4
      by_cases hlt : k < 6
      · have s2 := (hA.cell (3 + k)).trans (CG.out k hlt)
        have HU : Hid (U64 (dg.getD k 0)) := UG.out k hlt
        have HN : Hid (P0 ++ lowG (dg.take (k + 1)) = P0 ++ lowG (dg.take k) ++ low (dg.getD k 0) 8) := HE2.out k hlt
        have h1 : Hid (Blk wr w.heap.size 26 A) := hA
        have h2 : w.heap.size + 1 ≤ wr.heap.size := hA.lt
        clear hA
        generalize dg.getD k 0 = x at *
        generalize P0 ++ lowG (dg.take k) = P1 at *
        have hi1 : (k : Int) < 6 := by omega
        go_wp2_with (first | (go_at_call 32; refine (HL8.out _ _ HU.out).mono ?_; rintro e w2 ⟨hb2, v2, rfl, ho2⟩; have c2 := hB.trans (hb2.mono hB.size); have ho' := owns_below ho hb2 (Nat.le_refl _); have h3 := h1.out.over hb2; obtain ⟨a2, cap2, rfl, bs2, -, hn2⟩ := owns_bs ho2 (low_byt _ _)) | (at_builtin; refine append_bytes rfl (.tmp 23) (.tmp 28) rfl (w.heap.size + 1) _ (16 + k * 8) _ rfl ho' a2 8 cap2 (low x 8) rfl hn2 bs2 (by omega) h3.lt ?_; intro v4 w4 ho4 hg4; have c4 := c2.grown hg4 c2.size (owns_block (owns_lower ho' (Nat.le_succ _))); have h4 := h3.grown hg4 (own_ne ho' (Nat.lt_succ_self _))))
        go_roundw
        case rel =>
          refine ⟨k + 1, by omega, by go_num, ?_, h4, c4⟩
          rw [HN.out, show 16 + (k + 1) * 8 = 16 + k * 8 + 8 by omega]
          exact ho4
        case measure => simp [intOf]; omega
      · have hi1 : ¬ (k : Int) < 6 := by omega
        obtain ⟨e1, e2⟩ : 16 + k * 8 = 64 ∧ P0 ++ lowG (dg.take k) = en := by
          obtain rfl : k = 6 := by omega
          exact ⟨rfl, HE3.out⟩
        rw [e1, e2] at ho
        clear e1 e2 hlt hk
        go_wp2
        go_ret
        exact ⟨hB, _, rfl, owns_lower ho (Nat.le_succ _)⟩

end Go.Proofs.Ytpdndcmaaghnjaa.D
