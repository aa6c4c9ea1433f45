/-
  The document's own call of bytes, proved of every slice of bytes.
-/
import Derived.Test.YtpdndcmaaghnjaaDOf
import Derived.Test.YtpdndcmaaghnjaaDRefLow
namespace Go.Proofs.Ytpdndcmaaghnjaa.D
open Go.RowKit

theorem readW_get (l : List Int) (i : Nat) (hi : i < 16) : (readW l 16).getD i 0 = r4 (l.drop (i * 4)) := by simp [readW, hi]

theorem num_word (l : List Int) (i : Nat) (hi : i < 16) (hl : l.length = 64) : num ((l.drop (i * 4)).take 4) = (readW l 16).getD i 0 := by
  rw [readW_get l i hi]
  exact num_four _ (by rw [List.length_drop]; omega)

theorem num_pair (l : List Int) (i : Nat) (hi : i + 1 < 16) (hl : l.length = 64) : num ((l.drop (i * 4)).take 8) = both ((readW l 16).getD i 0) ((readW l 16).getD (i + 1) 0) := by
  rw [readW_get l i (by omega), readW_get l (i + 1) hi, num_eight _ (by rw [List.length_drop]; omega), List.drop_drop, show i * 4 + 4 = (i + 1) * 4 by omega]

theorem Bs.other {w : World} {b off len : Nat} {l : List Int} (h : Bs w (some ⟨b, off, none⟩) len l) (a : Addr) (v : Value) (hne : b ≠ a.block) : Bs (w.setCell a v) (some ⟨b, off, none⟩) len l := by
  refine ⟨h.1, h.2.1, fun h0 => ?_⟩
  obtain ⟨_, _, e, hc⟩ := h.2.2 h0
  cases e
  refine ⟨b, off, rfl, fun i hi => ?_⟩
  rw [← hc i hi]
  exact World.cell?_of_block (heap_setCell_other w a b v hne)

theorem Bs.head {w : World} {b off len : Nat} {l : List Int} (h : Bs w (some ⟨b, off, none⟩) len l) (m : Nat) (hm : m ≤ len) : Bs w (some ⟨b, off, none⟩) m (l.take m) := by
  have := h.sub 0 m (by omega)
  simpa using this

set_option linter.unusedSimpArgs false in
set_option maxHeartbeats 2000000 in
theorem refOf_64 (a : Option Addr) (cap : Nat) (l : List Int) (w : World) (hb : Bs w a 64 l) (hcap : 64 ≤ cap) :
    Calls Try.prog 25 #[.slice a 64 cap] w fun e w' => e = .returned (.tuple #[(join (readW l 16)).val, .int .i64 0]) ∧ Below w.heap.size w w' := by
  have hl := hb.1
  obtain ⟨b, off, rfl, hcell⟩ := hb.2.2 (by decide)
  have hlb : Hid (b < w.heap.size) := World.block_lt_of_cell? w _ (hcell 0 (by decide))
  clear hcell
  have N0 : Hid (num (l.take 4) = (readW l 16).getD 0 0) := num_word l 0 (by decide) hl
  have N1 : Hid (num ((l.drop 4).take 4) = (readW l 16).getD 1 0) := num_word l 1 (by decide) hl
  have N2 : Hid (num ((l.drop 8).take 8) = both ((readW l 16).getD 2 0) ((readW l 16).getD 3 0)) := num_pair l 2 (by decide) hl
  have NK : Hid (∀ k, k < 6 → num ((l.drop (16 + 8 * k)).take 8) = both ((readW l 16).getD (4 + 2 * k) 0) ((readW l 16).getD (4 + 2 * k + 1) 0)) := by
    intro k hk
    rw [← num_pair l (4 + 2 * k) (by omega) hl, show (4 + 2 * k) * 4 = 16 + 8 * k by omega]
  have V0 : Hid (IntKind.u32.wrap ((readW l 16).getD 0 0) = (readW l 16).getD 0 0) := by
    have := getD_u (readW_u l 16 hb.2.1) 0
    unfold U32 at this
    unfold Hid
    rw [IntKind.wrap_u32]
    omega
  have V1 : Hid (IntKind.u32.wrap ((readW l 16).getD 1 0) = (readW l 16).getD 1 0) := by
    have := getD_u (readW_u l 16 hb.2.1) 1
    unfold U32 at this
    unfold Hid
    rw [IntKind.wrap_u32]
    omega
  have HN4 : Hid (∀ (b off cap : Nat) (l : List Int) (W : World), Bs W (some ⟨b, off, none⟩) 4 l → Calls Try.prog 40 #[.slice (some ⟨b, off, none⟩) 4 cap] W fun e w' => e = .returned (.int .u64 (num l)) ∧ w' = W) := fun b off cap l W h => number_any _ 4 cap l W h (by decide)
  have HN8 : Hid (∀ (b off cap : Nat) (l : List Int) (W : World), Bs W (some ⟨b, off, none⟩) 8 l → Calls Try.prog 40 #[.slice (some ⟨b, off, none⟩) 8 cap] W fun e w' => e = .returned (.int .u64 (num l)) ∧ w' = W) := fun b off cap l W h => number_any _ 8 cap l W h (by decide)
  have Z1 := blk_new w zero9.toArray 26
  have Z5 : Below w.heap.size w (w.alloc (Obj.cells zero9.toArray 26)) := (Below.refl _ _).alloc (Nat.le_refl _) _
  have ZS : (w.alloc (Obj.cells zero9.toArray 26)).heap.size = w.heap.size + 1 := size_alloc' _ _
  have ZB := hb.below Z5
  clear hb hl
  unfold zero9 at Z1 Z5 ZS ZB
  have k4 : (4 : Int) ≤ (cap : Int) := by omega
  have k8 : (8 : Int) ≤ (cap : Int) := by omega
  have k16 : (16 : Int) ≤ (cap : Int) := by omega
  have l4 : 4 ≤ cap := by omega
  have l8 : 8 ≤ cap := by omega
  have l16 : 16 ≤ cap := by omega
  go_enter Try.func25, Try.ntmps25
  go_wp2_with fail
  generalize w.alloc (Obj.cells #[.int .u32 0, .int .u32 0, .int .u64 0, .int .u64 0, .int .u64 0, .int .u64 0, .int .u64 0, .int .u64 0, .int .u64 0] 26) = W0 at *
  have z1 : Hid (Blk W0 w.heap.size 26 zero9) := Z1
  have z5 : Hid (Below w.heap.size w W0) := Z5
  have zb : Hid (Bs W0 (some ⟨b, off, none⟩) 64 l) := ZB
  clear Z1 Z5 ZB
  go_cut [4] (fun v wc => v = .pointer (some ⟨w.heap.size + 1, 0, none⟩) ∧ Blk wc (w.heap.size + 1) 26 (joinTo (readW l 16) 0) ∧ Blk wc w.heap.size 26 zero9 ∧ Bs wc (some ⟨b, off, none⟩) 64 l ∧ Below w.heap.size w wc)
  case first =>
    refine wp_region_held_drew (S := (fun w' => Bs w' (some ⟨b, off, none⟩) 64 l)) (by kernel_rfl) (zb.out.below (Below.refl _ _).drew) (fun hHeld => ?_)
    simp only [List.size_toArray, List.length_cons, List.length_nil, Nat.reduceAdd]
    refine wpAnyH_take (i := 0) (v := ?_) rfl (by kernel_rfl) (by kernel_rfl) (by kernel_rfl) (fun _ _ _ h => h) (Or.inl ⟨by rfl, ?_⟩) hHeld ?_
    rotate_left
    · (intro w hSw; (try dsimp only at hSw); go_simp; try with_reducible rfl)
    try simp only [Act.put, List.setIfInBounds_toArray, List.set_cons_zero, List.set_cons_succ, List.getElem_toArray, List.getElem_cons_zero, List.getElem_cons_succ]
    refine wpAnyH_take (i := 1) (v := ?_) rfl (by kernel_rfl) (by kernel_rfl) (by kernel_rfl) (fun _ _ _ h => h) (Or.inl ⟨by rfl, ?_⟩) hHeld ?_
    rotate_left
    · (intro w hSw; (try dsimp only at hSw); go_simp; try with_reducible rfl)
    try simp only [Act.put, List.setIfInBounds_toArray, List.set_cons_zero, List.set_cons_succ, List.getElem_toArray, List.getElem_cons_zero, List.getElem_cons_succ]
    refine wpAnyH_take (i := 4) (v := ?_) rfl (by kernel_rfl) (by kernel_rfl) (by kernel_rfl) (fun _ _ _ h => h) (Or.inl ⟨by rfl, ?_⟩) hHeld ?_
    rotate_left
    · (intro w hSw; (try dsimp only at hSw); go_simp; try with_reducible rfl)
    try simp only [Act.put, List.setIfInBounds_toArray, List.set_cons_zero, List.set_cons_succ, List.getElem_toArray, List.getElem_cons_zero, List.getElem_cons_succ]
    refine wpAnyH_take (i := 5) (v := ?_) rfl (by kernel_rfl) (by kernel_rfl) (by kernel_rfl) (fun _ _ _ h => h) (Or.inl ⟨by rfl, ?_⟩) hHeld ?_
    rotate_left
    · (intro w hSw; (try dsimp only at hSw); go_simp; try with_reducible rfl)
    try simp only [Act.put, List.setIfInBounds_toArray, List.set_cons_zero, List.set_cons_succ, List.getElem_toArray, List.getElem_cons_zero, List.getElem_cons_succ]
    refine wpAnyH_take (i := 8) (v := ?_) rfl (by kernel_rfl) (by kernel_rfl) (by kernel_rfl) (fun _ _ _ h => h) (Or.inl ⟨by rfl, ?_⟩) hHeld ?_
    rotate_left
    · (intro w hSw; (try dsimp only at hSw); go_simp; try with_reducible rfl)
    try simp only [Act.put, List.setIfInBounds_toArray, List.set_cons_zero, List.set_cons_succ, List.getElem_toArray, List.getElem_cons_zero, List.getElem_cons_succ]
    refine wpAnyH_take (i := 9) (v := ?_) rfl (by kernel_rfl) (by kernel_rfl) (by kernel_rfl) (fun _ _ _ h => h) (Or.inl ⟨by rfl, ?_⟩) hHeld ?_
    rotate_left
    · (intro w hSw; (try dsimp only at hSw); go_simp; try with_reducible rfl)
    try simp only [Act.put, List.setIfInBounds_toArray, List.set_cons_zero, List.set_cons_succ, List.getElem_toArray, List.getElem_cons_zero, List.getElem_cons_succ]
    refine wpAnyH_ready (rs := [2, 12]) (by kernel_rfl) (by simp) ?_
    refine AllReadyH.cons rfl (fun K hK => ?_) (AllReadyH.cons rfl (fun K hK => ?_) AllReadyH.nil)
    ·
      go_simp
      refine (HN4.out _ _ _ _ _ (hHeld.head 4 (by decide))).mono ?_
      rintro e w2 ⟨rfl, hw2⟩
      subst hw2
      go_wp2_with fail
      refine hK.out _ _ hHeld (fun hHeld => ?_)
      clear hK K
      try simp only [Act.put, List.setIfInBounds_toArray, List.set_cons_zero, List.set_cons_succ, List.getElem_toArray, List.getElem_cons_zero, List.getElem_cons_succ]
      refine wpAnyH_take (i := 3) (v := ?_) rfl (by kernel_rfl) (by kernel_rfl) (by kernel_rfl) (fun _ _ _ h => h) (Or.inl ⟨by rfl, ?_⟩) hHeld ?_
      rotate_left
      · (intro w hSw; (try dsimp only at hSw); go_simp; try with_reducible rfl)
      try simp only [Act.put, List.setIfInBounds_toArray, List.set_cons_zero, List.set_cons_succ, List.getElem_toArray, List.getElem_cons_zero, List.getElem_cons_succ]
      refine wpAnyH_ready (rs := [6, 12]) (by kernel_rfl) (by simp) ?_
      refine AllReadyH.cons rfl (fun K hK => ?_) (AllReadyH.cons rfl (fun K hK => ?_) AllReadyH.nil)
      ·
        go_simp
        refine (HN4.out _ _ _ _ _ (hHeld.sub 4 4 (by decide))).mono ?_
        rintro e w2 ⟨rfl, hw2⟩
        subst hw2
        go_wp2_with fail
        refine hK.out _ _ hHeld (fun hHeld => ?_)
        clear hK K
        try simp only [Act.put, List.setIfInBounds_toArray, List.set_cons_zero, List.set_cons_succ, List.getElem_toArray, List.getElem_cons_zero, List.getElem_cons_succ]
        refine wpAnyH_take (i := 7) (v := ?_) rfl (by kernel_rfl) (by kernel_rfl) (by kernel_rfl) (fun _ _ _ h => h) (Or.inl ⟨by rfl, ?_⟩) hHeld ?_
        rotate_left
        · (intro w hSw; (try dsimp only at hSw); go_simp; try with_reducible rfl)
        try simp only [Act.put, List.setIfInBounds_toArray, List.set_cons_zero, List.set_cons_succ, List.getElem_toArray, List.getElem_cons_zero, List.getElem_cons_succ]
        refine wpAnyH_ready (rs := [10, 12]) (by kernel_rfl) (by simp) ?_
        refine AllReadyH.cons rfl (fun K hK => ?_) (AllReadyH.cons rfl (fun K hK => ?_) AllReadyH.nil)
        ·
          go_simp
          refine (HN8.out _ _ _ _ _ (hHeld.sub 8 8 (by decide))).mono ?_
          rintro e w2 ⟨rfl, hw2⟩
          subst hw2
          go_wp2_with fail
          refine hK.out _ _ hHeld (fun hHeld => ?_)
          clear hK K
          try simp only [Act.put, List.setIfInBounds_toArray, List.set_cons_zero, List.set_cons_succ, List.getElem_toArray, List.getElem_cons_zero, List.getElem_cons_succ]
          refine wpAnyH_take (i := 11) (v := ?_) rfl (by kernel_rfl) (by kernel_rfl) (by kernel_rfl) (fun _ _ _ h => h) (Or.inl ⟨by rfl, ?_⟩) hHeld ?_
          rotate_left
          · (intro w hSw; (try dsimp only at hSw); go_simp; try with_reducible rfl)
          try simp only [Act.put, List.setIfInBounds_toArray, List.set_cons_zero, List.set_cons_succ, List.getElem_toArray, List.getElem_cons_zero, List.getElem_cons_succ]
          refine wpAnyH_ready (rs := [12]) (by kernel_rfl) (by simp) ?_
          refine AllReadyH.cons rfl (fun K hK => ?_) AllReadyH.nil
          go_simp
          refine hK.out _ _ (hHeld.below ((Below.refl _ _).alloc (Nat.le_refl _) _)) (fun hHeld => ?_)
          clear hK K
          try simp only [Act.put, List.setIfInBounds_toArray, List.set_cons_zero, List.set_cons_succ, List.getElem_toArray, List.getElem_cons_zero, List.getElem_cons_succ]
          refine wpAnyH_ready (rs := [13]) (by kernel_rfl) (by simp) ?_
          refine AllReadyH.cons rfl (fun K hK => ?_) AllReadyH.nil
          go_simp
          refine hK.out _ _ (zb.out.below (((Below.refl _ _).alloc (Nat.le_refl _) _).drew)) (fun hHeld => ?_)
          clear hK K
          try simp only [Act.put, List.setIfInBounds_toArray, List.set_cons_zero, List.set_cons_succ, List.getElem_toArray, List.getElem_cons_zero, List.getElem_cons_succ]
          refine wpAnyH_done (by kernel_rfl) ?_ _
          go_wp2_with fail
          go_meet
          rw [N0.out, N1.out, N2.out, V0.out, V1.out]
          refine ⟨rfl, ?_, (z1.out.alloc _).drew, zb.out.below (((Below.refl _ _).alloc (Nat.le_refl _) _).drew), (z5.out.alloc z5.out.size _).drew⟩
          rw [joinTo_zero, ← ZS]
          exact (blk_new W0 _ 26).drew
        ·
          go_simp
          refine hK.out _ _ (hHeld.below ((Below.refl _ _).alloc (Nat.le_refl _) _)) (fun hHeld => ?_)
          clear hK K
          try simp only [Act.put, List.setIfInBounds_toArray, List.set_cons_zero, List.set_cons_succ, List.getElem_toArray, List.getElem_cons_zero, List.getElem_cons_succ]
          refine wpAnyH_ready (rs := [10]) (by kernel_rfl) (by simp) ?_
          refine AllReadyH.cons rfl (fun K hK => ?_) AllReadyH.nil
          go_simp
          refine (HN8.out _ _ _ _ _ (hHeld.sub 8 8 (by decide))).mono ?_
          rintro e w2 ⟨rfl, hw2⟩
          subst hw2
          go_wp2_with fail
          refine hK.out _ _ hHeld (fun hHeld => ?_)
          clear hK K
          try simp only [Act.put, List.setIfInBounds_toArray, List.set_cons_zero, List.set_cons_succ, List.getElem_toArray, List.getElem_cons_zero, List.getElem_cons_succ]
          refine wpAnyH_take (i := 11) (v := ?_) rfl (by kernel_rfl) (by kernel_rfl) (by kernel_rfl) (fun _ _ _ h => h) (Or.inl ⟨by rfl, ?_⟩) hHeld ?_
          rotate_left
          · (intro w hSw; (try dsimp only at hSw); go_simp; try with_reducible rfl)
          try simp only [Act.put, List.setIfInBounds_toArray, List.set_cons_zero, List.set_cons_succ, List.getElem_toArray, List.getElem_cons_zero, List.getElem_cons_succ]
          refine wpAnyH_ready (rs := [13]) (by kernel_rfl) (by simp) ?_
          refine AllReadyH.cons rfl (fun K hK => ?_) AllReadyH.nil
          go_simp
          refine hK.out _ _ (zb.out.below (((Below.refl _ _).alloc (Nat.le_refl _) _).drew)) (fun hHeld => ?_)
          clear hK K
          try simp only [Act.put, List.setIfInBounds_toArray, List.set_cons_zero, List.set_cons_succ, List.getElem_toArray, List.getElem_cons_zero, List.getElem_cons_succ]
          refine wpAnyH_done (by kernel_rfl) ?_ _
          go_wp2_with fail
          go_meet
          rw [N0.out, N1.out, N2.out, V0.out, V1.out]
          refine ⟨rfl, ?_, (z1.out.alloc _).drew, zb.out.below (((Below.refl _ _).alloc (Nat.le_refl _) _).drew), (z5.out.alloc z5.out.size _).drew⟩
          rw [joinTo_zero, ← ZS]
          exact (blk_new W0 _ 26).drew
      ·
        go_simp
        refine hK.out _ _ (hHeld.below ((Below.refl _ _).alloc (Nat.le_refl _) _)) (fun hHeld => ?_)
        clear hK K
        try simp only [Act.put, List.setIfInBounds_toArray, List.set_cons_zero, List.set_cons_succ, List.getElem_toArray, List.getElem_cons_zero, List.getElem_cons_succ]
        refine wpAnyH_ready (rs := [6]) (by kernel_rfl) (by simp) ?_
        refine AllReadyH.cons rfl (fun K hK => ?_) AllReadyH.nil
        go_simp
        refine (HN4.out _ _ _ _ _ (hHeld.sub 4 4 (by decide))).mono ?_
        rintro e w2 ⟨rfl, hw2⟩
        subst hw2
        go_wp2_with fail
        refine hK.out _ _ hHeld (fun hHeld => ?_)
        clear hK K
        try simp only [Act.put, List.setIfInBounds_toArray, List.set_cons_zero, List.set_cons_succ, List.getElem_toArray, List.getElem_cons_zero, List.getElem_cons_succ]
        refine wpAnyH_take (i := 7) (v := ?_) rfl (by kernel_rfl) (by kernel_rfl) (by kernel_rfl) (fun _ _ _ h => h) (Or.inl ⟨by rfl, ?_⟩) hHeld ?_
        rotate_left
        · (intro w hSw; (try dsimp only at hSw); go_simp; try with_reducible rfl)
        try simp only [Act.put, List.setIfInBounds_toArray, List.set_cons_zero, List.set_cons_succ, List.getElem_toArray, List.getElem_cons_zero, List.getElem_cons_succ]
        refine wpAnyH_ready (rs := [10]) (by kernel_rfl) (by simp) ?_
        refine AllReadyH.cons rfl (fun K hK => ?_) AllReadyH.nil
        go_simp
        refine (HN8.out _ _ _ _ _ (hHeld.sub 8 8 (by decide))).mono ?_
        rintro e w2 ⟨rfl, hw2⟩
        subst hw2
        go_wp2_with fail
        refine hK.out _ _ hHeld (fun hHeld => ?_)
        clear hK K
        try simp only [Act.put, List.setIfInBounds_toArray, List.set_cons_zero, List.set_cons_succ, List.getElem_toArray, List.getElem_cons_zero, List.getElem_cons_succ]
        refine wpAnyH_take (i := 11) (v := ?_) rfl (by kernel_rfl) (by kernel_rfl) (by kernel_rfl) (fun _ _ _ h => h) (Or.inl ⟨by rfl, ?_⟩) hHeld ?_
        rotate_left
        · (intro w hSw; (try dsimp only at hSw); go_simp; try with_reducible rfl)
        try simp only [Act.put, List.setIfInBounds_toArray, List.set_cons_zero, List.set_cons_succ, List.getElem_toArray, List.getElem_cons_zero, List.getElem_cons_succ]
        refine wpAnyH_ready (rs := [13]) (by kernel_rfl) (by simp) ?_
        refine AllReadyH.cons rfl (fun K hK => ?_) AllReadyH.nil
        go_simp
        refine hK.out _ _ (zb.out.below (((Below.refl _ _).alloc (Nat.le_refl _) _).drew)) (fun hHeld => ?_)
        clear hK K
        try simp only [Act.put, List.setIfInBounds_toArray, List.set_cons_zero, List.set_cons_succ, List.getElem_toArray, List.getElem_cons_zero, List.getElem_cons_succ]
        refine wpAnyH_done (by kernel_rfl) ?_ _
        go_wp2_with fail
        go_meet
        rw [N0.out, N1.out, N2.out, V0.out, V1.out]
        refine ⟨rfl, ?_, (z1.out.alloc _).drew, zb.out.below (((Below.refl _ _).alloc (Nat.le_refl _) _).drew), (z5.out.alloc z5.out.size _).drew⟩
        rw [joinTo_zero, ← ZS]
        exact (blk_new W0 _ 26).drew
    ·
      go_simp
      refine hK.out _ _ (hHeld.below ((Below.refl _ _).alloc (Nat.le_refl _) _)) (fun hHeld => ?_)
      clear hK K
      try simp only [Act.put, List.setIfInBounds_toArray, List.set_cons_zero, List.set_cons_succ, List.getElem_toArray, List.getElem_cons_zero, List.getElem_cons_succ]
      refine wpAnyH_ready (rs := [2]) (by kernel_rfl) (by simp) ?_
      refine AllReadyH.cons rfl (fun K hK => ?_) AllReadyH.nil
      go_simp
      refine (HN4.out _ _ _ _ _ (hHeld.head 4 (by decide))).mono ?_
      rintro e w2 ⟨rfl, hw2⟩
      subst hw2
      go_wp2_with fail
      refine hK.out _ _ hHeld (fun hHeld => ?_)
      clear hK K
      try simp only [Act.put, List.setIfInBounds_toArray, List.set_cons_zero, List.set_cons_succ, List.getElem_toArray, List.getElem_cons_zero, List.getElem_cons_succ]
      refine wpAnyH_take (i := 3) (v := ?_) rfl (by kernel_rfl) (by kernel_rfl) (by kernel_rfl) (fun _ _ _ h => h) (Or.inl ⟨by rfl, ?_⟩) hHeld ?_
      rotate_left
      · (intro w hSw; (try dsimp only at hSw); go_simp; try with_reducible rfl)
      try simp only [Act.put, List.setIfInBounds_toArray, List.set_cons_zero, List.set_cons_succ, List.getElem_toArray, List.getElem_cons_zero, List.getElem_cons_succ]
      refine wpAnyH_ready (rs := [6]) (by kernel_rfl) (by simp) ?_
      refine AllReadyH.cons rfl (fun K hK => ?_) AllReadyH.nil
      go_simp
      refine (HN4.out _ _ _ _ _ (hHeld.sub 4 4 (by decide))).mono ?_
      rintro e w2 ⟨rfl, hw2⟩
      subst hw2
      go_wp2_with fail
      refine hK.out _ _ hHeld (fun hHeld => ?_)
      clear hK K
      try simp only [Act.put, List.setIfInBounds_toArray, List.set_cons_zero, List.set_cons_succ, List.getElem_toArray, List.getElem_cons_zero, List.getElem_cons_succ]
      refine wpAnyH_take (i := 7) (v := ?_) rfl (by kernel_rfl) (by kernel_rfl) (by kernel_rfl) (fun _ _ _ h => h) (Or.inl ⟨by rfl, ?_⟩) hHeld ?_
      rotate_left
      · (intro w hSw; (try dsimp only at hSw); go_simp; try with_reducible rfl)
      try simp only [Act.put, List.setIfInBounds_toArray, List.set_cons_zero, List.set_cons_succ, List.getElem_toArray, List.getElem_cons_zero, List.getElem_cons_succ]
      refine wpAnyH_ready (rs := [10]) (by kernel_rfl) (by simp) ?_
      refine AllReadyH.cons rfl (fun K hK => ?_) AllReadyH.nil
      go_simp
      refine (HN8.out _ _ _ _ _ (hHeld.sub 8 8 (by decide))).mono ?_
      rintro e w2 ⟨rfl, hw2⟩
      subst hw2
      go_wp2_with fail
      refine hK.out _ _ hHeld (fun hHeld => ?_)
      clear hK K
      try simp only [Act.put, List.setIfInBounds_toArray, List.set_cons_zero, List.set_cons_succ, List.getElem_toArray, List.getElem_cons_zero, List.getElem_cons_succ]
      refine wpAnyH_take (i := 11) (v := ?_) rfl (by kernel_rfl) (by kernel_rfl) (by kernel_rfl) (fun _ _ _ h => h) (Or.inl ⟨by rfl, ?_⟩) hHeld ?_
      rotate_left
      · (intro w hSw; (try dsimp only at hSw); go_simp; try with_reducible rfl)
      try simp only [Act.put, List.setIfInBounds_toArray, List.set_cons_zero, List.set_cons_succ, List.getElem_toArray, List.getElem_cons_zero, List.getElem_cons_succ]
      refine wpAnyH_ready (rs := [13]) (by kernel_rfl) (by simp) ?_
      refine AllReadyH.cons rfl (fun K hK => ?_) AllReadyH.nil
      go_simp
      refine hK.out _ _ (zb.out.below (((Below.refl _ _).alloc (Nat.le_refl _) _).drew)) (fun hHeld => ?_)
      clear hK K
      try simp only [Act.put, List.setIfInBounds_toArray, List.set_cons_zero, List.set_cons_succ, List.getElem_toArray, List.getElem_cons_zero, List.getElem_cons_succ]
      refine wpAnyH_done (by kernel_rfl) ?_ _
      go_wp2_with fail
      go_meet
      rw [N0.out, N1.out, N2.out, V0.out, V1.out]
      refine ⟨rfl, ?_, (z1.out.alloc _).drew, zb.out.below (((Below.refl _ _).alloc (Nat.le_refl _) _).drew), (z5.out.alloc z5.out.size _).drew⟩
      rw [joinTo_zero, ← ZS]
      exact (blk_new W0 _ 26).drew
  case rest =>
    obtain ⟨rfl, hJ0, hZ0, hW0, hB0⟩ := hcut
    clear z1 z5 zb N0 N1 N2 V0 V1 HN4 k4 k8 k16 l4 l8 l16 ZS
    go_wp2_with fail
    go_loopw [5] (fun i wr => ∃ k : Nat, k ≤ 6 ∧ i = .int .i64 k ∧ Blk wr (w.heap.size + 1) 26 (joinTo (readW l 16) k) ∧ Blk wr w.heap.size 26 zero9 ∧ Bs wr (some ⟨b, off, none⟩) 64 l ∧ Below w.heap.size w wr) (fun i _ => 6 - (intOf i).toNat)
    case atStart => exact ⟨0, by decide, rfl, hJ0, hZ0, hW0, hB0⟩
    case round =>
      obtain ⟨k, hk, rfl, hJ1, hZ1, hW1, hB1⟩ := hrel
      clear hJ0 hZ0 hW0 hB0
      by_cases hlt : k < 6
      · have HS : Hid ((joinTo (readW l 16) k).set (3 + k) (.int .u64 (num ((l.drop (16 + 8 * k)).take 8))) = joinTo (readW l 16) (k + 1)) := by
          unfold Hid
          rw [NK.out k hlt]
          exact joinTo_set _ k hlt
        have s0 : wr.cell? ⟨w.heap.size + 1, 3 + k, none⟩ = some ((joinTo (readW l 16) k)[3 + k]'(by rw [joinTo_len]; omega)) := by
          rw [hJ1.cell, List.getElem?_eq_getElem]
        have f0 := hJ1.f (3 + k)
        generalize (joinTo (readW l 16) k)[3 + k]'_ = v0 at *
        generalize joinTo (readW l 16) k = L at *
        have bs : Hid (Bs wr (some ⟨b, off + (16 + 8 * k), none⟩) 8 ((l.drop (16 + 8 * k)).take 8)) := hW1.sub (16 + 8 * k) 8 (by omega)
        have HN : Hid (∀ c, Calls Try.prog 40 #[.slice (some ⟨b, off + (16 + 8 * k), none⟩) (24 + 8 * k - (16 + 8 * k)) c] wr fun e w' => e = .returned (.int .u64 (num ((l.drop (16 + 8 * k)).take 8))) ∧ w' = wr) := by
          intro c
          rw [show 24 + 8 * k - (16 + 8 * k) = 8 by omega]
          exact HN8.out _ _ _ _ _ bs.out
        generalize num ((l.drop (16 + 8 * k)).take 8) = x at *
        have y1 : Hid (Blk wr (w.heap.size + 1) 26 L) := hJ1
        have y2 : Hid (Blk wr w.heap.size 26 zero9) := hZ1
        have y3 : Hid (Bs wr (some ⟨b, off, none⟩) 64 l) := hW1
        have y4 : Hid (Below w.heap.size w wr) := hB1
        clear hJ1 hZ1 hW1 hB1 HN8 NK bs
        have h6 : (k : Int) < 6 := by omega
        have hc2 : 24 + 8 * k ≤ cap := by omega
        go_wp2_with (go_at_call 40; refine (HN.out _).mono ?_; rintro e w2 ⟨rfl, hw2⟩; subst hw2)
        go_roundw
        case rel =>
          refine ⟨k + 1, by omega, by go_num, ?_, ?_, ?_, ?_⟩
          · rw [← HS.out]
            exact y1.out.set _ _
          · exact y2.out.other _ _ (by show w.heap.size ≠ w.heap.size + 1; omega)
          · exact y3.out.other _ _ (by have := hlb.out; show b ≠ w.heap.size + 1; omega)
          · exact y4.out.setCell (by show w.heap.size ≤ w.heap.size + 1; omega) _
        case measure => simp [intOf]; omega
      · have hk6 : ¬ (k : Int) < 6 := by omega
        have hw : joinTo (readW l 16) k = (join (readW l 16)).cells := by
          obtain rfl : k = 6 := by omega
          exact joinTo_all _
        rw [hw] at hJ1
        clear hw hlt hk NK HN8
        have H1 : Hid ((join (readW l 16)).cells.toArray.all (·.oneCell') = true) := Da.cells_one _
        have hl : (join (readW l 16)).cells.length = 9 := rfl
        have HV : Hid ((join (readW l 16)).val = .agg (join (readW l 16)).cells.toArray) := rfl
        generalize (join (readW l 16)).cells = R at *
        have HB : Hid (Blk (wr.setRow w.heap.size R.toArray) w.heap.size 26 R) := hZ1.row R.toArray
        have HC : Hid (Below w.heap.size w (wr.setRow w.heap.size R.toArray)) := below_setRow hB1 (Nat.le_refl _) R.toArray
        have HZ : Hid ((Try.prog.info? 26).map (·.size) = some R.toArray.size) := by unfold Hid; rw [Try.size26]; simp [hl]
        have HS : Hid (zero9.toArray.size = R.toArray.size) := by unfold Hid; simp [hl, zero9]
        have y1 : Hid (Blk wr (w.heap.size + 1) 26 R) := hJ1
        have y2 : Hid (Blk wr w.heap.size 26 zero9) := hZ1
        clear hJ1 hZ1 hW1 hl hB1
        go_wp2_with (first | (refine wpList_load_row rfl 26 (.tmp 4) rfl (w.heap.size + 1) rfl 26 R.toArray (0, 0) _ y1.out Try.underlying26 rfl HZ.out ?_) | (refine wpList_store_row rfl 26 (.tmp 2) (.tmp 42) rfl w.heap.size R.toArray rfl rfl 26 _ y2.out HZ.out HS.out H1.out ?_; generalize wr.setRow w.heap.size R.toArray = X at *))
        rw [HV.out]
        refine bodyPost_ret (v := .tuple #[.agg R.toArray, .int .i64 0]) ?_ rfl ⟨rfl, HC.out⟩
        exact results_row2 Try.results25 _ _ w.heap.size R _ rfl HB.out HZ.out rfl

set_option maxHeartbeats 400000 in
theorem refOf_any (a : Option Addr) (len cap : Nat) (l : List Int) (w : World) (hb : Bs w a len l) (hcap : len ≤ cap) :
    Calls Try.prog 25 #[.slice a len cap] w fun e w' => e = .returned (.tuple #[(decOf l).val, .int .i64 (errOf len)]) ∧ Below w.heap.size w w' := by
  have E1 : Hid (∀ o, Below w.heap.size w (w.alloc o)) := fun o => (Below.refl _ _).alloc (Nat.le_refl _) _
  have hll := hb.1
  rcases Nat.lt_trichotomy len 64 with h | h | h
  · have hd : decOf l = Da.zero := decOf_ne l (by omega)
    have he : errOf len = 2 := by unfold errOf; rw [if_pos h]
    rw [hd, he]
    clear hb hll hd he
    go_enter Try.func25, Try.ntmps25
    go_wp2
    refine bodyPost_ret (v := .tuple #[.agg zero9.toArray, .int .i64 2]) (by simp [results, Try.results25, go_sem, zero9]) rfl ⟨rfl, E1.out _⟩
  · subst h
    rw [decOf_eq l hll]
    exact refOf_64 a cap l w hb hcap
  · have hd : decOf l = Da.zero := decOf_ne l (by omega)
    have he : errOf len = 3 := by unfold errOf; rw [if_neg (by omega), if_pos h]
    rw [hd, he]
    clear hb hll hd he
    go_enter Try.func25, Try.ntmps25
    go_wp2
    refine bodyPost_ret (v := .tuple #[.agg zero9.toArray, .int .i64 3]) (by simp [results, Try.results25, go_sem, zero9]) rfl ⟨rfl, E1.out _⟩

end Go.Proofs.Ytpdndcmaaghnjaa.D
