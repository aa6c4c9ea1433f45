/-
  What an instruction does that reckons: proved of every run.
-/
import Derived.Test.YtcckipimfgmmdaaGreatDoorVVDo1
import Derived.Deep.RegionHeld3
namespace Go.Proofs.YtcckipimfgmmdaaGreatDoor.V
open Go.RowKit

/-- a run, and an instruction beside it, behind a store into A. -/
theorem side_set {w : World} {b g : Nat} {x : In} (ha : In.at x w g 0) (hg : g ≠ b) (v : Int) :
    In.at x (w.setCell ⟨b, 9, none⟩ (.int .u32 v)) g 0 := by
  obtain ⟨q1, q2, q3, q4⟩ := ha
  have key : ∀ i, (w.setCell ⟨b, 9, none⟩ (.int .u32 v)).cell? ⟨g, i, none⟩ = w.cell? ⟨g, i, none⟩ := fun i => World.cell?_of_block (w := w) (Below.heap_setCell _ _ _ _ hg)
  exact ⟨(key _).trans q1, (key _).trans q2, (key _).trans q3, (key _).trans q4⟩

set_option linter.unusedSimpArgs false in
set_option maxHeartbeats 4000000 in
theorem do_else (c t f k : Int) (s : St) (d : Da) (b m n : Nat) (w : World) (hs : s.ok) (hx : In.ok ⟨c, t, f, k⟩) (hd : d.ok) (hne : m ≠ b) (hv : Vm w b m n d s)
    (e0 : (c == 32) = false) (e1 : (c == 0) = false) (e2 : (c == 1) = false) (e3 : (c == 96) = false) (e4 : (c == 97) = false) (e5 : (c == 2) = false) (e6 : (c == 3) = false) (e7 : (c == 7) = false) (e8 : (c == 135) = false) (e9 : (c == 132) = false)
    (hz : (kOf c == 52) = true → ¬ othV ⟨c, t, f, k⟩ s = 0) :
    Calls Tryz.prog 115 #[.pointer (some ⟨b, 0, none⟩), .agg #[.int .u16 c, .int .u8 t, .int .u8 f, .int .u32 k]] w fun e w' => DoTold w w' e b m n d { s with a := reckV (kOf c) s.a (othV ⟨c, t, f, k⟩ s) } := by
  have hV : Hid (Vm w b m n d s) := hv
  have hu : U32 (othV ⟨c, t, f, k⟩ s) := by
    unfold othV
    split
    · exact hx.2.2.2
    · exact hs.2.1
  have HK : Hid (∀ X : World, Calls Tryz.prog 134 #[.int .u16 c] X fun e w' => e = .returned (.int .u16 (kOf c)) ∧ w' = X) := fun X => vmByK_any c X
  have HR : Hid (∀ X : World, Calls Tryz.prog 133 #[.int .u16 (kOf c), .int .u32 s.a, .int .u32 (othV ⟨c, t, f, k⟩ s)] X fun e w' => e = .returned (.int .u32 (reckV (kOf c) s.a (othV ⟨c, t, f, k⟩ s))) ∧ w' = X) := fun X => reckon_any _ _ _ X hs.1 hu hz
  have i9 : (w.alloc (Obj.cells #[.int .u16 c, .int .u8 t, .int .u8 f, .int .u32 k] 60)).cell? ⟨b, 9, none⟩ = some (.int .u32 s.a) := ((hv.over (below_new w _)).cells hd).1
  have HO : Hid (Calls Tryz.prog 135 #[.pointer (some ⟨b, 0, none⟩), .agg #[.int .u16 c, .int .u8 t, .int .u8 f, .int .u32 k]] (w.alloc (Obj.cells #[.int .u16 c, .int .u8 t, .int .u8 f, .int .u32 k] 60)).drew fun e w' => e = .returned (.int .u32 (othV ⟨c, t, f, k⟩ s)) ∧ Below (w.alloc (Obj.cells #[.int .u16 c, .int .u8 t, .int .u8 f, .int .u32 k] 60)).drew.heap.size (w.alloc (Obj.cells #[.int .u16 c, .int .u8 t, .int .u8 f, .int .u32 k] 60)).drew w') := other_any ⟨c, t, f, k⟩ s d b m n _ hd (hv.over (below_new w _)).drew
  have HA : Hid (In.at ⟨c, t, f, k⟩ (w.alloc (Obj.cells #[.int .u16 c, .int .u8 t, .int .u8 f, .int .u32 k] 60)) w.heap.size 0) := at_new w ⟨c, t, f, k⟩
  have hlt := hv.1.lt
  have VV : Hid (Vm (w.alloc (Obj.cells #[.int .u16 c, .int .u8 t, .int .u8 f, .int .u32 k] 60)) b m n d s ∧ Below w.heap.size w (w.alloc (Obj.cells #[.int .u16 c, .int .u8 t, .int .u8 f, .int .u32 k] 60))) := ⟨hV.out.over (below_new _ _), below_new _ _⟩
  clear hv hV hu hz hs hx
  generalize othV ⟨c, t, f, k⟩ s = oo at *
  generalize kOf c = kc at *
  generalize reckV kc s.a oo = v at *
  go_enter Tryz.func115, Tryz.ntmps115
  go_wp2
  generalize (w.alloc (Obj.cells #[.int .u16 c, .int .u8 t, .int .u8 f, .int .u32 k] 60)) = W at *
  have HW : Hid (W.drew = W.drew) := rfl
  have KS : Hid (∀ X, In.at ⟨c, t, f, k⟩ X w.heap.size 0 → (fun X => X.cell? ⟨w.heap.size, 0, none⟩ = some (.int .u16 c) ∧ X.cell? ⟨w.heap.size, 1, none⟩ = some (.int .u8 t) ∧ X.cell? ⟨w.heap.size, 2, none⟩ = some (.int .u8 f) ∧ X.cell? ⟨w.heap.size, 3, none⟩ = some (.int .u32 k)) (X.setCell ⟨b, 9, none⟩ (.int .u32 v))) := fun X h2 => side_set h2 (by omega) v
  refine wp_region_held_drew (S := (fun X => X.cell? ⟨w.heap.size, 0, none⟩ = some (.int .u16 c) ∧ X.cell? ⟨w.heap.size, 1, none⟩ = some (.int .u8 t) ∧ X.cell? ⟨w.heap.size, 2, none⟩ = some (.int .u8 f) ∧ X.cell? ⟨w.heap.size, 3, none⟩ = some (.int .u32 k))) (by kernel_rfl) (HA.out) (fun hHeld => ?_)
  simp only [List.size_toArray, List.length_cons, List.length_nil, Nat.reduceAdd]
  refine wpAnyH_take (i := 0) (v := ?_) rfl (by kernel_rfl) (by kernel_rfl) (by kernel_rfl) (fun _ _ _ h => h) (Or.inl ⟨by rfl, ?_⟩) hHeld ?_
  rotate_left
  · (intro w hSw; (try dsimp only at hSw); go_simp; try with_reducible rfl)
  try simp only [Act.put, List.setIfInBounds_toArray, List.set_cons_zero, List.set_cons_succ, List.getElem_toArray, List.getElem_cons_zero, List.getElem_cons_succ]
  refine wpAnyH_take (i := 1) (v := ?_) rfl (by kernel_rfl) (by kernel_rfl) (by kernel_rfl) (fun _ _ _ h => h) (Or.inl ⟨by rfl, ?_⟩) hHeld ?_
  rotate_left
  · (intro w hSw; (try dsimp only at hSw); go_simp; try with_reducible rfl)
  try simp only [Act.put, List.setIfInBounds_toArray, List.set_cons_zero, List.set_cons_succ, List.getElem_toArray, List.getElem_cons_zero, List.getElem_cons_succ]
  refine wpAnyH_take (i := 2) (v := ?_) rfl (by kernel_rfl) (by kernel_rfl) (by kernel_rfl) (fun _ _ _ h => h) (Or.inl ⟨by rfl, ?_⟩) hHeld ?_
  rotate_left
  · (intro w hSw; (try dsimp only at hSw); go_simp; try with_reducible rfl)
  try simp only [Act.put, List.setIfInBounds_toArray, List.set_cons_zero, List.set_cons_succ, List.getElem_toArray, List.getElem_cons_zero, List.getElem_cons_succ]
  refine wpAnyH_take (i := 4) (v := ?_) rfl (by kernel_rfl) (by kernel_rfl) (by kernel_rfl) (fun _ _ _ h => h) (Or.inl ⟨by rfl, ?_⟩) hHeld ?_
  rotate_left
  · (intro w hSw; (try dsimp only at hSw); go_simp; try with_reducible rfl)
  try simp only [Act.put, List.setIfInBounds_toArray, List.set_cons_zero, List.set_cons_succ, List.getElem_toArray, List.getElem_cons_zero, List.getElem_cons_succ]
  refine wpAnyH_take (i := 5) (v := ?_) rfl (by kernel_rfl) (by kernel_rfl) (by kernel_rfl) (fun _ _ _ h => h) (Or.inl ⟨by rfl, ?_⟩) hHeld ?_
  rotate_left
  · (intro w hSw; (try dsimp only at hSw); go_simp; try with_reducible rfl)
  try simp only [Act.put, List.setIfInBounds_toArray, List.set_cons_zero, List.set_cons_succ, List.getElem_toArray, List.getElem_cons_zero, List.getElem_cons_succ]
  refine wpAnyH_take (i := 6) (v := ?_) rfl (by kernel_rfl) (by kernel_rfl) (by kernel_rfl) (fun _ _ _ h => h) (Or.inl ⟨by rfl, ?_⟩) hHeld ?_
  rotate_left
  · (intro w hSw; (try dsimp only at hSw); go_simp; try with_reducible rfl)
  try simp only [Act.put, List.setIfInBounds_toArray, List.set_cons_zero, List.set_cons_succ, List.getElem_toArray, List.getElem_cons_zero, List.getElem_cons_succ]
  refine wpAnyH_take (i := 8) (v := ?_) rfl (by kernel_rfl) (by kernel_rfl) (by kernel_rfl) (fun _ _ _ h => h) (Or.inl ⟨by rfl, ?_⟩) hHeld ?_
  rotate_left
  · (intro w hSw; (try dsimp only at hSw); go_simp; try with_reducible rfl)
  try simp only [Act.put, List.setIfInBounds_toArray, List.set_cons_zero, List.set_cons_succ, List.getElem_toArray, List.getElem_cons_zero, List.getElem_cons_succ]
  refine wpAnyH_take (i := 9) (v := ?_) rfl (by kernel_rfl) (by kernel_rfl) (by kernel_rfl) (fun _ _ _ h => h) (Or.inl ⟨by rfl, ?_⟩) hHeld ?_
  rotate_left
  · (intro w hSw; (try dsimp only at hSw); go_simp; try with_reducible rfl)
  try simp only [Act.put, List.setIfInBounds_toArray, List.set_cons_zero, List.set_cons_succ, List.getElem_toArray, List.getElem_cons_zero, List.getElem_cons_succ]
  refine wpAnyH_ready (rs := [3, 7]) (by kernel_rfl) (by simp) ?_
  refine AllReadyH.cons rfl (fun K hK => ?_) (AllReadyH.cons rfl (fun K hK => ?_) AllReadyH.nil)
  · skip
    go_simp
    refine (HK.out _).mono ?_
    rintro e w2 ⟨rfl, rfl⟩
    refine hK.out _ _ (hHeld) (fun hHeld => ?_)
    clear hK K
    try simp only [Act.put, List.setIfInBounds_toArray, List.set_cons_zero, List.set_cons_succ, List.getElem_toArray, List.getElem_cons_zero, List.getElem_cons_succ]
    refine wpAnyH_ready (rs := [7, 10]) (by kernel_rfl) (by simp) ?_
    refine AllReadyH.cons rfl (fun K hK => ?_) (AllReadyH.cons rfl (fun K hK => ?_) AllReadyH.nil)
    · skip
      go_simp
      refine hK.out _ _ (hHeld) (fun hHeld => ?_)
      clear hK K
      try simp only [Act.put, List.setIfInBounds_toArray, List.set_cons_zero, List.set_cons_succ, List.getElem_toArray, List.getElem_cons_zero, List.getElem_cons_succ]
      refine wpAnyH_ready (rs := [10]) (by kernel_rfl) (by simp) ?_
      refine AllReadyH.cons rfl (fun K hK => ?_) AllReadyH.nil
      · skip
        go_simp
        refine HO.out.mono ?_
        rintro e w5 ⟨rfl, b5⟩
        have G5 : Hid (Vm w5 b m n d s ∧ Below w.heap.size w w5) := ⟨VV.out.1.drew.over b5, VV.out.2.drew.trans (b5.mono VV.out.2.size)⟩
        have A5 : In.at ⟨c, t, f, k⟩ w5 w.heap.size 0 := In.at.below (w := W.drew) HA.out b5
        have c5 : w5.cell? ⟨b, 9, none⟩ = some (.int .u32 s.a) := (G5.out.1.cells hd).1
        have f5 : w5.frozen? ⟨b, 9, none⟩ = false := G5.out.1.f 9
        have kS5 := KS.out w5 A5
        try go_simp
        refine hK.out _ _ (A5) (fun hHeld => ?_)
        clear hK K
        try simp only [Act.put, List.setIfInBounds_toArray, List.set_cons_zero, List.set_cons_succ, List.getElem_toArray, List.getElem_cons_zero, List.getElem_cons_succ]
        refine wpAnyH_ready (rs := [11]) (by kernel_rfl) (by simp) ?_
        refine AllReadyH.cons rfl (fun K hK => ?_) AllReadyH.nil
        go_simp
        refine (HR.out _).mono ?_
        rintro e w2 ⟨rfl, rfl⟩
        refine hK.out _ _ (hHeld) (fun hHeld => ?_)
        clear hK K
        try simp only [Act.put, List.setIfInBounds_toArray, List.set_cons_zero, List.set_cons_succ, List.getElem_toArray, List.getElem_cons_zero, List.getElem_cons_succ]
        refine wpAnyH_take (i := 12) (v := ?_) rfl (by kernel_rfl) (by kernel_rfl) (by kernel_rfl) (fun _ _ _ h => h) (Or.inl ⟨by rfl, ?_⟩) hHeld ?_
        rotate_left
        · (intro w hSw; (try dsimp only at hSw); go_simp; try with_reducible rfl)
        try simp only [Act.put, List.setIfInBounds_toArray, List.set_cons_zero, List.set_cons_succ, List.getElem_toArray, List.getElem_cons_zero, List.getElem_cons_succ]
        refine wpAnyH_take (i := 13) (v := ?_) rfl (by kernel_rfl) (by kernel_rfl) (by kernel_rfl) (fun _ _ _ h => h) (Or.inl ⟨by rfl, ?_⟩) hHeld ?_
        rotate_left
        · (intro w hSw; (try dsimp only at hSw); go_simp; try with_reducible rfl)
        try simp only [Act.put, List.setIfInBounds_toArray, List.set_cons_zero, List.set_cons_succ, List.getElem_toArray, List.getElem_cons_zero, List.getElem_cons_succ]
        refine wpAnyH_ready (rs := [14]) (by kernel_rfl) (by simp) ?_
        refine AllReadyH.cons rfl (fun K hK => ?_) AllReadyH.nil
        go_simp
        refine hK.out _ _ (kS5) (fun hHeld => ?_)
        clear hK K
        try simp only [Act.put, List.setIfInBounds_toArray, List.set_cons_zero, List.set_cons_succ, List.getElem_toArray, List.getElem_cons_zero, List.getElem_cons_succ]
        refine wpAnyH_done (by kernel_rfl) ?_ _
        go_wp2
        go_end0
        exact ⟨rfl, (G5.out.1.setA hd hne _).mono (Nat.le_succ _), ((But.refl _ _ _).trans (But.of G5.out.2)).set _ _⟩
    · skip
      go_simp
      refine HO.out.mono ?_
      rintro e w5 ⟨rfl, b5⟩
      have G5 : Hid (Vm w5 b m n d s ∧ Below w.heap.size w w5) := ⟨VV.out.1.drew.over b5, VV.out.2.drew.trans (b5.mono VV.out.2.size)⟩
      have A5 : In.at ⟨c, t, f, k⟩ w5 w.heap.size 0 := In.at.below (w := W.drew) HA.out b5
      have c5 : w5.cell? ⟨b, 9, none⟩ = some (.int .u32 s.a) := (G5.out.1.cells hd).1
      have f5 : w5.frozen? ⟨b, 9, none⟩ = false := G5.out.1.f 9
      have kS5 := KS.out w5 A5
      try go_simp
      refine hK.out _ _ (A5) (fun hHeld => ?_)
      clear hK K
      try simp only [Act.put, List.setIfInBounds_toArray, List.set_cons_zero, List.set_cons_succ, List.getElem_toArray, List.getElem_cons_zero, List.getElem_cons_succ]
      refine wpAnyH_ready (rs := [7]) (by kernel_rfl) (by simp) ?_
      refine AllReadyH.cons rfl (fun K hK => ?_) AllReadyH.nil
      · skip
        go_simp
        refine hK.out _ _ (hHeld) (fun hHeld => ?_)
        clear hK K
        try simp only [Act.put, List.setIfInBounds_toArray, List.set_cons_zero, List.set_cons_succ, List.getElem_toArray, List.getElem_cons_zero, List.getElem_cons_succ]
        refine wpAnyH_ready (rs := [11]) (by kernel_rfl) (by simp) ?_
        refine AllReadyH.cons rfl (fun K hK => ?_) AllReadyH.nil
        go_simp
        refine (HR.out _).mono ?_
        rintro e w2 ⟨rfl, rfl⟩
        refine hK.out _ _ (hHeld) (fun hHeld => ?_)
        clear hK K
        try simp only [Act.put, List.setIfInBounds_toArray, List.set_cons_zero, List.set_cons_succ, List.getElem_toArray, List.getElem_cons_zero, List.getElem_cons_succ]
        refine wpAnyH_take (i := 12) (v := ?_) rfl (by kernel_rfl) (by kernel_rfl) (by kernel_rfl) (fun _ _ _ h => h) (Or.inl ⟨by rfl, ?_⟩) hHeld ?_
        rotate_left
        · (intro w hSw; (try dsimp only at hSw); go_simp; try with_reducible rfl)
        try simp only [Act.put, List.setIfInBounds_toArray, List.set_cons_zero, List.set_cons_succ, List.getElem_toArray, List.getElem_cons_zero, List.getElem_cons_succ]
        refine wpAnyH_take (i := 13) (v := ?_) rfl (by kernel_rfl) (by kernel_rfl) (by kernel_rfl) (fun _ _ _ h => h) (Or.inl ⟨by rfl, ?_⟩) hHeld ?_
        rotate_left
        · (intro w hSw; (try dsimp only at hSw); go_simp; try with_reducible rfl)
        try simp only [Act.put, List.setIfInBounds_toArray, List.set_cons_zero, List.set_cons_succ, List.getElem_toArray, List.getElem_cons_zero, List.getElem_cons_succ]
        refine wpAnyH_ready (rs := [14]) (by kernel_rfl) (by simp) ?_
        refine AllReadyH.cons rfl (fun K hK => ?_) AllReadyH.nil
        go_simp
        refine hK.out _ _ (kS5) (fun hHeld => ?_)
        clear hK K
        try simp only [Act.put, List.setIfInBounds_toArray, List.set_cons_zero, List.set_cons_succ, List.getElem_toArray, List.getElem_cons_zero, List.getElem_cons_succ]
        refine wpAnyH_done (by kernel_rfl) ?_ _
        go_wp2
        go_end0
        exact ⟨rfl, (G5.out.1.setA hd hne _).mono (Nat.le_succ _), ((But.refl _ _ _).trans (But.of G5.out.2)).set _ _⟩
  · skip
    go_simp
    refine hK.out _ _ (hHeld) (fun hHeld => ?_)
    clear hK K
    try simp only [Act.put, List.setIfInBounds_toArray, List.set_cons_zero, List.set_cons_succ, List.getElem_toArray, List.getElem_cons_zero, List.getElem_cons_succ]
    refine wpAnyH_ready (rs := [3]) (by kernel_rfl) (by simp) ?_
    refine AllReadyH.cons rfl (fun K hK => ?_) AllReadyH.nil
    · skip
      go_simp
      refine (HK.out _).mono ?_
      rintro e w2 ⟨rfl, rfl⟩
      refine hK.out _ _ (hHeld) (fun hHeld => ?_)
      clear hK K
      try simp only [Act.put, List.setIfInBounds_toArray, List.set_cons_zero, List.set_cons_succ, List.getElem_toArray, List.getElem_cons_zero, List.getElem_cons_succ]
      refine wpAnyH_ready (rs := [10]) (by kernel_rfl) (by simp) ?_
      refine AllReadyH.cons rfl (fun K hK => ?_) AllReadyH.nil
      · skip
        go_simp
        refine HO.out.mono ?_
        rintro e w5 ⟨rfl, b5⟩
        have G5 : Hid (Vm w5 b m n d s ∧ Below w.heap.size w w5) := ⟨VV.out.1.drew.over b5, VV.out.2.drew.trans (b5.mono VV.out.2.size)⟩
        have A5 : In.at ⟨c, t, f, k⟩ w5 w.heap.size 0 := In.at.below (w := W.drew) HA.out b5
        have c5 : w5.cell? ⟨b, 9, none⟩ = some (.int .u32 s.a) := (G5.out.1.cells hd).1
        have f5 : w5.frozen? ⟨b, 9, none⟩ = false := G5.out.1.f 9
        have kS5 := KS.out w5 A5
        try go_simp
        refine hK.out _ _ (A5) (fun hHeld => ?_)
        clear hK K
        try simp only [Act.put, List.setIfInBounds_toArray, List.set_cons_zero, List.set_cons_succ, List.getElem_toArray, List.getElem_cons_zero, List.getElem_cons_succ]
        refine wpAnyH_ready (rs := [11]) (by kernel_rfl) (by simp) ?_
        refine AllReadyH.cons rfl (fun K hK => ?_) AllReadyH.nil
        go_simp
        refine (HR.out _).mono ?_
        rintro e w2 ⟨rfl, rfl⟩
        refine hK.out _ _ (hHeld) (fun hHeld => ?_)
        clear hK K
        try simp only [Act.put, List.setIfInBounds_toArray, List.set_cons_zero, List.set_cons_succ, List.getElem_toArray, List.getElem_cons_zero, List.getElem_cons_succ]
        refine wpAnyH_take (i := 12) (v := ?_) rfl (by kernel_rfl) (by kernel_rfl) (by kernel_rfl) (fun _ _ _ h => h) (Or.inl ⟨by rfl, ?_⟩) hHeld ?_
        rotate_left
        · (intro w hSw; (try dsimp only at hSw); go_simp; try with_reducible rfl)
        try simp only [Act.put, List.setIfInBounds_toArray, List.set_cons_zero, List.set_cons_succ, List.getElem_toArray, List.getElem_cons_zero, List.getElem_cons_succ]
        refine wpAnyH_take (i := 13) (v := ?_) rfl (by kernel_rfl) (by kernel_rfl) (by kernel_rfl) (fun _ _ _ h => h) (Or.inl ⟨by rfl, ?_⟩) hHeld ?_
        rotate_left
        · (intro w hSw; (try dsimp only at hSw); go_simp; try with_reducible rfl)
        try simp only [Act.put, List.setIfInBounds_toArray, List.set_cons_zero, List.set_cons_succ, List.getElem_toArray, List.getElem_cons_zero, List.getElem_cons_succ]
        refine wpAnyH_ready (rs := [14]) (by kernel_rfl) (by simp) ?_
        refine AllReadyH.cons rfl (fun K hK => ?_) AllReadyH.nil
        go_simp
        refine hK.out _ _ (kS5) (fun hHeld => ?_)
        clear hK K
        try simp only [Act.put, List.setIfInBounds_toArray, List.set_cons_zero, List.set_cons_succ, List.getElem_toArray, List.getElem_cons_zero, List.getElem_cons_succ]
        refine wpAnyH_done (by kernel_rfl) ?_ _
        go_wp2
        go_end0
        exact ⟨rfl, (G5.out.1.setA hd hne _).mono (Nat.le_succ _), ((But.refl _ _ _).trans (But.of G5.out.2)).set _ _⟩

end Go.Proofs.YtcckipimfgmmdaaGreatDoor.V
