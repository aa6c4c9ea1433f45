/-
  VVDo3 VVDo4 VVDo VVSkip VVCourse VVGoMath VNext.
-/
import Derived.Test.YtmcgcbgblgmmkaaGreatDoorQ26
import Derived.ProofKit
import Derived.Test.YtmcgcbgblgmmkaaGreatDoorQ0
set_option maxHeartbeats 4000000
namespace Go.Proofs.YtmcgcbgblgmmkaaGreatDoor.V
open M (Da)
open Go.RowKit
theorem side_set {w : World} {b g : Nat} {x : In} (ha : In.at x w g 0) (hg : g ≠ b) (v : Int) :
  In.at x (w.setCell ⟨b, 9, none⟩ (.int .u32 v)) g 0 := by
 obtain ⟨q1, q2, q3, q4⟩ := ha
 have key : ∀ i, (w.setCell ⟨b, 9, none⟩ (.int .u32 v)).cell? ⟨g, i, none⟩ = w.cell? ⟨g, i, none⟩ := fun i => World.cell?_of_block (w := w) (Below.heap_setCell _ _ _ _ hg)
 exact ⟨(key _).trans q1, (key _).trans q2, (key _).trans q3, (key _).trans q4⟩
set_option linter.unusedSimpArgs false in
theorem do_else (c t f k : Int) (s : St) (d : Da) (b m n : Nat) (w : World) (hs : s.ok) (hx : In.ok ⟨c, t, f, k⟩) (hd : d.ok) (hne : m ≠ b) (hv : Vm w b m n d s)
  (e0 : (c == 32) = false) (e1 : (c == 0) = false) (e2 : (c == 1) = false) (e3 : (c == 96) = false) (e4 : (c == 97) = false) (e5 : (c == 2) = false) (e6 : (c == 3) = false) (e7 : (c == 7) = false) (e8 : (c == 135) = false) (e9 : (c == 132) = false)
  (hz : (kOf c == 52) = true -> ¬ othV ⟨c, t, f, k⟩ s = 0) :
  Calls Tryz.prog 189 #[.pointer (some ⟨b, 0, none⟩), .agg #[.int .u16 c, .int .u8 t, .int .u8 f, .int .u32 k]] w fun e w' => DoTold w w' e b m n d { s with a := reckV (kOf c) s.a (othV ⟨c, t, f, k⟩ s) } := by
 have hV : Hid (Vm w b m n d s) := hv
 have hu : U32 (othV ⟨c, t, f, k⟩ s) := by
  unfold othV
  split
  ·exact hx.2.2.2
  ·exact hs.2.1
 have HK : Hid (∀ X : World, Calls Tryz.prog 206 #[.int .u16 c] X fun e w' => e = .returned (.int .u16 (kOf c)) /\ w' = X) := fun X => vmByK_any c X
 have HR : Hid (∀ X : World, Calls Tryz.prog 205 #[.int .u16 (kOf c), .int .u32 s.a, .int .u32 (othV ⟨c, t, f, k⟩ s)] X fun e w' => e = .returned (.int .u32 (reckV (kOf c) s.a (othV ⟨c, t, f, k⟩ s))) /\ w' = X) := fun X => reckon_any _ _ _ X hs.1 hu hz
 have i9 : (w.alloc (Obj.cells #[.int .u16 c, .int .u8 t, .int .u8 f, .int .u32 k] 156)).cell? ⟨b, 9, none⟩ = some (.int .u32 s.a) := ((hv.over (below_new w _)).cells hd).1
 have HO : Hid (Calls Tryz.prog 207 #[.pointer (some ⟨b, 0, none⟩), .agg #[.int .u16 c, .int .u8 t, .int .u8 f, .int .u32 k]] (w.alloc (Obj.cells #[.int .u16 c, .int .u8 t, .int .u8 f, .int .u32 k] 156)).drew fun e w' => e = .returned (.int .u32 (othV ⟨c, t, f, k⟩ s)) /\ Below (w.alloc (Obj.cells #[.int .u16 c, .int .u8 t, .int .u8 f, .int .u32 k] 156)).drew.heap.size (w.alloc (Obj.cells #[.int .u16 c, .int .u8 t, .int .u8 f, .int .u32 k] 156)).drew w') := other_any ⟨c, t, f, k⟩ s d b m n _ hd (hv.over (below_new w _)).drew
 have HA : Hid (In.at ⟨c, t, f, k⟩ (w.alloc (Obj.cells #[.int .u16 c, .int .u8 t, .int .u8 f, .int .u32 k] 156)) w.heap.size 0) := at_new w ⟨c, t, f, k⟩
 have hlt := hv.1.lt
 have VV : Hid (Vm (w.alloc (Obj.cells #[.int .u16 c, .int .u8 t, .int .u8 f, .int .u32 k] 156)) b m n d s /\ Below w.heap.size w (w.alloc (Obj.cells #[.int .u16 c, .int .u8 t, .int .u8 f, .int .u32 k] 156))) := ⟨hV.out.over (below_new _ _), below_new _ _⟩
 clear hv hV hu hz hs hx
 generalize othV ⟨c, t, f, k⟩ s = oo at *
 generalize kOf c = kc at *
 generalize reckV kc s.a oo = v at *
 go_enter Tryz.func189, Tryz.ntmps189
 go_wp2
 generalize (w.alloc (Obj.cells #[.int .u16 c, .int .u8 t, .int .u8 f, .int .u32 k] 156)) = W at *
 have HW : Hid (W.drew = W.drew) := rfl
 have KS : Hid (∀ X, In.at ⟨c, t, f, k⟩ X w.heap.size 0 -> (fun X => X.cell? ⟨w.heap.size, 0, none⟩ = some (.int .u16 c) /\ X.cell? ⟨w.heap.size, 1, none⟩ = some (.int .u8 t) /\ X.cell? ⟨w.heap.size, 2, none⟩ = some (.int .u8 f) /\ X.cell? ⟨w.heap.size, 3, none⟩ = some (.int .u32 k)) (X.setCell ⟨b, 9, none⟩ (.int .u32 v))) := fun X h2 => side_set h2 (by omega) v
 refine wp_region_held_drew (S := (fun X => X.cell? ⟨w.heap.size, 0, none⟩ = some (.int .u16 c) /\ X.cell? ⟨w.heap.size, 1, none⟩ = some (.int .u8 t) /\ X.cell? ⟨w.heap.size, 2, none⟩ = some (.int .u8 f) /\ X.cell? ⟨w.heap.size, 3, none⟩ = some (.int .u32 k))) (by kernel_rfl) (HA.out) (fun hHeld => ?_)
 simp only [List.size_toArray, List.length_cons, List.length_nil, Nat.reduceAdd]
 refine tk 0 ?_ hHeld ?_ ?_
 rotate_left
 ·(intro w hSw; (try dsimp only at hSw); go_simp; try with_reducible rfl)
 try simp only [Act.put, zA, zB, zC, zD, zE, zF]
 refine tk 1 ?_ hHeld ?_ ?_
 rotate_left
 ·(intro w hSw; (try dsimp only at hSw); go_simp; try with_reducible rfl)
 try simp only [Act.put, zA, zB, zC, zD, zE, zF]
 refine tk 2 ?_ hHeld ?_ ?_
 rotate_left
 ·(intro w hSw; (try dsimp only at hSw); go_simp; try with_reducible rfl)
 try simp only [Act.put, zA, zB, zC, zD, zE, zF]
 refine tk 4 ?_ hHeld ?_ ?_
 rotate_left
 ·(intro w hSw; (try dsimp only at hSw); go_simp; try with_reducible rfl)
 try simp only [Act.put, zA, zB, zC, zD, zE, zF]
 refine tk 5 ?_ hHeld ?_ ?_
 rotate_left
 ·(intro w hSw; (try dsimp only at hSw); go_simp; try with_reducible rfl)
 try simp only [Act.put, zA, zB, zC, zD, zE, zF]
 refine tk 6 ?_ hHeld ?_ ?_
 rotate_left
 ·(intro w hSw; (try dsimp only at hSw); go_simp; try with_reducible rfl)
 try simp only [Act.put, zA, zB, zC, zD, zE, zF]
 refine tk 8 ?_ hHeld ?_ ?_
 rotate_left
 ·(intro w hSw; (try dsimp only at hSw); go_simp; try with_reducible rfl)
 try simp only [Act.put, zA, zB, zC, zD, zE, zF]
 refine tk 9 ?_ hHeld ?_ ?_
 rotate_left
 ·(intro w hSw; (try dsimp only at hSw); go_simp; try with_reducible rfl)
 try simp only [Act.put, zA, zB, zC, zD, zE, zF]
 refine wpAnyH_ready (rs := [3, 7]) (by kernel_rfl) (by simp) ?_
 refine AllReadyH.cons rfl (fun K hK => ?_) (AllReadyH.cons rfl (fun K hK => ?_) AllReadyH.nil)
 ·skip
  go_simp
  refine (HK.out _).mono ?_
  rintro e w2 ⟨rfl, rfl⟩
  refine hK.out _ _ (hHeld) (fun hHeld => ?_)
  clear hK K
  try simp only [Act.put, zA, zB, zC, zD, zE, zF]
  refine wpAnyH_ready (rs := [7, 10]) (by kernel_rfl) (by simp) ?_
  refine AllReadyH.cons rfl (fun K hK => ?_) (AllReadyH.cons rfl (fun K hK => ?_) AllReadyH.nil)
  ·skip
   go_simp
   refine hK.out _ _ (hHeld) (fun hHeld => ?_)
   clear hK K
   try simp only [Act.put, zA, zB, zC, zD, zE, zF]
   refine wpAnyH_ready (rs := [10]) (by kernel_rfl) (by simp) ?_
   refine AllReadyH.cons rfl (fun K hK => ?_) AllReadyH.nil
   ·skip
    go_simp
    refine HO.out.mono ?_
    rintro e w5 ⟨rfl, b5⟩
    have G5 : Hid (Vm w5 b m n d s /\ Below w.heap.size w w5) := ⟨VV.out.1.drew.over b5, VV.out.2.drew.trans (b5.mono VV.out.2.size)⟩
    have A5 : In.at ⟨c, t, f, k⟩ w5 w.heap.size 0 := In.at.below (w := W.drew) HA.out b5
    have c5 : w5.cell? ⟨b, 9, none⟩ = some (.int .u32 s.a) := (G5.out.1.cells hd).1
    have f5 : w5.frozen? ⟨b, 9, none⟩ = false := G5.out.1.f 9
    have kS5 := KS.out w5 A5
    try go_simp
    refine hK.out _ _ (A5) (fun hHeld => ?_)
    clear hK K
    try simp only [Act.put, zA, zB, zC, zD, zE, zF]
    refine wpAnyH_ready (rs := [11]) (by kernel_rfl) (by simp) ?_
    refine AllReadyH.cons rfl (fun K hK => ?_) AllReadyH.nil
    go_simp
    refine (HR.out _).mono ?_
    rintro e w2 ⟨rfl, rfl⟩
    refine hK.out _ _ (hHeld) (fun hHeld => ?_)
    clear hK K
    try simp only [Act.put, zA, zB, zC, zD, zE, zF]
    refine tk 12 ?_ hHeld ?_ ?_
    rotate_left
    ·(intro w hSw; (try dsimp only at hSw); go_simp; try with_reducible rfl)
    try simp only [Act.put, zA, zB, zC, zD, zE, zF]
    refine tk 13 ?_ hHeld ?_ ?_
    rotate_left
    ·(intro w hSw; (try dsimp only at hSw); go_simp; try with_reducible rfl)
    try simp only [Act.put, zA, zB, zC, zD, zE, zF]
    refine wpAnyH_ready (rs := [14]) (by kernel_rfl) (by simp) ?_
    refine AllReadyH.cons rfl (fun K hK => ?_) AllReadyH.nil
    go_simp
    refine hK.out _ _ (kS5) (fun hHeld => ?_)
    clear hK K
    try simp only [Act.put, zA, zB, zC, zD, zE, zF]
    refine wpAnyH_done (by kernel_rfl) ?_ _
    go_wp2
    go_end0
    exact ⟨rfl, (G5.out.1.setA hd hne _).mono (Nat.le_succ _), ((But.refl _ _ _).trans (But.of G5.out.2)).set _ _⟩
  ·skip
   go_simp
   refine HO.out.mono ?_
   rintro e w5 ⟨rfl, b5⟩
   have G5 : Hid (Vm w5 b m n d s /\ Below w.heap.size w w5) := ⟨VV.out.1.drew.over b5, VV.out.2.drew.trans (b5.mono VV.out.2.size)⟩
   have A5 : In.at ⟨c, t, f, k⟩ w5 w.heap.size 0 := In.at.below (w := W.drew) HA.out b5
   have c5 : w5.cell? ⟨b, 9, none⟩ = some (.int .u32 s.a) := (G5.out.1.cells hd).1
   have f5 : w5.frozen? ⟨b, 9, none⟩ = false := G5.out.1.f 9
   have kS5 := KS.out w5 A5
   try go_simp
   refine hK.out _ _ (A5) (fun hHeld => ?_)
   clear hK K
   try simp only [Act.put, zA, zB, zC, zD, zE, zF]
   refine wpAnyH_ready (rs := [7]) (by kernel_rfl) (by simp) ?_
   refine AllReadyH.cons rfl (fun K hK => ?_) AllReadyH.nil
   ·skip
    go_simp
    refine hK.out _ _ (hHeld) (fun hHeld => ?_)
    clear hK K
    try simp only [Act.put, zA, zB, zC, zD, zE, zF]
    refine wpAnyH_ready (rs := [11]) (by kernel_rfl) (by simp) ?_
    refine AllReadyH.cons rfl (fun K hK => ?_) AllReadyH.nil
    go_simp
    refine (HR.out _).mono ?_
    rintro e w2 ⟨rfl, rfl⟩
    refine hK.out _ _ (hHeld) (fun hHeld => ?_)
    clear hK K
    try simp only [Act.put, zA, zB, zC, zD, zE, zF]
    refine tk 12 ?_ hHeld ?_ ?_
    rotate_left
    ·(intro w hSw; (try dsimp only at hSw); go_simp; try with_reducible rfl)
    try simp only [Act.put, zA, zB, zC, zD, zE, zF]
    refine tk 13 ?_ hHeld ?_ ?_
    rotate_left
    ·(intro w hSw; (try dsimp only at hSw); go_simp; try with_reducible rfl)
    try simp only [Act.put, zA, zB, zC, zD, zE, zF]
    refine wpAnyH_ready (rs := [14]) (by kernel_rfl) (by simp) ?_
    refine AllReadyH.cons rfl (fun K hK => ?_) AllReadyH.nil
    go_simp
    refine hK.out _ _ (kS5) (fun hHeld => ?_)
    clear hK K
    try simp only [Act.put, zA, zB, zC, zD, zE, zF]
    refine wpAnyH_done (by kernel_rfl) ?_ _
    go_wp2
    go_end0
    exact ⟨rfl, (G5.out.1.setA hd hne _).mono (Nat.le_succ _), ((But.refl _ _ _).trans (But.of G5.out.2)).set _ _⟩
 ·skip
  go_simp
  refine hK.out _ _ (hHeld) (fun hHeld => ?_)
  clear hK K
  try simp only [Act.put, zA, zB, zC, zD, zE, zF]
  refine wpAnyH_ready (rs := [3]) (by kernel_rfl) (by simp) ?_
  refine AllReadyH.cons rfl (fun K hK => ?_) AllReadyH.nil
  ·skip
   go_simp
   refine (HK.out _).mono ?_
   rintro e w2 ⟨rfl, rfl⟩
   refine hK.out _ _ (hHeld) (fun hHeld => ?_)
   clear hK K
   try simp only [Act.put, zA, zB, zC, zD, zE, zF]
   refine wpAnyH_ready (rs := [10]) (by kernel_rfl) (by simp) ?_
   refine AllReadyH.cons rfl (fun K hK => ?_) AllReadyH.nil
   ·skip
    go_simp
    refine HO.out.mono ?_
    rintro e w5 ⟨rfl, b5⟩
    have G5 : Hid (Vm w5 b m n d s /\ Below w.heap.size w w5) := ⟨VV.out.1.drew.over b5, VV.out.2.drew.trans (b5.mono VV.out.2.size)⟩
    have A5 : In.at ⟨c, t, f, k⟩ w5 w.heap.size 0 := In.at.below (w := W.drew) HA.out b5
    have c5 : w5.cell? ⟨b, 9, none⟩ = some (.int .u32 s.a) := (G5.out.1.cells hd).1
    have f5 : w5.frozen? ⟨b, 9, none⟩ = false := G5.out.1.f 9
    have kS5 := KS.out w5 A5
    try go_simp
    refine hK.out _ _ (A5) (fun hHeld => ?_)
    clear hK K
    try simp only [Act.put, zA, zB, zC, zD, zE, zF]
    refine wpAnyH_ready (rs := [11]) (by kernel_rfl) (by simp) ?_
    refine AllReadyH.cons rfl (fun K hK => ?_) AllReadyH.nil
    go_simp
    refine (HR.out _).mono ?_
    rintro e w2 ⟨rfl, rfl⟩
    refine hK.out _ _ (hHeld) (fun hHeld => ?_)
    clear hK K
    try simp only [Act.put, zA, zB, zC, zD, zE, zF]
    refine tk 12 ?_ hHeld ?_ ?_
    rotate_left
    ·(intro w hSw; (try dsimp only at hSw); go_simp; try with_reducible rfl)
    try simp only [Act.put, zA, zB, zC, zD, zE, zF]
    refine tk 13 ?_ hHeld ?_ ?_
    rotate_left
    ·(intro w hSw; (try dsimp only at hSw); go_simp; try with_reducible rfl)
    try simp only [Act.put, zA, zB, zC, zD, zE, zF]
    refine wpAnyH_ready (rs := [14]) (by kernel_rfl) (by simp) ?_
    refine AllReadyH.cons rfl (fun K hK => ?_) AllReadyH.nil
    go_simp
    refine hK.out _ _ (kS5) (fun hHeld => ?_)
    clear hK K
    try simp only [Act.put, zA, zB, zC, zD, zE, zF]
    refine wpAnyH_done (by kernel_rfl) ?_ _
    go_wp2
    go_end0
    exact ⟨rfl, (G5.out.1.setA hd hne _).mono (Nat.le_succ _), ((But.refl _ _ _).trans (But.of G5.out.2)).set _ _⟩
open M (Da.cells Da.val)
theorem do_32 (t f k : Int) (s : St) (d : Da) (b m n : Nat) (w : World) (hk : U32 k) (hd : d.ok) (hne : m ≠ b) (hv : Vm w b m n d s) :
  Calls Tryz.prog 189 #[.pointer (some ⟨b, 0, none⟩), .agg #[.int .u16 32, .int .u8 t, .int .u8 f, .int .u32 k]] w fun e w' => DoTold w w' e b m n d { s with a := ldv d k } := by
 have VV : Hid (Vm (w.alloc (Obj.cells #[.int .u16 32, .int .u8 t, .int .u8 f, .int .u32 k] 156)) b m n d s /\ Below w.heap.size w (w.alloc (Obj.cells #[.int .u16 32, .int .u8 t, .int .u8 f, .int .u32 k] 156))) := ⟨hv.over (below_new _ _), below_new _ _⟩
 have HL : Hid (∀ X : World, Calls Tryz.prog 204 #[d.val, .int .u32 k] X fun e w' => e = .returned (.tuple #[.int .u32 (ldv d k), .int .i64 (lde k)]) /\ Below X.heap.size X w') := fun X => load_any d k X hd hk
 have HC : Hid (∀ X s', Vm X b m n d s' -> ∀ i, i < 9 -> X.cell? ⟨b, i, none⟩ = d.cells[i]?) := fun X s' h i hi => h.call hd i hi
 have HD : Hid d.ok := hd
 have i3 : (w.alloc (Obj.cells #[.int .u16 32, .int .u8 t, .int .u8 f, .int .u32 k] 156)).cell? ⟨w.heap.size, 3, none⟩ = some (.int .u32 k) := by simp
 have hlt := hv.1.lt
 generalize ldv d k = v at *
 generalize lde k = ev at *
 obtain ⟨dn, da, dp, dg⟩ := d
 have hl := hd.2.2.2.1
 obtain ⟨x0, x1, x2, x3, x4, x5, rfl⟩ := six hl
 unfold Da.val at HL
 have HS : Hid (∀ X s', Vm X b m n ⟨dn, da, dp, [x0, x1, x2, x3, x4, x5]⟩ s' -> X.cell? ⟨w.heap.size, 3, none⟩ = some (.int .u32 k) -> (fun X => X.cell? ⟨b, 0, none⟩ = some (.int .u32 dn) /\ X.cell? ⟨b, 1, none⟩ = some (.int .u32 da) /\ X.cell? ⟨b, 2, none⟩ = some (.int .u64 dp) /\ X.cell? ⟨b, 3, none⟩ = some (.int .u64 x0) /\ X.cell? ⟨b, 4, none⟩ = some (.int .u64 x1) /\ X.cell? ⟨b, 5, none⟩ = some (.int .u64 x2) /\ X.cell? ⟨b, 6, none⟩ = some (.int .u64 x3) /\ X.cell? ⟨b, 7, none⟩ = some (.int .u64 x4) /\ X.cell? ⟨b, 8, none⟩ = some (.int .u64 x5) /\ X.cell? ⟨w.heap.size, 3, none⟩ = some (.int .u32 k)) X) := fun X s' h h3 => ⟨HC.out X s' h 0 (by decide), HC.out X s' h 1 (by decide), HC.out X s' h 2 (by decide), HC.out X s' h 3 (by decide), HC.out X s' h 4 (by decide), HC.out X s' h 5 (by decide), HC.out X s' h 6 (by decide), HC.out X s' h 7 (by decide), HC.out X s' h 8 (by decide), h3⟩
 have hS0 := HS.out _ s VV.out.1 i3
 clear hv hd hl HC
 unfold Da.cells at HL
 simp only [List.map_cons, List.map_nil] at HL
 go_enter Tryz.func189, Tryz.ntmps189
 go_wp2
 generalize (w.alloc (Obj.cells #[.int .u16 32, .int .u8 t, .int .u8 f, .int .u32 k] 156)) = W at *
 have hb3 := World.block_lt_of_cell? W _ i3
 have HQ : Hid (Calls Tryz.prog 204 #[.agg #[.int .u32 dn, .int .u32 da, .int .u64 dp, .int .u64 x0, .int .u64 x1, .int .u64 x2, .int .u64 x3, .int .u64 x4, .int .u64 x5], .int .u32 k] W.drew fun e w' => e = .returned (.tuple #[.int .u32 v, .int .i64 ev]) /\ ((fun X => X.cell? ⟨b, 0, none⟩ = some (.int .u32 dn) /\ X.cell? ⟨b, 1, none⟩ = some (.int .u32 da) /\ X.cell? ⟨b, 2, none⟩ = some (.int .u64 dp) /\ X.cell? ⟨b, 3, none⟩ = some (.int .u64 x0) /\ X.cell? ⟨b, 4, none⟩ = some (.int .u64 x1) /\ X.cell? ⟨b, 5, none⟩ = some (.int .u64 x2) /\ X.cell? ⟨b, 6, none⟩ = some (.int .u64 x3) /\ X.cell? ⟨b, 7, none⟩ = some (.int .u64 x4) /\ X.cell? ⟨b, 8, none⟩ = some (.int .u64 x5) /\ X.cell? ⟨w.heap.size, 3, none⟩ = some (.int .u32 k)) w' /\ w'.cell? ⟨b, 9, none⟩ = some (.int .u32 s.a) /\ w'.frozen? ⟨b, 9, none⟩ = false /\ (fun X => X.cell? ⟨b, 0, none⟩ = some (.int .u32 dn) /\ X.cell? ⟨b, 1, none⟩ = some (.int .u32 da) /\ X.cell? ⟨b, 2, none⟩ = some (.int .u64 dp) /\ X.cell? ⟨b, 3, none⟩ = some (.int .u64 x0) /\ X.cell? ⟨b, 4, none⟩ = some (.int .u64 x1) /\ X.cell? ⟨b, 5, none⟩ = some (.int .u64 x2) /\ X.cell? ⟨b, 6, none⟩ = some (.int .u64 x3) /\ X.cell? ⟨b, 7, none⟩ = some (.int .u64 x4) /\ X.cell? ⟨b, 8, none⟩ = some (.int .u64 x5) /\ X.cell? ⟨w.heap.size, 3, none⟩ = some (.int .u32 k)) (w'.setCell ⟨b, 9, none⟩ (.int .u32 v)) /\ Hid (Vm w' b m n ⟨dn, da, dp, [x0, x1, x2, x3, x4, x5]⟩ s /\ Below w.heap.size w w'))) := by
  refine (HL.out W.drew).mono ?_
  rintro e w' ⟨rfl, hb⟩
  have h1 : Vm w' b m n ⟨dn, da, dp, [x0, x1, x2, x3, x4, x5]⟩ s := VV.out.1.drew.over hb
  have h3 : w'.cell? ⟨w.heap.size, 3, none⟩ = some (.int .u32 k) := (hb.cell (p := ⟨w.heap.size, 3, none⟩) hb3).trans i3
  refine ⟨rfl, HS.out _ s h1 h3, (h1.cells HD.out).1, h1.f 9, HS.out _ _ (h1.setA HD.out hne v) ?_, h1, VV.out.2.drew.trans (hb.mono VV.out.2.size)⟩
  rw [<- h3]
  exact World.cell?_of_block (w := w') (Below.heap_setCell _ _ _ _ (by show w.heap.size ≠ b; omega))
 clear HL HS hb3 i3
 have s0 := hS0
 obtain ⟨q0, q1, q2, q3, q4, q5, q6, q7, q8, q9⟩ := s0
 go_region_held3 (fun X => X.cell? ⟨b, 0, none⟩ = some (.int .u32 dn) /\ X.cell? ⟨b, 1, none⟩ = some (.int .u32 da) /\ X.cell? ⟨b, 2, none⟩ = some (.int .u64 dp) /\ X.cell? ⟨b, 3, none⟩ = some (.int .u64 x0) /\ X.cell? ⟨b, 4, none⟩ = some (.int .u64 x1) /\ X.cell? ⟨b, 5, none⟩ = some (.int .u64 x2) /\ X.cell? ⟨b, 6, none⟩ = some (.int .u64 x3) /\ X.cell? ⟨b, 7, none⟩ = some (.int .u64 x4) /\ X.cell? ⟨b, 8, none⟩ = some (.int .u64 x5) /\ X.cell? ⟨w.heap.size, 3, none⟩ = some (.int .u32 k)) (first | assumption | go_keep) (first | (go_at_call 204; refine (HQ.out).mono ?_; rintro e w5 ⟨rfl, hS5, c5, f5, kS5, G5⟩))
 all_goals
  go_wp2
  go_end0
  exact ⟨rfl, (G5.out.1.setA HD.out hne _).mono (Nat.le_succ _), ((But.refl _ _ _).trans (But.of G5.out.2)).set _ _⟩
theorem do_any (x : In) (s : St) (d : Da) (b m n : Nat) (w : World) (hx : x.ok) (hs : s.ok) (hd : d.ok) (hn : n <= 1000000) (hne : m ≠ b) (hv : Vm w b m n d s) (hz : (kOf x.c == 52) = true -> ¬ othV x s = 0) :
  Calls Tryz.prog 189 #[.pointer (some ⟨b, 0, none⟩), x.val] w fun e w' => DoTold w w' e b m n d (doV d x s) := by
 obtain ⟨c, t, f, k⟩ := x
 have hk : U32 k := hx.2.2.2
 unfold In.val
 dsimp only at *
 by_cases h0 : c = 32
 ·subst h0; exact do_32 t f k s d b m n w hk hd hne hv
 by_cases h1 : c = 0
 ·subst h1; exact do_0 t f k s d b m n w hd hne hv
 by_cases h2 : c = 1
 ·subst h2; exact do_1 t f k s d b m n w hd hne hv
 by_cases h3 : c = 96
 ·subst h3; exact do_96 t f k s d b m n w hk hd hne hv
 by_cases h4 : c = 97
 ·subst h4; exact do_97 t f k s d b m n w hk hd hne hv
 by_cases h5 : c = 2
 ·subst h5; exact do_2 t f k s d b m n w hk hs.1 hn hd hne hv
 by_cases h6 : c = 3
 ·subst h6; exact do_3 t f k s d b m n w hk hs.2.1 hn hd hne hv
 by_cases h7 : c = 7
 ·subst h7; exact do_7 t f k s d b m n w hd hne hv
 by_cases h8 : c = 135
 ·subst h8; exact do_135 t f k s d b m n w hd hne hv
 by_cases h9 : c = 132
 ·subst h9; exact do_132 t f k s d b m n w hd hne hv
 have e0 : (c == 32) = false := by simpa using h0
 have e1 : (c == 0) = false := by simpa using h1
 have e2 : (c == 1) = false := by simpa using h2
 have e3 : (c == 96) = false := by simpa using h3
 have e4 : (c == 97) = false := by simpa using h4
 have e5 : (c == 2) = false := by simpa using h5
 have e6 : (c == 3) = false := by simpa using h6
 have e7 : (c == 7) = false := by simpa using h7
 have e8 : (c == 135) = false := by simpa using h8
 have e9 : (c == 132) = false := by simpa using h9
 have := do_else c t f k s d b m n w hs hx hd hne hv e0 e1 e2 e3 e4 e5 e6 e7 e8 e9 hz
 unfold doV
 dsimp only
 rw [e0, e1, e2, e3, e4, e5, e6, e7, e8, e9]
 exact this
open F (ret_int)
theorem skip_any (x : In) (s : St) (d : Da) (b m n : Nat) (w : World) (hx : x.ok) (hd : d.ok) (hv : Vm w b m n d s) :
  Calls Tryz.prog 190 #[.pointer (some ⟨b, 0, none⟩), x.val] w fun e w' => e = .returned (.int .i64 (skipV x s)) /\ Below w.heap.size w w' := by
 have HJ : Hid (∀ W : World, Calls Tryz.prog 159 #[.int .u16 x.c] W fun e w' => e = .returned (.bool (jumpsB x.c)) /\ w' = W) := fun W => jumps_any x.c W
 have HV : Hid (skipV x s = if jumpsB x.c = false then 0 else if (x.c == 5) = true then x.k else if holdsV (kOf x.c) s.a (othV x s) = true then x.t else x.f) := rfl
 have w3 : IntKind.i64.wrap x.k = x.k := by unfold In.ok at hx; rw [IntKind.wrap_i64]; omega
 have w1 : IntKind.i64.wrap x.t = x.t := by unfold In.ok at hx; rw [IntKind.wrap_i64]; omega
 have w2 : IntKind.i64.wrap x.f = x.f := by unfold In.ok at hx; rw [IntKind.wrap_i64]; omega
 have HK : Hid (∀ W : World, Calls Tryz.prog 206 #[.int .u16 x.c] W fun e w' => e = .returned (.int .u16 (kOf x.c)) /\ w' = W) := fun W => vmByK_any x.c W
 have HH : Hid (∀ W : World, Calls Tryz.prog 208 #[.int .u16 (kOf x.c), .int .u32 s.a, .int .u32 (othV x s)] W fun e w' => e = .returned (.bool (holdsV (kOf x.c) s.a (othV x s))) /\ w' = W) := fun W => holds_any _ _ _ W
 obtain ⟨VB, hVB⟩ : ∃ VB : World -> Prop, VB = fun W => Vm W b m n d s /\ Below w.heap.size w W := ⟨_, rfl⟩
 have HS : Hid (∀ W, (W.cell? ⟨w.heap.size, 0, none⟩ = some (.int .u16 x.c) /\ W.cell? ⟨w.heap.size, 1, none⟩ = some (.int .u8 x.t) /\ W.cell? ⟨w.heap.size, 2, none⟩ = some (.int .u8 x.f) /\ W.cell? ⟨w.heap.size, 3, none⟩ = some (.int .u32 x.k) /\ W.cell? ⟨b, 9, none⟩ = some (.int .u32 s.a) /\ VB W) -> Calls Tryz.prog 207 #[.pointer (some ⟨b, 0, none⟩), x.val] W fun e w' => e = .returned (.int .u32 (othV x s)) /\ (w'.cell? ⟨w.heap.size, 0, none⟩ = some (.int .u16 x.c) /\ w'.cell? ⟨w.heap.size, 1, none⟩ = some (.int .u8 x.t) /\ w'.cell? ⟨w.heap.size, 2, none⟩ = some (.int .u8 x.f) /\ w'.cell? ⟨w.heap.size, 3, none⟩ = some (.int .u32 x.k) /\ w'.cell? ⟨b, 9, none⟩ = some (.int .u32 s.a) /\ VB w')) := by
  intro W ⟨g1, g2, g3, g4, g5, g6⟩
  subst hVB
  refine (other_any x s d b m n W hd g6.1).mono ?_
  rintro e w' ⟨rfl, hb⟩
  have ha : In.at x W w.heap.size 0 := ⟨g1, g2, g3, g4⟩
  obtain ⟨q1, q2, q3, q4⟩ := ha.below hb
  exact ⟨rfl, q1, q2, q3, q4, ((g6.1.over hb).cells hd).1, g6.1.over hb, g6.2.trans (hb.mono g6.2.size)⟩
 have H0 : Hid (VB (w.alloc (Obj.cells #[.int .u16 x.c, .int .u8 x.t, .int .u8 x.f, .int .u32 x.k] 156)).drew) := by subst hVB; exact ⟨(hv.over (below_new w _)).drew, (below_new w _).drew⟩
 have h9 : ∀ o, (w.alloc o).cell? ⟨b, 9, none⟩ = some (.int .u32 s.a) := fun o => ((hv.over (below_new w o)).cells hd).1
 have HB : Hid (∀ W, VB W -> Below w.heap.size w W) := by subst hVB; exact fun W h => h.2
 clear hv hx hVB
 generalize skipV x s = z at *
 obtain ⟨c, t, f, k⟩ := x
 unfold In.val at *
 dsimp only at *
 generalize kOf c = kc at *
 generalize jumpsB c = q at *
 cases q with
 | false =>
  go_enter Tryz.func190, Tryz.ntmps190
  go_wp2_with (go_at_call 159; refine (HJ.out _).mono ?_; rintro e w2 ⟨rfl, rfl⟩)
  go_ret
  exact ⟨ret_int (by rw [HV.out]; simp), below_new _ _⟩
 | true =>
  by_cases h5 : c = 5
  ·subst h5
   go_enter Tryz.func190, Tryz.ntmps190
   go_wp2_with (go_at_call 159; refine (HJ.out _).mono ?_; rintro e w2 ⟨rfl, rfl⟩)
   go_ret
   exact ⟨ret_int (by rw [HV.out]; simp), below_new _ _⟩
  ·have h5' : (c == 5) = false := by simpa using h5
   clear h5
   generalize othV ⟨c, t, f, k⟩ s = o at *
   generalize holdsV kc s.a o = hh at *
   go_enter Tryz.func190, Tryz.ntmps190
   go_wp2_with (go_at_call 159; refine (HJ.out _).mono ?_; rintro e w2 ⟨rfl, rfl⟩)
   have i0 : (w.alloc (Obj.cells #[.int .u16 c, .int .u8 t, .int .u8 f, .int .u32 k] 156)).cell? ⟨w.heap.size, 0, none⟩ = some (.int .u16 c) := by simp
   have i1 : (w.alloc (Obj.cells #[.int .u16 c, .int .u8 t, .int .u8 f, .int .u32 k] 156)).cell? ⟨w.heap.size, 1, none⟩ = some (.int .u8 t) := by simp
   have i2 : (w.alloc (Obj.cells #[.int .u16 c, .int .u8 t, .int .u8 f, .int .u32 k] 156)).cell? ⟨w.heap.size, 2, none⟩ = some (.int .u8 f) := by simp
   have i3 : (w.alloc (Obj.cells #[.int .u16 c, .int .u8 t, .int .u8 f, .int .u32 k] 156)).cell? ⟨w.heap.size, 3, none⟩ = some (.int .u32 k) := by simp
   have i9 := h9 (Obj.cells #[.int .u16 c, .int .u8 t, .int .u8 f, .int .u32 k] 156)
   clear h9
   generalize w.alloc (Obj.cells #[.int .u16 c, .int .u8 t, .int .u8 f, .int .u32 k] 156) = W at *
   have h0 := H0.out
   go_region_held3 (fun W => W.cell? ⟨w.heap.size, 0, none⟩ = some (.int .u16 c) /\ W.cell? ⟨w.heap.size, 1, none⟩ = some (.int .u8 t) /\ W.cell? ⟨w.heap.size, 2, none⟩ = some (.int .u8 f) /\ W.cell? ⟨w.heap.size, 3, none⟩ = some (.int .u32 k) /\ W.cell? ⟨b, 9, none⟩ = some (.int .u32 s.a) /\ VB W) (first | assumption | go_keep) (first | (go_at_call 206; refine (HK.out _).mono ?_; rintro e w2 ⟨rfl, rfl⟩) | (go_at_call 208; refine (HH.out _).mono ?_; rintro e w2 ⟨rfl, rfl⟩) | (go_at_call 207; refine (HS.out _ (by assumption)).mono ?_; rintro e w5 ⟨rfl, hS5⟩))
   all_goals
    obtain ⟨q0, q1, q2, q3, q9, qB⟩ := hS5
    have QB := HB.out _ qB
    clear qB h0
    cases hh with
    | true =>
     go_wp2
     go_ret
     exact ⟨ret_int (by rw [HV.out]; simp [h5']), QB⟩
    | false =>
     go_wp2
     go_ret
     exact ⟨ret_int (by rw [HV.out]; simp [h5']), QB⟩
def nextV (len : Nat) (d : Da) (x : In) (p : Nat) (s : St) : Int × St :=
 if endV x s = true then ((len : Int), { s with ans := tellV x s }) else (p + 1 + skipV x (doV d x s), doV d x s)
structure Sc (w : World) (bl bp b m g n : Nat) (sl : Value) (x : In) (d : Da) (s : St) (X : World) : Prop where
 cl : X.cell? ⟨bl, 0, none⟩ = some sl
 cp : X.cell? ⟨bp, 0, none⟩ = some (.pointer (some ⟨b, 0, none⟩))
 ci : In.at x X g 0
 vm : Vm X b m n d s
 bt : But b m w X
structure Far (bl bp b m g : Nat) : Prop where
 l1 : bl ≠ b
 l2 : bl ≠ m
 p1 : bp ≠ b
 p2 : bp ≠ m
 g1 : g ≠ b
 g2 : g ≠ m
 ne : m ≠ b
section
variable {w X Y : World} {bl bp b m g n n' : Nat} {sl : Value} {x : In} {d : Da} {s s' : St}
theorem Sc.on (h : Sc w bl bp b m g n sl x d s X) (k : But b m X Y) (hv : Vm Y b m n' d s') (hf : Far bl bp b m g) : Sc w bl bp b m g n' sl x d s' Y := by
 have key : ∀ {j i : Nat} {v : Value}, X.cell? ⟨j, i, none⟩ = some v -> j ≠ b -> j ≠ m -> Y.cell? ⟨j, i, none⟩ = some v := by
  intro j i v hc h1 h2
  rw [<- hc]
  exact World.cell?_of_block (w := X) (k.block j (World.block_lt_of_cell? X _ hc) h1 h2)
 obtain ⟨q1, q2, q3, q4⟩ := h.ci
 exact ⟨key h.cl hf.l1 hf.l2, key h.cp hf.p1 hf.p2, ⟨key q1 hf.g1 hf.g2, key q2 hf.g1 hf.g2, key q3 hf.g1 hf.g2, key q4 hf.g1 hf.g2⟩, hv, h.bt.trans k⟩
theorem Sc.over (h : Sc w bl bp b m g n sl x d s X) (k : Below X.heap.size X Y) (hf : Far bl bp b m g) : Sc w bl bp b m g n sl x d s Y := h.on (But.of k) (h.vm.over k) hf
theorem Sc.drew (h : Sc w bl bp b m g n sl x d s X) : Sc w bl bp b m g n sl x d s X.drew := ⟨h.cl, h.cp, h.ci, h.vm.drew, h.bt.drew⟩
end
def WentTold (w w' : World) (e : Ending) (b m n : Nat) (d : Da) (p : Int × St) : Prop := e = .returned (.int .i64 p.1) /\ Vm w' b m (n + 1) d p.2 /\ But b m w w'
theorem course_any (p len cap : Nat) (a : Option Addr) (ins : List In) (bl bp b m n : Nat) (d : Da) (s : St) (w : World) (hlen : len <= 4096) (h : Ins w a len ins) (hp : p < len) (hs : s.ok) (hd : d.ok) (hn : n <= 1000000)
  (cl : w.cell? ⟨bl, 0, none⟩ = some (.slice a len cap)) (cp : w.cell? ⟨bp, 0, none⟩ = some (.pointer (some ⟨b, 0, none⟩))) (hv : Vm w b m n d s) (l1 : bl ≠ b) (l2 : bl ≠ m) (p1 : bp ≠ b) (p2 : bp ≠ m) (hne : m ≠ b)
  (x : In) (hx : ins[p]? = some x) (hz : endV x s = false -> (kOf x.c == 52) = true -> ¬ othV x s = 0) :
  Calls Tryz.prog 186 #[.int .i64 p, .pointer (some ⟨bl, 0, none⟩), .pointer (some ⟨bp, 0, none⟩)] w fun e w' => WentTold w w' e b m n d (nextV len d x p s) := by
 have hxo : x.ok := h.2.1 x (List.mem_of_getElem? hx)
 have hf : Far bl bp b m w.heap.size := ⟨l1, l2, p1, p2, by have := hv.1.lt; omega, by have := hv.2.lt; omega, hne⟩
 obtain ⟨ib, off, rfl, hc⟩ := h.2.2 (by omega)
 obtain ⟨q1, q2, q3, q4⟩ := hc p x hx
 have HF : Hid (Far bl bp b m w.heap.size) := hf
 have HV : Hid (nextV len d x p s = if endV x s = true then ((len : Int), { s with ans := tellV x s }) else (p + 1 + skipV x (doV d x s), doV d x s)) := rfl
 have S1 : Sc w bl bp b m w.heap.size n (.slice (some ⟨ib, off, none⟩) len cap) x d s (w.alloc (Obj.cells #[.int .u16 x.c, .int .u8 x.t, .int .u8 x.f, .int .u32 x.k] 156)) :=
  ⟨((below_new w _).cell (World.block_lt_of_cell? w _ cl)).trans cl, ((below_new w _).cell (World.block_lt_of_cell? w _ cp)).trans cp, at_new w x, hv.over (below_new w _), But.of (below_new w _)⟩
 have HE : Hid (∀ X, Sc w bl bp b m w.heap.size n (.slice (some ⟨ib, off, none⟩) len cap) x d s X -> Calls Tryz.prog 187 #[.pointer (some ⟨b, 0, none⟩), x.val] X fun e w' => e = .returned (.bool (endV x s)) /\ Sc w bl bp b m w.heap.size n (.slice (some ⟨ib, off, none⟩) len cap) x d s w') := by
  intro X hX
  refine (endsWith_any x s d b m n X hd hX.vm).mono ?_
  rintro e w' ⟨rfl, hb⟩
  exact ⟨rfl, hX.over hb hf⟩
 have hi1 : (p : Int) < (len : Int) := by omega
 cases hend : endV x s with
 | true =>
  have HT : Hid (∀ X, Sc w bl bp b m w.heap.size n (.slice (some ⟨ib, off, none⟩) len cap) x d s X -> Calls Tryz.prog 188 #[.pointer (some ⟨b, 0, none⟩), x.val] X fun e w' => e = .returned (.int .u32 (tellV x s)) /\ Sc w bl bp b m w.heap.size n (.slice (some ⟨ib, off, none⟩) len cap) x d s w') := by
   intro X hX
   refine (told_any x s d b m n X hd hX.vm).mono ?_
   rintro e w' ⟨rfl, hb⟩
   exact ⟨rfl, hX.over hb hf⟩
  have HG : Hid (∀ X, Sc w bl bp b m w.heap.size n (.slice (some ⟨ib, off, none⟩) len cap) x d s X -> Sc w bl bp b m w.heap.size n (.slice (some ⟨ib, off, none⟩) len cap) x d { s with ans := tellV x s } (X.setCell ⟨b, 12, none⟩ (.int .u32 (tellV x s)))) := fun X hX => hX.on ((But.refl _ _ _).set _ _) (hX.vm.setAns hd hne _) hf
  have HD : Hid d.ok := hd
  rw [hend] at HV HE
  have HV2 : Hid (nextV len d x p s = ((len : Int), { s with ans := tellV x s })) := by unfold Hid; rw [HV.out, if_pos rfl]
  clear HV hz hxo hd hs hf hv h hx hc hend
  have HS1 : Hid (Sc w bl bp b m w.heap.size n (.slice (some ⟨ib, off, none⟩) len cap) x d s (w.alloc (Obj.cells #[.int .u16 x.c, .int .u8 x.t, .int .u8 x.f, .int .u32 x.k] 156))) := S1
  generalize nextV len d x p s = z at *
  obtain ⟨c, t, f, k⟩ := x
  unfold In.val at *
  dsimp only at *
  generalize tellV ⟨c, t, f, k⟩ s = v at *
  obtain ⟨z1, z2⟩ := z
  have e1 : Hid (z1 = (len : Int)) := by have := HV2.out; injection this
  have e2 : Hid (z2 = { s with ans := v }) := by have := HV2.out; injection this
  clear HV2
  obtain ⟨-, cp1, ⟨i1, i2, i3, i4⟩, -, -⟩ := S1
  go_enter Tryz.func186, Tryz.ntmps186
  go_wp2_with (first | (go_at_call 187; refine (HE.out _ HS1.out).mono ?_; rintro e w2 ⟨rfl, S2⟩; have HS2 : Hid (Sc w bl bp b m w.heap.size n (.slice (some ⟨ib, off, none⟩) len cap) ⟨c, t, f, k⟩ d s w2) := S2; obtain ⟨-, cp2, ⟨j1, j2, j3, j4⟩, -, -⟩ := S2))
  have HQ : Hid (Calls Tryz.prog 188 #[.pointer (some ⟨b, 0, none⟩), .agg #[.int .u16 c, .int .u8 t, .int .u8 f, .int .u32 k]] w2.drew fun e w' => e = .returned (.int .u32 v) /\ ((fun X => X.cell? ⟨bp, 0, none⟩ = some (.pointer (some ⟨b, 0, none⟩)) /\ X.cell? ⟨w.heap.size, 0, none⟩ = some (.int .u16 c) /\ X.cell? ⟨w.heap.size, 1, none⟩ = some (.int .u8 t) /\ X.cell? ⟨w.heap.size, 2, none⟩ = some (.int .u8 f) /\ X.cell? ⟨w.heap.size, 3, none⟩ = some (.int .u32 k)) w' /\ w'.cell? ⟨b, 12, none⟩ = some (.int .u32 s.ans) /\ w'.frozen? ⟨b, 12, none⟩ = false /\ (fun X => X.cell? ⟨bp, 0, none⟩ = some (.pointer (some ⟨b, 0, none⟩)) /\ X.cell? ⟨w.heap.size, 0, none⟩ = some (.int .u16 c) /\ X.cell? ⟨w.heap.size, 1, none⟩ = some (.int .u8 t) /\ X.cell? ⟨w.heap.size, 2, none⟩ = some (.int .u8 f) /\ X.cell? ⟨w.heap.size, 3, none⟩ = some (.int .u32 k)) (w'.setCell ⟨b, 12, none⟩ (.int .u32 v)) /\ (w'.setCell ⟨b, 12, none⟩ (.int .u32 v)).cell? ⟨bl, 0, none⟩ = some (.slice (some ⟨ib, off, none⟩) len cap) /\ Hid (Sc w bl bp b m w.heap.size n (.slice (some ⟨ib, off, none⟩) len cap) ⟨c, t, f, k⟩ d { s with ans := v } (w'.setCell ⟨b, 12, none⟩ (.int .u32 v))))) := by
   refine (HT.out _ HS2.out.drew).mono ?_
   rintro e w' ⟨rfl, h'⟩
   have h2 := HG.out _ h'
   exact ⟨rfl, ⟨h'.cp, h'.ci⟩, (h'.vm.cells HD.out).2.2.2, h'.vm.f 12, ⟨h2.cp, h2.ci⟩, h2.cl, h2⟩
  clear HT HG HE HS1 HS2 cl cp cp1 i1 i2 i3 i4 q1 q2 q3 q4
  go_region_held3 (fun X => X.cell? ⟨bp, 0, none⟩ = some (.pointer (some ⟨b, 0, none⟩)) /\ X.cell? ⟨w.heap.size, 0, none⟩ = some (.int .u16 c) /\ X.cell? ⟨w.heap.size, 1, none⟩ = some (.int .u8 t) /\ X.cell? ⟨w.heap.size, 2, none⟩ = some (.int .u8 f) /\ X.cell? ⟨w.heap.size, 3, none⟩ = some (.int .u32 k)) (first | assumption | go_keep) (first | (go_at_call 188; refine (HQ.out).mono ?_; rintro e w5 ⟨rfl, hS5, c5, f5, kS5, cl5, G5⟩))
  all_goals
   go_wp2
   go_ret
   rw [e1.out, e2.out]
   exact ⟨rfl, (G5.out.vm).mono (Nat.le_succ _), G5.out.bt⟩
 | false =>
  have HO : Hid (∀ X, Sc w bl bp b m w.heap.size n (.slice (some ⟨ib, off, none⟩) len cap) x d s X -> Calls Tryz.prog 189 #[.pointer (some ⟨b, 0, none⟩), x.val] X fun e w' => e = .returned (.tuple #[]) /\ Sc w bl bp b m w.heap.size (n + 1) (.slice (some ⟨ib, off, none⟩) len cap) x d (doV d x s) w') := by
   intro X hX
   refine (do_any x s d b m n X hxo hs hd hn hne hX.vm (hz hend)).mono ?_
   rintro e w' ⟨rfl, hv', hb⟩
   exact ⟨rfl, hX.on hb hv' hf⟩
  have HK : Hid (∀ X, Sc w bl bp b m w.heap.size (n + 1) (.slice (some ⟨ib, off, none⟩) len cap) x d (doV d x s) X -> Calls Tryz.prog 190 #[.pointer (some ⟨b, 0, none⟩), x.val] X fun e w' => e = .returned (.int .i64 (skipV x (doV d x s))) /\ Sc w bl bp b m w.heap.size (n + 1) (.slice (some ⟨ib, off, none⟩) len cap) x d (doV d x s) w') := by
   intro X hX
   refine (skip_any x _ d b m (n + 1) X hxo hd hX.vm).mono ?_
   rintro e w' ⟨rfl, hb⟩
   exact ⟨rfl, hX.over hb hf⟩
  rw [hend] at HV HE
  have HV2 : Hid (nextV len d x p s = (p + 1 + skipV x (doV d x s), doV d x s)) := by unfold Hid; rw [HV.out, if_neg (by decide)]
  have hb : 0 <= skipV x (doV d x s) /\ skipV x (doV d x s) <= 4294967295 := by
   unfold In.ok at hxo
   unfold skipV
   repeat' split
   all_goals omega
  clear HV hz hxo hd hs hf hv h hx hc hend
  have HS1 : Hid (Sc w bl bp b m w.heap.size n (.slice (some ⟨ib, off, none⟩) len cap) x d s (w.alloc (Obj.cells #[.int .u16 x.c, .int .u8 x.t, .int .u8 x.f, .int .u32 x.k] 156))) := S1
  generalize nextV len d x p s = z at *
  generalize doV d x s = s' at *
  generalize skipV x s' = sk at *
  obtain ⟨c, t, f, k⟩ := x
  unfold In.val at *
  dsimp only at *
  obtain ⟨z1, z2⟩ := z
  have e1 : Hid (z1 = p + 1 + sk) := by have := HV2.out; injection this
  have e2 : Hid (z2 = s') := by have := HV2.out; injection this
  clear HV2
  obtain ⟨-, cp1, ⟨i1, i2, i3, i4⟩, -, -⟩ := S1
  go_enter Tryz.func186, Tryz.ntmps186
  go_wp2_with (first | (go_at_call 187; refine (HE.out _ HS1.out).mono ?_; rintro e w2 ⟨rfl, S2⟩; have HS2 : Hid (Sc w bl bp b m w.heap.size n (.slice (some ⟨ib, off, none⟩) len cap) ⟨c, t, f, k⟩ d s w2) := S2; obtain ⟨-, cp2, ⟨j1, j2, j3, j4⟩, -, -⟩ := S2) | (go_at_call 189; refine (HO.out _ HS2.out).mono ?_; rintro e w3 ⟨rfl, S3⟩; have HS3 : Hid (Sc w bl bp b m w.heap.size (n + 1) (.slice (some ⟨ib, off, none⟩) len cap) ⟨c, t, f, k⟩ d s' w3) := S3; obtain ⟨-, cp3, ⟨k1, k2, k3, k4⟩, -, -⟩ := S3) | (go_at_call 190; refine (HK.out _ HS3.out).mono ?_; rintro e w4 ⟨rfl, S4⟩; have HS4 : Hid (Sc w bl bp b m w.heap.size (n + 1) (.slice (some ⟨ib, off, none⟩) len cap) ⟨c, t, f, k⟩ d s' w4) := S4; clear S4))
  go_ret
  rw [e1.out, e2.out]
  exact ⟨by go_num, HS4.out.vm, HS4.out.bt⟩
def runV (l : List In) (d : Da) : Nat -> Nat -> St -> List Nat × St
 | 0, _, s => ([], s)
 | n + 1, p, s =>
  match l[p]? with
  | none => ([], s)
  | some x => let r := runV l d n (nextV l.length d x p s).1.toNat (nextV l.length d x p s).2; (p :: r.1, r.2)
def St.zero : St := ⟨0, 0, fun _ => 0, 0⟩
def allV (l : List In) (d : Da) : List Nat × St := runV l d l.length 0 St.zero
theorem skipV_nn (x : In) (s : St) (hx : x.ok) : 0 <= skipV x s /\ skipV x s <= 4294967295 := by
 unfold In.ok at hx
 unfold skipV
 repeat' split
 all_goals omega
theorem nextV_gt (len : Nat) (d : Da) (x : In) (p : Nat) (s : St) (hx : x.ok) (hp : p < len) : (p : Int) < (nextV len d x p s).1 := by
 unfold nextV
 split
 ·show (p : Int) < len; omega
 ·have := skipV_nn x (doV d x s) hx
  show (p : Int) < p + 1 + _
  omega
theorem runV_none (l : List In) (d : Da) (n p : Nat) (s : St) (h : l.length <= p) : runV l d n p s = ([], s) := by
 cases n with
 | zero => rfl
 | succ n => unfold runV; rw [List.getElem?_eq_none h]
theorem runV_more (l : List In) (d : Da) (ho : ∀ x ∈ l, x.ok) (n : Nat) : ∀ (p : Nat) (s : St) (k : Nat), l.length - p <= n -> runV l d (n + k) p s = runV l d n p s := by
 induction n with
 | zero => intro p s k h; rw [runV_none l d _ p s (by omega)]; rfl
 | succ n ih =>
  intro p s k h
  rw [show n + 1 + k = (n + k) + 1 from by omega]
  unfold runV
  rcases Nat.lt_or_ge p l.length with hp | hp
  ·rw [List.getElem?_eq_getElem hp]
   have := nextV_gt l.length d l[p] p s (ho _ (List.getElem_mem hp)) hp
   dsimp only
   rw [ih _ _ k (by omega)]
  ·rw [List.getElem?_eq_none hp]
theorem runV_step (l : List In) (d : Da) (ho : ∀ x ∈ l, x.ok) (p : Nat) (s : St) (x : In) (hx : l[p]? = some x) :
  runV l d (l.length - p) p s = (p :: (runV l d (l.length - (nextV l.length d x p s).1.toNat) (nextV l.length d x p s).1.toNat (nextV l.length d x p s).2).1, (runV l d (l.length - (nextV l.length d x p s).1.toNat) (nextV l.length d x p s).1.toNat (nextV l.length d x p s).2).2) := by
 have hp : p < l.length := (List.getElem?_eq_some_iff.1 hx).1
 have hgt := nextV_gt l.length d x p s (ho _ (List.mem_of_getElem? hx)) hp
 obtain ⟨n, hn⟩ : ∃ n, l.length - p = n + 1 := ⟨l.length - p - 1, by omega⟩
 rw [hn]
 show (match l[p]? with | none => ([], s) | some x => let r := runV l d n (nextV l.length d x p s).1.toNat (nextV l.length d x p s).2; (p :: r.1, r.2)) = _
 rw [hx]
 show (p :: (runV l d n (nextV l.length d x p s).1.toNat (nextV l.length d x p s).2).1, (runV l d n (nextV l.length d x p s).1.toNat (nextV l.length d x p s).2).2) = _
 have := runV_more l d ho (l.length - (nextV l.length d x p s).1.toNat) (nextV l.length d x p s).1.toNat (nextV l.length d x p s).2 (n - (l.length - (nextV l.length d x p s).1.toNat)) (Nat.le_refl _)
 rw [show l.length - (nextV l.length d x p s).1.toNat + (n - (l.length - (nextV l.length d x p s).1.toNat)) = n from by omega] at this
 rw [this]
theorem ldv_u (d : Da) (hd : d.ok) (k : Int) : U32 (ldv d k) := by
 unfold ldv
 split
 ·exact getD_u (words_u d hd) _
 ·unfold U32; decide
theorem reckV_u (c a n : Int) (ha : U32 a) (hn : U32 n) : U32 (reckV c a n) := by
 have hq : ∀ k : Nat, U32 (a / 2 ^ k) := fun k => by
  have h1 : (0 : Int) <= a / 2 ^ k := Int.ediv_nonneg ha.1 (Int.pow_nonneg (by decide))
  have h2 : a / 2 ^ k <= a := Int.ediv_le_self _ ha.1
  unfold U32 at *
  omega
 have hd : U32 (a / n) := by
  have h1 : 0 <= a / n := Int.ediv_nonneg ha.1 hn.1
  have h2 : a / n <= a := Int.ediv_le_self n ha.1
  unfold U32 at *
  omega
 have hb : ∀ op, U32 (bits op .u32 a n) := fun op => bounds_u32 (wf_bits op .u32 a n)
 have hm : ∀ z : Int, U32 (z % 4294967296) := fun z => by unfold U32; omega
 unfold reckV
 repeat' split
 ·exact hm _
 ·exact hm _
 ·exact hm _
 ·exact hd
 ·exact hb _
 ·exact hb _
 ·exact hb _
 ·exact hm _
 ·exact hq _
 ·exact ha
theorem chk_ok (l : List In) (h : (chk l).1 = 0) : 0 < l.length /\ l.length <= 4096 /\ (ff l 0).1 = 0 /\ (chk l).2 = -1 := by
 unfold chk at *
 by_cases h0 : l.length = 0
 ·rw [if_pos h0] at h; exact absurd h (by decide)
 ·rw [if_neg h0] at *
  by_cases h4 : 4096 < l.length
  ·rw [if_pos h4] at h; exact absurd h (by decide)
  ·rw [if_neg h4] at *
   refine ⟨by omega, by omega, h, ?_⟩
   rcases ff_bd l 0 with h1 | h1
   ·exact h1.2
   ·omega
theorem ff_all (l : List In) (p : Int) (h : (ff l p).1 = 0) (i : Nat) (hi : i < l.length) : fault l[i] (l.length - 1 - i) = 0 := by
 induction l generalizing p i with
 | nil => cases hi
 | cons x r ih =>
  unfold ff at h
  by_cases hx : fault x r.length = 0
  ·rw [if_pos hx] at h
   cases i with
   | zero =>
    show fault x _ = 0
    rw [show (x :: r).length - 1 - 0 = r.length from by rw [List.length_cons]; omega]
    exact hx
   | succ i =>
    have hi' : i < r.length := by rw [List.length_cons] at hi; omega
    show fault r[i] _ = 0
    rw [show (x :: r).length - 1 - (i + 1) = r.length - 1 - i from by rw [List.length_cons]; omega]
    exact ih (p + 1) h i hi'
  ·rw [if_neg hx] at h
   exact absurd h hx
theorem othV_u (x : In) (s : St) (hx : x.ok) (hs : s.ok) : U32 (othV x s) := by
 unfold othV
 split
 ·exact hx.2.2.2
 ·exact hs.2.1
theorem doV_ok (d : Da) (x : In) (s : St) (hd : d.ok) (hx : x.ok) (hs : s.ok) : (doV d x s).ok := by
 have hk : U32 x.k := hx.2.2.2
 have hm : U32 ((-s.a) % 4294967296) := by unfold U32; omega
 obtain ⟨ha, hX, hA, hc⟩ := hs
 have hp : ∀ v, U32 v -> ∀ k, U32 (putC s.c x.k v k) := by
  intro v hv k
  unfold putC
  split
  ·exact hv
  ·exact hc k
 unfold doV
 repeat' split
 ·exact ⟨ldv_u d hd _, hX, hA, hc⟩
 ·exact ⟨hk, hX, hA, hc⟩
 ·exact ⟨ha, hk, hA, hc⟩
 ·exact ⟨hc _, hX, hA, hc⟩
 ·exact ⟨ha, hc _, hA, hc⟩
 ·exact ⟨ha, hX, hA, hp _ ha⟩
 ·exact ⟨ha, hX, hA, hp _ hX⟩
 ·exact ⟨ha, ha, hA, hc⟩
 ·exact ⟨hX, hX, hA, hc⟩
 ·exact ⟨hm, hX, hA, hc⟩
 ·exact ⟨reckV_u _ _ _ ha (othV_u x s hx ⟨ha, hX, hA, hc⟩), hX, hA, hc⟩
theorem tellV_u (x : In) (s : St) (hx : x.ok) (hs : s.ok) : U32 (tellV x s) := by
 unfold tellV
 repeat' split
 ·exact hx.2.2.2
 ·exact hs.1
 ·unfold U32; decide
theorem nextV_ok (len : Nat) (d : Da) (x : In) (p : Nat) (s : St) (hd : d.ok) (hx : x.ok) (hs : s.ok) : (nextV len d x p s).2.ok := by
 unfold nextV
 split
 ·exact ⟨hs.1, hs.2.1, tellV_u x s hx hs, hs.2.2.2⟩
 ·exact doV_ok d x s hd hx hs
theorem kOf_52 (c : Int) (h0 : 0 <= c) (h1 : c <= 65535) (hk : kOf c = 52) : c = 52 \/ c = 60 := by
 obtain ⟨n, rfl⟩ := Int.eq_ofNat_of_zero_le h0
 have hn : n < 65536 := by omega
 rw [kOf_nat n hn] at hk
 have hk2 : kNat n = 52 := by omega
 rcases Nat.lt_or_ge n 256 with h | h
 ·have key : ∀ m : Fin 256, kNat m.val = 52 -> m.val = 52 \/ m.val = 60 := by decide +kernel
  have := key ⟨n, h⟩ hk2
  dsimp only at this
  omega
 ·have := kNat_big n hn h
  omega
theorem div_ok (x : In) (n : Nat) (s : St) (hx : x.ok) (hf : fault x n = 0) (he : endV x s = false) : (kOf x.c == 52) = true -> ¬ othV x s = 0 := by
 intro hk
 have hk' : kOf x.c = 52 := by simpa using hk
 have hr : reckB x.c x.k = false := by
  unfold fault at hf
  cases h : reckB x.c x.k with
  | false => rfl
  | true =>
   rw [h] at hf
   repeat' split at hf
   all_goals first | (exact absurd hf (by decide)) | contradiction
 unfold othV
 rcases kOf_52 x.c hx.1.1 hx.1.2 hk' with h | h
 ·rw [if_pos (by rw [hk', h]; rfl)]
  unfold reckB at hr
  rw [h] at hr
  simpa using hr
 ·rw [if_neg (by rw [hk', h]; decide)]
  unfold endV at he
  rw [h] at he
  simp at he
  exact he.2
theorem new_int (w : World) (z : Int) : (w.alloc (.cells #[.int .i64 z] 3)).cell? ⟨w.heap.size, 0, none⟩ = some (.int .i64 z) := by simp
end Go.Proofs.YtmcgcbgblgmmkaaGreatDoor.V
