/-
  A condition as texts.
-/
import Derived.Test.YtcllgpbgikidjaaDoorSTxt
import Derived.Laws.Concat
import Derived.Deep.RegionHeld3
namespace Go.Proofs.YtcllgpbgikidjaaDoor
open Go.RowKit

/-- a condition's texts. -/
def condT (T : List Int) (x : Xc) : List (List UInt8) := ([97, 114, 103] ++ dec T x.arg.toNat) :: ((if x.mask == 18446744073709551615 then [] else [[38], dec T x.mask.toNat]) ++ [signS x.op.toNat, dec T x.val.toNat])

theorem bar_append (a b : List UInt8) : bar a ++ bar b = bar (a ++ b) := by
  apply ByteArray.ext
  show (bar a ++ bar b).data = (a ++ b).toArray
  rw [ByteArray.data_append]
  apply Array.ext'
  simp [bar]

set_option linter.unusedSimpArgs false in
set_option maxHeartbeats 1000000 in
theorem condT_any (T : List Int) (x : Xc) (h1 : 0 ≤ x.arg) (h2 : x.arg < 6) (h3 : 1 ≤ x.op) (h4 : x.op ≤ 6) (h5 : 0 ≤ x.mask) (h6 : x.mask < 18446744073709551616) (h7 : 0 ≤ x.val) (h8 : x.val < 18446744073709551616) (w : World) (ht : Tb T w) :
    Calls Tryd.prog 111 #[.agg #[.int .i64 x.arg, .int .i64 x.op, .int .u64 x.mask, .int .u64 x.val]] w fun e w' => Row w w' e (condT T x) := by
  obtain ⟨a, o, m, v⟩ := x
  unfold condT
  dsimp only at h1 h2 h3 h4 h5 h6 h7 h8 ⊢
  have be : Below w.heap.size w (w.alloc (Obj.cells #[.int .i64 a, .int .i64 o, .int .u64 m, .int .u64 v] 74)) := (Below.refl _ _).alloc (Nat.le_refl _) _
  have BE : Hid (Below w.heap.size w (w.alloc (Obj.cells #[.int .i64 a, .int .i64 o, .int .u64 m, .int .u64 v] 74))) := be
  have HK0 : Hid (Blk (w.alloc (Obj.cells #[.int .i64 a, .int .i64 o, .int .u64 m, .int .u64 v] 74)) w.heap.size 74 [.int .i64 a, .int .i64 o, .int .u64 m, .int .u64 v]) := blk_new w _ _
  have HT0 : Hid (Tb T (w.alloc (Obj.cells #[.int .i64 a, .int .i64 o, .int .u64 m, .int .u64 v] 74))) := ht.below be
  have HI : Hid (∀ W, Tb T W → Calls Tryd.prog 75 #[.int .i64 a] W fun e w' => e = .returned (.string (bar (dec T a.toNat))) ∧ Below W.heap.size W w') := by
    intro W hW
    obtain ⟨n, rfl⟩ : ∃ n : Nat, a = n := ⟨a.toNat, by omega⟩
    exact itoa_any T n (by omega) W hW
  have HDm : Hid (∀ W, Tb T W → Calls Tryd.prog 112 #[.int .u64 m] W fun e w' => e = .returned (.string (bar (dec T m.toNat))) ∧ Below W.heap.size W w') := by
    intro W hW
    obtain ⟨n, rfl⟩ : ∃ n : Nat, m = n := ⟨m.toNat, by omega⟩
    exact decimal_any T n (by omega) W hW
  have HDv : Hid (∀ W, Tb T W → Calls Tryd.prog 112 #[.int .u64 v] W fun e w' => e = .returned (.string (bar (dec T v.toNat))) ∧ Below W.heap.size W w') := by
    intro W hW
    obtain ⟨n, rfl⟩ : ∃ n : Nat, v = n := ⟨v.toNat, by omega⟩
    exact decimal_any T n (by omega) W hW
  have HSg : Hid (∀ W, Calls Tryd.prog 113 #[.int .i64 o] W fun e w' => e = .returned (.string (bar (signS o.toNat))) ∧ Below W.heap.size W w') := signOf_any o h3 h4
  have HLn : (dec T a.toNat).length ≤ 100 := dec_len T a.toNat (by omega)
  clear be ht h1 h2 h3 h4 h7 h8
  generalize dec T a.toNat = DA at *
  generalize dec T m.toNat = DM at *
  generalize dec T v.toNat = DV at *
  generalize signS o.toNat = SG at *
  have hcat : (⟨#[97, 114, 103]⟩ : ByteArray) ++ bar DA = bar ([97, 114, 103] ++ DA) := bar_append [97, 114, 103] DA
  have hsz : (bar DA).size ≤ 100 := by rw [bar_size]; exact HLn
  generalize [97, 114, 103] ++ DA = AD at *
  clear HLn
  have OUT : Hid (∀ (w' : World) (u : Value) (l : List (List UInt8)), w'.ownsRow (w.alloc (Obj.cells #[.int .i64 a, .int .i64 o, .int .u64 m, .int .u64 v] 74)).heap.size 9 1 u l.length (cellsT' l) → Below (w.alloc (Obj.cells #[.int .i64 a, .int .i64 o, .int .u64 m, .int .u64 v] 74)).heap.size (w.alloc (Obj.cells #[.int .i64 a, .int .i64 o, .int .u64 m, .int .u64 v] 74)) w' → Row w w' (.returned u) l) := fun w' u l h1 h2 => ⟨u, rfl, owns_lower h1 BE.out.size, BE.out.trans (h2.mono BE.out.size)⟩
  rcases Bool.eq_false_or_eq_true (m == 18446744073709551615) with hm | hm
  all_goals
    rw [hm]
    first | rw [if_pos rfl] | rw [if_neg (by decide)]
    have hm' : (m != 18446744073709551615) = !(m == 18446744073709551615) := rfl
    rw [hm] at hm'
    go_enter Tryd.func111, Tryd.ntmps111
    go_wp2_with fail
    generalize (w.alloc (Obj.cells #[.int .i64 a, .int .i64 o, .int .u64 m, .int .u64 v] 74)) = X at *
    refine (HI.out _ HT0.out).mono ?_
    rintro e w1 ⟨rfl, b1⟩
    have HO1 : Hid ((w1.alloc (Obj.cells #[.string (bar AD)] 9)).ownsRow X.heap.size 9 1 (.slice (some ⟨w1.heap.size, 0, none⟩) 1 1) 1 [.string (bar AD)]) := owns_new (w := w1) (base := X.heap.size) 9 [.string (bar AD)] b1.size (by simp) (by simp)
    have HB1 : Hid (Below X.heap.size X (w1.alloc (Obj.cells #[.string (bar AD)] 9))) := b1.alloc b1.size _
    have t2 : (w1.alloc (Obj.cells #[.string (bar AD)] 9)).cell? ⟨w.heap.size, 2, none⟩ = some (.int .u64 m) := (HK0.out.over HB1.out).cell 2
    have HK1 : Hid (Blk (w1.alloc (Obj.cells #[.string (bar AD)] 9)) w.heap.size 74 [.int .i64 a, .int .i64 o, .int .u64 m, .int .u64 v]) := HK0.out.over HB1.out
    have HT1 : Hid (Tb T (w1.alloc (Obj.cells #[.string (bar AD)] 9))) := HT0.out.below HB1.out
    clear b1 HI
    go_wp2_with fail
  · generalize (w1.alloc (Obj.cells #[.string (bar AD)] 9)) = Y at *
    generalize w1.heap.size = g1 at *
    have HO : Hid (Y.ownsRow X.heap.size 9 1 (.slice (some ⟨g1, 0, none⟩) 1 1) [AD].length (cellsT' [AD])) := HO1.out
    have HL : Hid ([AD].length ≤ 1000) := by show [AD].length ≤ 1000; simp
    clear HO1 HDm t2
    have HB : Hid (Below X.heap.size X Y) := HB1.out
    clear HK1 HT1 HB1
    generalize w.heap.size = b at *
    refine wp_region_held_drew (S := fun W => Below X.heap.size X W) (by kernel_rfl) (HB.out.drew) (fun hHeld => ?_)
    simp only [List.size_toArray, List.length_cons, List.length_nil, Nat.reduceAdd]
    refine wpAnyH_take (i := 0) (v := ?_) rfl (by kernel_rfl) (by kernel_rfl) (by kernel_rfl) (fun _ _ _ h => h) (Or.inl ⟨by rfl, ?_⟩) hHeld ?_
    rotate_left
    · (intro w hSw; (try dsimp only at hSw); go_simp; try with_reducible rfl)
    try simp only [Act.put, List.setIfInBounds_toArray, List.set_cons_zero, List.set_cons_succ, List.getElem_toArray, List.getElem_cons_zero, List.getElem_cons_succ]
    refine wpAnyH_take (i := 1) (v := ?_) rfl (by kernel_rfl) (by kernel_rfl) (by kernel_rfl) (fun _ _ _ h => h) (Or.inl ⟨by rfl, ?_⟩) hHeld ?_
    rotate_left
    · (intro w hSw; (try dsimp only at hSw); go_simp; try with_reducible rfl)
    try simp only [Act.put, List.setIfInBounds_toArray, List.set_cons_zero, List.set_cons_succ, List.getElem_toArray, List.getElem_cons_zero, List.getElem_cons_succ]
    refine wpAnyH_take (i := 2) (v := ?_) rfl (by kernel_rfl) (by kernel_rfl) (by kernel_rfl) (fun _ _ _ h => h) (Or.inl ⟨by rfl, ?_⟩) hHeld ?_
    rotate_left
    · (intro w hSw; (try dsimp only at hSw); have c1 : w.cell? ⟨b, 1, none⟩ = some (.int .i64 o) := (HK0.out.over hSw).cell 1; go_simp; try with_reducible rfl)
    try simp only [Act.put, List.setIfInBounds_toArray, List.set_cons_zero, List.set_cons_succ, List.getElem_toArray, List.getElem_cons_zero, List.getElem_cons_succ]
    refine wpAnyH_take (i := 4) (v := ?_) rfl (by kernel_rfl) (by kernel_rfl) (by kernel_rfl) (fun _ _ _ h => h) (Or.inl ⟨by rfl, ?_⟩) hHeld ?_
    rotate_left
    · (intro w hSw; (try dsimp only at hSw); go_simp; try with_reducible rfl)
    try simp only [Act.put, List.setIfInBounds_toArray, List.set_cons_zero, List.set_cons_succ, List.getElem_toArray, List.getElem_cons_zero, List.getElem_cons_succ]
    refine wpAnyH_take (i := 5) (v := ?_) rfl (by kernel_rfl) (by kernel_rfl) (by kernel_rfl) (fun _ _ _ h => h) (Or.inl ⟨by rfl, ?_⟩) hHeld ?_
    rotate_left
    · (intro w hSw; (try dsimp only at hSw); have c3 : w.cell? ⟨b, 3, none⟩ = some (.int .u64 v) := (HK0.out.over hSw).cell 3; go_simp; try with_reducible rfl)
    try simp only [Act.put, List.setIfInBounds_toArray, List.set_cons_zero, List.set_cons_succ, List.getElem_toArray, List.getElem_cons_zero, List.getElem_cons_succ]
    refine wpAnyH_ready (rs := [3]) (by kernel_rfl) (by simp) ?_
    refine AllReadyH.cons rfl (fun K hK => ?_) AllReadyH.nil
    go_simp
    refine (HSg.out _).mono ?_
    rintro e w5 ⟨rfl, b5⟩
    have O5 := owns_below (owns_below HO.out (Below.refl _ _).drew (Nat.le_refl _)) b5 (Nat.le_refl _)
    go_wp2_with fail
    refine hK.out _ _ (hHeld.trans (b5.mono hHeld.size)) (fun hHeld => ?_)
    clear hK K
    try simp only [Act.put, List.setIfInBounds_toArray, List.set_cons_zero, List.set_cons_succ, List.getElem_toArray, List.getElem_cons_zero, List.getElem_cons_succ]
    refine wpAnyH_ready (rs := [6]) (by kernel_rfl) (by simp) ?_
    refine AllReadyH.cons rfl (fun K hK => ?_) AllReadyH.nil
    go_simp
    refine (HDv.out _ (HT0.out.below hHeld)).mono ?_
    rintro e w6 ⟨rfl, b6⟩
    have O6 := owns_below O5 b6 (Nat.le_refl _)
    go_wp2_with fail
    refine hK.out _ _ (hHeld.trans (b6.mono hHeld.size)) (fun hHeld => ?_)
    clear hK K
    try simp only [Act.put, List.setIfInBounds_toArray, List.set_cons_zero, List.set_cons_succ, List.getElem_toArray, List.getElem_cons_zero, List.getElem_cons_succ]
    refine wpAnyH_ready (rs := [7]) (by kernel_rfl) (by simp) ?_
    refine AllReadyH.cons rfl (fun K hK => ?_) AllReadyH.nil
    go_simp
    have HA : Hid (App X.heap.size X (w6.alloc (Obj.cells #[.string (bar SG), .string (bar DV)] 9)) (.slice (some ⟨g1, 0, none⟩) 1 1) w6.heap.size 2 2 ([AD] ++ [SG, DV])) := app_two SG DV hHeld hHeld.size O6 HL.out
    clear O5 O6 b5 b6
    refine hK.out _ _ (hHeld.alloc hHeld.size _) (fun hHeld => ?_)
    clear hK K
    try simp only [Act.put, List.setIfInBounds_toArray, List.set_cons_zero, List.set_cons_succ, List.getElem_toArray, List.getElem_cons_zero, List.getElem_cons_succ]
    refine wpAnyH_ready (rs := [8]) (by kernel_rfl) (by simp) ?_
    refine AllReadyH.cons rfl (fun K hK => ?_) AllReadyH.nil
    refine AppG.step HA.out (.tmp 18) (.tmp 25) (by rfl) (by rfl) (by rfl) (by rfl) ?_
    intro v8 w8 h8 b8
    refine hK.out _ _ (b8) (fun hHeld => ?_)
    clear hK K
    try simp only [Act.put, List.setIfInBounds_toArray, List.set_cons_zero, List.set_cons_succ, List.getElem_toArray, List.getElem_cons_zero, List.getElem_cons_succ]
    refine wpAnyH_take (i := 9) (v := ?_) rfl (by kernel_rfl) (by kernel_rfl) (by kernel_rfl) (fun _ _ _ h => h) (Or.inl ⟨by rfl, ?_⟩) hHeld ?_
    rotate_left
    · (intro w hSw; (try dsimp only at hSw); go_simp; try with_reducible rfl)
    try simp only [Act.put, List.setIfInBounds_toArray, List.set_cons_zero, List.set_cons_succ, List.getElem_toArray, List.getElem_cons_zero, List.getElem_cons_succ]
    refine wpAnyH_done (by kernel_rfl) ?_ _
    go_wp2_with fail
    go_ret
    exact OUT.out _ _ _ h8 b8
  · generalize (w1.alloc (Obj.cells #[.string (bar AD)] 9)) = Y at *
    generalize w1.heap.size = g1 at *
    have HO : Hid (Y.ownsRow X.heap.size 9 1 (.slice (some ⟨g1, 0, none⟩) 1 1) [AD].length (cellsT' [AD])) := HO1.out
    clear HO1
    refine (HDm.out _ HT1.out).mono ?_
    rintro e w2 ⟨rfl, b2⟩
    have O2 := owns_below HO.out b2 (Nat.le_refl _)
    have HB2 : Hid (Below X.heap.size X w2) := HB1.out.trans (b2.mono HB1.out.size)
    have HK2 : Hid (Blk w2 w.heap.size 74 [.int .i64 a, .int .i64 o, .int .u64 m, .int .u64 v]) := HK1.out.over b2
    have HT2 : Hid (Tb T w2) := HT1.out.below b2
    have HA0 : Hid (App X.heap.size X (w2.alloc (Obj.cells #[.string (bar [38]), .string (bar DM)] 9)) (.slice (some ⟨g1, 0, none⟩) 1 1) w2.heap.size 2 2 ([AD] ++ [[38], DM])) := app_two [38] DM HB2.out HB2.out.size O2 (by simp)
    clear O2 b2 t2 HO
    go_wp2_with (at_builtin; refine AppG.list HA0.out (.tmp 12) (.tmp 16) rfl rfl rfl rfl ?_; intro va Y5 h5 b5)
    have HB : Hid (Below X.heap.size X Y5) := b5
    have HO : Hid (Y5.ownsRow X.heap.size 9 1 va ([AD] ++ [[38], DM]).length (cellsT' ([AD] ++ [[38], DM]))) := h5
    have HL : Hid (([AD] ++ [[38], DM]).length ≤ 1000) := by show ([AD] ++ [[38], DM]).length ≤ 1000; simp
    clear h5 b5 HA0 HK2 HT2 HB2 HK1 HT1 HB1 HDm
    clear Y
    generalize Y5 = Y at *
    generalize w.heap.size = b at *
    refine wp_region_held_drew (S := fun W => Below X.heap.size X W) (by kernel_rfl) (HB.out.drew) (fun hHeld => ?_)
    simp only [List.size_toArray, List.length_cons, List.length_nil, Nat.reduceAdd]
    refine wpAnyH_take (i := 0) (v := ?_) rfl (by kernel_rfl) (by kernel_rfl) (by kernel_rfl) (fun _ _ _ h => h) (Or.inl ⟨by rfl, ?_⟩) hHeld ?_
    rotate_left
    · (intro w hSw; (try dsimp only at hSw); go_simp; try with_reducible rfl)
    try simp only [Act.put, List.setIfInBounds_toArray, List.set_cons_zero, List.set_cons_succ, List.getElem_toArray, List.getElem_cons_zero, List.getElem_cons_succ]
    refine wpAnyH_take (i := 1) (v := ?_) rfl (by kernel_rfl) (by kernel_rfl) (by kernel_rfl) (fun _ _ _ h => h) (Or.inl ⟨by rfl, ?_⟩) hHeld ?_
    rotate_left
    · (intro w hSw; (try dsimp only at hSw); go_simp; try with_reducible rfl)
    try simp only [Act.put, List.setIfInBounds_toArray, List.set_cons_zero, List.set_cons_succ, List.getElem_toArray, List.getElem_cons_zero, List.getElem_cons_succ]
    refine wpAnyH_take (i := 2) (v := ?_) rfl (by kernel_rfl) (by kernel_rfl) (by kernel_rfl) (fun _ _ _ h => h) (Or.inl ⟨by rfl, ?_⟩) hHeld ?_
    rotate_left
    · (intro w hSw; (try dsimp only at hSw); have c1 : w.cell? ⟨b, 1, none⟩ = some (.int .i64 o) := (HK0.out.over hSw).cell 1; go_simp; try with_reducible rfl)
    try simp only [Act.put, List.setIfInBounds_toArray, List.set_cons_zero, List.set_cons_succ, List.getElem_toArray, List.getElem_cons_zero, List.getElem_cons_succ]
    refine wpAnyH_take (i := 4) (v := ?_) rfl (by kernel_rfl) (by kernel_rfl) (by kernel_rfl) (fun _ _ _ h => h) (Or.inl ⟨by rfl, ?_⟩) hHeld ?_
    rotate_left
    · (intro w hSw; (try dsimp only at hSw); go_simp; try with_reducible rfl)
    try simp only [Act.put, List.setIfInBounds_toArray, List.set_cons_zero, List.set_cons_succ, List.getElem_toArray, List.getElem_cons_zero, List.getElem_cons_succ]
    refine wpAnyH_take (i := 5) (v := ?_) rfl (by kernel_rfl) (by kernel_rfl) (by kernel_rfl) (fun _ _ _ h => h) (Or.inl ⟨by rfl, ?_⟩) hHeld ?_
    rotate_left
    · (intro w hSw; (try dsimp only at hSw); have c3 : w.cell? ⟨b, 3, none⟩ = some (.int .u64 v) := (HK0.out.over hSw).cell 3; go_simp; try with_reducible rfl)
    try simp only [Act.put, List.setIfInBounds_toArray, List.set_cons_zero, List.set_cons_succ, List.getElem_toArray, List.getElem_cons_zero, List.getElem_cons_succ]
    refine wpAnyH_ready (rs := [3]) (by kernel_rfl) (by simp) ?_
    refine AllReadyH.cons rfl (fun K hK => ?_) AllReadyH.nil
    go_simp
    refine (HSg.out _).mono ?_
    rintro e w5 ⟨rfl, b5⟩
    have O5 := owns_below (owns_below HO.out (Below.refl _ _).drew (Nat.le_refl _)) b5 (Nat.le_refl _)
    go_wp2_with fail
    refine hK.out _ _ (hHeld.trans (b5.mono hHeld.size)) (fun hHeld => ?_)
    clear hK K
    try simp only [Act.put, List.setIfInBounds_toArray, List.set_cons_zero, List.set_cons_succ, List.getElem_toArray, List.getElem_cons_zero, List.getElem_cons_succ]
    refine wpAnyH_ready (rs := [6]) (by kernel_rfl) (by simp) ?_
    refine AllReadyH.cons rfl (fun K hK => ?_) AllReadyH.nil
    go_simp
    refine (HDv.out _ (HT0.out.below hHeld)).mono ?_
    rintro e w6 ⟨rfl, b6⟩
    have O6 := owns_below O5 b6 (Nat.le_refl _)
    go_wp2_with fail
    refine hK.out _ _ (hHeld.trans (b6.mono hHeld.size)) (fun hHeld => ?_)
    clear hK K
    try simp only [Act.put, List.setIfInBounds_toArray, List.set_cons_zero, List.set_cons_succ, List.getElem_toArray, List.getElem_cons_zero, List.getElem_cons_succ]
    refine wpAnyH_ready (rs := [7]) (by kernel_rfl) (by simp) ?_
    refine AllReadyH.cons rfl (fun K hK => ?_) AllReadyH.nil
    go_simp
    have HA : Hid (App X.heap.size X (w6.alloc (Obj.cells #[.string (bar SG), .string (bar DV)] 9)) va w6.heap.size 2 2 (([AD] ++ [[38], DM]) ++ [SG, DV])) := app_two SG DV hHeld hHeld.size O6 HL.out
    clear O5 O6 b5 b6
    refine hK.out _ _ (hHeld.alloc hHeld.size _) (fun hHeld => ?_)
    clear hK K
    try simp only [Act.put, List.setIfInBounds_toArray, List.set_cons_zero, List.set_cons_succ, List.getElem_toArray, List.getElem_cons_zero, List.getElem_cons_succ]
    refine wpAnyH_ready (rs := [8]) (by kernel_rfl) (by simp) ?_
    refine AllReadyH.cons rfl (fun K hK => ?_) AllReadyH.nil
    refine AppG.step HA.out (.tmp 18) (.tmp 25) (by rfl) (by rfl) (by rfl) (by rfl) ?_
    intro v8 w8 h8 b8
    refine hK.out _ _ (b8) (fun hHeld => ?_)
    clear hK K
    try simp only [Act.put, List.setIfInBounds_toArray, List.set_cons_zero, List.set_cons_succ, List.getElem_toArray, List.getElem_cons_zero, List.getElem_cons_succ]
    refine wpAnyH_take (i := 9) (v := ?_) rfl (by kernel_rfl) (by kernel_rfl) (by kernel_rfl) (fun _ _ _ h => h) (Or.inl ⟨by rfl, ?_⟩) hHeld ?_
    rotate_left
    · (intro w hSw; (try dsimp only at hSw); go_simp; try with_reducible rfl)
    try simp only [Act.put, List.setIfInBounds_toArray, List.set_cons_zero, List.set_cons_succ, List.getElem_toArray, List.getElem_cons_zero, List.getElem_cons_succ]
    refine wpAnyH_done (by kernel_rfl) ?_ _
    go_wp2_with fail
    go_ret
    exact OUT.out _ _ _ h8 b8

end Go.Proofs.YtcllgpbgikidjaaDoor
