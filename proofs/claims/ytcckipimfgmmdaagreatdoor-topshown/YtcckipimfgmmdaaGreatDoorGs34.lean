/-
  KTst.
-/
import Derived.Test.YtcckipimfgmmdaaGreatDoorGs32
import Derived.Test.YtcckipimfgmmdaaGreatDoorGs33
set_option maxHeartbeats 4000000
namespace Go.Proofs.YtcckipimfgmmdaaGreatDoor
open V (below_new)
open Go.RowKit
theorem place_in (g : Int) (h0 : 0 <= g) (h5 : g < 6) (w : World) : Calls Tryz.prog 189 #[.int .i64 g] w fun e w' => e = .returned (.tuple #[.int .u32 (16 + 8 * g), .int .u32 (16 + 8 * g + 4), .int .i64 0]) /\ Below w.heap.size w w' := by
 have h := D.place_any g w
 rw [(D.pl_in g h0 (by omega)).1, (D.pl_in g h0 (by omega)).2, if_pos ⟨h0, by omega⟩] at h
 exact h
theorem own_over {X Y : World} {b : Nat} {v : Value} {n : Nat} {xs : List Value} (h : X.ownsRow b 60 4 v n xs) (hb : Below X.heap.size X Y) : Y.ownsRow b 60 4 v n xs := P.owns_below h hb (Nat.le_refl _)
theorem apart_late {X : World} {b c : Nat} {v u : Value} {n m : Nat} {xs ys : List Value} (h : X.ownsRow b 60 4 v n xs) {Y : World} (hu : Y.ownsRow c 60 4 u m ys) (hc : X.heap.size <= c) : Apart v u := by
 intro j hj e
 have h1 := V.own_lt h j hj
 have h2 := P.owns_block hu j e
 omega
set_option maxRecDepth 8000 in
theorem test_Atrue (al ne : Bool) (g o m v : Int) (rest : Nat) (w : World) (h0 : 0 <= g) (h5 : g < 6) (hm : V.U64 m) (hv : V.U64 v) (hr : rest <= 200) (hl : V.lo m = 0) :
  Calls Tryz.prog 168 #[.int .i64 g, .agg #[.bool al, .bool ne, .bool true, .int .i64 o, .int .u64 m, .int .u64 v], .int .i64 rest] w fun e w' => Tld w (testI g ⟨al, ne, true, o, m, v⟩ rest) e w' := by
 have HP : Hid (∀ W, Calls Tryz.prog 189 #[.int .i64 g] W fun e w' => e = .returned (.tuple #[.int .u32 (16 + 8 * g), .int .u32 (16 + 8 * g + 4), .int .i64 0]) /\ Below W.heap.size W w') := place_in g h0 h5
 have HHm : Hid (∀ W, Calls Tryz.prog 176 #[.int .u64 m] W fun e w' => e = .returned (.tuple #[.int .u32 (V.lo m), .int .u32 (V.hi m)]) /\ w' = W) := fun W => V.halves_any m W hm
 have HHv : Hid (∀ W, Calls Tryz.prog 176 #[.int .u64 v] W fun e w' => e = .returned (.tuple #[.int .u32 (V.lo v), .int .u32 (V.hi v)]) /\ w' = W) := fun W => V.halves_any v W hv
 have HWd : Hid (∀ p m W, Calls Tryz.prog 190 #[.int .u32 p, .int .u32 m] W fun e w' => Tld W (wordI p m) e w') := word_any
 have HJ : Hid (∀ c k t f W, 0 <= t /\ t <= 255 -> 0 <= f /\ f <= 255 -> Calls Tryz.prog 152 #[.int .u16 c, .int .u32 k, .int .i64 t, .int .i64 f] W fun e w' => e = .returned (.agg (cI ⟨c, t, f, k⟩)) /\ Below W.heap.size W w') := jump_any
 have HB0 : Hid (Below w.heap.size w (w.alloc (Obj.cells #[.bool al, .bool ne, .bool true, .int .i64 o, .int .u64 m, .int .u64 v] 239))) := below_new w _
 have HK : Hid (P.Blk (w.alloc (Obj.cells #[.bool al, .bool ne, .bool true, .int .i64 o, .int .u64 m, .int .u64 v] 239)) w.heap.size 239 [.bool al, .bool ne, .bool true, .int .i64 o, .int .u64 m, .int .u64 v]) := P.blk_new w _ _
 have HX : Hid (∀ W, Below (w.alloc (Obj.cells #[.bool al, .bool ne, .bool true, .int .i64 o, .int .u64 m, .int .u64 v] 239)).heap.size (w.alloc (Obj.cells #[.bool al, .bool ne, .bool true, .int .i64 o, .int .u64 m, .int .u64 v] 239)) W -> W.cell? ⟨w.heap.size, 2, none⟩ = some (.bool true) /\ W.cell? ⟨w.heap.size, 3, none⟩ = some (.int .i64 o) /\ W.cell? ⟨w.heap.size, 4, none⟩ = some (.int .u64 m) /\ W.cell? ⟨w.heap.size, 5, none⟩ = some (.int .u64 v) /\ Below w.heap.size w W) := fun W hW => ⟨(HK.out.over hW).cell 2, (HK.out.over hW).cell 3, (HK.out.over hW).cell 4, (HK.out.over hW).cell 5, HB0.out.trans (hW.mono HB0.out.size)⟩
 have HC : Hid (∀ W, Calls Tryz.prog 191 #[.int .i64 o, .int .u32 (V.lo v)] W fun e w' => e = .returned (.int .u16 (hiI o (V.lo v))) /\ w' = W) := hicode_any o (V.lo v)
 have HT : Hid (testI g ⟨al, ne, true, o, m, v⟩ rest = wordI (16 + 8 * g + 4) (V.hi m) ++ [⟨hiI o (V.lo v), rest, 0, V.hi v⟩]) := by unfold Hid testI testY; dsimp only; rw [if_pos rfl, if_pos hl]; rfl
 have hwl : Hid ((wordI (16 + 8 * g + 4) (V.hi m)).length <= 2) := (word_len _ _).2
 have el : (V.lo m == 0) = true := by simpa using hl
 clear h0 h5 hm hv hl
 generalize hiI o (V.lo v) = cc at *
 generalize V.lo m = lm at *
 generalize V.hi m = hm at *
 generalize V.lo v = lv at *
 generalize V.hi v = hv at *
 rw [HT.out]
 unfold cI at HJ
 dsimp only at HJ
 go_enter Tryz.func168, Tryz.ntmps168
 go_wp2_with (first
  | (go_at_call 189; refine (HP.out _).mono ?_; rintro e w1 ⟨rfl, b1⟩; obtain ⟨c2, c3, c4, c5, B1⟩ := HX.out _ b1)
  | (go_at_call 176; refine (HHm.out _).mono ?_; rintro e w2 ⟨rfl, hw2⟩; subst w2)
  | (go_at_call 176; refine (HHv.out _).mono ?_; rintro e w2 ⟨rfl, hw2⟩; subst w2)
  | (go_at_call 190; refine (HWd.out _ _ _).mono ?_; rintro e w3 ⟨v3, rfl, o3, b3⟩; obtain ⟨d2, d3, d4, d5, B3⟩ := HX.out _ (b1.trans (b3.mono b1.size)); have O3 := P.owns_lower o3 B1.size; clear o3)
  | (go_at_call 191; refine (HC.out _).mono ?_; rintro e w4 ⟨rfl, hw4⟩; subst w4)
  | (go_at_call 152; refine (HJ.out _ _ _ _ _ (by omega) (by omega)).mono ?_; rintro e w5 ⟨rfl, b5⟩; have O5 := own_over O3 b5; have B5 : Below w.heap.size w w5 := B3.trans (b5.mono B3.size))
  | (at_builtin; refine app_rows rfl (.tmp 46) (.tmp 55) rfl w.heap.size _ _ (wordI (16 + 8 * g + 4) hm) rfl (O5.alloc _) w.heap.size _ 1 [⟨cc, rest, 0, hv⟩] rfl (own_in w5 _ B5.size cc rest 0 hv _ rfl) (by have := hwl.out; omega) (by have := B5.size; simp; omega) ?_; intro v6 w6 hG; go_frame))
 go_ret
 exact ⟨_, rfl, by rw [List.length_append]; exact hG.own, hG.below (O5.alloc _) (B5.alloc B5.size _) (by have := B5.size; simp; omega)⟩
set_option maxRecDepth 8000 in
theorem test_Afalse (al ne : Bool) (g o m v : Int) (rest : Nat) (w : World) (h0 : 0 <= g) (h5 : g < 6) (hm : V.U64 m) (hv : V.U64 v) (hr : rest <= 200) (hl : V.lo m = 0) :
  Calls Tryz.prog 168 #[.int .i64 g, .agg #[.bool al, .bool ne, .bool false, .int .i64 o, .int .u64 m, .int .u64 v], .int .i64 rest] w fun e w' => Tld w (testI g ⟨al, ne, false, o, m, v⟩ rest) e w' := by
 have HP : Hid (∀ W, Calls Tryz.prog 189 #[.int .i64 g] W fun e w' => e = .returned (.tuple #[.int .u32 (16 + 8 * g), .int .u32 (16 + 8 * g + 4), .int .i64 0]) /\ Below W.heap.size W w') := place_in g h0 h5
 have HHm : Hid (∀ W, Calls Tryz.prog 176 #[.int .u64 m] W fun e w' => e = .returned (.tuple #[.int .u32 (V.lo m), .int .u32 (V.hi m)]) /\ w' = W) := fun W => V.halves_any m W hm
 have HHv : Hid (∀ W, Calls Tryz.prog 176 #[.int .u64 v] W fun e w' => e = .returned (.tuple #[.int .u32 (V.lo v), .int .u32 (V.hi v)]) /\ w' = W) := fun W => V.halves_any v W hv
 have HWd : Hid (∀ p m W, Calls Tryz.prog 190 #[.int .u32 p, .int .u32 m] W fun e w' => Tld W (wordI p m) e w') := word_any
 have HJ : Hid (∀ c k t f W, 0 <= t /\ t <= 255 -> 0 <= f /\ f <= 255 -> Calls Tryz.prog 152 #[.int .u16 c, .int .u32 k, .int .i64 t, .int .i64 f] W fun e w' => e = .returned (.agg (cI ⟨c, t, f, k⟩)) /\ Below W.heap.size W w') := jump_any
 have HB0 : Hid (Below w.heap.size w (w.alloc (Obj.cells #[.bool al, .bool ne, .bool false, .int .i64 o, .int .u64 m, .int .u64 v] 239))) := below_new w _
 have HK : Hid (P.Blk (w.alloc (Obj.cells #[.bool al, .bool ne, .bool false, .int .i64 o, .int .u64 m, .int .u64 v] 239)) w.heap.size 239 [.bool al, .bool ne, .bool false, .int .i64 o, .int .u64 m, .int .u64 v]) := P.blk_new w _ _
 have HX : Hid (∀ W, Below (w.alloc (Obj.cells #[.bool al, .bool ne, .bool false, .int .i64 o, .int .u64 m, .int .u64 v] 239)).heap.size (w.alloc (Obj.cells #[.bool al, .bool ne, .bool false, .int .i64 o, .int .u64 m, .int .u64 v] 239)) W -> W.cell? ⟨w.heap.size, 2, none⟩ = some (.bool false) /\ W.cell? ⟨w.heap.size, 3, none⟩ = some (.int .i64 o) /\ W.cell? ⟨w.heap.size, 4, none⟩ = some (.int .u64 m) /\ W.cell? ⟨w.heap.size, 5, none⟩ = some (.int .u64 v) /\ Below w.heap.size w W) := fun W hW => ⟨(HK.out.over hW).cell 2, (HK.out.over hW).cell 3, (HK.out.over hW).cell 4, (HK.out.over hW).cell 5, HB0.out.trans (hW.mono HB0.out.size)⟩
 have HC : Hid (∀ W, Calls Tryz.prog 191 #[.int .i64 o, .int .u32 (V.lo v)] W fun e w' => e = .returned (.int .u16 (hiI o (V.lo v))) /\ w' = W) := hicode_any o (V.lo v)
 have HT : Hid (testI g ⟨al, ne, false, o, m, v⟩ rest = wordI (16 + 8 * g + 4) (V.hi m) ++ [⟨hiI o (V.lo v), 0, rest, V.hi v⟩]) := by unfold Hid testI testY; dsimp only; rw [if_neg (by decide), if_pos hl]; rfl
 have hwl : Hid ((wordI (16 + 8 * g + 4) (V.hi m)).length <= 2) := (word_len _ _).2
 have el : (V.lo m == 0) = true := by simpa using hl
 clear h0 h5 hm hv hl
 generalize hiI o (V.lo v) = cc at *
 generalize V.lo m = lm at *
 generalize V.hi m = hm at *
 generalize V.lo v = lv at *
 generalize V.hi v = hv at *
 rw [HT.out]
 unfold cI at HJ
 dsimp only at HJ
 go_enter Tryz.func168, Tryz.ntmps168
 go_wp2_with (first
  | (go_at_call 189; refine (HP.out _).mono ?_; rintro e w1 ⟨rfl, b1⟩; obtain ⟨c2, c3, c4, c5, B1⟩ := HX.out _ b1)
  | (go_at_call 176; refine (HHm.out _).mono ?_; rintro e w2 ⟨rfl, hw2⟩; subst w2)
  | (go_at_call 176; refine (HHv.out _).mono ?_; rintro e w2 ⟨rfl, hw2⟩; subst w2)
  | (go_at_call 190; refine (HWd.out _ _ _).mono ?_; rintro e w3 ⟨v3, rfl, o3, b3⟩; obtain ⟨d2, d3, d4, d5, B3⟩ := HX.out _ (b1.trans (b3.mono b1.size)); have O3 := P.owns_lower o3 B1.size; clear o3)
  | (go_at_call 191; refine (HC.out _).mono ?_; rintro e w4 ⟨rfl, hw4⟩; subst w4)
  | (go_at_call 152; refine (HJ.out _ _ _ _ _ (by omega) (by omega)).mono ?_; rintro e w5 ⟨rfl, b5⟩; have O5 := own_over O3 b5; have B5 : Below w.heap.size w w5 := B3.trans (b5.mono B3.size))
  | (at_builtin; refine app_rows rfl (.tmp 46) (.tmp 55) rfl w.heap.size _ _ (wordI (16 + 8 * g + 4) hm) rfl (O5.alloc _) w.heap.size _ 1 [⟨cc, 0, rest, hv⟩] rfl (own_in w5 _ B5.size cc 0 rest hv _ rfl) (by have := hwl.out; omega) (by have := B5.size; simp; omega) ?_; intro v6 w6 hG; go_frame))
 go_ret
 exact ⟨_, rfl, by rw [List.length_append]; exact hG.own, hG.below (O5.alloc _) (B5.alloc B5.size _) (by have := B5.size; simp; omega)⟩
end Go.Proofs.YtcckipimfgmmdaaGreatDoor
