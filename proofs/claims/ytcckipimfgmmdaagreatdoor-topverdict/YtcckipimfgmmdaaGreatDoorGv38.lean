/-
  Texts of this seat, joined: KSmall.
-/
import Derived.Test.YtcckipimfgmmdaaGreatDoorGv37

namespace Go.Proofs.YtcckipimfgmmdaaGreatDoor
open Go.RowKit

set_option maxHeartbeats 1000000 in
theorem answer_any (k a : Int) (w : World) : Calls Tryz.prog 49 #[.agg #[.int .i64 k, .int .i64 a]] w fun e w' => e = .returned (.agg (cI (ansI k a))) ∧ Below w.heap.size w w' := by
  have HV : Hid (∀ W, Calls Tryz.prog 11 #[.agg #[.int .i64 k, .int .i64 a]] W fun e w' => e = .returned (.tuple #[.int .u32 (A.valZ k a), .int .i64 (A.errZ k a)]) ∧ Below W.heap.size W w') := fun W => A.value_any k a W
  have HB : Hid (V.Blk ((w.alloc (Obj.cells #[.int .i64 k, .int .i64 a] 36)).alloc (Obj.cells #[.int .u16 0, .int .u8 0, .int .u8 0, .int .u32 0] 60)) (w.heap.size + 1) 60 [.int .u16 0, .int .u8 0, .int .u8 0, .int .u32 0]) := V.blk_new' w _ _ 60
  have HW : Hid (Below w.heap.size w ((w.alloc (Obj.cells #[.int .i64 k, .int .i64 a] 36)).alloc (Obj.cells #[.int .u16 0, .int .u8 0, .int .u8 0, .int .u32 0] 60))) := below_two w _ _
  have HS : Hid ((Tryz.prog.info? 60).map (·.size) = some (cI (ansI k a)).size) := size78 _
  have H1 : Hid ((cI (ansI k a)).all (·.oneCell') = true) := cI_one _
  unfold ansI cI at *
  dsimp only at *
  generalize A.valZ k a = v at *
  generalize A.errZ k a = er at *
  go_enter Tryz.func49, Tryz.ntmps49
  go_wp2_with (first | (go_at_call 11; refine (HV.out _).mono ?_; rintro e w1 ⟨rfl, b1⟩; have HB1 := HB.out.over b1; have HW1 : Hid (Below w.heap.size w w1) := HW.out.trans (b1.mono HW.out.size); clear b1) | (refine at_op (.store 60 (.tmp 2) (.tmp 11)) rfl ?_; refine wpList_store_row rfl 60 (.tmp 2) (.tmp 11) rfl (w.heap.size + 1) #[.int .u16 6, .int .u8 0, .int .u8 0, .int .u32 v] rfl rfl 60 _ HB1 HS.out rfl H1.out ?_))
  refine bodyPost_ret (v := .agg #[.int .u16 6, .int .u8 0, .int .u8 0, .int .u32 v]) ?_ rfl ⟨rfl, ?_⟩
  · exact results_cell_row Tryz.results49 _ _ (w.heap.size + 1) 60 #[.int .u16 6, .int .u8 0, .int .u8 0, .int .u32 v] (0, 0) _ rfl (V.Blk.row HB1 _) Tryz.underlying60 rfl HS.out
  · exact below_setRow HW1.out (Nat.le_succ _) _

set_option maxHeartbeats 1000000 in
theorem jump_any (c k t f : Int) (w : World) (ht : 0 ≤ t ∧ t ≤ 255) (hf : 0 ≤ f ∧ f ≤ 255) : Calls Tryz.prog 152 #[.int .u16 c, .int .u32 k, .int .i64 t, .int .i64 f] w fun e w' => e = .returned (.agg (cI ⟨c, t, f, k⟩)) ∧ Below w.heap.size w w' := by
  have HB : Hid (V.Blk (w.alloc (Obj.cells #[.int .u16 0, .int .u8 0, .int .u8 0, .int .u32 0] 60)) w.heap.size 60 [.int .u16 0, .int .u8 0, .int .u8 0, .int .u32 0]) := V.blk_new w _ 60
  have HW : Hid (Below w.heap.size w (w.alloc (Obj.cells #[.int .u16 0, .int .u8 0, .int .u8 0, .int .u32 0] 60))) := below_new w _
  have HS : Hid ((Tryz.prog.info? 60).map (·.size) = some (cI ⟨c, t, f, k⟩).size) := size78 _
  have H1 : Hid ((cI ⟨c, t, f, k⟩).all (·.oneCell') = true) := cI_one _
  have e1 : IntKind.u8.wrap t = t := by rw [IntKind.wrap_u8]; omega
  have e2 : IntKind.u8.wrap f = f := by rw [IntKind.wrap_u8]; omega
  unfold cI at *
  dsimp only at *
  go_enter Tryz.func152, Tryz.ntmps152
  go_wp2_with (first | (refine at_op (.store 60 (.tmp 8) (.tmp 15)) rfl ?_; refine wpList_store_row rfl 60 (.tmp 8) (.tmp 15) rfl w.heap.size #[.int .u16 c, .int .u8 t, .int .u8 f, .int .u32 k] rfl rfl 60 _ HB.out HS.out rfl H1.out ?_))
  refine bodyPost_ret (v := .agg #[.int .u16 c, .int .u8 t, .int .u8 f, .int .u32 k]) ?_ rfl ⟨rfl, ?_⟩
  · exact results_cell_row Tryz.results152 _ _ w.heap.size 60 #[.int .u16 c, .int .u8 t, .int .u8 f, .int .u32 k] (0, 0) _ rfl (V.Blk.row HB.out _) Tryz.underlying60 rfl HS.out
  · exact below_setRow HW.out (Nat.le_refl _) _

theorem code_any (o : Int) (w : World) : Calls Tryz.prog 192 #[.int .i64 o] w fun e w' => e = .returned (.int .u16 (codeI o)) ∧ w' = w := by
  by_cases h5 : o = 5
  · subst h5
    go_enter Tryz.func192, Tryz.ntmps192
    go_wp2
    go_ret
    exact ⟨rfl, rfl⟩
  · by_cases h6 : o = 6
    · subst h6
      go_enter Tryz.func192, Tryz.ntmps192
      go_wp2
      go_ret
      exact ⟨rfl, rfl⟩
    · have HC : Hid (codeI o = 21) := by unfold Hid codeI; rw [if_neg h5, if_neg h6]
      have e5 : (o == 5) = false := by simpa using h5
      have e6 : (o == 6) = false := by simpa using h6
      go_enter Tryz.func192, Tryz.ntmps192
      go_wp2
      go_ret
      exact ⟨by rw [HC.out]; rfl, rfl⟩

theorem hicode_any (o v : Int) (w : World) : Calls Tryz.prog 191 #[.int .i64 o, .int .u32 v] w fun e w' => e = .returned (.int .u16 (hiI o v)) ∧ w' = w := by
  have HC : Hid (∀ W, Calls Tryz.prog 192 #[.int .i64 o] W fun e w' => e = .returned (.int .u16 (codeI o)) ∧ w' = W) := code_any o
  by_cases h6 : o = 6
  · subst h6
    by_cases hv : 0 < v
    · have HH : Hid (hiI 6 v = 37) := by unfold Hid hiI; rw [if_pos ⟨rfl, hv⟩]
      go_enter Tryz.func191, Tryz.ntmps191
      go_wp2_with (first | (go_at_call 192; refine (HC.out _).mono ?_; rintro e w1 ⟨rfl, hw1⟩; subst w1))
      go_ret
      exact ⟨by rw [HH.out]; rfl, rfl⟩
    · have HH : Hid (hiI 6 v = codeI 6) := by unfold Hid hiI; rw [if_neg (fun h => hv h.2)]
      generalize codeI 6 = cc at *
      go_enter Tryz.func191, Tryz.ntmps191
      go_wp2_with (first | (go_at_call 192; refine (HC.out _).mono ?_; rintro e w1 ⟨rfl, hw1⟩; subst w1))
      go_ret
      exact ⟨by rw [HH.out]; rfl, rfl⟩
  · have HH : Hid (hiI o v = codeI o) := by unfold Hid hiI; rw [if_neg (fun h => h6 h.1)]
    have e6 : (o == 6) = false := by simpa using h6
    generalize codeI o = cc at *
    go_enter Tryz.func191, Tryz.ntmps191
    go_wp2_with (first | (go_at_call 192; refine (HC.out _).mono ?_; rintro e w1 ⟨rfl, hw1⟩; subst w1))
    go_ret
    exact ⟨by rw [HH.out]; rfl, rfl⟩

set_option maxHeartbeats 1000000 in
theorem word_any (p m : Int) (w : World) : Calls Tryz.prog 190 #[.int .u32 p, .int .u32 m] w fun e w' => Tld w (wordI p m) e w' := by
  unfold wordI
  by_cases hm : m = 4294967295
  · rw [if_pos hm]
    subst hm
    have HO : Hid ((w.alloc (Obj.cells #[.int .u16 32, .int .u8 0, .int .u8 0, .int .u32 p] 60)).ownsRow w.heap.size 60 4 (.slice (some ⟨w.heap.size, 0, none⟩) 1 1) 1 (V.cellsI [⟨32, 0, 0, p⟩])) := own_fresh w _ (Nat.le_refl _) [⟨32, 0, 0, p⟩] 1 rfl (by simp) _ rfl
    go_enter Tryz.func190, Tryz.ntmps190
    go_wp2
    go_ret
    exact ⟨_, rfl, HO.out, below_new w _⟩
  · rw [if_neg hm]
    have HO : Hid ((w.alloc (Obj.cells #[.int .u16 32, .int .u8 0, .int .u8 0, .int .u32 p] 60)).ownsRow w.heap.size 60 4 (.slice (some ⟨w.heap.size, 0, none⟩) 1 1) 1 (V.cellsI [⟨32, 0, 0, p⟩])) := own_fresh w _ (Nat.le_refl _) [⟨32, 0, 0, p⟩] 1 rfl (by simp) _ rfl
    have HW : Hid (Below w.heap.size w (w.alloc (Obj.cells #[.int .u16 32, .int .u8 0, .int .u8 0, .int .u32 p] 60))) := below_new w _
    have em : (m == 4294967295) = false := by simpa using hm
    go_enter Tryz.func190, Tryz.ntmps190
    have HX : Hid (w.heap.size ≤ (w.alloc (Obj.cells #[.int .u16 32, .int .u8 0, .int .u8 0, .int .u32 p] 60)).heap.size) := HW.out.size
    go_wp2_with (first | (at_builtin; refine app_rows rfl (.tmp 11) (.tmp 14) rfl w.heap.size _ 1 [⟨32, 0, 0, p⟩] rfl (HO.out.alloc _) w.heap.size _ 1 [⟨84, 0, 0, m⟩] rfl (own_in _ _ HX.out 84 0 0 m _ (by simp)) (by decide) (by simp; omega) ?_; intro v' w' hG; go_frame))
    go_ret
    exact ⟨_, rfl, hG.own, hG.below (HO.out.alloc _) (HW.out.alloc HW.out.size _) (by simp; omega)⟩

end Go.Proofs.YtcckipimfgmmdaaGreatDoor
