/-
  What the table's calls tell that leave it as it was: the lowest free place, a file, how many there are, whether two are the same.
-/
import Derived.Test.YtcenjdpochjclaaTb
import Derived.BigQuiet
import Derived.Deep.RegionHeld3
namespace Go.Proofs.Ytcenjdpochjclaa
open Go.RowKit

theorem guard_place (op : BinOp) (p q : Operand) (x y : Option Int) (w : World) (hop : op = .eql ∨ op = .neq) : (eqGuard op 48 p q (place x) (place y)).run Try.prog w = .ok () w := by
  unfold place
  rcases hop with rfl | rfl <;> go_simp
theorem guard_tab (p q : Operand) (x y : Array Value) (w : World) : (eqGuard .eql 49 p q (.agg x) (.agg y)).run Try.prog w = .ok () w := by
  go_simp

/-- a table of one's own. -/
theorem new_any (w : World) : Calls Try.prog 8 #[] w fun e w' => ∃ b, w.heap.size ≤ b ∧ e = .returned (.pointer (some ⟨b, 0, none⟩)) ∧ TbV w' b newF ∧ Below w.heap.size w w' := by
  go_enter Try.func8, Try.ntmps8
  go_wp2_with fail
  go_ret
  exact ⟨w.heap.size, Nat.le_refl _, rfl, ⟨blk_new w _ _, rfl⟩, below_new w _⟩

set_option maxHeartbeats 2000000 in
theorem index_any (b : Nat) (l : Fd) (w : World) (h : TbV w b l) : Calls Try.prog 19 #[.slice (some ⟨b, 0, none⟩) 16 16, .agg #[.bool false, .int .i64 0]] w fun e w' => e = .returned (.int .i64 (spotF l)) ∧ Below w.heap.size w w' := by
  have HT : Hid (TbV (w.alloc (.cells #[.bool false, .int .i64 0] 48)) b l) := h.over (below_new w _)
  have B1 : Hid (Below w.heap.size w (w.alloc (.cells #[.bool false, .int .i64 0] 48))) := below_new w _
  have K1 : Hid (Blk (w.alloc (.cells #[.bool false, .int .i64 0] 48)) w.heap.size 48 [.bool false, .int .i64 0]) := blk_new w _ _
  have HL : Hid (l.length = 16) := h.len
  obtain ⟨sp, hsp⟩ : ∃ s, spotF l = s := ⟨_, rfl⟩
  have HSP : Hid (spotF l = sp) := hsp
  rw [hsp]
  clear h hsp
  go_enter Try.func19, Try.ntmps19
  go_wp2_with fail
  generalize w.alloc (.cells #[.bool false, .int .i64 0] 48) = w1 at *
  go_loopw [8] (fun v8 wr => ∃ k : Nat, k ≤ 16 ∧ v8 = .int .i64 k ∧ k ≤ free l ∧ Below w1.heap.size w1 wr) (fun v8 _ => 16 - (intOf v8).toNat)
  case atStart => exact ⟨0, Nat.zero_le _, rfl, Nat.zero_le _, Below.refl _ _⟩
  case round =>
    obtain ⟨k, hk, rfl, hf, hb⟩ := hrel
    have HB : Hid (Below w1.heap.size w1 wr) := hb
    by_cases hlt : k < 16
    · have hi1 : (k : Int) < 16 := by omega
      have hkl : k < l.length := by have := HL.out; omega
      have c0 : wr.cell? ⟨w.heap.size, 0, none⟩ = some (.bool false) := (K1.out.over hb).cell 0
      have c1 : wr.cell? ⟨w.heap.size, 1, none⟩ = some (.int .i64 0) := (K1.out.over hb).cell 1
      have x0 := (HT.out.over hb).is hkl
      have x1 := (HT.out.over hb).val hkl
      have HD : Hid (∀ m, Below w1.heap.size w1 (wr.drewN m)) := fun m => hb.trans ((below_drewN wr m).mono hb.size)
      by_cases hfr : k < free l
      · obtain ⟨x, hx⟩ := free_some hfr
        rw [List.getElem?_eq_getElem hkl] at hx
        rw [Option.some.inj hx] at x0 x1
        replace x0 : wr.cell? ⟨b, k * 2, none⟩ = some (.bool true) := x0
        replace x1 : wr.cell? ⟨b, k * 2 + 1, none⟩ = some (.int .i64 x) := x1
        have heq : ∀ W, (binOp .eql 48 (.agg #[.bool false, .int .i64 0]) (.agg #[.bool true, .int .i64 x])).run Try.prog W = .ok (.bool false) W := fun W => eql_place none (some x) W
        have HFR : Hid (k < free l) := hfr
        clear hx hf hb hfr hkl hk
        go_wp2_with fail
        go_quiet (fail)
        go_wp2_with fail
        go_roundw
        case rel => exact ⟨k + 1, by omega, by go_num, HFR.out, HD.out _⟩
        case measure => simp [intOf]; omega
      · have hke : k = free l := by omega
        have hx : l[k] = none := by
          have := free_none (l := l) (by omega)
          rw [← hke, List.getElem?_eq_getElem hkl] at this
          exact Option.some.inj this
        rw [hx] at x0 x1
        replace x0 : wr.cell? ⟨b, k * 2, none⟩ = some (.bool false) := x0
        replace x1 : wr.cell? ⟨b, k * 2 + 1, none⟩ = some (.int .i64 0) := x1
        have heq : ∀ W, (binOp .eql 48 (.agg #[.bool false, .int .i64 0]) (.agg #[.bool false, .int .i64 0])).run Try.prog W = .ok (.bool true) W := fun W => eql_place none none W
        have HS : Hid (sp = (k : Int)) := by
          show sp = (k : Int)
          rw [← HSP.out]
          unfold spotF
          rw [if_pos (by omega), hke]
        clear hx hf hb hfr hkl hk hke
        go_wp2_with fail
        go_quiet (fail)
        go_wp2_with fail
        go_ret
        exact ⟨by rw [HS.out]; rfl, B1.out.trans ((HD.out _).mono B1.out.size)⟩
    · have hi1 : ¬ (k : Int) < 16 := by omega
      have HS : Hid (sp = -1) := by
        show sp = -1
        rw [← HSP.out]
        unfold spotF
        exact if_neg (by have := HL.out; omega)
      clear hb hk hf
      go_wp2_with fail
      go_ret
      exact ⟨by rw [HS.out]; rfl, B1.out.trans (HB.out.mono B1.out.size)⟩

set_option maxHeartbeats 2000000 in
theorem get_any (b : Nat) (z : Int) (l : Fd) (w : World) (h : TbV w b l) : Calls Try.prog 12 #[.pointer (some ⟨b, 0, none⟩), .int .i64 z] w fun e w' => e = .returned (.tuple #[.int .i64 ((getF l z).getD 0), .bool (getF l z).isSome]) ∧ Below w.heap.size w w' := by
  by_cases h0 : z < 0
  · have h1 : decide (z < 0) = true := decide_eq_true h0
    rw [getF_neg h0]
    clear h
    go_enter Try.func12, Try.ntmps12
    go_wp2_with fail
    go_ret2
    exact ⟨rfl, Below.refl _ _⟩
  · have h1 : decide (z < 0) = false := decide_eq_false h0
    by_cases h2 : 16 ≤ z
    · have h3 : decide (16 ≤ z) = true := decide_eq_true h2
      rw [getF_out (by rw [h.len]; exact h2)]
      clear h
      go_enter Try.func12, Try.ntmps12
      go_wp2_with fail
      go_ret2
      exact ⟨rfl, Below.refl _ _⟩
    · have h3 : decide (16 ≤ z) = false := decide_eq_false h2
      obtain ⟨k, rfl⟩ := Int.eq_ofNat_of_zero_le (by omega : 0 ≤ z)
      have hk : k < 16 := by omega
      have hkl : k < l.length := by rw [h.len]; exact hk
      have x0 := h.is hkl
      have x1 := h.val hkl
      rw [getF_at hkl]
      generalize l[k] = o at *
      generalize o.isSome = p at *
      generalize o.getD 0 = x at *
      have HB : Hid (∀ m, Below w.heap.size w ((w.alloc (.cells #[.bool p, .int .i64 x] 48)).drewN m)) := fun m => (below_new w _).trans ((below_drewN _ m).mono (below_new w (.cells #[.bool p, .int .i64 x] 48)).size)
      clear h hkl
      go_enter Try.func12, Try.ntmps12
      go_wp2_with fail
      go_quiet (fail)
      go_wp2_with fail
      go_ret2
      exact ⟨rfl, HB.out _⟩

set_option maxHeartbeats 4000000 in
theorem len_any (b : Nat) (l : Fd) (w : World) (h : TbV w b l) : Calls Try.prog 11 #[.pointer (some ⟨b, 0, none⟩)] w fun e w' => e = .returned (.int .i64 (lenF l)) ∧ Below w.heap.size w w' := by
  have HL : Hid (l.length = 16) := h.len
  have hblk : w.heap[b]? = some (.cells (cellsF l).toArray 51 (0, 0)) := h.blk
  have hsz := size_of h.len
  have HI : Hid (∀ (k : Nat) (hk : k < l.length) (W : World), (Instr.index 49 (.agg (cellsF l).toArray) (.int .i64 k)).run Try.prog W = .ok (.agg #[.bool (l[k]).isSome, .int .i64 ((l[k]).getD 0)]) W) := fun k hk W => index_place hk h.len W
  generalize (cellsF l).toArray = A at *
  clear h
  go_enter Try.func11, Try.ntmps11
  go_wp2_with (first
    | (refine wpList_load_row rfl 49 (.tmp 8) rfl b rfl 51 A (0, 0) _ hblk Try.underlying49 rfl hsz ?_))
  clear hblk hsz
  go_loopw [3, 10] (fun v3 v10 wr => ∃ k : Nat, k ≤ 16 ∧ v3 = .int .i64 (lenF (l.take k)) ∧ v10 = .int .i64 k ∧ Below w.heap.size w wr) (fun _ v10 _ => 16 - (intOf v10).toNat)
  case atStart => exact ⟨0, Nat.zero_le _, rfl, rfl, Below.refl _ _⟩
  case round =>
    obtain ⟨k, hk, rfl, rfl, hb⟩ := hrel
    have HB : Hid (Below w.heap.size w wr) := hb
    by_cases hlt : k < 16
    · have hi1 : (k : Int) < 16 := by omega
      have hkl : k < l.length := by have := HL.out; omega
      have hidx := HI.out k hkl
      have HT : Hid (lenF (l.take (k + 1)) = lenF (l.take k) + if (l[k]).isSome then 1 else 0) := lenF_take l k hkl
      have hm : lenF (l.take k) ≤ 16 := by
        have h1 := lenF_le (l.take k)
        rw [List.length_take] at h1
        omega
      have HBN : Hid (∀ (p : Bool) (x : Int), Below w.heap.size w (wr.alloc (.cells #[.bool p, .int .i64 x] 48))) := fun p x => hb.alloc hb.size _
      generalize (l[k]).isSome = p at *
      generalize (l[k]).getD 0 = x at *
      generalize lenF (l.take k) = m at *
      clear hb
      cases p
      · go_wp2_with fail
        go_roundw
        case rel => exact ⟨k + 1, by omega, by rw [HT.out]; rfl, by go_num, HBN.out _ _⟩
        case measure => simp [intOf]; omega
      · go_wp2_with fail
        go_roundw
        case rel => exact ⟨k + 1, by omega, by rw [HT.out]; go_num, by go_num, HBN.out _ _⟩
        case measure => simp [intOf]; omega
    · have hi1 : ¬ (k : Int) < 16 := by omega
      have HE : Hid (lenF (l.take k) = lenF l) := by
        show _ = _
        rw [List.take_of_length_le (by have := HL.out; omega)]
      clear hb
      go_wp2_with fail
      go_ret
      exact ⟨by rw [← HE.out]; rfl, HB.out⟩

/-- what Install leaves. -/
def InstE (w : World) (b : Nat) (l : Fd) (v : Int) (e : Ending) (w' : World) : Prop := e = .returned (.tuple #[.int .i64 (spotF l), .int .i64 (fullF l)]) ∧ TbV w' b (instF l v) ∧ Fr [] [b] 0 w w'

set_option maxHeartbeats 2000000 in
theorem install_any (b : Nat) (v : Int) (l : Fd) (w : World) (h : TbV w b l) : Calls Try.prog 14 #[.pointer (some ⟨b, 0, none⟩), .int .i64 v] w fun e w' => InstE w b l v e w' := by
  have HX : Hid (Calls Try.prog 19 #[.slice (some ⟨b, 0, none⟩) 16 16, .agg #[.bool false, .int .i64 0]] w fun e w' => e = .returned (.int .i64 (spotF l)) ∧ Below w.heap.size w w') := index_any b l w h
  have HT : Hid (TbV w b l) := h
  clear h
  by_cases hf : free l < l.length
  · have hs : spotF l = (free l : Int) := if_pos hf
    have hu : fullF l = 0 := if_pos hf
    unfold InstE
    rw [hs, hu]
    rw [hs] at HX
    obtain ⟨k, hk⟩ : ∃ k, free l = k := ⟨_, rfl⟩
    have HK : Hid (free l = k ∧ k < l.length) := ⟨hk, hk ▸ hf⟩
    have h16 : k < 16 := by have := HT.out.len; omega
    rw [hk] at HX ⊢
    clear hs hu hf hk
    go_enter Try.func14, Try.ntmps14
    go_wp2_with fail
    refine HX.out.mono ?_
    rintro e w1 ⟨rfl, hb1⟩
    have T1 : Hid (TbV w1 b l ∧ Below w.heap.size w w1) := ⟨HT.out.over hb1, hb1⟩
    have hx : l[k]'(HK.out.2) = none := by
      have := free_none (l := l) (by rw [HK.out.1]; exact HK.out.2)
      rw [HK.out.1, List.getElem?_eq_getElem HK.out.2] at this
      exact Option.some.inj this
    have x0 := T1.out.1.is HK.out.2
    have x1 := T1.out.1.val HK.out.2
    rw [hx] at x0 x1
    have f0 := T1.out.1.f (k * 2)
    have f1 := T1.out.1.f (k * 2 + 1)
    replace x0 : w1.cell? ⟨b, k * 2, none⟩ = some (.bool false) := x0
    replace x1 : w1.cell? ⟨b, k * 2 + 1, none⟩ = some (.int .i64 0) := x1
    clear hx hb1 HX
    go_wp2_with fail
    go_ret2
    refine ⟨rfl, ?_, ?_⟩
    · have := T1.out.1.set k (some v)
      unfold instF
      rw [HK.out.1]
      exact this
    · exact (fr_below T1.out.2 (Nat.zero_le _)).trans fr_set2
  · have hs : spotF l = -1 := if_neg hf
    have hu : fullF l = 16 := if_neg hf
    unfold InstE
    rw [hs, hu, instF_full hf]
    rw [hs] at HX
    clear hs hu hf
    go_enter Try.func14, Try.ntmps14
    go_wp2_with fail
    refine HX.out.mono ?_
    rintro e w1 ⟨rfl, hb1⟩
    have T1 : Hid (TbV w1 b l ∧ Below w.heap.size w w1) := ⟨HT.out.over hb1, hb1⟩
    clear hb1 HX
    go_wp2_with fail
    go_ret2
    exact ⟨rfl, T1.out.1, fr_below T1.out.2 (Nat.zero_le _)⟩

/-- what Close leaves. -/
def ShutE (w : World) (b : Nat) (l : Fd) (z : Int) (e : Ending) (w' : World) : Prop := e = .returned (.int .i64 (noneF l z)) ∧ TbV w' b (shutF l z) ∧ Fr [] [b] 0 w w'

set_option maxHeartbeats 2000000 in
theorem close_any (b : Nat) (z : Int) (l : Fd) (w : World) (h : TbV w b l) : Calls Try.prog 15 #[.pointer (some ⟨b, 0, none⟩), .int .i64 z] w fun e w' => ShutE w b l z e w' := by
  have HX : Hid (Calls Try.prog 12 #[.pointer (some ⟨b, 0, none⟩), .int .i64 z] w fun e w' => e = .returned (.tuple #[.int .i64 ((getF l z).getD 0), .bool (getF l z).isSome]) ∧ Below w.heap.size w w') := get_any b z l w h
  have HT : Hid (TbV w b l) := h
  clear h
  cases hg : getF l z with
  | none =>
    have hu : noneF l z = 17 := by unfold noneF; rw [hg]; rfl
    unfold ShutE
    rw [hu, shutF_none hg]
    rw [hg] at HX
    replace HX : Hid (Calls Try.prog 12 #[.pointer (some ⟨b, 0, none⟩), .int .i64 z] w fun e w' => e = .returned (.tuple #[.int .i64 0, .bool false]) ∧ Below w.heap.size w w') := HX
    clear hu hg
    go_enter Try.func15, Try.ntmps15
    go_wp2_with fail
    refine HX.out.mono ?_
    rintro e w1 ⟨rfl, hb1⟩
    have T1 : Hid (TbV w1 b l ∧ Below w.heap.size w w1) := ⟨HT.out.over hb1, hb1⟩
    clear hb1 HX
    go_wp2_with fail
    go_ret
    exact ⟨rfl, T1.out.1, fr_below T1.out.2 (Nat.zero_le _)⟩
  | some x =>
    have hu : noneF l z = 0 := by unfold noneF; rw [hg]; rfl
    unfold ShutE
    rw [hu]
    rw [hg] at HX
    replace HX : Hid (Calls Try.prog 12 #[.pointer (some ⟨b, 0, none⟩), .int .i64 z] w fun e w' => e = .returned (.tuple #[.int .i64 x, .bool true]) ∧ Below w.heap.size w w') := HX
    obtain ⟨hz, hx⟩ := getF_some hg
    obtain ⟨k, rfl⟩ := Int.eq_ofNat_of_zero_le hz
    rw [Int.toNat_natCast] at hx
    obtain ⟨hkl, hxk⟩ := List.getElem?_eq_some_iff.1 hx
    have HK : Hid (k < l.length ∧ shutF l (k : Int) = l.set k none) := ⟨hkl, shutF_at l k⟩
    have h16 : k < 16 := by have := HT.out.len; omega
    have HXK : Hid (∃ h : k < l.length, l[k] = some x) := ⟨hkl, hxk⟩
    rw [HK.out.2]
    clear hu hg hz hx hkl hxk
    go_enter Try.func15, Try.ntmps15
    go_wp2_with fail
    refine HX.out.mono ?_
    rintro e w1 ⟨rfl, hb1⟩
    have T1 : Hid (TbV w1 b l ∧ Below w.heap.size w w1) := ⟨HT.out.over hb1, hb1⟩
    obtain ⟨hkl, hxk⟩ := HXK.out
    have x0 := T1.out.1.is hkl
    have x1 := T1.out.1.val hkl
    rw [hxk] at x0 x1
    have f0 := T1.out.1.f (k * 2)
    have f1 := T1.out.1.f (k * 2 + 1)
    replace x0 : w1.cell? ⟨b, k * 2, none⟩ = some (.bool true) := x0
    replace x1 : w1.cell? ⟨b, k * 2 + 1, none⟩ = some (.int .i64 x) := x1
    clear hkl hxk hb1 HX
    go_wp2_with fail
    go_ret
    refine ⟨rfl, ?_, ?_⟩
    · exact T1.out.1.set k none
    · exact (fr_below T1.out.2 (Nat.zero_le _)).trans fr_set2

end Go.Proofs.Ytcenjdpochjclaa
