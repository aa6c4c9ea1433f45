/-
  The call of bytes, by package data, proved of every slice of bytes.
-/
import Derived.Test.YtpdndcmaaghnjaaDJoin
import Derived.Laws.ResultCell
namespace Go.Proofs.Ytpdndcmaaghnjaa.D
open Go.RowKit

theorem results_row2 {fn : Func} {p u : Tmp} (h : fn.results = #[.cell p 26, .tmp u]) (tmps : Array Value) (w : World) (g : Nat) (l : List Value) (y : Value)
    (hp : tmps.getD p undef = .pointer (some ⟨g, 0, none⟩)) (hg : Blk w g 26 l) (hl : (Try.prog.info? 26).map (·.size) = some l.toArray.size) (hy : tmps.getD u undef = y) :
    (results fn tmps).run Try.prog w = .ok (.tuple #[.agg l.toArray, y]) w := by
  rw [results_cell_tmp h, hp, hy]
  simp [asAddr, run_loadVar_row w g 26 26 l.toArray (0, 0) _ hg Try.underlying26 rfl hl]

set_option maxHeartbeats 400000 in
theorem of_any (a : Option Addr) (len cap : Nat) (l : List Int) (w : World) (hb : Bs w a len l) :
    Calls Try.prog 49 #[.slice a len cap] w fun e w' => e = .returned (.tuple #[(decOf l).val, .int .i64 (errOf len)]) ∧ Below w.heap.size w w' := by
  have E1 : Hid (∀ o, Below w.heap.size w (w.alloc o)) := fun o => (Below.refl _ _).alloc (Nat.le_refl _) _
  have hll := hb.1
  rcases Nat.lt_trichotomy len 64 with h | h | h
  · have hd : decOf l = Da.zero := decOf_ne l (by omega)
    have he : errOf len = 2 := by unfold errOf; rw [if_pos h]
    rw [hd, he]
    clear hb hll hd he
    go_enter Try.func49, Try.ntmps49
    go_wp2
    refine bodyPost_ret (v := .tuple #[.agg zero9.toArray, .int .i64 2]) (by simp [results, Try.results49, go_sem, zero9]) rfl ⟨rfl, E1.out _⟩
  · subst h
    have hd : decOf l = join (readW l 16) := decOf_eq l hll
    have he : errOf 64 = 0 := rfl
    rw [hd, he]
    have hb1 : Hid (Bs (w.alloc (Obj.cells zero9.toArray 26)) a 64 l) := hb.below (E1.out _)
    have hf : Hid (Blk (w.alloc (Obj.cells zero9.toArray 26)) w.heap.size 26 zero9) := blk_new w _ 26
    have HZ : Hid ((Try.prog.info? 26).map (·.size) = some (join (readW l 16)).cells.toArray.size) := by unfold Hid; rw [Try.size26]; rfl
    have HS : Hid (zero9.toArray.size = (join (readW l 16)).cells.toArray.size) := rfl
    have H1 : Hid ((join (readW l 16)).cells.toArray.all (·.oneCell') = true) := Da.cells_one _
    have HR : Hid (∀ W : World, Bs W a 64 l → Calls Try.prog 53 #[.slice a 64 cap] W fun e w' => e = .returned (valW (readW l 16)) ∧ Below W.heap.size W w') := fun W h => read_any a cap l W h
    have HJ : Hid (∀ W : World, Calls Try.prog 52 #[valW (readW l 16)] W fun e w' => e = .returned (.agg (join (readW l 16)).cells.toArray) ∧ Below W.heap.size W w') := fun W => join_any (readW l 16) W (readW_len l 16) (readW_u l 16 hb.2.1)
    clear hb hll hd he
    unfold Da.val
    unfold valW zero9 at *
    generalize (join (readW l 16)).cells = R at *
    generalize (cellsW (readW l 16)).toArray = RW at *
    go_enter Try.func49, Try.ntmps49
    go_wp2_with (first | (go_at_call 53; refine (HR.out _ hb1.out).mono ?_; rintro e w2 ⟨rfl, hb2⟩; have hf2 := hf.out.over hb2; have e2 := (E1.out _).trans (hb2.mono (E1.out _).size)) | (go_at_call 52; refine (HJ.out _).mono ?_; rintro e w3 ⟨rfl, hb3⟩; have hf3 := hf2.over hb3; have e3 := e2.trans (hb3.mono e2.size)) | (refine wpList_store_row rfl 26 (.tmp 2) (.tmp 14) rfl w.heap.size R.toArray rfl rfl 26 _ hf3 HZ.out HS.out H1.out ?_))
    refine bodyPost_ret (v := .tuple #[.agg R.toArray, .int .i64 0]) ?_ rfl ⟨rfl, ?_⟩
    · exact results_row2 Try.results49 _ _ w.heap.size R _ rfl (hf3.row R.toArray) HZ.out rfl
    · exact below_setRow e3 (Nat.le_refl _) _
  · have hd : decOf l = Da.zero := decOf_ne l (by omega)
    have he : errOf len = 3 := by unfold errOf; rw [if_neg (by omega), if_pos h]
    rw [hd, he]
    clear hb hll hd he
    go_enter Try.func49, Try.ntmps49
    go_wp2
    refine bodyPost_ret (v := .tuple #[.agg zero9.toArray, .int .i64 3]) (by simp [results, Try.results49, go_sem, zero9]) rfl ⟨rfl, E1.out _⟩

end Go.Proofs.Ytpdndcmaaghnjaa.D
