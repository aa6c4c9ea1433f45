/-
  Timers begun, set and stopped.
-/
import Derived.Test.YtifddbfcongepaaMap
import Derived.BigQuiet
import Derived.BigRegion
namespace Go.Proofs.Ytifddbfcongepaa
open Go.RowKit Go.Maps

/-- timers of one's own, none of which is set. -/
def NewT (w : World) (v : Int) (e : Ending) (w' : World) : Prop :=
  ∃ b B, w.heap.size ≤ b ∧ w.heap.size ≤ B ∧ e = .returned (.tuple #[.pointer (some ⟨b, 0, none⟩), .int .i64 0]) ∧ TmV w' b B v [] ∧ Below w.heap.size w w'

set_option maxHeartbeats 2000000 in
theorem new_any (v : Int) (w : World) (h1 : 1 ≤ v) (h2 : v ≤ 1000) : Calls Try.prog 9 #[.int .i64 v] w fun e w' => NewT w v e w' := by
  have c1 : decide (v < 1) = false := decide_eq_false (by omega)
  have c2 : ¬ v < 1 := by omega
  have c3 : decide (1000 < v) = false := decide_eq_false (by omega)
  have c4 : ¬ 1000 < v := by omega
  have M0 : Hid (MpT (w.alloc (.map #[] 0)) w.heap.size []) := MpT.made w
  have hmm := @run_makeMap Try.prog
  go_enter Try.func9, Try.ntmps9
  go_wp2_with fail
  clear hmm
  go_ret2
  refine ⟨w.heap.size + 1, w.heap.size, by omega, Nat.le_refl _, by simp, ⟨?_, ?_, by omega⟩, room_below w _ _⟩
  · exact blk_new' w _ _ _
  · exact M0.out.over (below_new _ _)

set_option maxHeartbeats 2000000 in
theorem new_not (v : Int) (w : World) (h1 : v < 1 ∨ 1000 < v) : Calls Try.prog 9 #[.int .i64 v] w fun e w' => e = .returned (.tuple #[.pointer none, .int .i64 1]) ∧ w' = w := by
  by_cases c2 : v < 1
  · have c1 : decide (v < 1) = true := decide_eq_true (by omega)
    go_enter Try.func9, Try.ntmps9
    go_wp2_with fail
    go_ret2
    exact ⟨rfl, rfl⟩
  · have c1 : decide (v < 1) = false := decide_eq_false (by omega)
    have c3 : decide (1000 < v) = true := decide_eq_true (by omega)
    have c4 : 1000 < v := by omega
    go_enter Try.func9, Try.ntmps9
    go_wp2_with fail
    go_ret2
    exact ⟨rfl, rfl⟩

/-- what a turn of the map leaves. -/
def SetE (w : World) (b B : Nat) (v : Int) (T : Tm) (e : Ending) (w' : World) : Prop := e = .returned (.tuple #[]) ∧ TmV w' b B v T ∧ w.grownBy w' (some B)

set_option maxHeartbeats 2000000 in
theorem set_any (b B : Nat) (v z : Int) (T : Tm) (w : World) (h : TmV w b B v T) (hnd : (keys T).Nodup) (hlen : T.length ≤ 1000000) (hv1 : 1 ≤ v) (hv2 : v ≤ 1000) (hz : U64 z) : Calls Try.prog 11 #[.pointer (some ⟨b, 0, none⟩), .int .u64 z] w fun e w' => SetE w b B v (setT T z v) e w' := by
  obtain ⟨hb, ⟨D, ho, hv⟩, hne⟩ := h
  obtain ⟨w1, hrun, ho1, hg1⟩ := (ho.drew).update lawU Try.underlying52 (by have : T.length ≤ 1000000 := hlen; unfold maxLen; omega) (key_u hz) (plainElem_int (H := Unit) Try.underlying3 (litI_wf (z := v) (by omega) (by omega)))
  have c0 : w.cell? ⟨b, 0, none⟩ = some (.int .i64 v) := hb.cell 0
  have c1 : w.cell? ⟨b, 1, none⟩ = some (.map (some B)) := hb.cell 1
  have HE : Hid (TmV w1 b B v (setT T z v) ∧ w.grownBy w1 (some B)) := by
    have hg : w.grownBy w1 (some B) := ⟨hg1.os, hg1.tape, hg1.output, hg1.size, hg1.block⟩
    exact ⟨⟨blk_grown hb hg hne, mpT_of ho1 (hv.set hnd z v), hne⟩, hg⟩
  clear hb ho hv ho1 hg1 hnd
  go_enter Try.func11, Try.ntmps11
  go_wp2_with fail
  go_big_region
  go_end0
  exact ⟨rfl, HE.out⟩

/-- what a stop leaves. -/
def StopE (w : World) (b B : Nat) (v z : Int) (T : Tm) (e : Ending) (w' : World) : Prop := e = .returned (.bool (decide (z ∈ keys T))) ∧ TmV w' b B v (stopT T z) ∧ w.grownBy w' (some B)

set_option maxHeartbeats 2000000 in
theorem stop_any (b B : Nat) (v z : Int) (T : Tm) (w : World) {n : Nat} (h : TmV w b B v T) (hT : Okt T v n) (hz : U64 z) : Calls Try.prog 13 #[.pointer (some ⟨b, 0, none⟩), .int .u64 z] w fun e w' => StopE w b B v z T e w' := by
  obtain ⟨hb, ⟨D, ho, hv⟩, hne⟩ := h
  have c1 : w.cell? ⟨b, 1, none⟩ = some (.map (some B)) := hb.cell 1
  have HV : Hid (Vw D T) := hv
  have HB : Hid (Blk w b 54 [.int .i64 v, .map (some B)]) := hb
  have HK := key_u hz
  have ZE : Hid (∀ w, (zeroValue 3).run Try.prog w = .ok (.int .i64 0) w) := Try.zeroValue3
  clear hb hv
  go_enter Try.func13, Try.ntmps13
  go_wp2_with (first
    | (at_lookup; refine wpList_lookup_own_ok_int _ rfl _ _ 52 rfl 31 3 .i64 lawU Try.underlying52 Try.underlying3 (ZE.out _) B T.length D rfl ho _ (litU z) rfl HK ?_; intro c hat hwc)
    | (at_delete; refine wpList_delete_own _ rfl _ _ 52 31 rfl 3 lawU Try.underlying52 _ B T.length D rfl ho _ (litU z) rfl HK ?_; intro w1 ho1 ht1)
    | go_in)
  go_ret
  have hg := ht1.grown
  exact ⟨by rw [HV.out.hasB]; rfl, ⟨blk_grown HB.out hg hne, mpT_of ho1 (HV.out.stop hT.nd z), hne⟩, hg⟩

end Go.Proofs.Ytifddbfcongepaa
