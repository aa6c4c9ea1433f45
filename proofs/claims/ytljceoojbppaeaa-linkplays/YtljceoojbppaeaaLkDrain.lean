/-
  Both links are drained.
-/
import Derived.Test.YtljceoojbppaeaaLkDoes
namespace Go.Proofs.Ytljceoojbppaeaa
open Go.RowKit D

set_option maxRecDepth 20000 in
set_option maxHeartbeats 8000000 in
theorem drains_any (B b c : Nat) (w : World) (h : DoS B b c w w) (hb : B ≤ b) (hB : B ≤ w.heap.size) :
    Calls Try.prog 12 #[.pointer (some ⟨b, 0, none⟩), .pointer (some ⟨c, 0, none⟩)] w fun e w' => e = .returned (.bool true) ∧ Below B w w' := by
  have HB : Hid (B ≤ b ∧ B ≤ w.heap.size) := ⟨hb, hB⟩
  have HS : Hid (DoS B b c w w) := h
  clear h hb hB
  go_enter Try.func12, Try.ntmps12
  go_wp2
  go_loopg [5] 2 (fun g vk wr => ∃ k : Nat, vk = .int .i64 k ∧ k + g = 2 ∧ Hid (DoS B b c w wr))
  case atStart => exact ⟨0, rfl, rfl, HS.out⟩
  case round =>
    obtain ⟨k, rfl, hig, hg⟩ := hrel
    rcases (show k = 0 ∨ k = 1 ∨ k = 2 by omega) with rfl | rfl | rfl
    · have hgo : Hid (gk - 1 < gk ∧ 0 + 1 + (gk - 1) = 2) := ⟨by omega, by omega⟩
      generalize gk - 1 = go at *
      clear hig
      go_wp2
      go_loopg [6] 70 (fun g vi wr => ∃ i : Nat, vi = .int .i64 i ∧ i + g = 70 ∧ Hid (DoS B b c w wr))
      case atStart => exact ⟨0, rfl, rfl, hg.out⟩
      case round =>
        clear hg
        obtain ⟨i, rfl, hik, hg2⟩ := hrel
        have hkk : Hid (i + gk = 70) := hik
        by_cases hlt : i < 70
        · have hi1 : (i : Int) < 70 := by omega
          have HLt : Hid (i < 70) := hlt
          clear hik hlt
          obtain ⟨s, hl, hr, hb⟩ := hg2.out
          have HL : Hid (LkV wr b s) := hl
          have HR : Hid (RfV 35 B wr c s ∧ Below B w wr ∧ B ≤ wr.heap.size ∧ s.ok) := ⟨hr, hb, Nat.le_trans HB.out.2 hb.size, hl.ok⟩
          clear hl hr hb hg2
          go_upto_region 8 with (go_at_call 14; refine (take_tag_to (up := true) (n := 0) HL.out rfl rfl rfl).mono ?_; rintro e w5 ⟨v5, rfl, hp5, hn5, h5, k5⟩)
          have hk5 : Sk [30] B wr w5 := sk_kb k5 HL.out.blk (by simp) HB.out.1
          have HL5 : Hid (LkV w5 b (s.take true 0)) := h5
          have HR5 : Hid (RfV 35 B w5 c s ∧ Below B w w5 ∧ B ≤ w5.heap.size) := ⟨HR.out.1.sk hk5 (by simp) (by simp) (by simp), HR.out.2.1.trans hk5.bel, Nat.le_trans HR.out.2.2.1 hk5.bel.size⟩
          have HV5 : Hid (PcT B w5 v5 (s.came true 0)) := hp5 B
          clear h5 k5 hk5 hp5 hn5
          go_upto_region 9 with (go_at_call 20; refine (refTake_any B c s true 0 w5 HR5.out.1 HR.out.2.2.2 HR5.out.2.2).mono ?_; rintro e w6 ⟨v6, rfl, hp6, h6, k6⟩)
          have HD : Hid (DoS B b c w w6) := ⟨s.take true 0, HL5.out.sk k6 (by simp), h6, HR5.out.2.1.trans k6.bel⟩
          obtain ⟨⟨a5, c5, hv5, hb5, _⟩, _⟩ := HV5.out.sk k6 (by simp)
          obtain ⟨⟨a6, c6, hv6, hb6, _⟩, _⟩ := hp6
          subst hv5 hv6
          have x5 := run_text hb5 c5
          have x6 := run_text hb6 c6
          have hbq : ((strOfNums (s.came true 0)).toList == (strOfNums (s.came true 0)).toList) = true := beq_self_eq_true _
          clear h6 k6 hb5 hb6 HV5 HL5 HR5 HL HR
          generalize (s.came true 0).length = ml at *
          generalize strOfNums (s.came true 0) = ms at *
          generalize hasN (s.sel true) 0 = hq at *
          have hbb : (hq == hq) = true := beq_self_eq_true _
          have hbn : (hq != hq) = false := by simp
          go_wp2
          go_roundg (gk - 1)
          case measure => (have := hkk.out; have := HLt.out; omega)
          case rel => exact ⟨i + 1, by go_num, by have := hkk.out; have := HLt.out; omega, HD.out⟩
        · have hi1 : ¬ (i : Int) < 70 := by omega
          clear hik hkk hlt
          go_wp2
          go_roundg go
          case measure => exact hgo.out.1
          case rel => exact ⟨0 + 1, by go_num, hgo.out.2, hg2.out⟩
    · have hgo : Hid (gk - 1 < gk ∧ 1 + 1 + (gk - 1) = 2) := ⟨by omega, by omega⟩
      generalize gk - 1 = go at *
      clear hig
      go_wp2
      go_loopg [6] 70 (fun g vi wr => ∃ i : Nat, vi = .int .i64 i ∧ i + g = 70 ∧ Hid (DoS B b c w wr))
      case atStart => exact ⟨0, rfl, rfl, hg.out⟩
      case round =>
        clear hg
        obtain ⟨i, rfl, hik, hg2⟩ := hrel
        have hkk : Hid (i + gk = 70) := hik
        by_cases hlt : i < 70
        · have hi1 : (i : Int) < 70 := by omega
          have HLt : Hid (i < 70) := hlt
          clear hik hlt
          obtain ⟨s, hl, hr, hb⟩ := hg2.out
          have HL : Hid (LkV wr b s) := hl
          have HR : Hid (RfV 35 B wr c s ∧ Below B w wr ∧ B ≤ wr.heap.size ∧ s.ok) := ⟨hr, hb, Nat.le_trans HB.out.2 hb.size, hl.ok⟩
          clear hl hr hb hg2
          go_upto_region 8 with (go_at_call 14; refine (take_tag_to (up := false) (n := 0) HL.out rfl rfl rfl).mono ?_; rintro e w5 ⟨v5, rfl, hp5, hn5, h5, k5⟩)
          have hk5 : Sk [30] B wr w5 := sk_kb k5 HL.out.blk (by simp) HB.out.1
          have HL5 : Hid (LkV w5 b (s.take false 0)) := h5
          have HR5 : Hid (RfV 35 B w5 c s ∧ Below B w w5 ∧ B ≤ w5.heap.size) := ⟨HR.out.1.sk hk5 (by simp) (by simp) (by simp), HR.out.2.1.trans hk5.bel, Nat.le_trans HR.out.2.2.1 hk5.bel.size⟩
          have HV5 : Hid (PcT B w5 v5 (s.came false 0)) := hp5 B
          clear h5 k5 hk5 hp5 hn5
          go_upto_region 9 with (go_at_call 20; refine (refTake_any B c s false 0 w5 HR5.out.1 HR.out.2.2.2 HR5.out.2.2).mono ?_; rintro e w6 ⟨v6, rfl, hp6, h6, k6⟩)
          have HD : Hid (DoS B b c w w6) := ⟨s.take false 0, HL5.out.sk k6 (by simp), h6, HR5.out.2.1.trans k6.bel⟩
          obtain ⟨⟨a5, c5, hv5, hb5, _⟩, _⟩ := HV5.out.sk k6 (by simp)
          obtain ⟨⟨a6, c6, hv6, hb6, _⟩, _⟩ := hp6
          subst hv5 hv6
          have x5 := run_text hb5 c5
          have x6 := run_text hb6 c6
          have hbq : ((strOfNums (s.came false 0)).toList == (strOfNums (s.came false 0)).toList) = true := beq_self_eq_true _
          clear h6 k6 hb5 hb6 HV5 HL5 HR5 HL HR
          generalize (s.came false 0).length = ml at *
          generalize strOfNums (s.came false 0) = ms at *
          generalize hasN (s.sel false) 0 = hq at *
          have hbb : (hq == hq) = true := beq_self_eq_true _
          have hbn : (hq != hq) = false := by simp
          go_wp2
          go_roundg (gk - 1)
          case measure => (have := hkk.out; have := HLt.out; omega)
          case rel => exact ⟨i + 1, by go_num, by have := hkk.out; have := HLt.out; omega, HD.out⟩
        · have hi1 : ¬ (i : Int) < 70 := by omega
          clear hik hkk hlt
          go_wp2
          go_roundg go
          case measure => exact hgo.out.1
          case rel => exact ⟨1 + 1, by go_num, hgo.out.2, hg2.out⟩
    · go_wp2
      go_ret
      obtain ⟨s, _, _, hb⟩ := hg.out
      exact ⟨rfl, hb⟩

end Go.Proofs.Ytljceoojbppaeaa
