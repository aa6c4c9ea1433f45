/-
  formatBase10, whatever the number's size against the room's.
-/
import Derived.Test.YtcllgpbgikidjaaSNumD
import Derived.Shelf.RegionOpenPlain
namespace Go.Proofs.Ytcllgpbgikidjaa
open Go.RowKit Go.Sort Go.Lib

theorem u8_small {k : Nat} (h : k < 256) : ((UInt8.ofNat k).toNat : Int) = (k : Int) := by
  have : (UInt8.ofNat k).toNat = k % 256 := rfl
  rw [this, Nat.mod_eq_of_lt h]
theorem sm_lo_at (V : Nat) : ((sm (V % 100 * 2 + 1)).toNat : Int) = ((48 + V % 10 : Nat) : Int) := by
  rw [sm_lo _ (Nat.mod_lt _ (by decide)), u8_small (by omega)]
  congr 1
  omega
theorem sm_hi_at (V : Nat) : ((sm (V % 100 * 2)).toNat : Int) = ((48 + V % 100 / 10 : Nat) : Int) := by
  rw [sm_hi _ (Nat.mod_lt _ (by decide)), u8_small (by omega)]

set_option maxRecDepth 100000 in
set_option maxHeartbeats 8000000 in
theorem fmt10_any (b off cap nd u : Nat) (w : World) (g : Nat → Int) (hF : Fm w b w g) (hoff : off + nd ≤ 24) (hu : u < 10 ^ (nd + 1)) (hu64 : u < 18446744073709551616) :
    Calls Try.prog 73 #[.slice (some ⟨b, off, none⟩) nd cap, .int .u64 u] w fun e w' => e = .returned (.tuple #[]) ∧ ∃ g' : Nat → Int, Fm w b w' g' ∧ ∀ t, t < nd → g' (off + t) = (gdN nd u t : Int) := by
  have mixed : Try.prog.follows Departure.mixedOrders = true := by kernel_rfl
  have hnd : (nd : Int) ≤ 24 := by omega
  go_enter Try.func73, Try.ntmps73
  go_name_bytes SM hSM
  have eSM : SM = Lib.smalls := by rw [← hSM]; decide +kernel
  subst eSM
  clear hSM
  go_wp2
  go_loopw [1, 4] (fun vu vn wr => ∃ (k v : Nat) (g1 : Nat → Int), vu = .int .u64 v ∧ vn = .int .i64 k ∧ Fm w b wr g1 ∧ Hid (Dd nd u off k v g1) ∧ v < 18446744073709551616) (fun _ vn _ => (RowKit.intOf vn).toNat)
  case atStart => exact ⟨nd, u, g, rfl, rfl, hF, dd_new hu g, hu64⟩
  case round =>
    obtain ⟨k, v, g0, rfl, rfl, hF0, HD0, hv64⟩ := hrel
    have HF0 : Hid (Fm w b wr g0) := hF0
    clear hF hF0 hu hu64
    by_cases h8 : 8 ≤ k
    · obtain ⟨m, rfl⟩ : ∃ m, k = m + 8 := ⟨k - 8, by omega⟩
      have hle : m + 8 ≤ nd := HD0.out.le
      have hc0 : ∀ t, t < nd → wr.cell? ⟨b, off + t, none⟩ = some (.int .u8 (g0 (off + t))) := fun t ht => HF0.out.c _ (by omega)
      have hf0 : ∀ t, t < nd → wr.frozen? ⟨b, off + t, none⟩ = false := fun t _ => HF0.out.f _
      go_wp2
      obtain ⟨la0, HLA0⟩ : ∃ z : Int, Hid (z = ((48 + (v) % 10 : Nat) : Int)) := ⟨_, rfl⟩
      obtain ⟨lb0, HLB0⟩ : ∃ z : Int, Hid (z = ((48 + (v) % 100 / 10 : Nat) : Int)) := ⟨_, rfl⟩
      have HD1 : Hid (Dd nd u off (m + 6) ((v) / 100) (upd (upd g0 (off + (m + 6 + 1)) la0) (off + (m + 6)) lb0)) := by
        show Dd nd u off (m + 6) ((v) / 100) (upd (upd g0 (off + (m + 6 + 1)) la0) (off + (m + 6)) lb0)
        rw [HLA0.out, HLB0.out]
        exact Dd.two (k := m + 6) HD0.out
      go_name_slot 9 x0 hx0
      have hxe0 : x0 = (((v) % 100 * 2 : Nat) : Int) := by omega
      have hXa0 : ∀ w, (Instr.index 9 (.string Lib.smalls) (.int .u32 (x0 + 1))).run Try.prog w = .ok (.int .u8 la0) w := fun w => by
        rw [HLA0.out, ← sm_lo_at]
        exact idx_smalls 9 Try.underlying9 .u32 _ _ (by omega) (by omega) w
      have hXb0 : ∀ w, (Instr.index 9 (.string Lib.smalls) (.int .u32 x0)).run Try.prog w = .ok (.int .u8 lb0) w := fun w => by
        rw [HLB0.out, ← sm_hi_at]
        exact idx_smalls 9 Try.underlying9 .u32 _ _ (by omega) (by omega) w
      have hlo0 : 0 ≤ x0 := by omega
      have hhi0 : x0 ≤ 198 := by omega
      clear hx0 hxe0 HLA0 HLB0
      go_region_o
      go_wp2
      go_name_world W1 hW1
      have HF1 : Hid (Fm w b W1 (upd (upd g0 (off + (m + 6 + 1)) la0) (off + (m + 6)) lb0)) := by
        show Fm w b W1 _
        rw [← hW1]
        exact ((HF0.out.set (i := off + (m + 6 + 1)) (by omega) la0).set (i := off + (m + 6)) (by omega) lb0).drew
      generalize upd (upd g0 (off + (m + 6 + 1)) la0) (off + (m + 6)) lb0 = g1 at *
      clear hW1 hc0 hf0 HF0 HD0 hXa0 hXb0
      have hc1 : ∀ t, t < nd → W1.cell? ⟨b, off + t, none⟩ = some (.int .u8 (g1 (off + t))) := fun t ht => HF1.out.c _ (by omega)
      have hf1 : ∀ t, t < nd → W1.frozen? ⟨b, off + t, none⟩ = false := fun t _ => HF1.out.f _
      obtain ⟨la1, HLA1⟩ : ∃ z : Int, Hid (z = ((48 + (v / 100) % 10 : Nat) : Int)) := ⟨_, rfl⟩
      obtain ⟨lb1, HLB1⟩ : ∃ z : Int, Hid (z = ((48 + (v / 100) % 100 / 10 : Nat) : Int)) := ⟨_, rfl⟩
      have HD2 : Hid (Dd nd u off (m + 4) ((v / 100) / 100) (upd (upd g1 (off + (m + 4 + 1)) la1) (off + (m + 4)) lb1)) := by
        show Dd nd u off (m + 4) ((v / 100) / 100) (upd (upd g1 (off + (m + 4 + 1)) la1) (off + (m + 4)) lb1)
        rw [HLA1.out, HLB1.out]
        exact Dd.two (k := m + 4) HD1.out
      go_name_slot 8 x1 hx1
      have hxe1 : x1 = (((v / 100) % 100 * 2 : Nat) : Int) := by omega
      have hXa1 : ∀ w, (Instr.index 9 (.string Lib.smalls) (.int .u32 (x1 + 1))).run Try.prog w = .ok (.int .u8 la1) w := fun w => by
        rw [HLA1.out, ← sm_lo_at]
        exact idx_smalls 9 Try.underlying9 .u32 _ _ (by omega) (by omega) w
      have hXb1 : ∀ w, (Instr.index 9 (.string Lib.smalls) (.int .u32 x1)).run Try.prog w = .ok (.int .u8 lb1) w := fun w => by
        rw [HLB1.out, ← sm_hi_at]
        exact idx_smalls 9 Try.underlying9 .u32 _ _ (by omega) (by omega) w
      have hlo1 : 0 ≤ x1 := by omega
      have hhi1 : x1 ≤ 198 := by omega
      clear hx1 hxe1 HLA1 HLB1
      go_region_o
      go_wp2
      go_name_world W2 hW2
      have HF2 : Hid (Fm w b W2 (upd (upd g1 (off + (m + 4 + 1)) la1) (off + (m + 4)) lb1)) := by
        show Fm w b W2 _
        rw [← hW2]
        exact ((HF1.out.set (i := off + (m + 4 + 1)) (by omega) la1).set (i := off + (m + 4)) (by omega) lb1).drew
      generalize upd (upd g1 (off + (m + 4 + 1)) la1) (off + (m + 4)) lb1 = g2 at *
      clear hW2 hc1 hf1 HF1 HD1 hXa1 hXb1
      have hc2 : ∀ t, t < nd → W2.cell? ⟨b, off + t, none⟩ = some (.int .u8 (g2 (off + t))) := fun t ht => HF2.out.c _ (by omega)
      have hf2 : ∀ t, t < nd → W2.frozen? ⟨b, off + t, none⟩ = false := fun t _ => HF2.out.f _
      obtain ⟨la2, HLA2⟩ : ∃ z : Int, Hid (z = ((48 + (v / 100 / 100) % 10 : Nat) : Int)) := ⟨_, rfl⟩
      obtain ⟨lb2, HLB2⟩ : ∃ z : Int, Hid (z = ((48 + (v / 100 / 100) % 100 / 10 : Nat) : Int)) := ⟨_, rfl⟩
      have HD3 : Hid (Dd nd u off (m + 2) ((v / 100 / 100) / 100) (upd (upd g2 (off + (m + 2 + 1)) la2) (off + (m + 2)) lb2)) := by
        show Dd nd u off (m + 2) ((v / 100 / 100) / 100) (upd (upd g2 (off + (m + 2 + 1)) la2) (off + (m + 2)) lb2)
        rw [HLA2.out, HLB2.out]
        exact Dd.two (k := m + 2) HD2.out
      go_name_slot 11 x2 hx2
      have hxe2 : x2 = (((v / 100 / 100) % 100 * 2 : Nat) : Int) := by omega
      have hXa2 : ∀ w, (Instr.index 9 (.string Lib.smalls) (.int .u32 (x2 + 1))).run Try.prog w = .ok (.int .u8 la2) w := fun w => by
        rw [HLA2.out, ← sm_lo_at]
        exact idx_smalls 9 Try.underlying9 .u32 _ _ (by omega) (by omega) w
      have hXb2 : ∀ w, (Instr.index 9 (.string Lib.smalls) (.int .u32 x2)).run Try.prog w = .ok (.int .u8 lb2) w := fun w => by
        rw [HLB2.out, ← sm_hi_at]
        exact idx_smalls 9 Try.underlying9 .u32 _ _ (by omega) (by omega) w
      have hlo2 : 0 ≤ x2 := by omega
      have hhi2 : x2 ≤ 198 := by omega
      clear hx2 hxe2 HLA2 HLB2
      go_region_o
      go_wp2
      go_name_world W3 hW3
      have HF3 : Hid (Fm w b W3 (upd (upd g2 (off + (m + 2 + 1)) la2) (off + (m + 2)) lb2)) := by
        show Fm w b W3 _
        rw [← hW3]
        exact ((HF2.out.set (i := off + (m + 2 + 1)) (by omega) la2).set (i := off + (m + 2)) (by omega) lb2).drew
      generalize upd (upd g2 (off + (m + 2 + 1)) la2) (off + (m + 2)) lb2 = g3 at *
      clear hW3 hc2 hf2 HF2 HD2 hXa2 hXb2
      have hc3 : ∀ t, t < nd → W3.cell? ⟨b, off + t, none⟩ = some (.int .u8 (g3 (off + t))) := fun t ht => HF3.out.c _ (by omega)
      have hf3 : ∀ t, t < nd → W3.frozen? ⟨b, off + t, none⟩ = false := fun t _ => HF3.out.f _
      obtain ⟨la3, HLA3⟩ : ∃ z : Int, Hid (z = ((48 + (v / 100 / 100 / 100) % 10 : Nat) : Int)) := ⟨_, rfl⟩
      obtain ⟨lb3, HLB3⟩ : ∃ z : Int, Hid (z = ((48 + (v / 100 / 100 / 100) % 100 / 10 : Nat) : Int)) := ⟨_, rfl⟩
      have HD4 : Hid (Dd nd u off (m) ((v / 100 / 100 / 100) / 100) (upd (upd g3 (off + (m + 1)) la3) (off + (m)) lb3)) := by
        show Dd nd u off (m) ((v / 100 / 100 / 100) / 100) (upd (upd g3 (off + (m + 1)) la3) (off + (m)) lb3)
        rw [HLA3.out, HLB3.out]
        exact Dd.two (k := m) HD3.out
      go_name_slot 10 x3 hx3
      have hxe3 : x3 = (((v / 100 / 100 / 100) % 100 * 2 : Nat) : Int) := by omega
      have hXa3 : ∀ w, (Instr.index 9 (.string Lib.smalls) (.int .u32 (x3 + 1))).run Try.prog w = .ok (.int .u8 la3) w := fun w => by
        rw [HLA3.out, ← sm_lo_at]
        exact idx_smalls 9 Try.underlying9 .u32 _ _ (by omega) (by omega) w
      have hXb3 : ∀ w, (Instr.index 9 (.string Lib.smalls) (.int .u32 x3)).run Try.prog w = .ok (.int .u8 lb3) w := fun w => by
        rw [HLB3.out, ← sm_hi_at]
        exact idx_smalls 9 Try.underlying9 .u32 _ _ (by omega) (by omega) w
      have hlo3 : 0 ≤ x3 := by omega
      have hhi3 : x3 ≤ 198 := by omega
      clear hx3 hxe3 HLA3 HLB3
      go_region_o
      go_wp2
      go_roundw
      case rel => exact ⟨m, v / 100 / 100 / 100 / 100, _, by rw [show ((v : Int) / 100000000) = ((v / 100 / 100 / 100 / 100 : Nat) : Int) from by omega], by go_num, ((HF3.out.set (i := off + (m + 1)) (by omega) la3).set (i := off + m) (by omega) lb3).drew, HD4, by omega⟩
      case measure => simp [RowKit.intOf]; omega
    · have hsm := HD0.out.small
      have hlt : k < 8 := by omega
      have hle0 := HD0.out.le
      rcases Nat.eq_or_lt_of_le (show k ≤ 7 from by omega) with rfl | hlt7
      · have hv : v < 100000000 := by omega
        clear hsm
        have hle : 7 ≤ nd := HD0.out.le
        have hc0 : ∀ t, t < nd → wr.cell? ⟨b, off + t, none⟩ = some (.int .u8 (g0 (off + t))) := fun t ht => HF0.out.c _ (by omega)
        have hf0 : ∀ t, t < nd → wr.frozen? ⟨b, off + t, none⟩ = false := fun t _ => HF0.out.f _
        go_wp2
        obtain ⟨la0, HLA0⟩ : ∃ z : Int, Hid (z = ((48 + (v) % 10 : Nat) : Int)) := ⟨_, rfl⟩
        obtain ⟨lb0, HLB0⟩ : ∃ z : Int, Hid (z = ((48 + (v) % 100 / 10 : Nat) : Int)) := ⟨_, rfl⟩
        have HD1 : Hid (Dd nd u off (5) ((v) / 100) (upd (upd g0 (off + (5 + 1)) la0) (off + (5)) lb0)) := by
          show Dd nd u off (5) ((v) / 100) (upd (upd g0 (off + (5 + 1)) la0) (off + (5)) lb0)
          rw [HLA0.out, HLB0.out]
          exact Dd.two (k := 5) HD0.out
        go_name_slot 15 x0 hx0
        have hxe0 : x0 = (((v) % 100 * 2 : Nat) : Int) := by omega
        have hXa0 : ∀ w, (Instr.index 9 (.string Lib.smalls) (.int .u32 (x0 + 1))).run Try.prog w = .ok (.int .u8 la0) w := fun w => by
          rw [HLA0.out, ← sm_lo_at]
          exact idx_smalls 9 Try.underlying9 .u32 _ _ (by omega) (by omega) w
        have hXb0 : ∀ w, (Instr.index 9 (.string Lib.smalls) (.int .u32 x0)).run Try.prog w = .ok (.int .u8 lb0) w := fun w => by
          rw [HLB0.out, ← sm_hi_at]
          exact idx_smalls 9 Try.underlying9 .u32 _ _ (by omega) (by omega) w
        have hlo0 : 0 ≤ x0 := by omega
        have hhi0 : x0 ≤ 198 := by omega
        clear hx0 hxe0 HLA0 HLB0
        go_region_o
        go_wp2
        go_name_world W1 hW1
        have HF1 : Hid (Fm w b W1 (upd (upd g0 (off + (5 + 1)) la0) (off + (5)) lb0)) := by
          show Fm w b W1 _
          rw [← hW1]
          exact ((HF0.out.set (i := off + (5 + 1)) (by omega) la0).set (i := off + (5)) (by omega) lb0).drew
        generalize upd (upd g0 (off + (5 + 1)) la0) (off + (5)) lb0 = g1 at *
        clear hW1 hc0 hf0 HF0 HD0 hXa0 hXb0
        have hc1 : ∀ t, t < nd → W1.cell? ⟨b, off + t, none⟩ = some (.int .u8 (g1 (off + t))) := fun t ht => HF1.out.c _ (by omega)
        have hf1 : ∀ t, t < nd → W1.frozen? ⟨b, off + t, none⟩ = false := fun t _ => HF1.out.f _
        obtain ⟨la1, HLA1⟩ : ∃ z : Int, Hid (z = ((48 + (v / 100) % 10 : Nat) : Int)) := ⟨_, rfl⟩
        obtain ⟨lb1, HLB1⟩ : ∃ z : Int, Hid (z = ((48 + (v / 100) % 100 / 10 : Nat) : Int)) := ⟨_, rfl⟩
        have HD2 : Hid (Dd nd u off (3) ((v / 100) / 100) (upd (upd g1 (off + (3 + 1)) la1) (off + (3)) lb1)) := by
          show Dd nd u off (3) ((v / 100) / 100) (upd (upd g1 (off + (3 + 1)) la1) (off + (3)) lb1)
          rw [HLA1.out, HLB1.out]
          exact Dd.two (k := 3) HD1.out
        go_name_slot 14 x1 hx1
        have hxe1 : x1 = (((v / 100) % 100 * 2 : Nat) : Int) := by omega
        have hXa1 : ∀ w, (Instr.index 9 (.string Lib.smalls) (.int .u32 (x1 + 1))).run Try.prog w = .ok (.int .u8 la1) w := fun w => by
          rw [HLA1.out, ← sm_lo_at]
          exact idx_smalls 9 Try.underlying9 .u32 _ _ (by omega) (by omega) w
        have hXb1 : ∀ w, (Instr.index 9 (.string Lib.smalls) (.int .u32 x1)).run Try.prog w = .ok (.int .u8 lb1) w := fun w => by
          rw [HLB1.out, ← sm_hi_at]
          exact idx_smalls 9 Try.underlying9 .u32 _ _ (by omega) (by omega) w
        have hlo1 : 0 ≤ x1 := by omega
        have hhi1 : x1 ≤ 198 := by omega
        clear hx1 hxe1 HLA1 HLB1
        go_region_o
        go_wp2
        go_name_world W2 hW2
        have HF2 : Hid (Fm w b W2 (upd (upd g1 (off + (3 + 1)) la1) (off + (3)) lb1)) := by
          show Fm w b W2 _
          rw [← hW2]
          exact ((HF1.out.set (i := off + (3 + 1)) (by omega) la1).set (i := off + (3)) (by omega) lb1).drew
        generalize upd (upd g1 (off + (3 + 1)) la1) (off + (3)) lb1 = g2 at *
        clear hW2 hc1 hf1 HF1 HD1 hXa1 hXb1
        have hc2 : ∀ t, t < nd → W2.cell? ⟨b, off + t, none⟩ = some (.int .u8 (g2 (off + t))) := fun t ht => HF2.out.c _ (by omega)
        have hf2 : ∀ t, t < nd → W2.frozen? ⟨b, off + t, none⟩ = false := fun t _ => HF2.out.f _
        obtain ⟨la2, HLA2⟩ : ∃ z : Int, Hid (z = ((48 + (v / 100 / 100) % 10 : Nat) : Int)) := ⟨_, rfl⟩
        obtain ⟨lb2, HLB2⟩ : ∃ z : Int, Hid (z = ((48 + (v / 100 / 100) % 100 / 10 : Nat) : Int)) := ⟨_, rfl⟩
        have HD3 : Hid (Dd nd u off (1) ((v / 100 / 100) / 100) (upd (upd g2 (off + (1 + 1)) la2) (off + (1)) lb2)) := by
          show Dd nd u off (1) ((v / 100 / 100) / 100) (upd (upd g2 (off + (1 + 1)) la2) (off + (1)) lb2)
          rw [HLA2.out, HLB2.out]
          exact Dd.two (k := 1) HD2.out
        go_name_slot 16 x2 hx2
        have hxe2 : x2 = (((v / 100 / 100) % 100 * 2 : Nat) : Int) := by omega
        have hXa2 : ∀ w, (Instr.index 9 (.string Lib.smalls) (.int .u32 (x2 + 1))).run Try.prog w = .ok (.int .u8 la2) w := fun w => by
          rw [HLA2.out, ← sm_lo_at]
          exact idx_smalls 9 Try.underlying9 .u32 _ _ (by omega) (by omega) w
        have hXb2 : ∀ w, (Instr.index 9 (.string Lib.smalls) (.int .u32 x2)).run Try.prog w = .ok (.int .u8 lb2) w := fun w => by
          rw [HLB2.out, ← sm_hi_at]
          exact idx_smalls 9 Try.underlying9 .u32 _ _ (by omega) (by omega) w
        have hlo2 : 0 ≤ x2 := by omega
        have hhi2 : x2 ≤ 198 := by omega
        clear hx2 hxe2 HLA2 HLB2
        go_region_o
        go_wp2
        go_end0
        rw [show (48 + (v : Int) / 10000 / 100) = ((48 + v / 100 / 100 / 100 : Nat) : Int) from by omega]
        exact ⟨rfl, _, (((HF2.out.set (i := off + (1 + 1)) (by omega) la2).set (i := off + 1) (by omega) lb2).set (i := off) (by omega) _).drew, HD3.out.one⟩
      rcases Nat.eq_or_lt_of_le (show k ≤ 6 from by omega) with rfl | hlt6
      · have hv : v < 10000000 := by omega
        clear hsm
        have hle : 6 ≤ nd := HD0.out.le
        have hc0 : ∀ t, t < nd → wr.cell? ⟨b, off + t, none⟩ = some (.int .u8 (g0 (off + t))) := fun t ht => HF0.out.c _ (by omega)
        have hf0 : ∀ t, t < nd → wr.frozen? ⟨b, off + t, none⟩ = false := fun t _ => HF0.out.f _
        go_wp2
        obtain ⟨la0, HLA0⟩ : ∃ z : Int, Hid (z = ((48 + (v) % 10 : Nat) : Int)) := ⟨_, rfl⟩
        obtain ⟨lb0, HLB0⟩ : ∃ z : Int, Hid (z = ((48 + (v) % 100 / 10 : Nat) : Int)) := ⟨_, rfl⟩
        have HD1 : Hid (Dd nd u off (4) ((v) / 100) (upd (upd g0 (off + (4 + 1)) la0) (off + (4)) lb0)) := by
          show Dd nd u off (4) ((v) / 100) (upd (upd g0 (off + (4 + 1)) la0) (off + (4)) lb0)
          rw [HLA0.out, HLB0.out]
          exact Dd.two (k := 4) HD0.out
        go_name_slot 15 x0 hx0
        have hxe0 : x0 = (((v) % 100 * 2 : Nat) : Int) := by omega
        have hXa0 : ∀ w, (Instr.index 9 (.string Lib.smalls) (.int .u32 (x0 + 1))).run Try.prog w = .ok (.int .u8 la0) w := fun w => by
          rw [HLA0.out, ← sm_lo_at]
          exact idx_smalls 9 Try.underlying9 .u32 _ _ (by omega) (by omega) w
        have hXb0 : ∀ w, (Instr.index 9 (.string Lib.smalls) (.int .u32 x0)).run Try.prog w = .ok (.int .u8 lb0) w := fun w => by
          rw [HLB0.out, ← sm_hi_at]
          exact idx_smalls 9 Try.underlying9 .u32 _ _ (by omega) (by omega) w
        have hlo0 : 0 ≤ x0 := by omega
        have hhi0 : x0 ≤ 198 := by omega
        clear hx0 hxe0 HLA0 HLB0
        go_region_o
        go_wp2
        go_name_world W1 hW1
        have HF1 : Hid (Fm w b W1 (upd (upd g0 (off + (4 + 1)) la0) (off + (4)) lb0)) := by
          show Fm w b W1 _
          rw [← hW1]
          exact ((HF0.out.set (i := off + (4 + 1)) (by omega) la0).set (i := off + (4)) (by omega) lb0).drew
        generalize upd (upd g0 (off + (4 + 1)) la0) (off + (4)) lb0 = g1 at *
        clear hW1 hc0 hf0 HF0 HD0 hXa0 hXb0
        have hc1 : ∀ t, t < nd → W1.cell? ⟨b, off + t, none⟩ = some (.int .u8 (g1 (off + t))) := fun t ht => HF1.out.c _ (by omega)
        have hf1 : ∀ t, t < nd → W1.frozen? ⟨b, off + t, none⟩ = false := fun t _ => HF1.out.f _
        obtain ⟨la1, HLA1⟩ : ∃ z : Int, Hid (z = ((48 + (v / 100) % 10 : Nat) : Int)) := ⟨_, rfl⟩
        obtain ⟨lb1, HLB1⟩ : ∃ z : Int, Hid (z = ((48 + (v / 100) % 100 / 10 : Nat) : Int)) := ⟨_, rfl⟩
        have HD2 : Hid (Dd nd u off (2) ((v / 100) / 100) (upd (upd g1 (off + (2 + 1)) la1) (off + (2)) lb1)) := by
          show Dd nd u off (2) ((v / 100) / 100) (upd (upd g1 (off + (2 + 1)) la1) (off + (2)) lb1)
          rw [HLA1.out, HLB1.out]
          exact Dd.two (k := 2) HD1.out
        go_name_slot 14 x1 hx1
        have hxe1 : x1 = (((v / 100) % 100 * 2 : Nat) : Int) := by omega
        have hXa1 : ∀ w, (Instr.index 9 (.string Lib.smalls) (.int .u32 (x1 + 1))).run Try.prog w = .ok (.int .u8 la1) w := fun w => by
          rw [HLA1.out, ← sm_lo_at]
          exact idx_smalls 9 Try.underlying9 .u32 _ _ (by omega) (by omega) w
        have hXb1 : ∀ w, (Instr.index 9 (.string Lib.smalls) (.int .u32 x1)).run Try.prog w = .ok (.int .u8 lb1) w := fun w => by
          rw [HLB1.out, ← sm_hi_at]
          exact idx_smalls 9 Try.underlying9 .u32 _ _ (by omega) (by omega) w
        have hlo1 : 0 ≤ x1 := by omega
        have hhi1 : x1 ≤ 198 := by omega
        clear hx1 hxe1 HLA1 HLB1
        go_region_o
        go_wp2
        go_name_world W2 hW2
        have HF2 : Hid (Fm w b W2 (upd (upd g1 (off + (2 + 1)) la1) (off + (2)) lb1)) := by
          show Fm w b W2 _
          rw [← hW2]
          exact ((HF1.out.set (i := off + (2 + 1)) (by omega) la1).set (i := off + (2)) (by omega) lb1).drew
        generalize upd (upd g1 (off + (2 + 1)) la1) (off + (2)) lb1 = g2 at *
        clear hW2 hc1 hf1 HF1 HD1 hXa1 hXb1
        have hc2 : ∀ t, t < nd → W2.cell? ⟨b, off + t, none⟩ = some (.int .u8 (g2 (off + t))) := fun t ht => HF2.out.c _ (by omega)
        have hf2 : ∀ t, t < nd → W2.frozen? ⟨b, off + t, none⟩ = false := fun t _ => HF2.out.f _
        obtain ⟨la2, HLA2⟩ : ∃ z : Int, Hid (z = ((48 + (v / 100 / 100) % 10 : Nat) : Int)) := ⟨_, rfl⟩
        obtain ⟨lb2, HLB2⟩ : ∃ z : Int, Hid (z = ((48 + (v / 100 / 100) % 100 / 10 : Nat) : Int)) := ⟨_, rfl⟩
        have HD3 : Hid (Dd nd u off (0) ((v / 100 / 100) / 100) (upd (upd g2 (off + (0 + 1)) la2) (off + (0)) lb2)) := by
          show Dd nd u off (0) ((v / 100 / 100) / 100) (upd (upd g2 (off + (0 + 1)) la2) (off + (0)) lb2)
          rw [HLA2.out, HLB2.out]
          exact Dd.two (k := 0) HD2.out
        go_name_slot 16 x2 hx2
        have hxe2 : x2 = (((v / 100 / 100) % 100 * 2 : Nat) : Int) := by omega
        have hXa2 : ∀ w, (Instr.index 9 (.string Lib.smalls) (.int .u32 (x2 + 1))).run Try.prog w = .ok (.int .u8 la2) w := fun w => by
          rw [HLA2.out, ← sm_lo_at]
          exact idx_smalls 9 Try.underlying9 .u32 _ _ (by omega) (by omega) w
        have hXb2 : ∀ w, (Instr.index 9 (.string Lib.smalls) (.int .u32 x2)).run Try.prog w = .ok (.int .u8 lb2) w := fun w => by
          rw [HLB2.out, ← sm_hi_at]
          exact idx_smalls 9 Try.underlying9 .u32 _ _ (by omega) (by omega) w
        have hlo2 : 0 ≤ x2 := by omega
        have hhi2 : x2 ≤ 198 := by omega
        clear hx2 hxe2 HLA2 HLB2
        go_region_o
        go_wp2
        go_end0
        exact ⟨rfl, _, ((HF2.out.set (i := off + (0 + 1)) (by omega) la2).set (i := off + 0) (by omega) lb2).drew, fun t ht => HD3.out.done t (Nat.zero_le _) ht⟩
      rcases Nat.eq_or_lt_of_le (show k ≤ 5 from by omega) with rfl | hlt5
      · have hv : v < 1000000 := by omega
        clear hsm
        have hle : 5 ≤ nd := HD0.out.le
        have hc0 : ∀ t, t < nd → wr.cell? ⟨b, off + t, none⟩ = some (.int .u8 (g0 (off + t))) := fun t ht => HF0.out.c _ (by omega)
        have hf0 : ∀ t, t < nd → wr.frozen? ⟨b, off + t, none⟩ = false := fun t _ => HF0.out.f _
        go_wp2
        obtain ⟨la0, HLA0⟩ : ∃ z : Int, Hid (z = ((48 + (v) % 10 : Nat) : Int)) := ⟨_, rfl⟩
        obtain ⟨lb0, HLB0⟩ : ∃ z : Int, Hid (z = ((48 + (v) % 100 / 10 : Nat) : Int)) := ⟨_, rfl⟩
        have HD1 : Hid (Dd nd u off (3) ((v) / 100) (upd (upd g0 (off + (3 + 1)) la0) (off + (3)) lb0)) := by
          show Dd nd u off (3) ((v) / 100) (upd (upd g0 (off + (3 + 1)) la0) (off + (3)) lb0)
          rw [HLA0.out, HLB0.out]
          exact Dd.two (k := 3) HD0.out
        go_name_slot 15 x0 hx0
        have hxe0 : x0 = (((v) % 100 * 2 : Nat) : Int) := by omega
        have hXa0 : ∀ w, (Instr.index 9 (.string Lib.smalls) (.int .u32 (x0 + 1))).run Try.prog w = .ok (.int .u8 la0) w := fun w => by
          rw [HLA0.out, ← sm_lo_at]
          exact idx_smalls 9 Try.underlying9 .u32 _ _ (by omega) (by omega) w
        have hXb0 : ∀ w, (Instr.index 9 (.string Lib.smalls) (.int .u32 x0)).run Try.prog w = .ok (.int .u8 lb0) w := fun w => by
          rw [HLB0.out, ← sm_hi_at]
          exact idx_smalls 9 Try.underlying9 .u32 _ _ (by omega) (by omega) w
        have hlo0 : 0 ≤ x0 := by omega
        have hhi0 : x0 ≤ 198 := by omega
        clear hx0 hxe0 HLA0 HLB0
        go_region_o
        go_wp2
        go_name_world W1 hW1
        have HF1 : Hid (Fm w b W1 (upd (upd g0 (off + (3 + 1)) la0) (off + (3)) lb0)) := by
          show Fm w b W1 _
          rw [← hW1]
          exact ((HF0.out.set (i := off + (3 + 1)) (by omega) la0).set (i := off + (3)) (by omega) lb0).drew
        generalize upd (upd g0 (off + (3 + 1)) la0) (off + (3)) lb0 = g1 at *
        clear hW1 hc0 hf0 HF0 HD0 hXa0 hXb0
        have hc1 : ∀ t, t < nd → W1.cell? ⟨b, off + t, none⟩ = some (.int .u8 (g1 (off + t))) := fun t ht => HF1.out.c _ (by omega)
        have hf1 : ∀ t, t < nd → W1.frozen? ⟨b, off + t, none⟩ = false := fun t _ => HF1.out.f _
        obtain ⟨la1, HLA1⟩ : ∃ z : Int, Hid (z = ((48 + (v / 100) % 10 : Nat) : Int)) := ⟨_, rfl⟩
        obtain ⟨lb1, HLB1⟩ : ∃ z : Int, Hid (z = ((48 + (v / 100) % 100 / 10 : Nat) : Int)) := ⟨_, rfl⟩
        have HD2 : Hid (Dd nd u off (1) ((v / 100) / 100) (upd (upd g1 (off + (1 + 1)) la1) (off + (1)) lb1)) := by
          show Dd nd u off (1) ((v / 100) / 100) (upd (upd g1 (off + (1 + 1)) la1) (off + (1)) lb1)
          rw [HLA1.out, HLB1.out]
          exact Dd.two (k := 1) HD1.out
        go_name_slot 14 x1 hx1
        have hxe1 : x1 = (((v / 100) % 100 * 2 : Nat) : Int) := by omega
        have hXa1 : ∀ w, (Instr.index 9 (.string Lib.smalls) (.int .u32 (x1 + 1))).run Try.prog w = .ok (.int .u8 la1) w := fun w => by
          rw [HLA1.out, ← sm_lo_at]
          exact idx_smalls 9 Try.underlying9 .u32 _ _ (by omega) (by omega) w
        have hXb1 : ∀ w, (Instr.index 9 (.string Lib.smalls) (.int .u32 x1)).run Try.prog w = .ok (.int .u8 lb1) w := fun w => by
          rw [HLB1.out, ← sm_hi_at]
          exact idx_smalls 9 Try.underlying9 .u32 _ _ (by omega) (by omega) w
        have hlo1 : 0 ≤ x1 := by omega
        have hhi1 : x1 ≤ 198 := by omega
        clear hx1 hxe1 HLA1 HLB1
        go_region_o
        go_wp2
        go_end0
        rw [show (48 + (v : Int) / 10000) = ((48 + v / 100 / 100 : Nat) : Int) from by omega]
        exact ⟨rfl, _, (((HF1.out.set (i := off + (1 + 1)) (by omega) la1).set (i := off + 1) (by omega) lb1).set (i := off) (by omega) _).drew, HD2.out.one⟩
      rcases Nat.eq_or_lt_of_le (show k ≤ 4 from by omega) with rfl | hlt4
      · have hv : v < 100000 := by omega
        clear hsm
        have hle : 4 ≤ nd := HD0.out.le
        have hc0 : ∀ t, t < nd → wr.cell? ⟨b, off + t, none⟩ = some (.int .u8 (g0 (off + t))) := fun t ht => HF0.out.c _ (by omega)
        have hf0 : ∀ t, t < nd → wr.frozen? ⟨b, off + t, none⟩ = false := fun t _ => HF0.out.f _
        go_wp2
        obtain ⟨la0, HLA0⟩ : ∃ z : Int, Hid (z = ((48 + (v) % 10 : Nat) : Int)) := ⟨_, rfl⟩
        obtain ⟨lb0, HLB0⟩ : ∃ z : Int, Hid (z = ((48 + (v) % 100 / 10 : Nat) : Int)) := ⟨_, rfl⟩
        have HD1 : Hid (Dd nd u off (2) ((v) / 100) (upd (upd g0 (off + (2 + 1)) la0) (off + (2)) lb0)) := by
          show Dd nd u off (2) ((v) / 100) (upd (upd g0 (off + (2 + 1)) la0) (off + (2)) lb0)
          rw [HLA0.out, HLB0.out]
          exact Dd.two (k := 2) HD0.out
        go_name_slot 15 x0 hx0
        have hxe0 : x0 = (((v) % 100 * 2 : Nat) : Int) := by omega
        have hXa0 : ∀ w, (Instr.index 9 (.string Lib.smalls) (.int .u32 (x0 + 1))).run Try.prog w = .ok (.int .u8 la0) w := fun w => by
          rw [HLA0.out, ← sm_lo_at]
          exact idx_smalls 9 Try.underlying9 .u32 _ _ (by omega) (by omega) w
        have hXb0 : ∀ w, (Instr.index 9 (.string Lib.smalls) (.int .u32 x0)).run Try.prog w = .ok (.int .u8 lb0) w := fun w => by
          rw [HLB0.out, ← sm_hi_at]
          exact idx_smalls 9 Try.underlying9 .u32 _ _ (by omega) (by omega) w
        have hlo0 : 0 ≤ x0 := by omega
        have hhi0 : x0 ≤ 198 := by omega
        clear hx0 hxe0 HLA0 HLB0
        go_region_o
        go_wp2
        go_name_world W1 hW1
        have HF1 : Hid (Fm w b W1 (upd (upd g0 (off + (2 + 1)) la0) (off + (2)) lb0)) := by
          show Fm w b W1 _
          rw [← hW1]
          exact ((HF0.out.set (i := off + (2 + 1)) (by omega) la0).set (i := off + (2)) (by omega) lb0).drew
        generalize upd (upd g0 (off + (2 + 1)) la0) (off + (2)) lb0 = g1 at *
        clear hW1 hc0 hf0 HF0 HD0 hXa0 hXb0
        have hc1 : ∀ t, t < nd → W1.cell? ⟨b, off + t, none⟩ = some (.int .u8 (g1 (off + t))) := fun t ht => HF1.out.c _ (by omega)
        have hf1 : ∀ t, t < nd → W1.frozen? ⟨b, off + t, none⟩ = false := fun t _ => HF1.out.f _
        obtain ⟨la1, HLA1⟩ : ∃ z : Int, Hid (z = ((48 + (v / 100) % 10 : Nat) : Int)) := ⟨_, rfl⟩
        obtain ⟨lb1, HLB1⟩ : ∃ z : Int, Hid (z = ((48 + (v / 100) % 100 / 10 : Nat) : Int)) := ⟨_, rfl⟩
        have HD2 : Hid (Dd nd u off (0) ((v / 100) / 100) (upd (upd g1 (off + (0 + 1)) la1) (off + (0)) lb1)) := by
          show Dd nd u off (0) ((v / 100) / 100) (upd (upd g1 (off + (0 + 1)) la1) (off + (0)) lb1)
          rw [HLA1.out, HLB1.out]
          exact Dd.two (k := 0) HD1.out
        go_name_slot 14 x1 hx1
        have hxe1 : x1 = (((v / 100) % 100 * 2 : Nat) : Int) := by omega
        have hXa1 : ∀ w, (Instr.index 9 (.string Lib.smalls) (.int .u32 (x1 + 1))).run Try.prog w = .ok (.int .u8 la1) w := fun w => by
          rw [HLA1.out, ← sm_lo_at]
          exact idx_smalls 9 Try.underlying9 .u32 _ _ (by omega) (by omega) w
        have hXb1 : ∀ w, (Instr.index 9 (.string Lib.smalls) (.int .u32 x1)).run Try.prog w = .ok (.int .u8 lb1) w := fun w => by
          rw [HLB1.out, ← sm_hi_at]
          exact idx_smalls 9 Try.underlying9 .u32 _ _ (by omega) (by omega) w
        have hlo1 : 0 ≤ x1 := by omega
        have hhi1 : x1 ≤ 198 := by omega
        clear hx1 hxe1 HLA1 HLB1
        go_region_o
        go_wp2
        go_end0
        exact ⟨rfl, _, ((HF1.out.set (i := off + (0 + 1)) (by omega) la1).set (i := off + 0) (by omega) lb1).drew, fun t ht => HD2.out.done t (Nat.zero_le _) ht⟩
      rcases Nat.eq_or_lt_of_le (show k ≤ 3 from by omega) with rfl | hlt3
      · have hv : v < 10000 := by omega
        clear hsm
        have hle : 3 ≤ nd := HD0.out.le
        have hc0 : ∀ t, t < nd → wr.cell? ⟨b, off + t, none⟩ = some (.int .u8 (g0 (off + t))) := fun t ht => HF0.out.c _ (by omega)
        have hf0 : ∀ t, t < nd → wr.frozen? ⟨b, off + t, none⟩ = false := fun t _ => HF0.out.f _
        go_wp2
        obtain ⟨la0, HLA0⟩ : ∃ z : Int, Hid (z = ((48 + (v) % 10 : Nat) : Int)) := ⟨_, rfl⟩
        obtain ⟨lb0, HLB0⟩ : ∃ z : Int, Hid (z = ((48 + (v) % 100 / 10 : Nat) : Int)) := ⟨_, rfl⟩
        have HD1 : Hid (Dd nd u off (1) ((v) / 100) (upd (upd g0 (off + (1 + 1)) la0) (off + (1)) lb0)) := by
          show Dd nd u off (1) ((v) / 100) (upd (upd g0 (off + (1 + 1)) la0) (off + (1)) lb0)
          rw [HLA0.out, HLB0.out]
          exact Dd.two (k := 1) HD0.out
        go_name_slot 16 x0 hx0
        have hxe0 : x0 = (((v) % 100 * 2 : Nat) : Int) := by omega
        have hXa0 : ∀ w, (Instr.index 9 (.string Lib.smalls) (.int .u32 (x0 + 1))).run Try.prog w = .ok (.int .u8 la0) w := fun w => by
          rw [HLA0.out, ← sm_lo_at]
          exact idx_smalls 9 Try.underlying9 .u32 _ _ (by omega) (by omega) w
        have hXb0 : ∀ w, (Instr.index 9 (.string Lib.smalls) (.int .u32 x0)).run Try.prog w = .ok (.int .u8 lb0) w := fun w => by
          rw [HLB0.out, ← sm_hi_at]
          exact idx_smalls 9 Try.underlying9 .u32 _ _ (by omega) (by omega) w
        have hlo0 : 0 ≤ x0 := by omega
        have hhi0 : x0 ≤ 198 := by omega
        clear hx0 hxe0 HLA0 HLB0
        go_region_o
        go_wp2
        go_end0
        rw [show (48 + (v : Int) / 100) = ((48 + v / 100 : Nat) : Int) from by omega]
        exact ⟨rfl, _, (((HF0.out.set (i := off + (1 + 1)) (by omega) la0).set (i := off + 1) (by omega) lb0).set (i := off) (by omega) _).drew, HD1.out.one⟩
      rcases Nat.eq_or_lt_of_le (show k ≤ 2 from by omega) with rfl | hlt2
      · have hv : v < 1000 := by omega
        clear hsm
        have hle : 2 ≤ nd := HD0.out.le
        have hc0 : ∀ t, t < nd → wr.cell? ⟨b, off + t, none⟩ = some (.int .u8 (g0 (off + t))) := fun t ht => HF0.out.c _ (by omega)
        have hf0 : ∀ t, t < nd → wr.frozen? ⟨b, off + t, none⟩ = false := fun t _ => HF0.out.f _
        go_wp2
        obtain ⟨la0, HLA0⟩ : ∃ z : Int, Hid (z = ((48 + (v) % 10 : Nat) : Int)) := ⟨_, rfl⟩
        obtain ⟨lb0, HLB0⟩ : ∃ z : Int, Hid (z = ((48 + (v) % 100 / 10 : Nat) : Int)) := ⟨_, rfl⟩
        have HD1 : Hid (Dd nd u off (0) ((v) / 100) (upd (upd g0 (off + (0 + 1)) la0) (off + (0)) lb0)) := by
          show Dd nd u off (0) ((v) / 100) (upd (upd g0 (off + (0 + 1)) la0) (off + (0)) lb0)
          rw [HLA0.out, HLB0.out]
          exact Dd.two (k := 0) HD0.out
        go_name_slot 16 x0 hx0
        have hxe0 : x0 = (((v) % 100 * 2 : Nat) : Int) := by omega
        have hXa0 : ∀ w, (Instr.index 9 (.string Lib.smalls) (.int .u32 (x0 + 1))).run Try.prog w = .ok (.int .u8 la0) w := fun w => by
          rw [HLA0.out, ← sm_lo_at]
          exact idx_smalls 9 Try.underlying9 .u32 _ _ (by omega) (by omega) w
        have hXb0 : ∀ w, (Instr.index 9 (.string Lib.smalls) (.int .u32 x0)).run Try.prog w = .ok (.int .u8 lb0) w := fun w => by
          rw [HLB0.out, ← sm_hi_at]
          exact idx_smalls 9 Try.underlying9 .u32 _ _ (by omega) (by omega) w
        have hlo0 : 0 ≤ x0 := by omega
        have hhi0 : x0 ≤ 198 := by omega
        clear hx0 hxe0 HLA0 HLB0
        go_region_o
        go_wp2
        go_end0
        exact ⟨rfl, _, ((HF0.out.set (i := off + (0 + 1)) (by omega) la0).set (i := off + 0) (by omega) lb0).drew, fun t ht => HD1.out.done t (Nat.zero_le _) ht⟩
      rcases Nat.eq_or_lt_of_le (show k ≤ 1 from by omega) with rfl | hlt1
      · have hv : v < 100 := by omega
        clear hsm
        have hle : 1 ≤ nd := HD0.out.le
        have hc0 : ∀ t, t < nd → wr.cell? ⟨b, off + t, none⟩ = some (.int .u8 (g0 (off + t))) := fun t ht => HF0.out.c _ (by omega)
        have hf0 : ∀ t, t < nd → wr.frozen? ⟨b, off + t, none⟩ = false := fun t _ => HF0.out.f _
        go_wp2
        go_end0
        refine ⟨rfl, _, HF0.out.set (i := off) (by omega) ((48 + v : Nat) : Int), HD0.out.one⟩
      obtain rfl : k = 0 := by omega
      go_wp2
      go_end0
      exact ⟨rfl, g0, HF0.out, fun t ht => HD0.out.done t (Nat.zero_le _) ht⟩

end Go.Proofs.Ytcllgpbgikidjaa
