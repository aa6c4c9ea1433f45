/-
  The law SumOne, walked: for every two slices of bytes and every two bytes it returns true.
-/
import Derived.Test.YtfjehpfpgefmfaaAwake
import Derived.Test.YtfjehpfpgefmfaaStep
import Derived.Test.YtfjehpfpgefmfaaShift
import Derived.Test.YtfjehpfpgefmfaaTwo
import Derived.Deep.RegionHeld3
import Derived.Deep.DeepCutAuto
namespace Go.Proofs.Ytfjehpfpgefmfaa.sumOne
open Go.RowKit

set_option maxHeartbeats 1000000 in
theorem walk (a0 : Option Addr) (len0 cap0 : Nat) (z0 : List Int) (a1 : Option Addr) (len1 cap1 : Nat) (z1 : List Int) (x0 x1 : Int) (w : World) (w0 : IsRow .u8 w a0 len0 cap0 z0) (w1 : IsRow .u8 w a1 len1 cap1 z1)
    (p0 : 0 ≤ x0) (p1 : x0 ≤ 255) (q0 : 0 ≤ x1) (q1 : x1 ≤ 255) :
    Calls Try.prog 8 #[.slice a0 len0 cap0, .slice a1 len1 cap1, .agg #[.int .u8 x0, .int .u8 x1]] w fun e w' => e = .returned (.bool true) ∧ Below w.heap.size w w' := by
  have hb0 := w0.bs
  have hb1 := w1.bs
  have N0 : Hid (a0 = none → cap0 = 0) := w0.bare
  have N1 : Hid (a1 = none → cap1 = 0) := w1.bare
  by_cases hall : len0 ≤ 20000 ∧ len1 ≤ 20000 ∧ x0 ≠ x1
  · obtain ⟨h0, h1, hne⟩ := hall
    have g0 : decide (20000 < (len0 : Int)) = false := by simp; omega
    have g1 : decide (20000 < (len1 : Int)) = false := by simp; omega
    have g2 : (x0 == x1) = false := by simp [hne]
    have NE : Hid (x0 ≠ x1) := hne
    clear hne
    go_enter Try.func8, Try.ntmps8
    go_wp2_with fail
    refine (awake_any _).mono ?_
    rintro e X ⟨rfl, hbel⟩
    have hc := bcell hbel
    have c0 : X.cell? ⟨w.heap.size, 0, none⟩ = some (.int .u8 x0) := by rw [hc _ _ (by simp)]; simp
    have c1 : X.cell? ⟨w.heap.size, 1, none⟩ = some (.int .u8 x1) := by rw [hc _ _ (by simp)]; simp
    clear hc
    have hbelX : Below w.heap.size w X := ((Below.refl _ _).alloc (Nat.le_refl _) _).trans (hbel.mono (by simp))
    clear hbel
    have ha := hb0.below hbelX
    have hb := hb1.below hbelX
    go_wp2_with fail
    clear g0 g1 g2
    have lX : w.heap.size < X.heap.size := World.block_lt_of_cell? X _ c0
    go_cut [8] (fun v wc => wc.ownsRow X.heap.size 5 1 v (len0 + 1 + len1) (cellsB (z0.take len0 ++ [x0] ++ z1.take len1)) ∧ Below X.heap.size X wc)
    case first =>
      go_region_held3 (fun w' => w'.cell? ⟨w.heap.size, 0, none⟩ = some (.int .u8 x0)) (first | go_keep | assumption) (first | (refine step_append_bytes (by rfl) (.tmp 27) (.tmp 28) (by rfl) X.heap.size _ 0 [] (by rfl) (owns1 X) a0 len0 cap0 (z0.take len0) (by rfl) N0.out (ha.below (below1 X _)) (by omega) (below1 X _).size ?_; intro v2 x2 ho2 hg2; have b2 := (below1 X _).grown hg2 (below1 X _).size (owns_block (owns1 X)); have s2 : x2.cell? ⟨w.heap.size, 0, none⟩ = some (.int .u8 x0) := (b2.cell lX).trans c0) | (refine step_append_bytes (by rfl) (.tmp 27) (.tmp 28) (by rfl) X.heap.size _ 0 [] (by rfl) (owns2 X (Obj.cells #[.int .u8 x0] 5)) a0 len0 cap0 (z0.take len0) (by rfl) N0.out (ha.below (below2 X _ _)) (by omega) (below2 X _ _).size ?_; intro v2 x2 ho2 hg2; have b2 := (below2 X _ _).grown hg2 (below2 X _ _).size (owns_block (owns2 X (Obj.cells #[.int .u8 x0] 5))); have s2 : x2.cell? ⟨w.heap.size, 0, none⟩ = some (.int .u8 x0) := (b2.cell lX).trans c0; have t2 := (one2 X x0 p0 p1 _).grown hg2 (by simp [Value.ownBlock])) | (refine step_append_bytes (by rfl) (.tmp 27) (.tmp 28) (by rfl) X.heap.size _ 0 [] (by rfl) (owns3 X (Obj.cells #[.int .u8 x0] 5)) a0 len0 cap0 (z0.take len0) (by rfl) N0.out (ha.below (below2 X _ _)) (by omega) (below2 X _ _).size ?_; intro v2 x2 ho2 hg2; have b2 := (below2 X _ _).grown hg2 (below2 X _ _).size (owns_block (owns3 X (Obj.cells #[.int .u8 x0] 5))); have s2 : x2.cell? ⟨w.heap.size, 0, none⟩ = some (.int .u8 x0) := (b2.cell lX).trans c0; have t2 := (one3 X x0 p0 p1 _).grown hg2 (by simp [Value.ownBlock])) | (refine step_append_bytes (by rfl) (.tmp 29) (.tmp 32) (by rfl) X.heap.size _ (0 + len0) _ (by rfl) (ho2.alloc _) (some ⟨x2.heap.size, 0, none⟩) 1 1 [x0] (by rfl) (by intro h; cases h) (Bs.one x2 x0 p0 p1) (by omega) (size1 b2.size) ?_; intro v3 x3 ho3 hg3; have b3 := (b2.alloc b2.size _).grown hg3 (size1 b2.size) (owns_block ho2); have s3 : x3.cell? ⟨w.heap.size, 0, none⟩ = some (.int .u8 x0) := (b3.cell lX).trans c0) | (refine step_append_bytes (by rfl) (.tmp 29) (.tmp 32) (by rfl) X.heap.size _ (0 + len0) _ (by rfl) ho2 (some ⟨X.heap.size, 0, none⟩) 1 1 [x0] (by rfl) (by intro h; cases h) t2 (by omega) b2.size ?_; intro v3 x3 ho3 hg3; have b3 := b2.grown hg3 b2.size (owns_block ho2); have s3 : x3.cell? ⟨w.heap.size, 0, none⟩ = some (.int .u8 x0) := (b3.cell lX).trans c0) | (refine step_append_bytes (by rfl) (.tmp 29) (.tmp 32) (by rfl) X.heap.size _ (0 + len0) _ (by rfl) ho2 (some ⟨X.heap.size + 1, 0, none⟩) 1 1 [x0] (by rfl) (by intro h; cases h) t2 (by omega) b2.size ?_; intro v3 x3 ho3 hg3; have b3 := b2.grown hg3 b2.size (owns_block ho2); have s3 : x3.cell? ⟨w.heap.size, 0, none⟩ = some (.int .u8 x0) := (b3.cell lX).trans c0) | (refine step_append_bytes (by rfl) (.tmp 33) (.tmp 34) (by rfl) X.heap.size _ (0 + len0 + 1) _ (by rfl) ho3 a1 len1 cap1 (z1.take len1) (by rfl) N1.out (hb.below b3) (by omega) b3.size ?_; intro v4 x4 ho4 hg4; have b4 := b3.grown hg4 b3.size (owns_block ho3); have s4 : x4.cell? ⟨w.heap.size, 0, none⟩ = some (.int .u8 x0) := (b4.cell lX).trans c0))
      all_goals (go_wp2_with fail; go_meet; exact ⟨by simpa using ho4, b4⟩)
    case rest =>
      obtain ⟨own8, bel8⟩ := hcut
      obtain ⟨a8, c8, rfl, bs8⟩ := owns_bs own8 (by
        intro z hz
        rw [List.mem_append, List.mem_append] at hz
        rcases hz with (hz | hz) | hz
        · exact hb0.2.1 z hz
        · simp at hz; subst hz; exact ⟨p0, p1⟩
        · exact hb1.2.1 z hz)
      have ha2 := ha.below bel8
      have hb2 := hb.below bel8
      have d1 : wc.cell? ⟨w.heap.size, 1, none⟩ = some (.int .u8 x1) := (bel8.cell lX).trans c1
      have lY : w.heap.size < wc.heap.size := World.block_lt_of_cell? wc _ d1
      have hw8 : Below w.heap.size w wc := hbelX.trans (bel8.mono hbelX.size)
      clear own8 bel8 ha hb c0 c1 lX hbelX
      go_wp2_with fail
      go_cut [9] (fun v wd => wd.ownsRow wc.heap.size 5 1 v (len0 + 1 + len1) (cellsB (z0.take len0 ++ [x1] ++ z1.take len1)) ∧ Below wc.heap.size wc wd)
      case first =>
        go_region_held3 (fun w' => w'.cell? ⟨w.heap.size, 1, none⟩ = some (.int .u8 x1)) (first | go_keep | assumption) (first | (refine step_append_bytes (by rfl) (.tmp 36) (.tmp 37) (by rfl) wc.heap.size _ 0 [] (by rfl) (owns1 wc) a0 len0 cap0 (z0.take len0) (by rfl) N0.out (ha2.below (below1 wc _)) (by omega) (below1 wc _).size ?_; intro v2 x2 ho2 hg2; have b2 := (below1 wc _).grown hg2 (below1 wc _).size (owns_block (owns1 wc)); have s2 : x2.cell? ⟨w.heap.size, 1, none⟩ = some (.int .u8 x1) := (b2.cell lY).trans d1) | (refine step_append_bytes (by rfl) (.tmp 36) (.tmp 37) (by rfl) wc.heap.size _ 0 [] (by rfl) (owns2 wc (Obj.cells #[.int .u8 x1] 5)) a0 len0 cap0 (z0.take len0) (by rfl) N0.out (ha2.below (below2 wc _ _)) (by omega) (below2 wc _ _).size ?_; intro v2 x2 ho2 hg2; have b2 := (below2 wc _ _).grown hg2 (below2 wc _ _).size (owns_block (owns2 wc (Obj.cells #[.int .u8 x1] 5))); have s2 : x2.cell? ⟨w.heap.size, 1, none⟩ = some (.int .u8 x1) := (b2.cell lY).trans d1; have t2 := (one2 wc x1 q0 q1 _).grown hg2 (by simp [Value.ownBlock])) | (refine step_append_bytes (by rfl) (.tmp 36) (.tmp 37) (by rfl) wc.heap.size _ 0 [] (by rfl) (owns3 wc (Obj.cells #[.int .u8 x1] 5)) a0 len0 cap0 (z0.take len0) (by rfl) N0.out (ha2.below (below2 wc _ _)) (by omega) (below2 wc _ _).size ?_; intro v2 x2 ho2 hg2; have b2 := (below2 wc _ _).grown hg2 (below2 wc _ _).size (owns_block (owns3 wc (Obj.cells #[.int .u8 x1] 5))); have s2 : x2.cell? ⟨w.heap.size, 1, none⟩ = some (.int .u8 x1) := (b2.cell lY).trans d1; have t2 := (one3 wc x1 q0 q1 _).grown hg2 (by simp [Value.ownBlock])) | (refine step_append_bytes (by rfl) (.tmp 38) (.tmp 41) (by rfl) wc.heap.size _ (0 + len0) _ (by rfl) (ho2.alloc _) (some ⟨x2.heap.size, 0, none⟩) 1 1 [x1] (by rfl) (by intro h; cases h) (Bs.one x2 x1 q0 q1) (by omega) (size1 b2.size) ?_; intro v3 x3 ho3 hg3; have b3 := (b2.alloc b2.size _).grown hg3 (size1 b2.size) (owns_block ho2); have s3 : x3.cell? ⟨w.heap.size, 1, none⟩ = some (.int .u8 x1) := (b3.cell lY).trans d1) | (refine step_append_bytes (by rfl) (.tmp 38) (.tmp 41) (by rfl) wc.heap.size _ (0 + len0) _ (by rfl) ho2 (some ⟨wc.heap.size, 0, none⟩) 1 1 [x1] (by rfl) (by intro h; cases h) t2 (by omega) b2.size ?_; intro v3 x3 ho3 hg3; have b3 := b2.grown hg3 b2.size (owns_block ho2); have s3 : x3.cell? ⟨w.heap.size, 1, none⟩ = some (.int .u8 x1) := (b3.cell lY).trans d1) | (refine step_append_bytes (by rfl) (.tmp 38) (.tmp 41) (by rfl) wc.heap.size _ (0 + len0) _ (by rfl) ho2 (some ⟨wc.heap.size + 1, 0, none⟩) 1 1 [x1] (by rfl) (by intro h; cases h) t2 (by omega) b2.size ?_; intro v3 x3 ho3 hg3; have b3 := b2.grown hg3 b2.size (owns_block ho2); have s3 : x3.cell? ⟨w.heap.size, 1, none⟩ = some (.int .u8 x1) := (b3.cell lY).trans d1) | (refine step_append_bytes (by rfl) (.tmp 42) (.tmp 43) (by rfl) wc.heap.size _ (0 + len0 + 1) _ (by rfl) ho3 a1 len1 cap1 (z1.take len1) (by rfl) N1.out (hb2.below b3) (by omega) b3.size ?_; intro v4 x4 ho4 hg4; have b4 := b3.grown hg4 b3.size (owns_block ho3); have s4 : x4.cell? ⟨w.heap.size, 1, none⟩ = some (.int .u8 x1) := (b4.cell lY).trans d1))
        all_goals (go_wp2_with fail; go_meet; exact ⟨by simpa using ho4, b4⟩)
      case rest =>
        obtain ⟨own9, bel9⟩ := hcut
        obtain ⟨a9, c9, rfl, bs9⟩ := owns_bs own9 (by
          intro z hz
          rw [List.mem_append, List.mem_append] at hz
          rcases hz with (hz | hz) | hz
          · exact hb0.2.1 z hz
          · simp at hz; subst hz; exact ⟨q0, q1⟩
          · exact hb1.2.1 z hz)
        have bs8' := bs8.below bel9
        have hw9 := hw8.trans (bel9.mono hw8.size)
        clear own9 bel9 bs8
        go_wp2_with fail
        refine (of_any _ _ _ _ _ (by omega) bs8').mono ?_
        rintro e w' ⟨rfl, rfl⟩
        go_wp2_with fail
        refine (of_any _ _ _ _ _ (by omega) bs9).mono ?_
        rintro e w' ⟨rfl, rfl⟩
        go_wp2
        go_ret
        refine ⟨?_, hw9⟩
        have hq := one_told (z0.take len0) (z1.take len1) x0 x1 p0 p1 q0 q1 NE.out
        simpa using hq
  · go_enter Try.func8, Try.ntmps8
    go_wp2_with fail
    refine (awake_any _).mono ?_
    rintro e X ⟨rfl, hbel⟩
    have hc := bcell hbel
    have c0 : X.cell? ⟨w.heap.size, 0, none⟩ = some (.int .u8 x0) := by rw [hc _ _ (by simp)]; simp
    have c1 : X.cell? ⟨w.heap.size, 1, none⟩ = some (.int .u8 x1) := by rw [hc _ _ (by simp)]; simp
    clear hc
    have hbelX : Below w.heap.size w X := ((Below.refl _ _).alloc (Nat.le_refl _) _).trans (hbel.mono (by simp))
    clear hbel
    by_cases h0 : len0 ≤ 20000
    · have g0 : decide (20000 < (len0 : Int)) = false := by simp; omega
      by_cases h1 : len1 ≤ 20000
      · have g1 : decide (20000 < (len1 : Int)) = false := by simp; omega
        have g2 : x0 = x1 := by
          rcases Int.decEq x0 x1 with h | h
          · exact absurd ⟨h0, h1, h⟩ hall
          · exact h
        subst g2
        clear hall
        go_wp2
        go_ret
        exact ⟨rfl, hbelX⟩
      · have g1 : decide (20000 < (len1 : Int)) = true := by simp; omega
        clear hall
        go_wp2
        go_ret
        exact ⟨rfl, hbelX⟩
    · have g0 : decide (20000 < (len0 : Int)) = true := by simp; omega
      clear hall
      go_wp2
      go_ret
      exact ⟨rfl, hbelX⟩

end Go.Proofs.Ytfjehpfpgefmfaa.sumOne
