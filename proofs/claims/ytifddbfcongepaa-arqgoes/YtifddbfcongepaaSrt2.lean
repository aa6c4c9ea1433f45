/-
  Heaps: how one is mended, made and taken apart.
-/
import Derived.Test.YtifddbfcongepaaSrt0
namespace Go.Proofs.Ytifddbfcongepaa
open Go.RowKit
open Go.Sort (swp size_swp)

/-- how a heap is mended: out, to the left, to the right. -/
theorem sift_out {hi F r : Nat} {d : Array Int} (h : hi ≤ 2 * r + 1) : Go.Sort.siftDown ltZ hi F r d = d := by
  rw [Go.Sort.siftDown, dif_pos h]
theorem sift_right {hi F r : Nat} {d : Array Int} (h : 2 * r + 2 < hi) (hl : ltZ d[F + (2 * r + 1)]! d[F + (2 * r + 1) + 1]! = true) : Go.Sort.siftDown ltZ hi F r d = if ltZ d[F + r]! d[F + (2 * r + 2)]! = true then Go.Sort.siftDown ltZ hi F (2 * r + 2) (swp d (F + r) (F + (2 * r + 2))) else d := by
  rw [Go.Sort.siftDown, dif_neg (by omega), if_pos (by rw [decide_eq_true (by omega), hl]; rfl)]
  cases hq : ltZ d[F + r]! d[F + (2 * r + 2)]! with
  | true => rw [if_neg (by decide), if_pos rfl, dif_pos h]
  | false => rw [if_pos (by decide), if_neg (by decide)]
theorem sift_left {hi F r : Nat} {d : Array Int} (h0 : 2 * r + 1 < hi) (h : ¬ 2 * r + 2 < hi ∨ ltZ d[F + (2 * r + 1)]! d[F + (2 * r + 1) + 1]! = false) : Go.Sort.siftDown ltZ hi F r d = if ltZ d[F + r]! d[F + (2 * r + 1)]! = true then Go.Sort.siftDown ltZ hi F (2 * r + 1) (swp d (F + r) (F + (2 * r + 1))) else d := by
  rw [Go.Sort.siftDown, dif_neg (by omega), if_neg (by rcases h with h | h; (rw [decide_eq_false (by omega)]; simp); (rw [h]; simp))]
  cases hq : ltZ d[F + r]! d[F + (2 * r + 1)]! with
  | true => rw [if_neg (by decide), if_pos rfl]
  | false => rw [if_pos (by decide), if_neg (by decide)]

set_option maxHeartbeats 8000000 in
set_option maxRecDepth 8000 in
theorem sift_any (g n cap lo hi F : Nat) (tl : List Value) (d : Array Int) (w : World) (h : Blk w g 31 (cellsA d ++ tl)) (hd : d.size = n) (hF : F + hi ≤ n) (hlo : lo ≤ 1000) (hn : n ≤ 1000) :
    Calls Try.prog 39 #[.slice (some ⟨g, 0, none⟩) n cap, .int .i64 lo, .int .i64 hi, .int .i64 F] w fun e w' => e = .returned (.tuple #[]) ∧ Sw w g tl (Go.Sort.siftDown ltZ hi F lo d) w' := by
  have S0 : Hid (Sw w g tl d w) := Sw.refl h
  clear h
  go_enter Try.func39, Try.ntmps39
  go_wp2
  go_loopw [8] (fun vi wr => ∃ (r : Nat) (dk : Array Int), vi = .int .i64 r ∧ r ≤ 1000 ∧ dk.size = n ∧ Sw w g tl dk wr ∧ Go.Sort.siftDown ltZ hi F r dk = Go.Sort.siftDown ltZ hi F lo d) (fun vi _ => hi - (intOf vi).toNat)
  case atStart => exact ⟨lo, d, rfl, hlo, hd, S0.out, rfl⟩
  case round =>
    obtain ⟨r, dk, rfl, hr, hsk, hsw, hO⟩ := hrel
    have HO : Hid (Go.Sort.siftDown ltZ hi F r dk = Go.Sort.siftDown ltZ hi F lo d) := hO
    have S1 : Hid (Sw w g tl dk wr) := hsw
    clear hO
    by_cases hout : hi ≤ 2 * r + 1
    · have ho1 : decide ((hi : Int) ≤ 2 * (r : Int) + 1) = true := decide_eq_true (by omega)
      have ho2 : (hi : Int) ≤ 2 * (r : Int) + 1 := by omega
      clear hsw
      go_wp2_with fail
      go_end0
      exact ⟨rfl, by rw [← HO.out, sift_out hout]; exact S1.out⟩
    · have ho2 : ¬ (hi : Int) ≤ 2 * (r : Int) + 1 := by omega
      by_cases h2 : 2 * r + 2 < hi
      · have h2a : decide (2 * (r : Int) + 1 + 1 < (hi : Int)) = true := decide_eq_true (by omega)
        have h2b : 2 * (r : Int) + 1 + 1 < (hi : Int) := by omega
        have ca : wr.cell? ⟨g, F + (2 * r + 1), none⟩ = some (.int .u64 dk[F + (2 * r + 1)]!) := hsw.cell _ (by omega)
        have cb : wr.cell? ⟨g, F + (2 * r + 1) + 1, none⟩ = some (.int .u64 dk[F + (2 * r + 1) + 1]!) := hsw.cell _ (by omega)
        rcases Bool.eq_false_or_eq_true (ltZ dk[F + (2 * r + 1)]! dk[F + (2 * r + 1) + 1]!) with hl | hl
        · have HL : Hid (∀ W, Calls Try.prog 34 #[.int .u64 dk[F + (2 * r + 1)]!, .int .u64 dk[F + (2 * r + 1) + 1]!] W fun e w' => e = .returned (.bool true) ∧ w' = W) := fun W => hl ▸ lessU_any _ _ W
          have hcn : F + (2 * r + 1 + 1) < n := by omega
          have iwr : IntKind.i64.wrap ((F : Int) + (r : Int)) = (F : Int) + (r : Int) := by rw [IntKind.wrap_i64]; omega
          have ipr : (0 : Int) ≤ (F : Int) + (r : Int) := by omega
          have ibr : (F : Int) + (r : Int) < (n : Int) := by omega
          have ier : ((F : Int) + (r : Int)).toNat = F + r := by omega
          have iwc : IntKind.i64.wrap ((F : Int) + (2 * (r : Int) + 1 + 1)) = (F : Int) + (2 * (r : Int) + 1 + 1) := by rw [IntKind.wrap_i64]; omega
          have ipc : (0 : Int) ≤ (F : Int) + (2 * (r : Int) + 1 + 1) := by omega
          have ibc : (F : Int) + (2 * (r : Int) + 1 + 1) < (n : Int) := by omega
          have iec : ((F : Int) + (2 * (r : Int) + 1 + 1)).toNat = F + (2 * r + 1 + 1) := by omega
          have HE : Hid (Go.Sort.siftDown ltZ hi F r dk = if ltZ dk[F + r]! dk[F + (2 * r + 1 + 1)]! = true then Go.Sort.siftDown ltZ hi F (2 * r + 1 + 1) (swp dk (F + r) (F + (2 * r + 1 + 1))) else dk) := sift_right h2 hl
          generalize hxa : dk[F + (2 * r + 1)]! = xa at ca HL
          generalize hxb : dk[F + (2 * r + 1) + 1]! = xb at cb HL
          clear hxa hxb hl hsw
          go_wp2_with fail
          go_quiet ((go_at_call 34; refine Calls.quiet_of_same (HL.out _)))
          go_wp2_with fail
          have S2 : Hid (Sw w g tl dk (wr.drewN nq)) := S1.out.drewN nq
          clear S1 ca cb HL
          generalize wr.drewN nq = w2 at *
          have cr : w2.cell? ⟨g, F + r, none⟩ = some (.int .u64 dk[F + r]!) := S2.out.cell (F + r) (by omega)
          have cc : w2.cell? ⟨g, F + (2 * r + 1 + 1), none⟩ = some (.int .u64 dk[F + (2 * r + 1 + 1)]!) := S2.out.cell (F + (2 * r + 1 + 1)) (by omega)
          have fr : w2.frozen? ⟨g, F + r, none⟩ = false := S2.out.f _
          have fc : w2.frozen? ⟨g, F + (2 * r + 1 + 1), none⟩ = false := S2.out.f _
          have SZ : Hid (∀ m, Sw w g tl (swp dk (F + r) (F + (2 * r + 1 + 1))) (((w2.drewN m).setCell ⟨g, F + r, none⟩ (.int .u64 dk[F + (2 * r + 1 + 1)]!)).setCell ⟨g, F + (2 * r + 1 + 1), none⟩ (.int .u64 dk[F + r]!))) := fun m => (S2.out.drewN m).swap (F + r) (F + (2 * r + 1 + 1)) (by omega) (by omega)
          rcases Bool.eq_false_or_eq_true (ltZ dk[F + r]! dk[F + (2 * r + 1 + 1)]!) with hq | hq
          · have HQ : Hid (∀ W, Calls Try.prog 34 #[.int .u64 dk[F + r]!, .int .u64 dk[F + (2 * r + 1 + 1)]!] W fun e w' => e = .returned (.bool true) ∧ w' = W) := fun W => hq ▸ lessU_any _ _ W
            have HS : Hid (Go.Sort.siftDown ltZ hi F (2 * r + 1 + 1) (swp dk (F + r) (F + (2 * r + 1 + 1))) = Go.Sort.siftDown ltZ hi F lo d) := by show _ = _; rw [← HO.out, HE.out, if_pos hq]
            clear hq HE
            generalize hx1 : dk[F + r]! = x1 at *
            generalize hx2 : dk[F + (2 * r + 1 + 1)]! = x2 at *
            clear hx1 hx2
            go_quiet ((go_at_call 34; refine Calls.quiet_of_same (HQ.out _)))
            go_wp2_with fail
            go_big_region
            go_wp2_with fail
            go_roundw
            case rel => exact ⟨(2 * r + 1 + 1), _, by congr 1, by omega, by rw [size_swp]; exact hsk, SZ.out _, HS.out⟩
            case measure => simp [intOf]; omega
          · have HQ : Hid (∀ W, Calls Try.prog 34 #[.int .u64 dk[F + r]!, .int .u64 dk[F + (2 * r + 1 + 1)]!] W fun e w' => e = .returned (.bool false) ∧ w' = W) := fun W => hq ▸ lessU_any _ _ W
            have HS : Hid (dk = Go.Sort.siftDown ltZ hi F lo d) := by show _ = _; rw [← HO.out, HE.out, if_neg (by rw [hq]; decide)]
            clear hq HE
            generalize hx1 : dk[F + r]! = x1 at *
            generalize hx2 : dk[F + (2 * r + 1 + 1)]! = x2 at *
            clear hx1 hx2
            go_quiet ((go_at_call 34; refine Calls.quiet_of_same (HQ.out _)))
            go_wp2_with fail
            (try simp only [Exit.inBlock, Exit.then])
            refine bodyPost_ret (results_none rfl _ _ _) rfl ?_
            exact ⟨rfl, by rw [← HS.out]; exact S2.out.drewN _⟩
        · have HL : Hid (∀ W, Calls Try.prog 34 #[.int .u64 dk[F + (2 * r + 1)]!, .int .u64 dk[F + (2 * r + 1) + 1]!] W fun e w' => e = .returned (.bool false) ∧ w' = W) := fun W => hl ▸ lessU_any _ _ W
          have hcn : F + (2 * r + 1) < n := by omega
          have iwr : IntKind.i64.wrap ((F : Int) + (r : Int)) = (F : Int) + (r : Int) := by rw [IntKind.wrap_i64]; omega
          have ipr : (0 : Int) ≤ (F : Int) + (r : Int) := by omega
          have ibr : (F : Int) + (r : Int) < (n : Int) := by omega
          have ier : ((F : Int) + (r : Int)).toNat = F + r := by omega
          have iwc : IntKind.i64.wrap ((F : Int) + (2 * (r : Int) + 1)) = (F : Int) + (2 * (r : Int) + 1) := by rw [IntKind.wrap_i64]; omega
          have ipc : (0 : Int) ≤ (F : Int) + (2 * (r : Int) + 1) := by omega
          have ibc : (F : Int) + (2 * (r : Int) + 1) < (n : Int) := by omega
          have iec : ((F : Int) + (2 * (r : Int) + 1)).toNat = F + (2 * r + 1) := by omega
          have HE : Hid (Go.Sort.siftDown ltZ hi F r dk = if ltZ dk[F + r]! dk[F + (2 * r + 1)]! = true then Go.Sort.siftDown ltZ hi F (2 * r + 1) (swp dk (F + r) (F + (2 * r + 1))) else dk) := sift_left (by omega) (.inr hl)
          generalize hxa : dk[F + (2 * r + 1)]! = xa at ca HL
          generalize hxb : dk[F + (2 * r + 1) + 1]! = xb at cb HL
          clear hxa hxb hl hsw
          go_wp2_with fail
          go_quiet ((go_at_call 34; refine Calls.quiet_of_same (HL.out _)))
          go_wp2_with fail
          have S2 : Hid (Sw w g tl dk (wr.drewN nq)) := S1.out.drewN nq
          clear S1 ca cb HL
          generalize wr.drewN nq = w2 at *
          have cr : w2.cell? ⟨g, F + r, none⟩ = some (.int .u64 dk[F + r]!) := S2.out.cell (F + r) (by omega)
          have cc : w2.cell? ⟨g, F + (2 * r + 1), none⟩ = some (.int .u64 dk[F + (2 * r + 1)]!) := S2.out.cell (F + (2 * r + 1)) (by omega)
          have fr : w2.frozen? ⟨g, F + r, none⟩ = false := S2.out.f _
          have fc : w2.frozen? ⟨g, F + (2 * r + 1), none⟩ = false := S2.out.f _
          have SZ : Hid (∀ m, Sw w g tl (swp dk (F + r) (F + (2 * r + 1))) (((w2.drewN m).setCell ⟨g, F + r, none⟩ (.int .u64 dk[F + (2 * r + 1)]!)).setCell ⟨g, F + (2 * r + 1), none⟩ (.int .u64 dk[F + r]!))) := fun m => (S2.out.drewN m).swap (F + r) (F + (2 * r + 1)) (by omega) (by omega)
          rcases Bool.eq_false_or_eq_true (ltZ dk[F + r]! dk[F + (2 * r + 1)]!) with hq | hq
          · have HQ : Hid (∀ W, Calls Try.prog 34 #[.int .u64 dk[F + r]!, .int .u64 dk[F + (2 * r + 1)]!] W fun e w' => e = .returned (.bool true) ∧ w' = W) := fun W => hq ▸ lessU_any _ _ W
            have HS : Hid (Go.Sort.siftDown ltZ hi F (2 * r + 1) (swp dk (F + r) (F + (2 * r + 1))) = Go.Sort.siftDown ltZ hi F lo d) := by show _ = _; rw [← HO.out, HE.out, if_pos hq]
            clear hq HE
            generalize hx1 : dk[F + r]! = x1 at *
            generalize hx2 : dk[F + (2 * r + 1)]! = x2 at *
            clear hx1 hx2
            go_quiet ((go_at_call 34; refine Calls.quiet_of_same (HQ.out _)))
            go_wp2_with fail
            go_big_region
            go_wp2_with fail
            go_roundw
            case rel => exact ⟨(2 * r + 1), _, by congr 1, by omega, by rw [size_swp]; exact hsk, SZ.out _, HS.out⟩
            case measure => simp [intOf]; omega
          · have HQ : Hid (∀ W, Calls Try.prog 34 #[.int .u64 dk[F + r]!, .int .u64 dk[F + (2 * r + 1)]!] W fun e w' => e = .returned (.bool false) ∧ w' = W) := fun W => hq ▸ lessU_any _ _ W
            have HS : Hid (dk = Go.Sort.siftDown ltZ hi F lo d) := by show _ = _; rw [← HO.out, HE.out, if_neg (by rw [hq]; decide)]
            clear hq HE
            generalize hx1 : dk[F + r]! = x1 at *
            generalize hx2 : dk[F + (2 * r + 1)]! = x2 at *
            clear hx1 hx2
            go_quiet ((go_at_call 34; refine Calls.quiet_of_same (HQ.out _)))
            go_wp2_with fail
            (try simp only [Exit.inBlock, Exit.then])
            refine bodyPost_ret (results_none rfl _ _ _) rfl ?_
            exact ⟨rfl, by rw [← HS.out]; exact S2.out.drewN _⟩
      · have h2a : decide (2 * (r : Int) + 1 + 1 < (hi : Int)) = false := decide_eq_false (by omega)
        have h2b : ¬ 2 * (r : Int) + 1 + 1 < (hi : Int) := by omega
        have hcn : F + (2 * r + 1) < n := by omega
        have iwr : IntKind.i64.wrap ((F : Int) + (r : Int)) = (F : Int) + (r : Int) := by rw [IntKind.wrap_i64]; omega
        have ipr : (0 : Int) ≤ (F : Int) + (r : Int) := by omega
        have ibr : (F : Int) + (r : Int) < (n : Int) := by omega
        have ier : ((F : Int) + (r : Int)).toNat = F + r := by omega
        have iwc : IntKind.i64.wrap ((F : Int) + (2 * (r : Int) + 1)) = (F : Int) + (2 * (r : Int) + 1) := by rw [IntKind.wrap_i64]; omega
        have ipc : (0 : Int) ≤ (F : Int) + (2 * (r : Int) + 1) := by omega
        have ibc : (F : Int) + (2 * (r : Int) + 1) < (n : Int) := by omega
        have iec : ((F : Int) + (2 * (r : Int) + 1)).toNat = F + (2 * r + 1) := by omega
        have HE : Hid (Go.Sort.siftDown ltZ hi F r dk = if ltZ dk[F + r]! dk[F + (2 * r + 1)]! = true then Go.Sort.siftDown ltZ hi F (2 * r + 1) (swp dk (F + r) (F + (2 * r + 1))) else dk) := sift_left (by omega) (.inl h2)
        clear hsw
        go_wp2_with fail
        go_quiet (fail)
        go_wp2_with fail
        have S2 : Hid (Sw w g tl dk (wr.drewN nq)) := S1.out.drewN nq
        clear S1 
        generalize wr.drewN nq = w2 at *
        have cr : w2.cell? ⟨g, F + r, none⟩ = some (.int .u64 dk[F + r]!) := S2.out.cell (F + r) (by omega)
        have cc : w2.cell? ⟨g, F + (2 * r + 1), none⟩ = some (.int .u64 dk[F + (2 * r + 1)]!) := S2.out.cell (F + (2 * r + 1)) (by omega)
        have fr : w2.frozen? ⟨g, F + r, none⟩ = false := S2.out.f _
        have fc : w2.frozen? ⟨g, F + (2 * r + 1), none⟩ = false := S2.out.f _
        have SZ : Hid (∀ m, Sw w g tl (swp dk (F + r) (F + (2 * r + 1))) (((w2.drewN m).setCell ⟨g, F + r, none⟩ (.int .u64 dk[F + (2 * r + 1)]!)).setCell ⟨g, F + (2 * r + 1), none⟩ (.int .u64 dk[F + r]!))) := fun m => (S2.out.drewN m).swap (F + r) (F + (2 * r + 1)) (by omega) (by omega)
        rcases Bool.eq_false_or_eq_true (ltZ dk[F + r]! dk[F + (2 * r + 1)]!) with hq | hq
        · have HQ : Hid (∀ W, Calls Try.prog 34 #[.int .u64 dk[F + r]!, .int .u64 dk[F + (2 * r + 1)]!] W fun e w' => e = .returned (.bool true) ∧ w' = W) := fun W => hq ▸ lessU_any _ _ W
          have HS : Hid (Go.Sort.siftDown ltZ hi F (2 * r + 1) (swp dk (F + r) (F + (2 * r + 1))) = Go.Sort.siftDown ltZ hi F lo d) := by show _ = _; rw [← HO.out, HE.out, if_pos hq]
          clear hq HE
          generalize hx1 : dk[F + r]! = x1 at *
          generalize hx2 : dk[F + (2 * r + 1)]! = x2 at *
          clear hx1 hx2
          go_quiet ((go_at_call 34; refine Calls.quiet_of_same (HQ.out _)))
          go_wp2_with fail
          go_big_region
          go_wp2_with fail
          go_roundw
          case rel => exact ⟨(2 * r + 1), _, by congr 1, by omega, by rw [size_swp]; exact hsk, SZ.out _, HS.out⟩
          case measure => simp [intOf]; omega
        · have HQ : Hid (∀ W, Calls Try.prog 34 #[.int .u64 dk[F + r]!, .int .u64 dk[F + (2 * r + 1)]!] W fun e w' => e = .returned (.bool false) ∧ w' = W) := fun W => hq ▸ lessU_any _ _ W
          have HS : Hid (dk = Go.Sort.siftDown ltZ hi F lo d) := by show _ = _; rw [← HO.out, HE.out, if_neg (by rw [hq]; decide)]
          clear hq HE
          generalize hx1 : dk[F + r]! = x1 at *
          generalize hx2 : dk[F + (2 * r + 1)]! = x2 at *
          clear hx1 hx2
          go_quiet ((go_at_call 34; refine Calls.quiet_of_same (HQ.out _)))
          go_wp2_with fail
          (try simp only [Exit.inBlock, Exit.then])
          refine bodyPost_ret (results_none rfl _ _ _) rfl ?_
          exact ⟨rfl, by rw [← HS.out]; exact S2.out.drewN _⟩

end Go.Proofs.Ytifddbfcongepaa
