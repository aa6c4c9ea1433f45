/-
  MSrt2 MSrt3 MSrt4 MSrt5 MSrt6.
-/
import Derived.Test.YtcckipimfgmmdaaGreatDoorGs23
import Derived.Test.YtcckipimfgmmdaaGreatDoorMShelf
import Derived.Sort.LotD1
import Derived.Sort.LotD5
set_option maxHeartbeats 8000000
namespace Go.Proofs.YtcckipimfgmmdaaGreatDoor.M
open P (Blk)
open Go.RowKit
open Go.Sort (swp size_swp)
theorem sift_out {hi F r : Nat} {d : Array Int} (h : hi <= 2 * r + 1) : Go.Sort.siftDown ltZ hi F r d = d := by
 rw [Go.Sort.siftDown, dif_pos h]
theorem sift_right {hi F r : Nat} {d : Array Int} (h : 2 * r + 2 < hi) (hl : ltZ d[F + (2 * r + 1)]! d[F + (2 * r + 1) + 1]! = true) : Go.Sort.siftDown ltZ hi F r d = if ltZ d[F + r]! d[F + (2 * r + 2)]! = true then Go.Sort.siftDown ltZ hi F (2 * r + 2) (swp d (F + r) (F + (2 * r + 2))) else d := by
 rw [Go.Sort.siftDown, dif_neg (by omega), if_pos (by rw [decide_eq_true (by omega), hl]; rfl)]
 cases hq : ltZ d[F + r]! d[F + (2 * r + 2)]! with
 | true => rw [if_neg (by decide), if_pos rfl, dif_pos h]
 | false => rw [if_pos (by decide), if_neg (by decide)]
theorem sift_left {hi F r : Nat} {d : Array Int} (h0 : 2 * r + 1 < hi) (h : ¬ 2 * r + 2 < hi \/ ltZ d[F + (2 * r + 1)]! d[F + (2 * r + 1) + 1]! = false) : Go.Sort.siftDown ltZ hi F r d = if ltZ d[F + r]! d[F + (2 * r + 1)]! = true then Go.Sort.siftDown ltZ hi F (2 * r + 1) (swp d (F + r) (F + (2 * r + 1))) else d := by
 rw [Go.Sort.siftDown, dif_neg (by omega), if_neg (by rcases h with h | h; (rw [decide_eq_false (by omega)]; simp); (rw [h]; simp))]
 cases hq : ltZ d[F + r]! d[F + (2 * r + 1)]! with
 | true => rw [if_neg (by decide), if_pos rfl]
 | false => rw [if_pos (by decide), if_neg (by decide)]
set_option maxRecDepth 8000 in
theorem sift_any (g n cap lo hi F : Nat) (tl : List Value) (d : Array Int) (w : World) (h : Blk w g 23 (cellsA d ++ tl)) (hd : d.size = n) (hF : F + hi <= n) (hlo : lo <= 1000) (hn : n <= 1000) :
  Calls Tryz.prog 161 #[.slice (some ⟨g, 0, none⟩) n cap, .int .i64 lo, .int .i64 hi, .int .i64 F] w fun e w' => e = .returned (.tuple #[]) /\ Sw w g tl (Go.Sort.siftDown ltZ hi F lo d) w' := by
 have S0 : Hid (Sw w g tl d w) := Sw.refl h
 clear h
 go_enter Tryz.func161, Tryz.ntmps161
 go_wp2
 go_loopw [8] (fun vi wr => ∃ (r : Nat) (dk : Array Int), vi = .int .i64 r /\ r <= 1000 /\ dk.size = n /\ Sw w g tl dk wr /\ Go.Sort.siftDown ltZ hi F r dk = Go.Sort.siftDown ltZ hi F lo d) (fun vi _ => hi - (intOf vi).toNat)
 case atStart => exact ⟨lo, d, rfl, hlo, hd, S0.out, rfl⟩
 case round =>
  obtain ⟨r, dk, rfl, hr, hsk, hsw, hO⟩ := hrel
  have HO : Hid (Go.Sort.siftDown ltZ hi F r dk = Go.Sort.siftDown ltZ hi F lo d) := hO
  have S1 : Hid (Sw w g tl dk wr) := hsw
  clear hO
  by_cases hout : hi <= 2 * r + 1
  ·have ho1 : decide ((hi : Int) <= 2 * (r : Int) + 1) = true := decide_eq_true (by omega)
   have ho2 : (hi : Int) <= 2 * (r : Int) + 1 := by omega
   clear hsw
   go_wp2_with fail
   go_end0
   exact ⟨rfl, by rw [<- HO.out, sift_out hout]; exact S1.out⟩
  ·have ho2 : ¬ (hi : Int) <= 2 * (r : Int) + 1 := by omega
   by_cases h2 : 2 * r + 2 < hi
   ·have h2a : decide (2 * (r : Int) + 1 + 1 < (hi : Int)) = true := decide_eq_true (by omega)
    have h2b : 2 * (r : Int) + 1 + 1 < (hi : Int) := by omega
    have ca : wr.cell? ⟨g, F + (2 * r + 1), none⟩ = some (.int .u32 dk[F + (2 * r + 1)]!) := hsw.cell _ (by omega)
    have cb : wr.cell? ⟨g, F + (2 * r + 1) + 1, none⟩ = some (.int .u32 dk[F + (2 * r + 1) + 1]!) := hsw.cell _ (by omega)
    rcases Bool.eq_false_or_eq_true (ltZ dk[F + (2 * r + 1)]! dk[F + (2 * r + 1) + 1]!) with hl | hl
    ·have HL : Hid (∀ W, Calls Tryz.prog 147 #[.int .u32 dk[F + (2 * r + 1)]!, .int .u32 dk[F + (2 * r + 1) + 1]!] W fun e w' => e = .returned (.bool true) /\ w' = W) := fun W => hl ▸ lessU_any _ _ W
     have hcn : F + (2 * r + 1 + 1) < n := by omega
     have iwr : IntKind.i64.wrap ((F : Int) + (r : Int)) = (F : Int) + (r : Int) := by rw [IntKind.wrap_i64]; omega
     have ipr : (0 : Int) <= (F : Int) + (r : Int) := by omega
     have ibr : (F : Int) + (r : Int) < (n : Int) := by omega
     have ier : ((F : Int) + (r : Int)).toNat = F + r := by omega
     have iwc : IntKind.i64.wrap ((F : Int) + (2 * (r : Int) + 1 + 1)) = (F : Int) + (2 * (r : Int) + 1 + 1) := by rw [IntKind.wrap_i64]; omega
     have ipc : (0 : Int) <= (F : Int) + (2 * (r : Int) + 1 + 1) := by omega
     have ibc : (F : Int) + (2 * (r : Int) + 1 + 1) < (n : Int) := by omega
     have iec : ((F : Int) + (2 * (r : Int) + 1 + 1)).toNat = F + (2 * r + 1 + 1) := by omega
     have HE : Hid (Go.Sort.siftDown ltZ hi F r dk = if ltZ dk[F + r]! dk[F + (2 * r + 1 + 1)]! = true then Go.Sort.siftDown ltZ hi F (2 * r + 1 + 1) (swp dk (F + r) (F + (2 * r + 1 + 1))) else dk) := sift_right h2 hl
     generalize hxa : dk[F + (2 * r + 1)]! = xa at ca HL
     generalize hxb : dk[F + (2 * r + 1) + 1]! = xb at cb HL
     clear hxa hxb hl hsw
     go_wp2_with fail
     go_quiet ((go_at_call 147; refine Calls.quiet_of_same (HL.out _)))
     go_wp2_with fail
     have S2 : Hid (Sw w g tl dk (wr.drewN nq)) := S1.out.drewN nq
     clear S1 ca cb HL
     generalize wr.drewN nq = w2 at *
     have cr : w2.cell? ⟨g, F + r, none⟩ = some (.int .u32 dk[F + r]!) := S2.out.cell (F + r) (by omega)
     have cc : w2.cell? ⟨g, F + (2 * r + 1 + 1), none⟩ = some (.int .u32 dk[F + (2 * r + 1 + 1)]!) := S2.out.cell (F + (2 * r + 1 + 1)) (by omega)
     have fr : w2.frozen? ⟨g, F + r, none⟩ = false := S2.out.f _
     have fc : w2.frozen? ⟨g, F + (2 * r + 1 + 1), none⟩ = false := S2.out.f _
     have SZ : Hid (∀ m, Sw w g tl (swp dk (F + r) (F + (2 * r + 1 + 1))) (((w2.drewN m).setCell ⟨g, F + r, none⟩ (.int .u32 dk[F + (2 * r + 1 + 1)]!)).setCell ⟨g, F + (2 * r + 1 + 1), none⟩ (.int .u32 dk[F + r]!))) := fun m => (S2.out.drewN m).swap (F + r) (F + (2 * r + 1 + 1)) (by omega) (by omega)
     rcases Bool.eq_false_or_eq_true (ltZ dk[F + r]! dk[F + (2 * r + 1 + 1)]!) with hq | hq
     ·have HQ : Hid (∀ W, Calls Tryz.prog 147 #[.int .u32 dk[F + r]!, .int .u32 dk[F + (2 * r + 1 + 1)]!] W fun e w' => e = .returned (.bool true) /\ w' = W) := fun W => hq ▸ lessU_any _ _ W
      have HS : Hid (Go.Sort.siftDown ltZ hi F (2 * r + 1 + 1) (swp dk (F + r) (F + (2 * r + 1 + 1))) = Go.Sort.siftDown ltZ hi F lo d) := by show _ = _; rw [<- HO.out, HE.out, if_pos hq]
      clear hq HE
      generalize hx1 : dk[F + r]! = x1 at *
      generalize hx2 : dk[F + (2 * r + 1 + 1)]! = x2 at *
      clear hx1 hx2
      go_quiet ((go_at_call 147; refine Calls.quiet_of_same (HQ.out _)))
      go_wp2_with fail
      go_big_region
      go_wp2_with fail
      go_roundw
      case rel => exact ⟨(2 * r + 1 + 1), _, by congr 1, by omega, by rw [size_swp]; exact hsk, SZ.out _, HS.out⟩
      case measure => simp [intOf]; omega
     ·have HQ : Hid (∀ W, Calls Tryz.prog 147 #[.int .u32 dk[F + r]!, .int .u32 dk[F + (2 * r + 1 + 1)]!] W fun e w' => e = .returned (.bool false) /\ w' = W) := fun W => hq ▸ lessU_any _ _ W
      have HS : Hid (dk = Go.Sort.siftDown ltZ hi F lo d) := by show _ = _; rw [<- HO.out, HE.out, if_neg (by rw [hq]; decide)]
      clear hq HE
      generalize hx1 : dk[F + r]! = x1 at *
      generalize hx2 : dk[F + (2 * r + 1 + 1)]! = x2 at *
      clear hx1 hx2
      go_quiet ((go_at_call 147; refine Calls.quiet_of_same (HQ.out _)))
      go_wp2_with fail
      (try simp only [Exit.inBlock, Exit.then])
      refine bodyPost_ret (results_none rfl _ _ _) rfl ?_
      exact ⟨rfl, by rw [<- HS.out]; exact S2.out.drewN _⟩
    ·have HL : Hid (∀ W, Calls Tryz.prog 147 #[.int .u32 dk[F + (2 * r + 1)]!, .int .u32 dk[F + (2 * r + 1) + 1]!] W fun e w' => e = .returned (.bool false) /\ w' = W) := fun W => hl ▸ lessU_any _ _ W
     have hcn : F + (2 * r + 1) < n := by omega
     have iwr : IntKind.i64.wrap ((F : Int) + (r : Int)) = (F : Int) + (r : Int) := by rw [IntKind.wrap_i64]; omega
     have ipr : (0 : Int) <= (F : Int) + (r : Int) := by omega
     have ibr : (F : Int) + (r : Int) < (n : Int) := by omega
     have ier : ((F : Int) + (r : Int)).toNat = F + r := by omega
     have iwc : IntKind.i64.wrap ((F : Int) + (2 * (r : Int) + 1)) = (F : Int) + (2 * (r : Int) + 1) := by rw [IntKind.wrap_i64]; omega
     have ipc : (0 : Int) <= (F : Int) + (2 * (r : Int) + 1) := by omega
     have ibc : (F : Int) + (2 * (r : Int) + 1) < (n : Int) := by omega
     have iec : ((F : Int) + (2 * (r : Int) + 1)).toNat = F + (2 * r + 1) := by omega
     have HE : Hid (Go.Sort.siftDown ltZ hi F r dk = if ltZ dk[F + r]! dk[F + (2 * r + 1)]! = true then Go.Sort.siftDown ltZ hi F (2 * r + 1) (swp dk (F + r) (F + (2 * r + 1))) else dk) := sift_left (by omega) (.inr hl)
     generalize hxa : dk[F + (2 * r + 1)]! = xa at ca HL
     generalize hxb : dk[F + (2 * r + 1) + 1]! = xb at cb HL
     clear hxa hxb hl hsw
     go_wp2_with fail
     go_quiet ((go_at_call 147; refine Calls.quiet_of_same (HL.out _)))
     go_wp2_with fail
     have S2 : Hid (Sw w g tl dk (wr.drewN nq)) := S1.out.drewN nq
     clear S1 ca cb HL
     generalize wr.drewN nq = w2 at *
     have cr : w2.cell? ⟨g, F + r, none⟩ = some (.int .u32 dk[F + r]!) := S2.out.cell (F + r) (by omega)
     have cc : w2.cell? ⟨g, F + (2 * r + 1), none⟩ = some (.int .u32 dk[F + (2 * r + 1)]!) := S2.out.cell (F + (2 * r + 1)) (by omega)
     have fr : w2.frozen? ⟨g, F + r, none⟩ = false := S2.out.f _
     have fc : w2.frozen? ⟨g, F + (2 * r + 1), none⟩ = false := S2.out.f _
     have SZ : Hid (∀ m, Sw w g tl (swp dk (F + r) (F + (2 * r + 1))) (((w2.drewN m).setCell ⟨g, F + r, none⟩ (.int .u32 dk[F + (2 * r + 1)]!)).setCell ⟨g, F + (2 * r + 1), none⟩ (.int .u32 dk[F + r]!))) := fun m => (S2.out.drewN m).swap (F + r) (F + (2 * r + 1)) (by omega) (by omega)
     rcases Bool.eq_false_or_eq_true (ltZ dk[F + r]! dk[F + (2 * r + 1)]!) with hq | hq
     ·have HQ : Hid (∀ W, Calls Tryz.prog 147 #[.int .u32 dk[F + r]!, .int .u32 dk[F + (2 * r + 1)]!] W fun e w' => e = .returned (.bool true) /\ w' = W) := fun W => hq ▸ lessU_any _ _ W
      have HS : Hid (Go.Sort.siftDown ltZ hi F (2 * r + 1) (swp dk (F + r) (F + (2 * r + 1))) = Go.Sort.siftDown ltZ hi F lo d) := by show _ = _; rw [<- HO.out, HE.out, if_pos hq]
      clear hq HE
      generalize hx1 : dk[F + r]! = x1 at *
      generalize hx2 : dk[F + (2 * r + 1)]! = x2 at *
      clear hx1 hx2
      go_quiet ((go_at_call 147; refine Calls.quiet_of_same (HQ.out _)))
      go_wp2_with fail
      go_big_region
      go_wp2_with fail
      go_roundw
      case rel => exact ⟨(2 * r + 1), _, by congr 1, by omega, by rw [size_swp]; exact hsk, SZ.out _, HS.out⟩
      case measure => simp [intOf]; omega
     ·have HQ : Hid (∀ W, Calls Tryz.prog 147 #[.int .u32 dk[F + r]!, .int .u32 dk[F + (2 * r + 1)]!] W fun e w' => e = .returned (.bool false) /\ w' = W) := fun W => hq ▸ lessU_any _ _ W
      have HS : Hid (dk = Go.Sort.siftDown ltZ hi F lo d) := by show _ = _; rw [<- HO.out, HE.out, if_neg (by rw [hq]; decide)]
      clear hq HE
      generalize hx1 : dk[F + r]! = x1 at *
      generalize hx2 : dk[F + (2 * r + 1)]! = x2 at *
      clear hx1 hx2
      go_quiet ((go_at_call 147; refine Calls.quiet_of_same (HQ.out _)))
      go_wp2_with fail
      (try simp only [Exit.inBlock, Exit.then])
      refine bodyPost_ret (results_none rfl _ _ _) rfl ?_
      exact ⟨rfl, by rw [<- HS.out]; exact S2.out.drewN _⟩
   ·have h2a : decide (2 * (r : Int) + 1 + 1 < (hi : Int)) = false := decide_eq_false (by omega)
    have h2b : ¬ 2 * (r : Int) + 1 + 1 < (hi : Int) := by omega
    have hcn : F + (2 * r + 1) < n := by omega
    have iwr : IntKind.i64.wrap ((F : Int) + (r : Int)) = (F : Int) + (r : Int) := by rw [IntKind.wrap_i64]; omega
    have ipr : (0 : Int) <= (F : Int) + (r : Int) := by omega
    have ibr : (F : Int) + (r : Int) < (n : Int) := by omega
    have ier : ((F : Int) + (r : Int)).toNat = F + r := by omega
    have iwc : IntKind.i64.wrap ((F : Int) + (2 * (r : Int) + 1)) = (F : Int) + (2 * (r : Int) + 1) := by rw [IntKind.wrap_i64]; omega
    have ipc : (0 : Int) <= (F : Int) + (2 * (r : Int) + 1) := by omega
    have ibc : (F : Int) + (2 * (r : Int) + 1) < (n : Int) := by omega
    have iec : ((F : Int) + (2 * (r : Int) + 1)).toNat = F + (2 * r + 1) := by omega
    have HE : Hid (Go.Sort.siftDown ltZ hi F r dk = if ltZ dk[F + r]! dk[F + (2 * r + 1)]! = true then Go.Sort.siftDown ltZ hi F (2 * r + 1) (swp dk (F + r) (F + (2 * r + 1))) else dk) := sift_left (by omega) (.inl h2)
    clear hsw
    go_wp2_with fail
    go_quiet (fail)
    go_wp2_with fail
    have S2 : Hid (Sw w g tl dk (wr.drewN nq)) := S1.out.drewN nq
    clear S1 
    generalize wr.drewN nq = w2 at *
    have cr : w2.cell? ⟨g, F + r, none⟩ = some (.int .u32 dk[F + r]!) := S2.out.cell (F + r) (by omega)
    have cc : w2.cell? ⟨g, F + (2 * r + 1), none⟩ = some (.int .u32 dk[F + (2 * r + 1)]!) := S2.out.cell (F + (2 * r + 1)) (by omega)
    have fr : w2.frozen? ⟨g, F + r, none⟩ = false := S2.out.f _
    have fc : w2.frozen? ⟨g, F + (2 * r + 1), none⟩ = false := S2.out.f _
    have SZ : Hid (∀ m, Sw w g tl (swp dk (F + r) (F + (2 * r + 1))) (((w2.drewN m).setCell ⟨g, F + r, none⟩ (.int .u32 dk[F + (2 * r + 1)]!)).setCell ⟨g, F + (2 * r + 1), none⟩ (.int .u32 dk[F + r]!))) := fun m => (S2.out.drewN m).swap (F + r) (F + (2 * r + 1)) (by omega) (by omega)
    rcases Bool.eq_false_or_eq_true (ltZ dk[F + r]! dk[F + (2 * r + 1)]!) with hq | hq
    ·have HQ : Hid (∀ W, Calls Tryz.prog 147 #[.int .u32 dk[F + r]!, .int .u32 dk[F + (2 * r + 1)]!] W fun e w' => e = .returned (.bool true) /\ w' = W) := fun W => hq ▸ lessU_any _ _ W
     have HS : Hid (Go.Sort.siftDown ltZ hi F (2 * r + 1) (swp dk (F + r) (F + (2 * r + 1))) = Go.Sort.siftDown ltZ hi F lo d) := by show _ = _; rw [<- HO.out, HE.out, if_pos hq]
     clear hq HE
     generalize hx1 : dk[F + r]! = x1 at *
     generalize hx2 : dk[F + (2 * r + 1)]! = x2 at *
     clear hx1 hx2
     go_quiet ((go_at_call 147; refine Calls.quiet_of_same (HQ.out _)))
     go_wp2_with fail
     go_big_region
     go_wp2_with fail
     go_roundw
     case rel => exact ⟨(2 * r + 1), _, by congr 1, by omega, by rw [size_swp]; exact hsk, SZ.out _, HS.out⟩
     case measure => simp [intOf]; omega
    ·have HQ : Hid (∀ W, Calls Tryz.prog 147 #[.int .u32 dk[F + r]!, .int .u32 dk[F + (2 * r + 1)]!] W fun e w' => e = .returned (.bool false) /\ w' = W) := fun W => hq ▸ lessU_any _ _ W
     have HS : Hid (dk = Go.Sort.siftDown ltZ hi F lo d) := by show _ = _; rw [<- HO.out, HE.out, if_neg (by rw [hq]; decide)]
     clear hq HE
     generalize hx1 : dk[F + r]! = x1 at *
     generalize hx2 : dk[F + (2 * r + 1)]! = x2 at *
     clear hx1 hx2
     go_quiet ((go_at_call 147; refine Calls.quiet_of_same (HQ.out _)))
     go_wp2_with fail
     (try simp only [Exit.inBlock, Exit.then])
     refine bodyPost_ret (results_none rfl _ _ _) rfl ?_
     exact ⟨rfl, by rw [<- HS.out]; exact S2.out.drewN _⟩
open Go.Sort (heapBuild heapPop)
theorem sift_size {hi F : Nat} : ∀ (m r : Nat) (d : Array Int), hi - r <= m -> (Go.Sort.siftDown ltZ hi F r d).size = d.size := by
 intro m
 induction m with
 | zero => intro r d h; rw [sift_out (by omega)]
 | succ m ih =>
  intro r d h
  by_cases h0 : hi <= 2 * r + 1
  ·rw [sift_out h0]
  ·by_cases h1 : 2 * r + 2 < hi /\ ltZ d[F + (2 * r + 1)]! d[F + (2 * r + 1) + 1]! = true
   ·rw [sift_right h1.1 h1.2]
    split
    ·rw [ih _ _ (by omega), size_swp]
    ·rfl
   ·rw [sift_left (by omega) (by by_cases h2 : 2 * r + 2 < hi; exact .inr (by simpa [h2] using h1); exact .inl h2)]
    split
    ·rw [ih _ _ (by omega), size_swp]
    ·rfl
set_option maxRecDepth 8000 in
theorem heap_any (g n cap a b : Nat) (tl : List Value) (d : Array Int) (w : World) (h : Blk w g 23 (cellsA d ++ tl)) (hd : d.size = n) (hab : a < b) (hb : b <= n) (hn : n <= 1000) :
  Calls Tryz.prog 142 #[.slice (some ⟨g, 0, none⟩) n cap, .int .i64 a, .int .i64 b] w fun e w' => e = .returned (.tuple #[]) /\ Sw w g tl (Go.Sort.heapSort ltZ d a b) w' := by
 obtain ⟨m, hm⟩ : ∃ m, b - a = m := ⟨_, rfl⟩
 have S0 : Hid (Sw w g tl d w) := Sw.refl h
 have HP : Hid (Go.Sort.heapSort ltZ d a b = heapPop ltZ a m (heapBuild ltZ m a ((m - 1) / 2 + 1) d)) := by
  show _ = _
  unfold Go.Sort.heapSort
  rw [hm]
 have HSF : Hid (∀ (lo hi : Nat) (dk : Array Int) W, Blk W g 23 (cellsA dk ++ tl) -> dk.size = n -> a + hi <= n -> lo <= 1000 -> Calls Tryz.prog 161 #[.slice (some ⟨g, 0, none⟩) n cap, .int .i64 lo, .int .i64 hi, .int .i64 a] W fun e w' => e = .returned (.tuple #[]) /\ Sw W g tl (Go.Sort.siftDown ltZ hi a lo dk) w') := fun lo hi dk W h1 h2 h3 h4 => sift_any g n cap lo hi a tl dk W h1 h2 h3 h4 hn
 clear h
 generalize Go.Sort.heapSort ltZ d a b = R at *
 generalize hK : (m - 1) / 2 = K at *
 have hKm : K <= m := by omega
 go_enter Tryz.func142, Tryz.ntmps142
 go_wp2
 have e8 : (b : Int) - (a : Int) = (m : Int) := by omega
 have e9 : ((m : Int) - 1) / 2 = (K : Int) := by omega
 simp only [e8, e9]
 clear e8 e9
 go_loopw [9] (fun vi wr => ∃ (z : Int) (k : Nat) (dk : Array Int), vi = .int .i64 z /\ z + 1 = (k : Int) /\ k <= K + 1 /\ dk.size = n /\ Sw w g tl dk wr /\ heapBuild ltZ m a k dk = heapBuild ltZ m a (K + 1) d) (fun vi _ => (intOf vi + 1).toNat)
 case atStart => exact ⟨_, K + 1, d, rfl, by omega, Nat.le_refl _, hd, S0.out, rfl⟩
 case round =>
  obtain ⟨z, k, dk, rfl, hz, hk, hsk, hsw, hO⟩ := hrel
  have HO : Hid (heapBuild ltZ m a k dk = heapBuild ltZ m a (K + 1) d) := hO
  have S1 : Hid (Sw w g tl dk wr) := hsw
  clear hO hsw
  cases k with
  | succ k =>
   obtain rfl : z = (k : Int) := by omega
   have hz1 : (0 : Int) <= (k : Int) := by omega
   clear hz
   have HC : Hid (Calls Tryz.prog 161 #[.slice (some ⟨g, 0, none⟩) n cap, .int .i64 k, .int .i64 m, .int .i64 a] wr fun e w' => e = .returned (.tuple #[]) /\ Sw wr g tl (Go.Sort.siftDown ltZ m a k dk) w') := HSF.out k m dk wr S1.out.blk hsk (by omega) (by omega)
   have HSS : Hid ((Go.Sort.siftDown ltZ m a k dk).size = n) := (sift_size _ _ _ (Nat.le_refl _)).trans hsk
   have HO2 : Hid (heapBuild ltZ m a k (Go.Sort.siftDown ltZ m a k dk) = heapBuild ltZ m a (K + 1) d) := HO.out
   go_wp2_with (go_at_call 161; refine HC.out.mono ?_; rintro e w1 ⟨rfl, s1⟩)
   go_roundw
   case rel => exact ⟨_, k, _, rfl, by omega, by omega, HSS.out, S1.out.trans s1, HO2.out⟩
   case measure => simp [intOf] <;> omega
  | zero =>
   obtain rfl : z = -1 := by omega
   have HO2 : Hid (dk = heapBuild ltZ m a (K + 1) d) := HO.out
   have HP2 : Hid (R = heapPop ltZ a m dk) := by show _ = _; rw [HP.out, <- HO2.out]
   have HBa : Hid (Sw w g tl dk wr) := S1.out
   clear hz HO HO2 HP S1
   go_wp2_with fail
   go_loopw [10] (fun vi wz => ∃ (z : Int) (k : Nat) (dj : Array Int), vi = .int .i64 z /\ z + 1 = (k : Int) /\ k <= m /\ dj.size = n /\ Sw w g tl dj wz /\ heapPop ltZ a k dj = R) (fun vi _ => (intOf vi + 1).toNat)
   case atStart => exact ⟨_, m, dk, rfl, by omega, Nat.le_refl _, hsk, HBa.out, HP2.out.symm⟩
   case round =>
    obtain ⟨z, k, dj, rfl, hz, hk, hsj, hsw, hO⟩ := hrel
    have HO : Hid (heapPop ltZ a k dj = R) := hO
    have S1 : Hid (Sw w g tl dj wr) := hsw
    clear hO
    cases k with
    | succ k =>
     obtain rfl : z = (k : Int) := by omega
     have hz1 : (0 : Int) <= (k : Int) := by omega
     clear hz
     have iwk : IntKind.i64.wrap ((a : Int) + (k : Int)) = (a : Int) + (k : Int) := by rw [IntKind.wrap_i64]; omega
     have ipk : (0 : Int) <= (a : Int) + (k : Int) := by omega
     have ibk : (a : Int) + (k : Int) < (n : Int) := by omega
     have iek : ((a : Int) + (k : Int)).toNat = a + k := by omega
     have ca : wr.cell? ⟨g, a, none⟩ = some (.int .u32 dj[a]!) := hsw.cell a (by omega)
     have ck : wr.cell? ⟨g, a + k, none⟩ = some (.int .u32 dj[a + k]!) := hsw.cell (a + k) (by omega)
     have fa : wr.frozen? ⟨g, a, none⟩ = false := hsw.f _
     have fk : wr.frozen? ⟨g, a + k, none⟩ = false := hsw.f _
     have ba : (a : Int) < (n : Int) := by omega
     have SZ : Hid (Sw w g tl (swp dj a (a + k)) (((wr.setCell ⟨g, a, none⟩ (.int .u32 dj[a + k]!)).setCell ⟨g, a + k, none⟩ (.int .u32 dj[a]!)).drew)) := (hsw.swap a (a + k) (by omega) (by omega)).drew
     obtain ⟨u2, c2⟩ : ∃ u, (wr.setCell ⟨g, a, none⟩ (.int .u32 dj[a + k]!)).cell? ⟨g, a + k, none⟩ = some u := ⟨_, (hsw.set a _ (by omega)).cell (a + k) (by simp; omega)⟩
     have f2 : (wr.setCell ⟨g, a, none⟩ (.int .u32 dj[a + k]!)).frozen? ⟨g, a + k, none⟩ = false := (hsw.set a _ (by omega)).f _
     have HO2 : Hid (heapPop ltZ a k (Go.Sort.siftDown ltZ k a 0 (swp dj a (a + k))) = R) := HO.out
     have HSS : Hid ((Go.Sort.siftDown ltZ k a 0 (swp dj a (a + k))).size = n) := (sift_size _ _ _ (Nat.le_refl _)).trans (by rw [size_swp]; exact hsj)
     clear hsw HO
     generalize hx1 : dj[a]! = x1 at *
     generalize hx2 : dj[a + k]! = x2 at *
     clear hx1 hx2
     go_wp2_with fail
     go_big_region
     go_wp2_with fail
     generalize ((wr.setCell ⟨g, a, none⟩ (.int .u32 x2)).setCell ⟨g, a + k, none⟩ (.int .u32 x1)).drew = w2 at *
     have HC : Hid (Calls Tryz.prog 161 #[.slice (some ⟨g, 0, none⟩) n cap, .int .i64 0, .int .i64 k, .int .i64 a] w2 fun e w' => e = .returned (.tuple #[]) /\ Sw w2 g tl (Go.Sort.siftDown ltZ k a 0 (swp dj a (a + k))) w') := HSF.out 0 k _ w2 SZ.out.blk (by rw [size_swp]; exact hsj) (by omega) (by omega)
     refine HC.out.mono ?_
     rintro e w3 ⟨rfl, s3⟩
     have S3 : Hid (Sw w g tl (Go.Sort.siftDown ltZ k a 0 (swp dj a (a + k))) w3) := SZ.out.trans s3
     clear s3 c2 f2 ca ck fa fk
     go_wp2_with fail
     go_roundw
     case rel => exact ⟨_, k, _, rfl, by omega, by omega, HSS.out, S3.out, HO2.out⟩
     case measure => simp [intOf] <;> omega
    | zero =>
     obtain rfl : z = -1 := by omega
     have HO2 : Hid (dj = R) := HO.out
     clear hz hsw
     go_wp2_with fail
     go_end0
     exact ⟨rfl, by rw [<- HO2.out]; exact S1.out⟩
open P (blk_new ib)
def Pm (s g : Nat) (L : List Value) (X Y : World) : Prop := Blk Y g 23 L /\ (∃ z, Blk Y s 3 [.int .i64 z]) /\ X.grownBy Y (some s)
theorem Pm.trans {s g : Nat} {L : List Value} {X Y Z : World} (h : Pm s g L X Y) (h' : Pm s g L Y Z) : Pm s g L X Z :=
 ⟨h'.1, h'.2.1, h'.2.2.os.trans h.2.2.os, h'.2.2.tape.trans h.2.2.tape, h'.2.2.output.trans h.2.2.output, Nat.le_trans h.2.2.size h'.2.2.size, fun k hk hn => (h'.2.2.block k (Nat.lt_of_lt_of_le hk h.2.2.size) hn).trans (h.2.2.block k hk hn)⟩
theorem pm_drewN {s g : Nat} {L : List Value} {X : World} {z : Int} (hg : Blk X g 23 L) (hs : Blk X s 3 [.int .i64 z]) (m : Nat) : Pm s g L X (X.drewN m) := by
 have hb := below_drewN X m
 exact ⟨hg.over hb, ⟨z, hs.over hb⟩, hb.os, hb.tape, hb.output, hb.size, fun k hk _ => hb.block k hk⟩
theorem pm_set {s g : Nat} {L : List Value} {X : World} {z : Int} (hg : Blk X g 23 L) (hs : Blk X s 3 [.int .i64 z]) (hne : g ≠ s) (m : Nat) (z' : Int) : Pm s g L X ((X.drewN m).setCell ⟨s, 0, none⟩ (.int .i64 z')) := by
 have hb := below_drewN X m
 refine ⟨(hg.over hb).other _ _ hne, ⟨z', (hs.over hb).set 0 _⟩, hb.os, hb.tape, hb.output, by simp, fun k hk hn => ?_⟩
 rw [heap_setCell_other _ ⟨s, 0, none⟩ k _ (fun e => hn (by rw [e]))]
 exact hb.block k hk
def O2 (s g a b : Nat) (L : List Value) (X : World) (e : Ending) (Y : World) : Prop :=
 ∃ x y : Nat, e = .returned (.tuple #[.int .i64 x, .int .i64 y]) /\ ((x = a /\ y = b) \/ (x = b /\ y = a)) /\ Pm s g L X Y
theorem order2_any (s g n cap a b : Nat) (tl : List Value) (d : Array Int) (w : World) (h : Blk w g 23 (cellsA d ++ tl)) (hs : ∃ z, Blk w s 3 [.int .i64 z]) (hne : g ≠ s) (hd : d.size = n) (ha : a < n) (hb : b < n) (_hn : n <= 1000) :
  Calls Tryz.prog 183 #[.slice (some ⟨g, 0, none⟩) n cap, .int .i64 a, .int .i64 b, .pointer (some ⟨s, 0, none⟩)] w fun e w' => O2 s g a b (cellsA d ++ tl) w e w' := by
 obtain ⟨z, hz⟩ := hs
 have ca : w.cell? ⟨g, a, none⟩ = some (.int .u32 d[a]!) := (Sw.refl h).cell a (by omega)
 have cb : w.cell? ⟨g, b, none⟩ = some (.int .u32 d[b]!) := (Sw.refl h).cell b (by omega)
 have cs : w.cell? ⟨s, 0, none⟩ = some (.int .i64 z) := hz.cell 0
 have fs : w.frozen? ⟨s, 0, none⟩ = false := hz.f 0
 have HP1 : Hid (∀ m, Pm s g (cellsA d ++ tl) w (w.drewN m)) := pm_drewN h hz
 have HP2 : Hid (∀ m z', Pm s g (cellsA d ++ tl) w ((w.drewN m).setCell ⟨s, 0, none⟩ (.int .i64 z'))) := pm_set h hz hne
 have ia : (a : Int) < (n : Int) := by omega
 have ib : (b : Int) < (n : Int) := by omega
 clear h hz hne
 rcases Bool.eq_false_or_eq_true (ltZ d[b]! d[a]!) with hq | hq
 ·have HQ : Hid (∀ W, Calls Tryz.prog 147 #[.int .u32 d[b]!, .int .u32 d[a]!] W fun e w' => e = .returned (.bool true) /\ w' = W) := fun W => hq ▸ lessU_any _ _ W
  clear hq
  generalize hx1 : d[a]! = x1 at *
  generalize hx2 : d[b]! = x2 at *
  clear hx1 hx2
  go_enter Tryz.func183, Tryz.ntmps183
  go_wp2_with fail
  go_quiet ((go_at_call 147; refine Calls.quiet_of_same (HQ.out _)))
  go_wp2_with fail
  go_ret2
  exact ⟨b, a, rfl, .inr ⟨rfl, rfl⟩, HP2.out _ _⟩
 ·have HQ : Hid (∀ W, Calls Tryz.prog 147 #[.int .u32 d[b]!, .int .u32 d[a]!] W fun e w' => e = .returned (.bool false) /\ w' = W) := fun W => hq ▸ lessU_any _ _ W
  clear hq
  generalize hx1 : d[a]! = x1 at *
  generalize hx2 : d[b]! = x2 at *
  clear hx1 hx2
  go_enter Tryz.func183, Tryz.ntmps183
  go_wp2_with fail
  go_quiet ((go_at_call 147; refine Calls.quiet_of_same (HQ.out _)))
  go_wp2_with fail
  go_ret2
  exact ⟨a, b, rfl, .inl ⟨rfl, rfl⟩, HP1.out _⟩
def O3 (s g a b c : Nat) (L : List Value) (X : World) (e : Ending) (Y : World) : Prop :=
 ∃ x : Nat, e = .returned (.int .i64 x) /\ (x = a \/ x = b \/ x = c) /\ Pm s g L X Y
theorem median_any (s g n cap a b c : Nat) (tl : List Value) (d : Array Int) (w : World) (h : Blk w g 23 (cellsA d ++ tl)) (hs : ∃ z, Blk w s 3 [.int .i64 z]) (hne : g ≠ s) (hd : d.size = n) (ha : a < n) (hb : b < n) (hc : c < n) (hn : n <= 1000) :
  Calls Tryz.prog 165 #[.slice (some ⟨g, 0, none⟩) n cap, .int .i64 a, .int .i64 b, .int .i64 c, .pointer (some ⟨s, 0, none⟩)] w fun e w' => O3 s g a b c (cellsA d ++ tl) w e w' := by
 have HO : Hid (∀ (x y : Nat) W, x < n -> y < n -> Blk W g 23 (cellsA d ++ tl) -> (∃ z, Blk W s 3 [.int .i64 z]) -> Calls Tryz.prog 183 #[.slice (some ⟨g, 0, none⟩) n cap, .int .i64 x, .int .i64 y, .pointer (some ⟨s, 0, none⟩)] W fun e w' => O2 s g x y (cellsA d ++ tl) W e w') := fun x y W h1 h2 h3 h4 => order2_any s g n cap x y tl d W h3 h4 hne hd h1 h2 hn
 have H0 : Hid (Blk w g 23 (cellsA d ++ tl) /\ ∃ z, Blk w s 3 [.int .i64 z]) := ⟨h, hs⟩
 have HB : Hid (a < n /\ b < n /\ c < n) := ⟨ha, hb, hc⟩
 clear h hs hne ha hb hc
 go_enter Tryz.func165, Tryz.ntmps165
 go_wp2_with fail
 refine (HO.out a b w HB.out.1 HB.out.2.1 H0.out.1 H0.out.2).mono ?_
 rintro e w1 ⟨x1, y1, rfl, hx1, hP1⟩
 have P1 : Hid (((x1 = a /\ y1 = b) \/ (x1 = b /\ y1 = a)) /\ Pm s g (cellsA d ++ tl) w w1) := ⟨hx1, hP1⟩
 clear hx1 hP1
 go_wp2_with fail
 refine (HO.out y1 c w1 (by rcases P1.out.1 with ⟨_, rfl⟩ | ⟨_, rfl⟩; exact HB.out.2.1; exact HB.out.1) HB.out.2.2 P1.out.2.1 P1.out.2.2.1).mono ?_
 rintro e w2 ⟨x2, y2, rfl, hx2, hP2⟩
 have P2 : Hid (((x2 = y1 /\ y2 = c) \/ (x2 = c /\ y2 = y1)) /\ Pm s g (cellsA d ++ tl) w1 w2) := ⟨hx2, hP2⟩
 clear hx2 hP2
 go_wp2_with fail
 refine (HO.out x1 x2 w2 (by rcases P1.out.1 with ⟨rfl, _⟩ | ⟨rfl, _⟩; exact HB.out.1; exact HB.out.2.1) (by rcases P2.out.1 with ⟨rfl, _⟩ | ⟨rfl, _⟩; (rcases P1.out.1 with ⟨_, rfl⟩ | ⟨_, rfl⟩; exact HB.out.2.1; exact HB.out.1); exact HB.out.2.2) P2.out.2.1 P2.out.2.2.1).mono ?_
 rintro e w3 ⟨x3, y3, rfl, hx3, hP3⟩
 have P3 : Hid (((x3 = x1 /\ y3 = x2) \/ (x3 = x2 /\ y3 = x1)) /\ Pm s g (cellsA d ++ tl) w2 w3) := ⟨hx3, hP3⟩
 clear hx3 hP3
 go_wp2_with fail
 go_ret
 refine ⟨y3, rfl, ?_, (P1.out.2.trans P2.out.2).trans P3.out.2⟩
 have q1 := P1.out.1
 have q2 := P2.out.1
 have q3 := P3.out.1
 omega
def Pv (a b : Nat) (w : World) (e : Ending) (w' : World) : Prop :=
 ∃ (p : Nat) (t : Int), e = .returned (.tuple #[.int .i64 p, .int .i64 t]) /\ a <= p /\ p < b /\ Below w.heap.size w w'
theorem pm_below {s g : Nat} {L : List Value} {X Y : World} (h : Pm s g L X Y) (w : World) (hb : Below w.heap.size w X) (hs : w.heap.size <= s) : Below w.heap.size w Y :=
 ⟨h.2.2.os.trans hb.os, h.2.2.tape.trans hb.tape, h.2.2.output.trans hb.output, Nat.le_trans hb.size h.2.2.size, fun k hk => (h.2.2.block k (Nat.lt_of_lt_of_le hk hb.size) (fun e => by injection e with e; omega)).trans (hb.block k hk)⟩
theorem pivot_any (g n cap a b : Nat) (tl : List Value) (d : Array Int) (w : World) (h : Blk w g 23 (cellsA d ++ tl)) (hd : d.size = n) (hab : a + 12 < b) (hb : b <= n) (hn : n <= 49) :
  Calls Tryz.prog 144 #[.slice (some ⟨g, 0, none⟩) n cap, .int .i64 a, .int .i64 b] w fun e w' => Pv a b w e w' := by
 obtain ⟨m, hm⟩ : ∃ m, b - a = m := ⟨_, rfl⟩
 obtain ⟨q, hq⟩ : ∃ q, m / 4 = q := ⟨_, rfl⟩
 have e8 : (b : Int) - (a : Int) = (m : Int) := by omega
 have w8 : IntKind.i64.wrap ((b : Int) - (a : Int)) = (m : Int) := by rw [IntKind.wrap_i64]; omega
 have hne : g ≠ w.heap.size := Nat.ne_of_lt h.lt
 have HM : Hid (∀ (x y z : Nat) W, x < n -> y < n -> z < n -> Blk W g 23 (cellsA d ++ tl) -> (∃ z, Blk W w.heap.size 3 [.int .i64 z]) -> Calls Tryz.prog 165 #[.slice (some ⟨g, 0, none⟩) n cap, .int .i64 x, .int .i64 y, .int .i64 z, .pointer (some ⟨w.heap.size, 0, none⟩)] W fun e w' => O3 w.heap.size g x y z (cellsA d ++ tl) W e w') := fun x y z W h1 h2 h3 h4 h5 => median_any w.heap.size g n cap x y z tl d W h4 h5 hne hd h1 h2 h3 (by omega)
 have HG : Hid (Blk (w.alloc (Obj.cells #[.int .i64 0] 3)) g 23 (cellsA d ++ tl)) := h.alloc _
 have HZ : Hid (Blk (w.alloc (Obj.cells #[.int .i64 0] 3)) w.heap.size 3 [.int .i64 0]) := blk_new w _ _
 have HB : Hid (Below w.heap.size w (w.alloc (Obj.cells #[.int .i64 0] 3))) := below_new w _
 clear h hne
 go_enter Tryz.func144, Tryz.ntmps144
 go_wp2_with fail
 have HMM : Hid (Calls Tryz.prog 165 #[.slice (some ⟨g, 0, none⟩) n cap, .int .i64 ((a : Int) + (m : Int) / 4), .int .i64 ((a : Int) + (m : Int) / 4 * 2), .int .i64 ((a : Int) + (m : Int) / 4 * 3), .pointer (some ⟨w.heap.size, 0, none⟩)] (w.alloc (Obj.cells #[.int .i64 0] 3)) fun e w' => O3 w.heap.size g (a + m / 4) (a + m / 4 * 2) (a + m / 4 * 3) (cellsA d ++ tl) (w.alloc (Obj.cells #[.int .i64 0] 3)) e w') := by
  have := HM.out (a + m / 4) (a + m / 4 * 2) (a + m / 4 * 3) _ (by omega) (by omega) (by omega) HG.out ⟨0, HZ.out⟩
  rw [show ((a + m / 4 : Nat) : Int) = (a : Int) + (m : Int) / 4 from by omega, show ((a + m / 4 * 2 : Nat) : Int) = (a : Int) + (m : Int) / 4 * 2 from by omega, show ((a + m / 4 * 3 : Nat) : Int) = (a : Int) + (m : Int) / 4 * 3 from by omega] at this
  exact this
 generalize (w.alloc (Obj.cells #[.int .i64 0] 3)) = X at *
 refine HMM.out.mono ?_
 rintro e w1 ⟨x, rfl, hx, hP⟩
 obtain ⟨z, hz⟩ := hP.2.1
 have cz : w1.cell? ⟨w.heap.size, 0, none⟩ = some (.int .i64 z) := hz.cell 0
 have HX : Hid (a <= x /\ x < b) := by show a <= x /\ x < b; omega
 have HBB : Hid (Below w.heap.size w w1) := pm_below hP w HB.out (Nat.le_refl _)
 clear hP hz hx HM HMM HG HZ HB
 rcases Bool.eq_false_or_eq_true (z == 0) with h0 | h0
 ·go_wp2_with fail
  go_ret2
  exact ⟨x, _, rfl, HX.out.1, HX.out.2, HBB.out⟩
 ·rcases Bool.eq_false_or_eq_true (z == 12) with h1 | h1
  ·go_wp2_with fail
   go_ret2
   exact ⟨x, _, rfl, HX.out.1, HX.out.2, HBB.out⟩
  ·go_wp2_with fail
   go_ret2
   exact ⟨x, _, rfl, HX.out.1, HX.out.2, HBB.out⟩
open Go.Sort (PermIn SortedIn)
def Ord (w : World) (g a b : Nat) (tl : List Value) (d : Array Int) (e : Ending) (w' : World) : Prop :=
 e = .returned (.tuple #[]) /\ ∃ d', PermIn a b d d' /\ Sw w g tl d' w'
set_option maxRecDepth 8000 in
theorem rev_any (g n cap a b : Nat) (tl : List Value) (d : Array Int) (w : World) (h : Blk w g 23 (cellsA d ++ tl)) (hd : d.size = n) (hab : a < b) (hb : b <= n) (hn : n <= 1000) :
  Calls Tryz.prog 145 #[.slice (some ⟨g, 0, none⟩) n cap, .int .i64 a, .int .i64 b] w fun e w' => Ord w g a b tl d e w' := by
 have S0 : Hid (Sw w g tl d w) := Sw.refl h
 clear h
 go_enter Tryz.func145, Tryz.ntmps145
 go_wp2
 go_loopw [6, 7] (fun vi vj wr => ∃ (i j : Nat) (dk : Array Int), vi = .int .i64 i /\ vj = .int .i64 j /\ a <= i /\ j < b /\ i <= j + 1 /\ dk.size = n /\ PermIn a b d dk /\ Sw w g tl dk wr) (fun vi _ _ => b - (intOf vi).toNat)
 case atStart => exact ⟨a, b - 1, d, rfl, by congr 1; omega, Nat.le_refl _, by omega, by omega, hd, Go.Sort.permIn_refl _ _ _, S0.out⟩
 case round =>
  obtain ⟨i, j, dk, rfl, rfl, hai, hjb, hij, hsk, hP, hsw⟩ := hrel
  have HP : Hid (PermIn a b d dk) := hP
  have S1 : Hid (Sw w g tl dk wr) := hsw
  clear hP
  by_cases hlt : i < j
  ·have hl1 : (i : Int) < (j : Int) := by omega
   have bi : (i : Int) < (n : Int) := by omega
   have bj : (j : Int) < (n : Int) := by omega
   have ci : wr.cell? ⟨g, i, none⟩ = some (.int .u32 dk[i]!) := hsw.cell i (by omega)
   have cj : wr.cell? ⟨g, j, none⟩ = some (.int .u32 dk[j]!) := hsw.cell j (by omega)
   have fi : wr.frozen? ⟨g, i, none⟩ = false := hsw.f _
   have fj : wr.frozen? ⟨g, j, none⟩ = false := hsw.f _
   have SZ : Hid (Sw w g tl (swp dk i j) (((wr.setCell ⟨g, i, none⟩ (.int .u32 dk[j]!)).setCell ⟨g, j, none⟩ (.int .u32 dk[i]!)).drew)) := (hsw.swap i j (by omega) (by omega)).drew
   have HP2 : Hid (PermIn a b d (swp dk i j)) := Go.Sort.permIn_trans _ _ _ _ _ HP.out (Go.Sort.swp_permIn dk a b i j hai (by omega) (by omega) hjb (by omega))
   clear hsw
   generalize hx1 : dk[i]! = x1 at *
   generalize hx2 : dk[j]! = x2 at *
   clear hx1 hx2
   go_wp2_with fail
   go_big_region
   go_wp2_with fail
   go_roundw
   case rel => exact ⟨i + 1, j - 1, swp dk i j, by go_num, by congr 1; omega, by omega, by omega, by omega, by rw [size_swp]; exact hsk, HP2.out, SZ.out⟩
   case measure => simp [intOf] <;> omega
  ·have hl1 : ¬ (i : Int) < (j : Int) := by omega
   clear hsw
   go_wp2_with fail
   go_end0
   exact ⟨rfl, dk, HP.out, S1.out⟩
def Psr (w : World) (a b : Nat) (d : Array Int) (e : Ending) (w' : World) : Prop :=
 ∃ q : Nat, e = .returned (.bool (q == 1)) /\ (q = 1 -> SortedIn ltZ a b d) /\ Below w.heap.size w w'
theorem sorted_one (a : Nat) (d : Array Int) : SortedIn ltZ a (a + 1) d := fun i j h1 h2 h3 => by omega
set_option maxRecDepth 8000 in
theorem partial_any (g n cap a b : Nat) (tl : List Value) (d : Array Int) (w : World) (h : Blk w g 23 (cellsA d ++ tl)) (hd : d.size = n) (hab : a < b) (hb : b <= n) (hn : n <= 49) :
  Calls Tryz.prog 146 #[.slice (some ⟨g, 0, none⟩) n cap, .int .i64 a, .int .i64 b] w fun e w' => Psr w a b d e w' := by
 have S0 : Hid (Sw w g tl d w) := Sw.refl h
 clear h
 go_enter Tryz.func146, Tryz.ntmps146
 go_wp2
 go_loopw [7, 8] (fun v7 v8 wr => v7 = .int .i64 ((a : Int) + 1) /\ v8 = .int .i64 0 /\ wr = w) (fun _ _ _ => 0)
 case atStart => exact ⟨rfl, rfl, rfl⟩
 case round =>
  obtain ⟨rfl, rfl, hw⟩ := hrel
  subst wr
  have e50 : decide ((b : Int) - (a : Int) < 50) = true := decide_eq_true (by omega)
  have e51 : (b : Int) - (a : Int) < 50 := by omega
  go_wp2_with fail
  go_loopw [7] (fun v7 wz => ∃ (i : Nat), v7 = .int .i64 i /\ a + 1 <= i /\ i <= b /\ SortedIn ltZ a i d /\ Below w.heap.size w wz) (fun v7 _ => b - (intOf v7).toNat)
  case atStart => exact ⟨a + 1, by go_num, Nat.le_refl _, by omega, sorted_one a d, Below.refl _ _⟩
  case round =>
   obtain ⟨i, rfl, hai, hib, hS, hbw⟩ := hrel
   have HS : Hid (SortedIn ltZ a i d) := hS
   have HBW : Hid (Below w.heap.size w wr) := hbw
   have hsw : Sw w g tl d wr := S0.out.over hbw
   have HBD : Hid (∀ m, Below w.heap.size w (wr.drewN m)) := fun m => hbw.trans ((below_drewN wr m).mono hbw.size)
   clear hS hbw
   by_cases hlt : i < b
   ·have hl0 : decide ((i : Int) < (b : Int)) = true := decide_eq_true (by omega)
    have hl1 : (i : Int) < (b : Int) := by omega
    have bi : (i : Int) < (n : Int) := by omega
    have hne : ((i : Int) == (b : Int)) = false := by simp; omega
    have ci : wr.cell? ⟨g, i, none⟩ = some (.int .u32 d[i]!) := hsw.cell i (by omega)
    have ck : wr.cell? ⟨g, i - 1, none⟩ = some (.int .u32 d[i - 1]!) := hsw.cell (i - 1) (by omega)
    have HSn : Hid (ltZ d[i]! d[i - 1]! = false -> SortedIn ltZ a (i + 1) d) := fun hl => HS.out.snoc swoZ hl
    clear hsw
    rcases Bool.eq_false_or_eq_true (ltZ d[i]! d[i - 1]!) with hl | hl
    ·have HQ : Hid (∀ W, Calls Tryz.prog 147 #[.int .u32 d[i]!, .int .u32 d[i - 1]!] W fun e w' => e = .returned (.bool true) /\ w' = W) := fun W => hl ▸ lessU_any _ _ W
     clear hl HSn
     generalize hx1 : d[i]! = x1 at *
     generalize hx2 : d[i - 1]! = x2 at *
     clear hx1 hx2
     go_wp2_with fail
     go_quiet ((go_at_call 147; refine Calls.quiet_of_same (HQ.out _)))
     go_wp2_with fail
     go_ret
     exact ⟨0, rfl, fun h => by omega, HBD.out _⟩
    ·have HQ : Hid (∀ W, Calls Tryz.prog 147 #[.int .u32 d[i]!, .int .u32 d[i - 1]!] W fun e w' => e = .returned (.bool false) /\ w' = W) := fun W => hl ▸ lessU_any _ _ W
     have HS2 : Hid (SortedIn ltZ a (i + 1) d) := HSn.out hl
     clear hl HSn
     generalize hx1 : d[i]! = x1 at *
     generalize hx2 : d[i - 1]! = x2 at *
     clear hx1 hx2
     go_wp2_with fail
     go_quiet ((go_at_call 147; refine Calls.quiet_of_same (HQ.out _)))
     go_wp2_with fail
     go_roundw
     case rel => exact ⟨i + 1, by go_num, by omega, by omega, HS2.out, HBD.out _⟩
     case measure => simp [intOf] <;> omega
   ·obtain rfl : i = b := by omega
    have hl0 : decide ((i : Int) < (i : Int)) = false := decide_eq_false (by omega)
    have hl1 : ¬ (i : Int) < (i : Int) := by omega
    clear hsw
    go_wp2_with fail
    go_quiet (fail)
    go_wp2_with fail
    go_ret
    exact ⟨1, rfl, fun _ => HS.out, HBD.out _⟩
structure Rn (w : World) (g s : Nat) (tl : List Value) (d : Array Int) (R : Nat) (X : World) : Prop where
 sw : Sw w g tl d X
 rn : Blk X s 231 [.int .u64 R]
theorem Rn.next {w X : World} {g s R : Nat} {tl : List Value} {d : Array Int} (h : Rn w g s tl d R X) (hne : g ≠ s) (hs : w.heap.size <= s) (R' m : Nat) : Rn w g s tl d R' ((X.setCell ⟨s, 0, none⟩ (.int .u64 R')).drewN m) := by
 have h1 : Rn w g s tl d R' (X.setCell ⟨s, 0, none⟩ (.int .u64 R')) := by
  refine ⟨⟨h.sw.blk.other _ _ hne, h.sw.grow.os, h.sw.grow.tape, h.sw.grow.output, by have := h.sw.grow.size; simpa using this, fun k hk hn => ?_⟩, h.rn.set 0 _⟩
  rw [heap_setCell_other X ⟨s, 0, none⟩ k _ (fun e => by have : k = s := e; omega)]
  exact h.sw.grow.block k hk hn
 exact ⟨h1.sw.drewN m, h1.rn.over (below_drewN _ m)⟩
theorem Rn.swap {w X : World} {g s R : Nat} {tl : List Value} {d : Array Int} (h : Rn w g s tl d R X) (hne : g ≠ s) (i j : Nat) (hi : i < d.size) (hj : j < d.size) :
  Rn w g s tl (swp d i j) R ((X.setCell ⟨g, i, none⟩ (.int .u32 d[j]!)).setCell ⟨g, j, none⟩ (.int .u32 d[i]!)).drew :=
 ⟨(h.sw.swap i j hi hj).drew, ((h.rn.other ⟨g, i, none⟩ _ (Ne.symm hne)).other ⟨g, j, none⟩ _ (Ne.symm hne)).drew⟩
set_option maxRecDepth 8000 in
theorem break_any (g n cap a b : Nat) (tl : List Value) (d : Array Int) (w : World) (h : Blk w g 23 (cellsA d ++ tl)) (hd : d.size = n) (hab : a + 12 < b) (hb : b <= n) (hn : n <= 49) :
  Calls Tryz.prog 143 #[.slice (some ⟨g, 0, none⟩) n cap, .int .i64 a, .int .i64 b] w fun e w' => Ord w g a b tl d e w' := by
 obtain ⟨L, hL⟩ : ∃ L, b - a = L := ⟨_, rfl⟩
 have e8 : (b : Int) - (a : Int) = (L : Int) := by omega
 have w8 : IntKind.i64.wrap ((b : Int) - (a : Int)) = (L : Int) := by rw [IntKind.wrap_i64]; omega
 have hL1 : 12 < L := by omega
 have hL2 : L <= 49 := by omega
 have hL3 : a + L <= b := by omega
 obtain ⟨M, hM⟩ : ∃ M : Nat, M = 1 <<< Go.Sort.bitsLen L := ⟨_, rfl⟩
 have hM1 : 1 <= M := by rw [hM, Nat.one_shiftLeft]; exact Nat.two_pow_pos _
 have hM2 : M <= 2 * L := by rw [hM, Nat.one_shiftLeft]; exact Go.Sort.two_pow_bitsLen_le (by omega)
 have HNP : Hid (∀ W, Calls Tryz.prog 162 #[.int .i64 (L : Int)] W fun e w' => e = .returned (.int .u64 (M : Int)) /\ w' = W) := by
  show ∀ W, _
  rw [hM]
  exact fun W => Tryz.nextPow L (by omega) W
 clear hM
 have hne : g ≠ w.heap.size := Nat.ne_of_lt h.lt
 have H0 : Hid (Rn w g w.heap.size tl d L (w.alloc (Obj.cells #[.int .u64 (L : Int)] 231))) := ⟨(Sw.refl h).over (below_new w _), blk_new w _ _⟩
 have HNE : Hid (g ≠ w.heap.size) := hne
 clear h hL hne
 go_enter Tryz.func143, Tryz.ntmps143
 go_wp2_with (first | (go_at_call 162; refine (HNP.out _).mono ?_; rintro e w' ⟨rfl, rfl⟩))
 generalize (w.alloc (Obj.cells #[.int .u64 (L : Int)] 231)) = X at *
 go_loopw [9] (fun vi wr => ∃ (i R : Nat) (dk : Array Int), vi = .int .i64 i /\ a + L / 4 * 2 <= i + 1 /\ i <= a + L / 4 * 2 + 2 /\ R < 18446744073709551616 /\ dk.size = n /\ PermIn a b d dk /\ Rn w g w.heap.size tl dk R wr) (fun vi _ => a + L / 4 * 2 + 3 - (intOf vi).toNat)
 case atStart => exact ⟨a + L / 4 * 2 - 1, L, d, by congr 1; omega, by omega, by omega, by omega, hd, Go.Sort.permIn_refl _ _ _, H0.out⟩
 case round =>
  obtain ⟨i, R, dk, rfl, hi1, hi2, hR, hsk, hP, hrn⟩ := hrel
  have HP : Hid (PermIn a b d dk) := hP
  have HR : Hid (Rn w g w.heap.size tl dk R wr) := hrn
  clear hP
  by_cases hlt : i <= a + L / 4 * 2 + 1
  ·have hl1 : (i : Int) <= (a : Int) + (L : Int) / 4 * 2 + 1 := by omega
   obtain ⟨R', hR'⟩ : ∃ R' : Nat, R' = Go.Sort.xorNextN R := ⟨_, rfl⟩
   have lR' : R' < 18446744073709551616 := by rw [hR']; exact Go.Sort.xorNextN_lt R hR
   obtain ⟨O, hO⟩ : ∃ O : Nat, O = R' &&& (M - 1) := ⟨_, rfl⟩
   have lO : O <= M - 1 := by rw [hO]; exact Nat.and_le_right
   have eAnd : bits .and .u64 (R' : Int) ((M : Int) - 1) = (O : Int) := by
    rw [show ((M : Int) - 1) = ((M - 1 : Nat) : Int) by omega, bits_and_u64_nat _ _ lR' (by omega), hO]
   have HNX : Hid (Calls Tryz.prog 163 #[.pointer (some ⟨w.heap.size, 0, none⟩)] wr fun e w' => e = .returned (.int .u64 (R' : Int)) /\ w' = (wr.setCell ⟨w.heap.size, 0, none⟩ (.int .u64 (R' : Int))).drewN 3) := by
    show Calls _ _ _ _ _
    rw [hR']
    exact Tryz.xorshift_Next _ _ R hR wr (hrn.rn.cell 0) (hrn.rn.f 0)
   have H3 : Hid (Rn w g w.heap.size tl dk R' ((wr.setCell ⟨w.heap.size, 0, none⟩ (.int .u64 (R' : Int))).drewN 3)) := hrn.next HNE.out (Nat.le_refl _) R' 3
   clear hR' hO hrn hR
   by_cases hLO : L <= O
   ·have hLO1 : (L : Int) <= (O : Int) := by omega
    obtain ⟨P, hPe⟩ : ∃ P : Nat, (O : Int) - (L : Int) = P := ⟨O - L, by omega⟩
    have wP : IntKind.i64.wrap ((O : Int) - (L : Int)) = (P : Int) := by rw [IntKind.wrap_i64]; omega
    have hP1 : P < L := by omega
    obtain ⟨q, hq⟩ : ∃ q : Nat, (a : Int) + (P : Int) = q := ⟨a + P, by omega⟩
    have wq : IntKind.i64.wrap ((a : Int) + (P : Int)) = (q : Int) := by rw [IntKind.wrap_i64]; omega
    have hq1 : a <= q := by omega
    have hq2 : q < b := by omega
    go_wp2_with (first | (go_at_call 163; refine HNX.out.mono ?_; rintro e w' ⟨rfl, rfl⟩))
    generalize ((wr.setCell ⟨w.heap.size, 0, none⟩ (.int .u64 (R' : Int))).drewN 3) = w2 at *
    obtain ⟨x1, HX1⟩ : ∃ x, Hid (dk[i]! = x) := ⟨_, rfl⟩
    obtain ⟨x2, HX2⟩ : ∃ x, Hid (dk[q]! = x) := ⟨_, rfl⟩
    have c1 : w2.cell? ⟨g, i, none⟩ = some (.int .u32 x1) := HX1.out ▸ H3.out.sw.cell i (by omega)
    have c2 : w2.cell? ⟨g, q, none⟩ = some (.int .u32 x2) := HX2.out ▸ H3.out.sw.cell q (by omega)
    have f1 : w2.frozen? ⟨g, i, none⟩ = false := H3.out.sw.f _
    have f2 : w2.frozen? ⟨g, q, none⟩ = false := H3.out.sw.f _
    obtain ⟨v2, c3⟩ : ∃ u, (w2.setCell ⟨g, i, none⟩ (.int .u32 x2)).cell? ⟨g, q, none⟩ = some u := ⟨_, (H3.out.sw.set i _ (by omega)).cell q (by simp; omega)⟩
    have f3 : (w2.setCell ⟨g, i, none⟩ (.int .u32 x2)).frozen? ⟨g, q, none⟩ = false := (H3.out.sw.set i _ (by omega)).f _
    have SZ : Hid (Rn w g w.heap.size tl (swp dk i q) R' ((w2.setCell ⟨g, i, none⟩ (.int .u32 x2)).setCell ⟨g, q, none⟩ (.int .u32 x1)).drew) := HX1.out ▸ HX2.out ▸ H3.out.swap HNE.out i q (by omega) (by omega)
    have HP2 : Hid (PermIn a b d (swp dk i q)) := Go.Sort.permIn_trans _ _ _ _ _ HP.out (Go.Sort.swp_permIn dk a b i q (by omega) (by omega) hq1 hq2 (by omega))
    have b1 : (i : Int) < (n : Int) := by omega
    have b2 : (q : Int) < (n : Int) := by omega
    go_big_region
    go_wp2_with fail
    go_roundw
    case rel => exact ⟨i + 1, R', _, by go_num, by omega, by omega, lR', by rw [size_swp]; exact hsk, HP2.out, SZ.out⟩
    case measure => simp [intOf] <;> omega
   ·have hLO1 : ¬ (L : Int) <= (O : Int) := by omega
    obtain ⟨P, hPe⟩ : ∃ P : Nat, O = P := ⟨O, rfl⟩
    subst hPe
    have hP1 : O < L := by omega
    obtain ⟨q, hq⟩ : ∃ q : Nat, (a : Int) + (O : Int) = q := ⟨a + O, by omega⟩
    have wq : IntKind.i64.wrap ((a : Int) + (O : Int)) = (q : Int) := by rw [IntKind.wrap_i64]; omega
    have hq1 : a <= q := by omega
    have hq2 : q < b := by omega
    go_wp2_with (first | (go_at_call 163; refine HNX.out.mono ?_; rintro e w' ⟨rfl, rfl⟩))
    generalize ((wr.setCell ⟨w.heap.size, 0, none⟩ (.int .u64 (R' : Int))).drewN 3) = w2 at *
    obtain ⟨x1, HX1⟩ : ∃ x, Hid (dk[i]! = x) := ⟨_, rfl⟩
    obtain ⟨x2, HX2⟩ : ∃ x, Hid (dk[q]! = x) := ⟨_, rfl⟩
    have c1 : w2.cell? ⟨g, i, none⟩ = some (.int .u32 x1) := HX1.out ▸ H3.out.sw.cell i (by omega)
    have c2 : w2.cell? ⟨g, q, none⟩ = some (.int .u32 x2) := HX2.out ▸ H3.out.sw.cell q (by omega)
    have f1 : w2.frozen? ⟨g, i, none⟩ = false := H3.out.sw.f _
    have f2 : w2.frozen? ⟨g, q, none⟩ = false := H3.out.sw.f _
    obtain ⟨v2, c3⟩ : ∃ u, (w2.setCell ⟨g, i, none⟩ (.int .u32 x2)).cell? ⟨g, q, none⟩ = some u := ⟨_, (H3.out.sw.set i _ (by omega)).cell q (by simp; omega)⟩
    have f3 : (w2.setCell ⟨g, i, none⟩ (.int .u32 x2)).frozen? ⟨g, q, none⟩ = false := (H3.out.sw.set i _ (by omega)).f _
    have SZ : Hid (Rn w g w.heap.size tl (swp dk i q) R' ((w2.setCell ⟨g, i, none⟩ (.int .u32 x2)).setCell ⟨g, q, none⟩ (.int .u32 x1)).drew) := HX1.out ▸ HX2.out ▸ H3.out.swap HNE.out i q (by omega) (by omega)
    have HP2 : Hid (PermIn a b d (swp dk i q)) := Go.Sort.permIn_trans _ _ _ _ _ HP.out (Go.Sort.swp_permIn dk a b i q (by omega) (by omega) hq1 hq2 (by omega))
    have b1 : (i : Int) < (n : Int) := by omega
    have b2 : (q : Int) < (n : Int) := by omega
    go_big_region
    go_wp2_with fail
    go_roundw
    case rel => exact ⟨i + 1, R', _, by go_num, by omega, by omega, lR', by rw [size_swp]; exact hsk, HP2.out, SZ.out⟩
    case measure => simp [intOf] <;> omega
  ·have hl1 : ¬ (i : Int) <= (a : Int) + (L : Int) / 4 * 2 + 1 := by omega
   clear hrn
   go_wp2_with fail
   go_end0
   exact ⟨rfl, dk, HP.out, HR.out.sw⟩
end Go.Proofs.YtcckipimfgmmdaaGreatDoor.M
