/-
  A part of a row turned round; whether a part is sorted already.
-/
import Derived.Test.YtifddbfcongepaaSrt0
import Derived.Deep.DeepCutAuto
import Derived.Sort.LotA
namespace Go.Proofs.Ytifddbfcongepaa
open Go.RowKit
open Go.Sort (swp size_swp PermIn SortedIn)

/-- a part of the row is as it was, but for the order. -/
def Ord (w : World) (g a b : Nat) (tl : List Value) (d : Array Int) (e : Ending) (w' : World) : Prop :=
  e = .returned (.tuple #[]) ∧ ∃ d', PermIn a b d d' ∧ Sw w g tl d' w'

set_option maxHeartbeats 4000000 in
set_option maxRecDepth 8000 in
theorem rev_any (g n cap a b : Nat) (tl : List Value) (d : Array Int) (w : World) (h : Blk w g 31 (cellsA d ++ tl)) (hd : d.size = n) (hab : a < b) (hb : b ≤ n) (hn : n ≤ 1000) :
    Calls Try.prog 32 #[.slice (some ⟨g, 0, none⟩) n cap, .int .i64 a, .int .i64 b] w fun e w' => Ord w g a b tl d e w' := by
  have S0 : Hid (Sw w g tl d w) := Sw.refl h
  clear h
  go_enter Try.func32, Try.ntmps32
  go_wp2
  go_loopw [6, 7] (fun vi vj wr => ∃ (i j : Nat) (dk : Array Int), vi = .int .i64 i ∧ vj = .int .i64 j ∧ a ≤ i ∧ j < b ∧ i ≤ j + 1 ∧ dk.size = n ∧ PermIn a b d dk ∧ Sw w g tl dk wr) (fun vi _ _ => b - (intOf vi).toNat)
  case atStart => exact ⟨a, b - 1, d, rfl, by congr 1; omega, Nat.le_refl _, by omega, by omega, hd, Go.Sort.permIn_refl _ _ _, S0.out⟩
  case round =>
    obtain ⟨i, j, dk, rfl, rfl, hai, hjb, hij, hsk, hP, hsw⟩ := hrel
    have HP : Hid (PermIn a b d dk) := hP
    have S1 : Hid (Sw w g tl dk wr) := hsw
    clear hP
    by_cases hlt : i < j
    · have hl1 : (i : Int) < (j : Int) := by omega
      have bi : (i : Int) < (n : Int) := by omega
      have bj : (j : Int) < (n : Int) := by omega
      have ci : wr.cell? ⟨g, i, none⟩ = some (.int .u64 dk[i]!) := hsw.cell i (by omega)
      have cj : wr.cell? ⟨g, j, none⟩ = some (.int .u64 dk[j]!) := hsw.cell j (by omega)
      have fi : wr.frozen? ⟨g, i, none⟩ = false := hsw.f _
      have fj : wr.frozen? ⟨g, j, none⟩ = false := hsw.f _
      have SZ : Hid (Sw w g tl (swp dk i j) (((wr.setCell ⟨g, i, none⟩ (.int .u64 dk[j]!)).setCell ⟨g, j, none⟩ (.int .u64 dk[i]!)).drew)) := (hsw.swap i j (by omega) (by omega)).drew
      have HP2 : Hid (PermIn a b d (swp dk i j)) := Go.Sort.permIn_trans _ _ _ _ _ HP.out (Go.Sort.swp_permIn dk a b i j hai (by omega) (by omega) hjb (by omega))
      clear hsw
      generalize hx1 : dk[i]! = x1 at *
      generalize hx2 : dk[j]! = x2 at *
      clear hx1 hx2
      go_wp2_with fail
      go_big_region
      go_wp2_with fail
      go_roundw
      case rel => exact ⟨i + 1, j - 1, swp dk i j, by go_num, by congr 1; omega, by omega, by omega, by omega, by rw [size_swp]; exact hsk, HP2.out, SZ.out⟩
      case measure => simp [intOf] <;> omega
    · have hl1 : ¬ (i : Int) < (j : Int) := by omega
      clear hsw
      go_wp2_with fail
      go_end0
      exact ⟨rfl, dk, HP.out, S1.out⟩

/-- the steps of a sort of what is sorted but for few. -/
theorem scan_go {b j : Nat} {d : Array Int} (h : j < b) (hl : ltZ d[j]! d[j - 1]! = false) : Go.Sort.scanSorted ltZ d b j = Go.Sort.scanSorted ltZ d b (j + 1) := by
  rw [Go.Sort.scanSorted, if_pos (by rw [decide_eq_true h, hl]; rfl)]
theorem scan_stop {b j : Nat} {d : Array Int} (h : ¬ j < b ∨ ltZ d[j]! d[j - 1]! = true) : Go.Sort.scanSorted ltZ d b j = j := by
  rw [Go.Sort.scanSorted, if_neg]
  rcases h with h | h
  · rw [decide_eq_false h]; simp
  · rw [h]; simp
theorem sd_go {j : Nat} {d : Array Int} (h : 1 ≤ j) (hl : ltZ d[j]! d[j - 1]! = true) : Go.Sort.shiftDown ltZ j d = Go.Sort.shiftDown ltZ (j - 1) (swp d j (j - 1)) := by
  obtain ⟨m, rfl⟩ : ∃ m, j = m + 1 := ⟨j - 1, by omega⟩
  simp only [Nat.add_sub_cancel] at hl ⊢
  rw [Go.Sort.shiftDown, hl]
  rfl
theorem sd_stop {j : Nat} {d : Array Int} (h : ¬ 1 ≤ j ∨ ltZ d[j]! d[j - 1]! = false) : Go.Sort.shiftDown ltZ j d = d := by
  cases j with
  | zero => rfl
  | succ m =>
    rcases h with h | h
    · omega
    · simp only [Nat.add_sub_cancel] at h
      rw [Go.Sort.shiftDown, h]
      rfl
theorem su_go {b j : Nat} {d : Array Int} (h : j < b) (hl : ltZ d[j]! d[j - 1]! = true) : Go.Sort.shiftUp ltZ b j d = Go.Sort.shiftUp ltZ b (j + 1) (swp d j (j - 1)) := by
  rw [Go.Sort.shiftUp, if_pos h, hl]
  rfl
theorem su_stop {b j : Nat} {d : Array Int} (h : ¬ j < b ∨ ltZ d[j]! d[j - 1]! = false) : Go.Sort.shiftUp ltZ b j d = d := by
  rw [Go.Sort.shiftUp]
  rcases h with h | h
  · rw [if_neg h]
  · split
    · rw [h]; rfl
    · rfl
theorem size_sd : ∀ (j : Nat) (d : Array Int), (Go.Sort.shiftDown ltZ j d).size = d.size
  | 0, d => rfl
  | j + 1, d => by
    rw [Go.Sort.shiftDown]
    split
    · rfl
    · rw [size_sd j, size_swp]
/-- behind the scan. -/
theorem par_step {a b s i j : Nat} {d : Array Int} (hs : s < 5) (h : Go.Sort.scanSorted ltZ d b i = j) : Go.Sort.partialIns ltZ a b (5 - s) i d = if j = b then (d, true) else if b - a < 50 then (d, false) else Go.Sort.partialIns ltZ a b (5 - (s + 1)) j (Go.Sort.fixUp ltZ b j (Go.Sort.fixDown ltZ a j (swp d j (j - 1)))) := by
  rw [show 5 - s = (5 - (s + 1)) + 1 by omega, Go.Sort.partialIns_succ, h]

/-- whether a part is sorted now, and how it lies. -/
def Psr (w : World) (g a b : Nat) (tl : List Value) (d : Array Int) (e : Ending) (w' : World) : Prop :=
  e = .returned (.bool (Go.Sort.partialInsertionSort ltZ d a b).2) ∧ Sw w g tl (Go.Sort.partialInsertionSort ltZ d a b).1 w'

set_option maxHeartbeats 16000000 in
set_option maxRecDepth 8000 in
theorem partial_any (g n cap a b : Nat) (tl : List Value) (d : Array Int) (w : World) (h : Blk w g 31 (cellsA d ++ tl)) (hd : d.size = n) (hab : a < b) (hb : b ≤ n) (hn : n ≤ 1000) :
    Calls Try.prog 33 #[.slice (some ⟨g, 0, none⟩) n cap, .int .i64 a, .int .i64 b] w fun e w' => Psr w g a b tl d e w' := by
  obtain ⟨r, HR⟩ : ∃ r, Hid (Go.Sort.partialInsertionSort ltZ d a b = r) := ⟨_, rfl⟩
  have HEND : Hid (∀ (q : Bool) (d' : Array Int) (W : World), r = (d', q) → Sw w g tl d' W → Psr w g a b tl d (.returned (.bool q)) W) := fun q d' W h1 h2 => by
    unfold Psr
    rw [HR.out, h1]
    exact ⟨rfl, h2⟩
  have S0 : Hid (Sw w g tl d w) := Sw.refl h
  have R0 : Hid (Go.Sort.partialIns ltZ a b (5 - 0) (a + 1) d = r) := HR.out
  clear h HR
  go_enter Try.func33, Try.ntmps33
  go_wp2
  go_loopw [7, 8] (fun v7 v8 wr => ∃ (i s : Nat) (dk : Array Int), v7 = .int .i64 i ∧ v8 = .int .i64 s ∧ a < i ∧ i ≤ b ∧ s ≤ 5 ∧ dk.size = n ∧ Sw w g tl dk wr ∧ Go.Sort.partialIns ltZ a b (5 - s) i dk = r) (fun _ v8 _ => 5 - (intOf v8).toNat)
  case atStart => exact ⟨a + 1, 0, d, by go_num, rfl, by omega, by omega, by omega, hd, S0.out, R0.out⟩
  case round =>
    obtain ⟨i0, s, dk, rfl, rfl, hai0, hib0, hs5, hsk, hsw0, hR0⟩ := hrel
    have SK0 : Hid (Sw w g tl dk wr) := hsw0
    have HR0 : Hid (Go.Sort.partialIns ltZ a b (5 - s) i0 dk = r) := hR0
    clear hsw0 hR0 S0 R0
    by_cases hs : s < 5
    · have hs1 : (s : Int) < 5 := by omega
      go_wp2_with fail
      go_loopw [7] (fun v7 wz => ∃ (i : Nat), v7 = .int .i64 i ∧ i0 ≤ i ∧ i ≤ b ∧ Sw w g tl dk wz ∧ Go.Sort.scanSorted ltZ dk b i0 = Go.Sort.scanSorted ltZ dk b i) (fun v7 _ => b - (intOf v7).toNat)
      case atStart => exact ⟨i0, rfl, Nat.le_refl _, hib0, SK0.out, rfl⟩
      case round =>
        obtain ⟨i, rfl, hai1, hib, hsw, hS⟩ := hrel
        have hai : a < i := by omega
        have HS : Hid (Go.Sort.scanSorted ltZ dk b i0 = Go.Sort.scanSorted ltZ dk b i) := hS
        have HBD : Hid (∀ m, Sw w g tl dk (wr.drewN m)) := fun m => hsw.drewN m
        clear hS
        by_cases hlt : i < b
        · have hl0 : decide ((i : Int) < (b : Int)) = true := decide_eq_true (by omega)
          have hl1 : (i : Int) < (b : Int) := by omega
          have bi : (i : Int) < (n : Int) := by omega
          have ci : wr.cell? ⟨g, i, none⟩ = some (.int .u64 dk[i]!) := hsw.cell i (by omega)
          have ck : wr.cell? ⟨g, i - 1, none⟩ = some (.int .u64 dk[i - 1]!) := hsw.cell (i - 1) (by omega)
          rcases Bool.eq_false_or_eq_true (ltZ dk[i]! dk[i - 1]!) with hl | hl
          · have hne : ((i : Int) == (b : Int)) = false := by simp; omega
            have HQ : Hid (∀ W, Calls Try.prog 34 #[.int .u64 dk[i]!, .int .u64 dk[i - 1]!] W fun e w' => e = .returned (.bool true) ∧ w' = W) := fun W => hl ▸ lessU_any _ _ W
            have HST : Hid (r = if i = b then (dk, true) else if b - a < 50 then (dk, false) else Go.Sort.partialIns ltZ a b (5 - (s + 1)) i (Go.Sort.fixUp ltZ b i (Go.Sort.fixDown ltZ a i (swp dk i (i - 1))))) := by
              show r = _
              rw [← HR0.out]
              exact par_step hs (HS.out.trans (scan_stop (.inr hl)))
            clear hl hsw
            obtain ⟨L, hL⟩ : ∃ L, b - a = L := ⟨_, rfl⟩
            have e8 : (b : Int) - (a : Int) = (L : Int) := by omega
            have w8 : IntKind.i64.wrap ((b : Int) - (a : Int)) = (L : Int) := by rw [IntKind.wrap_i64]; omega
            by_cases h50 : L < 50
            · have h51 : (L : Int) < 50 := by omega
              have HE : Hid (r = (dk, false)) := by
                show r = _
                rw [HST.out, if_neg (by omega), if_pos (by omega)]
              generalize hx1 : dk[i]! = x1 at *
              generalize hx2 : dk[i - 1]! = x2 at *
              clear hx1 hx2
              go_wp2_with fail
              go_quiet ((go_at_call 34; refine Calls.quiet_of_same (HQ.out _)))
              go_wp2_with fail
              go_ret
              exact HEND.out false dk _ HE.out (HBD.out _)
            · have h51 : ¬ (L : Int) < 50 := by omega
              have HE : Hid (Go.Sort.partialIns ltZ a b (5 - (s + 1)) i (Go.Sort.fixUp ltZ b i (Go.Sort.fixDown ltZ a i (swp dk i (i - 1)))) = r) := by
                show _ = r
                rw [HST.out, if_neg (by omega), if_neg (by omega)]
              have fi : ∀ m, (wr.drewN m).frozen? ⟨g, i, none⟩ = false := fun m => (HBD.out m).f i
              have fk : ∀ m, (wr.drewN m).frozen? ⟨g, i - 1, none⟩ = false := fun m => (HBD.out m).f (i - 1)
              have SZ : Hid (∀ m m', Sw w g tl (swp dk i (i - 1)) ((((wr.drewN m).setCell ⟨g, i, none⟩ (.int .u64 dk[i - 1]!)).setCell ⟨g, i - 1, none⟩ (.int .u64 dk[i]!)).drewN m')) := fun m m' => ((HBD.out m).swap i (i - 1) (by omega) (by omega)).drewN m'
              clear HST
              generalize hx1 : dk[i]! = x1 at *
              generalize hx2 : dk[i - 1]! = x2 at *
              clear hx1 hx2
              go_wp2_with fail
              go_quiet ((go_at_call 34; refine Calls.quiet_of_same (HQ.out _)))
              go_wp2_with fail
              go_big_region
              have hsz0 : (swp dk i (i - 1)).size = n := by rw [size_swp]; exact hsk
              have S1 : Hid (Sw w g tl (swp dk i (i - 1)) (((wr.drewN (nq + 1)).setCell ⟨g, i, none⟩ (.int .u64 x2)).setCell ⟨g, i - 1, none⟩ (.int .u64 x1))) := SZ.out _ 0
              clear SZ HQ fi fk ci ck HBD
              generalize swp dk i (i - 1) = d0 at *
              obtain ⟨M, hM⟩ : ∃ M, i - a = M := ⟨_, rfl⟩
              have e9 : (i : Int) - (a : Int) = (M : Int) := by omega
              have w9 : IntKind.i64.wrap ((i : Int) - (a : Int)) = (M : Int) := by rw [IntKind.wrap_i64]; omega
              obtain ⟨M2, hM2⟩ : ∃ M, b - i = M := ⟨_, rfl⟩
              have e10 : (b : Int) - (i : Int) = (M2 : Int) := by omega
              have w10 : IntKind.i64.wrap ((b : Int) - (i : Int)) = (M2 : Int) := by rw [IntKind.wrap_i64]; omega
              go_upto_if 61 with fail
              generalize (((wr.drewN (nq + 1)).setCell ⟨g, i, none⟩ (.int .u64 x2)).setCell ⟨g, i - 1, none⟩ (.int .u64 x1)) = W1 at *
              go_cut [9] (fun _ wc => ∃ d1, Go.Sort.fixDown ltZ a i d0 = d1 ∧ d1.size = n ∧ Sw w g tl d1 wc)
              case first =>
                by_cases h2 : 2 ≤ M
                · have h21 : (2 : Int) ≤ (M : Int) := by omega
                  go_wp2_with fail
                  go_loopw [9] (fun v9 wz => ∃ (j : Nat) (dj : Array Int), v9 = .int .i64 j ∧ j < i ∧ dj.size = n ∧ Sw w g tl dj wz ∧ Go.Sort.shiftDown ltZ j dj = Go.Sort.fixDown ltZ a i d0) (fun v9 _ => (intOf v9).toNat)
                  case atStart => exact ⟨i - 1, d0, by congr 1; omega, by omega, hsz0, S1.out, by unfold Go.Sort.fixDown; rw [if_pos (by omega)]⟩
                  case round =>
                    obtain ⟨j, dj, rfl, hji, hsj, hsw, hF⟩ := hrel
                    have HF : Hid (Go.Sort.shiftDown ltZ j dj = Go.Sort.fixDown ltZ a i d0) := hF
                    have S2 : Hid (Sw w g tl dj wr) := hsw
                    clear hF
                    by_cases hj1 : 1 ≤ j
                    · have hj2 : (1 : Int) ≤ (j : Int) := by omega
                      have hjn : (j : Int) < (n : Int) := by omega
                      have cj : wr.cell? ⟨g, j, none⟩ = some (.int .u64 dj[j]!) := hsw.cell j (by omega)
                      have ck : wr.cell? ⟨g, j - 1, none⟩ = some (.int .u64 dj[j - 1]!) := hsw.cell (j - 1) (by omega)
                      have fj : ∀ m, (wr.drewN m).frozen? ⟨g, j, none⟩ = false := fun m => (hsw.drewN m).f j
                      have fk : ∀ m, (wr.drewN m).frozen? ⟨g, j - 1, none⟩ = false := fun m => (hsw.drewN m).f (j - 1)
                      have fj0 : wr.frozen? ⟨g, j, none⟩ = false := hsw.f j
                      have fk0 : wr.frozen? ⟨g, j - 1, none⟩ = false := hsw.f (j - 1)
                      rcases Bool.eq_false_or_eq_true (ltZ dj[j]! dj[j - 1]!) with hl | hl
                      · have HQ : Hid (∀ W, Calls Try.prog 34 #[.int .u64 dj[j]!, .int .u64 dj[j - 1]!] W fun e w' => e = .returned (.bool true) ∧ w' = W) := fun W => hl ▸ lessU_any _ _ W
                        have SZ : Hid (∀ m m', Sw w g tl (swp dj j (j - 1)) ((((wr.drewN m).setCell ⟨g, j, none⟩ (.int .u64 dj[j - 1]!)).setCell ⟨g, j - 1, none⟩ (.int .u64 dj[j]!)).drewN m')) := fun m m' => ((hsw.drewN m).swap j (j - 1) (by omega) (by omega)).drewN m'
                        have HF2 : Hid (Go.Sort.shiftDown ltZ (j - 1) (swp dj j (j - 1)) = Go.Sort.fixDown ltZ a i d0) := (sd_go hj1 hl).symm.trans HF.out
                        clear hl hsw
                        generalize hx1 : dj[j]! = y1 at *
                        generalize hx2 : dj[j - 1]! = y2 at *
                        clear hx1 hx2
                        go_wp2_with fail
                        go_quiet ((go_at_call 34; refine Calls.quiet_of_same (HQ.out _)))
                        go_wp2_with fail
                        go_big_region
                        go_wp2_with fail
                        go_roundw
                        case rel => exact ⟨j - 1, swp dj j (j - 1), by congr 1; omega, by omega, by rw [size_swp]; exact hsj, SZ.out _ 0, HF2.out⟩
                        case measure => simp [intOf]; omega
                      · have HQ : Hid (∀ W, Calls Try.prog 34 #[.int .u64 dj[j]!, .int .u64 dj[j - 1]!] W fun e w' => e = .returned (.bool false) ∧ w' = W) := fun W => hl ▸ lessU_any _ _ W
                        have HF2 : Hid (Go.Sort.fixDown ltZ a i d0 = dj) := HF.out.symm.trans (sd_stop (.inr hl))
                        clear hl hsw
                        generalize hx1 : dj[j]! = y1 at *
                        generalize hx2 : dj[j - 1]! = y2 at *
                        clear hx1 hx2
                        go_wp2_with fail
                        go_quiet ((go_at_call 34; refine Calls.quiet_of_same (HQ.out _)))
                        go_wp2_with fail
                        go_meet
                        exact ⟨dj, HF2.out, hsj, S2.out.drewN _⟩
                    · have hj2 : ¬ (1 : Int) ≤ (j : Int) := by omega
                      have HF2 : Hid (Go.Sort.fixDown ltZ a i d0 = dj) := HF.out.symm.trans (sd_stop (.inl hj1))
                      clear hsw
                      go_wp2_with fail
                      go_meet
                      exact ⟨dj, HF2.out, hsj, S2.out⟩
                · have h21 : ¬ (2 : Int) ≤ (M : Int) := by omega
                  have HF2 : Hid (Go.Sort.fixDown ltZ a i d0 = d0) := by
                    show _ = d0
                    unfold Go.Sort.fixDown
                    rw [if_neg (by omega)]
                  go_wp2_with fail
                  go_meet
                  exact ⟨d0, HF2.out, hsz0, S1.out⟩
              case rest =>
                obtain ⟨d1, hd1, hsz1, hsw1⟩ := hcut
                have S2 : Hid (Sw w g tl d1 wc) := hsw1
                have HE2 : Hid (Go.Sort.partialIns ltZ a b (5 - (s + 1)) i (Go.Sort.fixUp ltZ b i d1) = r) := hd1 ▸ HE.out
                clear hd1 hsw1 HE S1
                by_cases h2 : 2 ≤ M2
                · have h21 : (2 : Int) ≤ (M2 : Int) := by omega
                  go_wp2_with fail
                  go_loopw [10] (fun v9 wz => ∃ (j : Nat) (dj : Array Int), v9 = .int .i64 j ∧ i < j ∧ j ≤ b ∧ dj.size = n ∧ Sw w g tl dj wz ∧ Go.Sort.shiftUp ltZ b j dj = Go.Sort.fixUp ltZ b i d1) (fun v9 _ => b - (intOf v9).toNat)
                  case atStart => exact ⟨i + 1, d1, by go_num, by omega, by omega, hsz1, S2.out, by unfold Go.Sort.fixUp; rw [if_pos (by omega)]⟩
                  case round =>
                    obtain ⟨j, dj, rfl, hij, hjb, hsj, hsw, hF⟩ := hrel
                    have HF : Hid (Go.Sort.shiftUp ltZ b j dj = Go.Sort.fixUp ltZ b i d1) := hF
                    have S3 : Hid (Sw w g tl dj wr) := hsw
                    clear hF
                    by_cases hj1 : j < b
                    · have hj2 : (j : Int) < (b : Int) := by omega
                      have hjn : (j : Int) < (n : Int) := by omega
                      have cj : wr.cell? ⟨g, j, none⟩ = some (.int .u64 dj[j]!) := hsw.cell j (by omega)
                      have ck : wr.cell? ⟨g, j - 1, none⟩ = some (.int .u64 dj[j - 1]!) := hsw.cell (j - 1) (by omega)
                      have fj : ∀ m, (wr.drewN m).frozen? ⟨g, j, none⟩ = false := fun m => (hsw.drewN m).f j
                      have fk : ∀ m, (wr.drewN m).frozen? ⟨g, j - 1, none⟩ = false := fun m => (hsw.drewN m).f (j - 1)
                      have fj0 : wr.frozen? ⟨g, j, none⟩ = false := hsw.f j
                      have fk0 : wr.frozen? ⟨g, j - 1, none⟩ = false := hsw.f (j - 1)
                      rcases Bool.eq_false_or_eq_true (ltZ dj[j]! dj[j - 1]!) with hl | hl
                      · have HQ : Hid (∀ W, Calls Try.prog 34 #[.int .u64 dj[j]!, .int .u64 dj[j - 1]!] W fun e w' => e = .returned (.bool true) ∧ w' = W) := fun W => hl ▸ lessU_any _ _ W
                        have SZ : Hid (∀ m m', Sw w g tl (swp dj j (j - 1)) ((((wr.drewN m).setCell ⟨g, j, none⟩ (.int .u64 dj[j - 1]!)).setCell ⟨g, j - 1, none⟩ (.int .u64 dj[j]!)).drewN m')) := fun m m' => ((hsw.drewN m).swap j (j - 1) (by omega) (by omega)).drewN m'
                        have HF2 : Hid (Go.Sort.shiftUp ltZ b (j + 1) (swp dj j (j - 1)) = Go.Sort.fixUp ltZ b i d1) := (su_go hj1 hl).symm.trans HF.out
                        clear hl hsw
                        generalize hx1 : dj[j]! = y1 at *
                        generalize hx2 : dj[j - 1]! = y2 at *
                        clear hx1 hx2
                        go_wp2_with fail
                        go_quiet ((go_at_call 34; refine Calls.quiet_of_same (HQ.out _)))
                        go_wp2_with fail
                        go_big_region
                        go_wp2_with fail
                        go_roundw
                        case rel => exact ⟨j + 1, swp dj j (j - 1), by go_num, by omega, by omega, by rw [size_swp]; exact hsj, SZ.out _ 0, HF2.out⟩
                        case measure => simp [intOf] <;> omega
                      · have HQ : Hid (∀ W, Calls Try.prog 34 #[.int .u64 dj[j]!, .int .u64 dj[j - 1]!] W fun e w' => e = .returned (.bool false) ∧ w' = W) := fun W => hl ▸ lessU_any _ _ W
                        have HF2 : Hid (Go.Sort.partialIns ltZ a b (5 - (s + 1)) i dj = r) := by
                          have HQ2 : Go.Sort.fixUp ltZ b i d1 = dj := HF.out.symm.trans (su_stop (.inr hl))
                          show _ = r
                          rw [← HQ2]
                          exact HE2.out
                        clear hl hsw
                        generalize hx1 : dj[j]! = y1 at *
                        generalize hx2 : dj[j - 1]! = y2 at *
                        clear hx1 hx2
                        go_wp2_with fail
                        go_quiet ((go_at_call 34; refine Calls.quiet_of_same (HQ.out _)))
                        go_wp2_with fail
                        go_roundw
                        case rel => exact ⟨i, s + 1, dj, rfl, by go_num, hai, hib, by omega, hsj, S3.out.drewN _, HF2.out⟩
                        case measure => simp [intOf] <;> omega
                    · have hj2 : ¬ (j : Int) < (b : Int) := by omega
                      have HF2 : Hid (Go.Sort.partialIns ltZ a b (5 - (s + 1)) i dj = r) := by
                        have HQ2 : Go.Sort.fixUp ltZ b i d1 = dj := HF.out.symm.trans (su_stop (.inl hj1))
                        show _ = r
                        rw [← HQ2]
                        exact HE2.out
                      clear hsw
                      go_wp2_with fail
                      go_roundw
                      case rel => exact ⟨i, s + 1, dj, rfl, by go_num, hai, hib, by omega, hsj, S3.out, HF2.out⟩
                      case measure => simp [intOf] <;> omega
                · have h21 : ¬ (2 : Int) ≤ (M2 : Int) := by omega
                  have HF2 : Hid (Go.Sort.partialIns ltZ a b (5 - (s + 1)) i d1 = r) := by
                    have HQ2 : Go.Sort.fixUp ltZ b i d1 = d1 := by
                      unfold Go.Sort.fixUp
                      rw [if_neg (by omega)]
                    show _ = r
                    have := HE2.out
                    rw [HQ2] at this
                    exact this
                  go_wp2_with fail
                  go_roundw
                  case rel => exact ⟨i, s + 1, d1, rfl, by go_num, hai, hib, by omega, hsz1, S2.out, HF2.out⟩
                  case measure => simp [intOf] <;> omega
          · have HQ : Hid (∀ W, Calls Try.prog 34 #[.int .u64 dk[i]!, .int .u64 dk[i - 1]!] W fun e w' => e = .returned (.bool false) ∧ w' = W) := fun W => hl ▸ lessU_any _ _ W
            have HS2 : Hid (Go.Sort.scanSorted ltZ dk b i0 = Go.Sort.scanSorted ltZ dk b (i + 1)) := HS.out.trans (scan_go hlt hl)
            clear hl hsw
            generalize hx1 : dk[i]! = x1 at *
            generalize hx2 : dk[i - 1]! = x2 at *
            clear hx1 hx2
            go_wp2_with fail
            go_quiet ((go_at_call 34; refine Calls.quiet_of_same (HQ.out _)))
            go_wp2_with fail
            go_roundw
            case rel => exact ⟨i + 1, by go_num, by omega, by omega, HBD.out _, HS2.out⟩
            case measure => simp [intOf] <;> omega
        · obtain rfl : i = b := by omega
          have HE : Hid (r = (dk, true)) := by
            show r = _
            rw [← HR0.out, par_step hs (HS.out.trans (scan_stop (.inl hlt))), if_pos rfl]
          have hl0 : decide ((i : Int) < (i : Int)) = false := decide_eq_false (by omega)
          have hl1 : ¬ (i : Int) < (i : Int) := by omega
          clear hsw
          go_wp2_with fail
          go_quiet (fail)
          go_wp2_with fail
          go_ret
          exact HEND.out true dk _ HE.out (HBD.out _)
    · have hs1 : ¬ (s : Int) < 5 := by omega
      obtain rfl : s = 5 := by omega
      go_wp2_with fail
      go_ret
      exact HEND.out false dk _ HR0.out.symm SK0.out

end Go.Proofs.Ytifddbfcongepaa
