/-
  A part of a row turned round; whether a part is sorted already.
-/
import Derived.Test.YtcckipimfgmmdaaGreatDoorMSrt0
namespace Go.Proofs.YtcckipimfgmmdaaGreatDoor.M
open Go.RowKit
open Go.Sort (swp size_swp PermIn SortedIn)

/-- a part of the row is as it was, but for the order. -/
def Ord (w : World) (g a b : Nat) (tl : List Value) (d : Array Int) (e : Ending) (w' : World) : Prop :=
  e = .returned (.tuple #[]) ∧ ∃ d', PermIn a b d d' ∧ Sw w g tl d' w'

set_option maxHeartbeats 4000000 in
set_option maxRecDepth 8000 in
theorem rev_any (g n cap a b : Nat) (tl : List Value) (d : Array Int) (w : World) (h : Blk w g 23 (cellsA d ++ tl)) (hd : d.size = n) (hab : a < b) (hb : b ≤ n) (hn : n ≤ 1000) :
    Calls Tryz.prog 145 #[.slice (some ⟨g, 0, none⟩) n cap, .int .i64 a, .int .i64 b] w fun e w' => Ord w g a b tl d e w' := by
  have S0 : Hid (Sw w g tl d w) := Sw.refl h
  clear h
  go_enter Tryz.func145, Tryz.ntmps145
  go_wp2
  go_loopw [6, 7] (fun vi vj wr => ∃ (i j : Nat) (dk : Array Int), vi = .int .i64 i ∧ vj = .int .i64 j ∧ a ≤ i ∧ j < b ∧ i ≤ j + 1 ∧ dk.size = n ∧ PermIn a b d dk ∧ Sw w g tl dk wr) (fun vi _ _ => b - (intOf vi).toNat)
  case atStart => exact ⟨a, b - 1, d, rfl, by congr 1; omega, Nat.le_refl _, by omega, by omega, hd, Go.Sort.permIn_refl _ _ _, S0.out⟩
  case round =>
    obtain ⟨i, j, dk, rfl, rfl, hai, hjb, hij, hsk, hP, hsw⟩ := hrel
    have HP : Hid (PermIn a b d dk) := hP
    have S1 : Hid (Sw w g tl dk wr) := hsw
    clear hP
    by_cases hlt : i < j
    · have hl1 : (i : Int) < (j : Int) := by omega
      have bi : (i : Int) < (n : Int) := by omega
      have bj : (j : Int) < (n : Int) := by omega
      have ci : wr.cell? ⟨g, i, none⟩ = some (.int .u32 dk[i]!) := hsw.cell i (by omega)
      have cj : wr.cell? ⟨g, j, none⟩ = some (.int .u32 dk[j]!) := hsw.cell j (by omega)
      have fi : wr.frozen? ⟨g, i, none⟩ = false := hsw.f _
      have fj : wr.frozen? ⟨g, j, none⟩ = false := hsw.f _
      have SZ : Hid (Sw w g tl (swp dk i j) (((wr.setCell ⟨g, i, none⟩ (.int .u32 dk[j]!)).setCell ⟨g, j, none⟩ (.int .u32 dk[i]!)).drew)) := (hsw.swap i j (by omega) (by omega)).drew
      have HP2 : Hid (PermIn a b d (swp dk i j)) := Go.Sort.permIn_trans _ _ _ _ _ HP.out (Go.Sort.swp_permIn dk a b i j hai (by omega) (by omega) hjb (by omega))
      clear hsw
      generalize hx1 : dk[i]! = x1 at *
      generalize hx2 : dk[j]! = x2 at *
      clear hx1 hx2
      go_wp2_with fail
      go_big_region
      go_wp2_with fail
      go_roundw
      case rel => exact ⟨i + 1, j - 1, swp dk i j, by go_num, by congr 1; omega, by omega, by omega, by omega, by rw [size_swp]; exact hsk, HP2.out, SZ.out⟩
      case measure => simp [intOf] <;> omega
    · have hl1 : ¬ (i : Int) < (j : Int) := by omega
      clear hsw
      go_wp2_with fail
      go_end0
      exact ⟨rfl, dk, HP.out, S1.out⟩

/-- whether a part is sorted already. -/
def Psr (w : World) (a b : Nat) (d : Array Int) (e : Ending) (w' : World) : Prop :=
  ∃ q : Nat, e = .returned (.bool (q == 1)) ∧ (q = 1 → SortedIn ltZ a b d) ∧ Below w.heap.size w w'

theorem sorted_one (a : Nat) (d : Array Int) : SortedIn ltZ a (a + 1) d := fun i j h1 h2 h3 => by omega

set_option maxHeartbeats 8000000 in
set_option maxRecDepth 8000 in
theorem partial_any (g n cap a b : Nat) (tl : List Value) (d : Array Int) (w : World) (h : Blk w g 23 (cellsA d ++ tl)) (hd : d.size = n) (hab : a < b) (hb : b ≤ n) (hn : n ≤ 49) :
    Calls Tryz.prog 146 #[.slice (some ⟨g, 0, none⟩) n cap, .int .i64 a, .int .i64 b] w fun e w' => Psr w a b d e w' := by
  have S0 : Hid (Sw w g tl d w) := Sw.refl h
  clear h
  go_enter Tryz.func146, Tryz.ntmps146
  go_wp2
  go_loopw [7, 8] (fun v7 v8 wr => v7 = .int .i64 ((a : Int) + 1) ∧ v8 = .int .i64 0 ∧ wr = w) (fun _ _ _ => 0)
  case atStart => exact ⟨rfl, rfl, rfl⟩
  case round =>
    obtain ⟨rfl, rfl, hw⟩ := hrel
    subst wr
    have e50 : decide ((b : Int) - (a : Int) < 50) = true := decide_eq_true (by omega)
    have e51 : (b : Int) - (a : Int) < 50 := by omega
    go_wp2_with fail
    go_loopw [7] (fun v7 wz => ∃ (i : Nat), v7 = .int .i64 i ∧ a + 1 ≤ i ∧ i ≤ b ∧ SortedIn ltZ a i d ∧ Below w.heap.size w wz) (fun v7 _ => b - (intOf v7).toNat)
    case atStart => exact ⟨a + 1, by go_num, Nat.le_refl _, by omega, sorted_one a d, Below.refl _ _⟩
    case round =>
      obtain ⟨i, rfl, hai, hib, hS, hbw⟩ := hrel
      have HS : Hid (SortedIn ltZ a i d) := hS
      have HBW : Hid (Below w.heap.size w wr) := hbw
      have hsw : Sw w g tl d wr := S0.out.over hbw
      have HBD : Hid (∀ m, Below w.heap.size w (wr.drewN m)) := fun m => hbw.trans ((below_drewN wr m).mono hbw.size)
      clear hS hbw
      by_cases hlt : i < b
      · have hl0 : decide ((i : Int) < (b : Int)) = true := decide_eq_true (by omega)
        have hl1 : (i : Int) < (b : Int) := by omega
        have bi : (i : Int) < (n : Int) := by omega
        have hne : ((i : Int) == (b : Int)) = false := by simp; omega
        have ci : wr.cell? ⟨g, i, none⟩ = some (.int .u32 d[i]!) := hsw.cell i (by omega)
        have ck : wr.cell? ⟨g, i - 1, none⟩ = some (.int .u32 d[i - 1]!) := hsw.cell (i - 1) (by omega)
        have HSn : Hid (ltZ d[i]! d[i - 1]! = false → SortedIn ltZ a (i + 1) d) := fun hl => HS.out.snoc swoZ hl
        clear hsw
        rcases Bool.eq_false_or_eq_true (ltZ d[i]! d[i - 1]!) with hl | hl
        · have HQ : Hid (∀ W, Calls Tryz.prog 147 #[.int .u32 d[i]!, .int .u32 d[i - 1]!] W fun e w' => e = .returned (.bool true) ∧ w' = W) := fun W => hl ▸ lessU_any _ _ W
          clear hl HSn
          generalize hx1 : d[i]! = x1 at *
          generalize hx2 : d[i - 1]! = x2 at *
          clear hx1 hx2
          go_wp2_with fail
          go_quiet ((go_at_call 147; refine Calls.quiet_of_same (HQ.out _)))
          go_wp2_with fail
          go_ret
          exact ⟨0, rfl, fun h => by omega, HBD.out _⟩
        · have HQ : Hid (∀ W, Calls Tryz.prog 147 #[.int .u32 d[i]!, .int .u32 d[i - 1]!] W fun e w' => e = .returned (.bool false) ∧ w' = W) := fun W => hl ▸ lessU_any _ _ W
          have HS2 : Hid (SortedIn ltZ a (i + 1) d) := HSn.out hl
          clear hl HSn
          generalize hx1 : d[i]! = x1 at *
          generalize hx2 : d[i - 1]! = x2 at *
          clear hx1 hx2
          go_wp2_with fail
          go_quiet ((go_at_call 147; refine Calls.quiet_of_same (HQ.out _)))
          go_wp2_with fail
          go_roundw
          case rel => exact ⟨i + 1, by go_num, by omega, by omega, HS2.out, HBD.out _⟩
          case measure => simp [intOf] <;> omega
      · obtain rfl : i = b := by omega
        have hl0 : decide ((i : Int) < (i : Int)) = false := decide_eq_false (by omega)
        have hl1 : ¬ (i : Int) < (i : Int) := by omega
        clear hsw
        go_wp2_with fail
        go_quiet (fail)
        go_wp2_with fail
        go_ret
        exact ⟨1, rfl, fun _ => HS.out, HBD.out _⟩

end Go.Proofs.YtcckipimfgmmdaaGreatDoor.M
