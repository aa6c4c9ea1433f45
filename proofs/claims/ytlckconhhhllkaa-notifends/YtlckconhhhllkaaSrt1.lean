/-
  Sorting by insertion.
-/
import Derived.Test.YtlckconhhhllkaaSrt0
namespace Go.Proofs.Ytlckconhhhllkaa
open Go.RowKit
open Go.Sort (insInner insOuter swp size_swp)

theorem insI_go {a j : Nat} {d : Array Int} (h : a < j) (hl : ltZ d[j]! d[j - 1]! = true) : insInner ltZ a j d = insInner ltZ a (j - 1) (swp d j (j - 1)) := by
  obtain ⟨m, rfl⟩ : ∃ m, j = m + 1 := ⟨j - 1, by omega⟩
  show (if (decide (m + 1 > a) && ltZ d[m + 1]! d[m]!) = true then _ else _) = _
  rw [if_pos]
  · rfl
  · rw [decide_eq_true (by omega)]
    exact hl
theorem insI_stop {a j : Nat} {d : Array Int} (h : j ≤ a ∨ ltZ d[j]! d[j - 1]! = false) : insInner ltZ a j d = d := by
  cases j with
  | zero => rfl
  | succ m =>
    show (if (decide (m + 1 > a) && ltZ d[m + 1]! d[m]!) = true then _ else _) = _
    rw [if_neg]
    rcases h with h | h
    · rw [decide_eq_false (by omega)]; simp
    · simp only [Nat.add_sub_cancel] at h
      rw [h]; simp
theorem insO_go {a b i : Nat} {d : Array Int} (h : i < b) : insOuter ltZ a b i d = insOuter ltZ a b (i + 1) (insInner ltZ a i d) := by
  rw [insOuter, if_pos h]
theorem insO_stop {a b i : Nat} {d : Array Int} (h : ¬ i < b) : insOuter ltZ a b i d = d := by
  rw [insOuter, if_neg h]

set_option maxHeartbeats 4000000 in
set_option maxRecDepth 8000 in
theorem ins_any (g n cap a b : Nat) (tl : List Value) (d : Array Int) (w : World) (h : Blk w g 23 (cellsA d ++ tl)) (hd : d.size = n) (hab : a ≤ b) (hb : b ≤ n) (hn : n ≤ 1000) :
    Calls Try.prog 47 #[.slice (some ⟨g, 0, none⟩) n cap, .int .i64 a, .int .i64 b] w fun e w' => e = .returned (.tuple #[]) ∧ Sw w g tl (Go.Sort.insertionSort ltZ d a b) w' := by
  have S0 : Hid (Sw w g tl d w) := Sw.refl h
  have HLs : Hid (∀ x y W, Calls Try.prog 53 #[.int .u64 x, .int .u64 y] W fun e w' => e = .returned (.bool (ltZ x y)) ∧ w' = W) := lessU_any
  clear h
  go_enter Try.func47, Try.ntmps47
  go_wp2
  go_loopw [6] (fun vi wr => ∃ (i : Nat) (dk : Array Int), vi = .int .i64 i ∧ a < i ∧ i ≤ b + 1 ∧ dk.size = n ∧ Sw w g tl dk wr ∧ insOuter ltZ a b i dk = insOuter ltZ a b (a + 1) d) (fun vi _ => b + 1 - (intOf vi).toNat)
  case atStart => exact ⟨a + 1, d, by go_num, by omega, by omega, hd, S0.out, rfl⟩
  case round =>
    obtain ⟨i, dk, rfl, hai, hib, hsk, hsw, hO⟩ := hrel
    have HO : Hid (insOuter ltZ a b i dk = insOuter ltZ a b (a + 1) d) := hO
    have S1 : Hid (Sw w g tl dk wr) := hsw
    clear hO hsw
    by_cases hlt : i < b
    · have hi1 : (i : Int) < (b : Int) := by omega
      go_wp2_with fail
      go_loopw [7] (fun vj wz => ∃ (j : Nat) (dj : Array Int), vj = .int .i64 j ∧ a ≤ j ∧ j ≤ i ∧ dj.size = n ∧ Sw w g tl dj wz ∧ insInner ltZ a j dj = insInner ltZ a i dk) (fun vj _ => (intOf vj).toNat)
      case atStart => exact ⟨i, dk, rfl, by omega, Nat.le_refl _, hsk, S1.out, rfl⟩
      case round =>
        obtain ⟨j, dj, rfl, haj, hji, hsj, hsw, hI⟩ := hrel
        have HI : Hid (insInner ltZ a j dj = insInner ltZ a i dk) := hI
        have S2 : Hid (Sw w g tl dj wr) := hsw
        have HOUT : Hid ((j ≤ a ∨ ltZ dj[j]! dj[j - 1]! = false) → insOuter ltZ a b (i + 1) dj = insOuter ltZ a b (a + 1) d) := fun hs => by
          rw [← HO.out, insO_go hlt, ← HI.out, insI_stop hs]
        clear hI
        by_cases hja : a < j
        · have hja1 : decide ((a : Int) < (j : Int)) = true := decide_eq_true (by omega)
          have hja2 : (a : Int) < (j : Int) := by omega
          have hjn : (j : Int) < (n : Int) := by omega
          have cj : wr.cell? ⟨g, j, none⟩ = some (.int .u64 dj[j]!) := hsw.cell j (by omega)
          have ck : wr.cell? ⟨g, j - 1, none⟩ = some (.int .u64 dj[j - 1]!) := hsw.cell (j - 1) (by omega)
          have fj : wr.frozen? ⟨g, j, none⟩ = false := hsw.f j
          have fk : wr.frozen? ⟨g, j - 1, none⟩ = false := hsw.f (j - 1)
          have SZ : Hid (∀ m, Sw w g tl (swp dj j (j - 1)) (((wr.drewN m).setCell ⟨g, j, none⟩ (.int .u64 dj[j - 1]!)).setCell ⟨g, j - 1, none⟩ (.int .u64 dj[j]!))) := fun m => (hsw.drewN m).swap j (j - 1) (by omega) (by omega)
          have HGO : Hid (ltZ dj[j]! dj[j - 1]! = true → insInner ltZ a (j - 1) (swp dj j (j - 1)) = insInner ltZ a i dk) := fun hl => by rw [← HI.out, insI_go hja hl]
          clear hsw
          generalize dj[j]! = xj at *
          generalize dj[j - 1]! = xk at *
          rcases Bool.eq_false_or_eq_true (ltZ xj xk) with hl | hl
          · have HQ : Hid (∀ W, Calls Try.prog 53 #[.int .u64 xj, .int .u64 xk] W fun e w' => e = .returned (.bool true) ∧ w' = W) := fun W => hl ▸ lessU_any xj xk W
            go_wp2_with fail
            go_quiet ((go_at_call 53; refine Calls.quiet_of_same (HQ.out _)))
            go_wp2_with fail
            go_big_region
            go_wp2_with fail
            go_roundw
            case rel => exact ⟨j - 1, swp dj j (j - 1), by congr 1; omega, by omega, by omega, by rw [size_swp]; exact hsj, SZ.out _, HGO.out hl⟩
            case measure => simp [intOf]; omega
          · have HQ : Hid (∀ W, Calls Try.prog 53 #[.int .u64 xj, .int .u64 xk] W fun e w' => e = .returned (.bool false) ∧ w' = W) := fun W => hl ▸ lessU_any xj xk W
            go_wp2_with fail
            go_quiet ((go_at_call 53; refine Calls.quiet_of_same (HQ.out _)))
            go_wp2_with fail
            go_roundw
            case rel => exact ⟨i + 1, dj, by go_num, by omega, by omega, hsj, S2.out.drewN _, HOUT.out (.inr hl)⟩
            case measure => simp [intOf]; omega
        · have hja1 : decide ((a : Int) < (j : Int)) = false := decide_eq_false (by omega)
          have hja2 : ¬ (a : Int) < (j : Int) := by omega
          clear hsw
          go_wp2_with fail
          go_quiet (fail)
          go_wp2_with fail
          go_roundw
          case rel => exact ⟨i + 1, dj, by go_num, by omega, by omega, hsj, S2.out.drewN _, HOUT.out (.inl (by omega))⟩
          case measure => simp [intOf]; omega
    · have hge : ¬ (i : Int) < (b : Int) := by omega
      go_wp2_with fail
      go_end0
      exact ⟨rfl, by unfold Go.Sort.insertionSort; rw [← HO.out, insO_stop hlt]; exact S1.out⟩

end Go.Proofs.Ytlckconhhhllkaa
