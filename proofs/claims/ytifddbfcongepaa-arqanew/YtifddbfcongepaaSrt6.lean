/-
  A part of a row, three of whose numbers are put elsewhere.
-/
import Derived.Test.YtifddbfcongepaaSrt5
import Derived.Test.YtifddbfcongepaaShelf
import Derived.Sort.LotD1
import Derived.Sort.LotD5
import Derived.Laws.Bits64b
namespace Go.Proofs.Ytifddbfcongepaa
open Go.RowKit
open Go.Sort (swp size_swp PermIn SortedIn)

/-- the row, and a number beside it that looks drawn. -/
structure Rn (w : World) (g s : Nat) (tl : List Value) (d : Array Int) (R : Nat) (X : World) : Prop where
  sw : Sw w g tl d X
  rn : Blk X s 75 [.int .u64 R]
theorem Rn.next {w X : World} {g s R : Nat} {tl : List Value} {d : Array Int} (h : Rn w g s tl d R X) (hne : g ≠ s) (hs : w.heap.size ≤ s) (R' m : Nat) : Rn w g s tl d R' ((X.setCell ⟨s, 0, none⟩ (.int .u64 R')).drewN m) := by
  have h1 : Rn w g s tl d R' (X.setCell ⟨s, 0, none⟩ (.int .u64 R')) := by
    refine ⟨⟨h.sw.blk.other _ _ hne, h.sw.grow.os, h.sw.grow.tape, h.sw.grow.output, by have := h.sw.grow.size; simpa using this, fun k hk hn => ?_⟩, h.rn.set 0 _⟩
    rw [heap_setCell_other X ⟨s, 0, none⟩ k _ (fun e => by have : k = s := e; omega)]
    exact h.sw.grow.block k hk hn
  exact ⟨h1.sw.drewN m, h1.rn.over (below_drewN _ m)⟩
theorem Rn.swap {w X : World} {g s R : Nat} {tl : List Value} {d : Array Int} (h : Rn w g s tl d R X) (hne : g ≠ s) (i j : Nat) (hi : i < d.size) (hj : j < d.size) :
    Rn w g s tl (swp d i j) R ((X.setCell ⟨g, i, none⟩ (.int .u64 d[j]!)).setCell ⟨g, j, none⟩ (.int .u64 d[i]!)).drew :=
  ⟨(h.sw.swap i j hi hj).drew, ((h.rn.other ⟨g, i, none⟩ _ (Ne.symm hne)).other ⟨g, j, none⟩ _ (Ne.symm hne)).drew⟩

set_option maxHeartbeats 8000000 in
set_option maxRecDepth 8000 in
theorem break_any (g n cap a b : Nat) (tl : List Value) (d : Array Int) (w : World) (h : Blk w g 31 (cellsA d ++ tl)) (hd : d.size = n) (hab : a + 12 < b) (hb : b ≤ n) (hn : n ≤ 1000) :
    Calls Try.prog 30 #[.slice (some ⟨g, 0, none⟩) n cap, .int .i64 a, .int .i64 b] w fun e w' => Ord w g a b tl d e w' := by
  obtain ⟨L, hL⟩ : ∃ L, b - a = L := ⟨_, rfl⟩
  have e8 : (b : Int) - (a : Int) = (L : Int) := by omega
  have w8 : IntKind.i64.wrap ((b : Int) - (a : Int)) = (L : Int) := by rw [IntKind.wrap_i64]; omega
  have hL1 : 12 < L := by omega
  have hL2 : L ≤ 1000 := by omega
  have hL3 : a + L ≤ b := by omega
  obtain ⟨M, hM⟩ : ∃ M : Nat, M = 1 <<< Go.Sort.bitsLen L := ⟨_, rfl⟩
  have hM1 : 1 ≤ M := by rw [hM, Nat.one_shiftLeft]; exact Nat.two_pow_pos _
  have hM2 : M ≤ 2 * L := by rw [hM, Nat.one_shiftLeft]; exact Go.Sort.two_pow_bitsLen_le (by omega)
  have HNP : Hid (∀ W, Calls Try.prog 40 #[.int .i64 (L : Int)] W fun e w' => e = .returned (.int .u64 (M : Int)) ∧ w' = W) := by
    show ∀ W, _
    rw [hM]
    exact fun W => Try.nextPow L (by omega) W
  clear hM
  have hne : g ≠ w.heap.size := Nat.ne_of_lt h.lt
  have H0 : Hid (Rn w g w.heap.size tl d L (w.alloc (Obj.cells #[.int .u64 (L : Int)] 75))) := ⟨(Sw.refl h).over (below_new w _), blk_new w _ _⟩
  have HNE : Hid (g ≠ w.heap.size) := hne
  clear h hL hne
  go_enter Try.func30, Try.ntmps30
  go_wp2_with (first | (go_at_call 40; refine (HNP.out _).mono ?_; rintro e w' ⟨rfl, rfl⟩))
  generalize (w.alloc (Obj.cells #[.int .u64 (L : Int)] 75)) = X at *
  go_loopw [9] (fun vi wr => ∃ (i R : Nat) (dk : Array Int), vi = .int .i64 i ∧ a + L / 4 * 2 ≤ i + 1 ∧ i ≤ a + L / 4 * 2 + 2 ∧ R < 18446744073709551616 ∧ dk.size = n ∧ PermIn a b d dk ∧ Rn w g w.heap.size tl dk R wr) (fun vi _ => a + L / 4 * 2 + 3 - (intOf vi).toNat)
  case atStart => exact ⟨a + L / 4 * 2 - 1, L, d, by congr 1; omega, by omega, by omega, by omega, hd, Go.Sort.permIn_refl _ _ _, H0.out⟩
  case round =>
    obtain ⟨i, R, dk, rfl, hi1, hi2, hR, hsk, hP, hrn⟩ := hrel
    have HP : Hid (PermIn a b d dk) := hP
    have HR : Hid (Rn w g w.heap.size tl dk R wr) := hrn
    clear hP
    by_cases hlt : i ≤ a + L / 4 * 2 + 1
    · have hl1 : (i : Int) ≤ (a : Int) + (L : Int) / 4 * 2 + 1 := by omega
      obtain ⟨R', hR'⟩ : ∃ R' : Nat, R' = Go.Sort.xorNextN R := ⟨_, rfl⟩
      have lR' : R' < 18446744073709551616 := by rw [hR']; exact Go.Sort.xorNextN_lt R hR
      obtain ⟨O, hO⟩ : ∃ O : Nat, O = R' &&& (M - 1) := ⟨_, rfl⟩
      have lO : O ≤ M - 1 := by rw [hO]; exact Nat.and_le_right
      have eAnd : bits .and .u64 (R' : Int) ((M : Int) - 1) = (O : Int) := by
        rw [show ((M : Int) - 1) = ((M - 1 : Nat) : Int) by omega, bits_and_u64_nat _ _ lR' (by omega), hO]
      have HNX : Hid (Calls Try.prog 41 #[.pointer (some ⟨w.heap.size, 0, none⟩)] wr fun e w' => e = .returned (.int .u64 (R' : Int)) ∧ w' = (wr.setCell ⟨w.heap.size, 0, none⟩ (.int .u64 (R' : Int))).drewN 3) := by
        show Calls _ _ _ _ _
        rw [hR']
        exact Try.xorshift_Next _ _ R hR wr (hrn.rn.cell 0) (hrn.rn.f 0)
      have H3 : Hid (Rn w g w.heap.size tl dk R' ((wr.setCell ⟨w.heap.size, 0, none⟩ (.int .u64 (R' : Int))).drewN 3)) := hrn.next HNE.out (Nat.le_refl _) R' 3
      clear hR' hO hrn hR
      by_cases hLO : L ≤ O
      · have hLO1 : (L : Int) ≤ (O : Int) := by omega
        obtain ⟨P, hPe⟩ : ∃ P : Nat, (O : Int) - (L : Int) = P := ⟨O - L, by omega⟩
        have wP : IntKind.i64.wrap ((O : Int) - (L : Int)) = (P : Int) := by rw [IntKind.wrap_i64]; omega
        have hP1 : P < L := by omega
        obtain ⟨q, hq⟩ : ∃ q : Nat, (a : Int) + (P : Int) = q := ⟨a + P, by omega⟩
        have wq : IntKind.i64.wrap ((a : Int) + (P : Int)) = (q : Int) := by rw [IntKind.wrap_i64]; omega
        have hq1 : a ≤ q := by omega
        have hq2 : q < b := by omega
        go_wp2_with (first | (go_at_call 41; refine HNX.out.mono ?_; rintro e w' ⟨rfl, rfl⟩))
        generalize ((wr.setCell ⟨w.heap.size, 0, none⟩ (.int .u64 (R' : Int))).drewN 3) = w2 at *
        obtain ⟨x1, HX1⟩ : ∃ x, Hid (dk[i]! = x) := ⟨_, rfl⟩
        obtain ⟨x2, HX2⟩ : ∃ x, Hid (dk[q]! = x) := ⟨_, rfl⟩
        have c1 : w2.cell? ⟨g, i, none⟩ = some (.int .u64 x1) := HX1.out ▸ H3.out.sw.cell i (by omega)
        have c2 : w2.cell? ⟨g, q, none⟩ = some (.int .u64 x2) := HX2.out ▸ H3.out.sw.cell q (by omega)
        have f1 : w2.frozen? ⟨g, i, none⟩ = false := H3.out.sw.f _
        have f2 : w2.frozen? ⟨g, q, none⟩ = false := H3.out.sw.f _
        obtain ⟨v2, c3⟩ : ∃ u, (w2.setCell ⟨g, i, none⟩ (.int .u64 x2)).cell? ⟨g, q, none⟩ = some u := ⟨_, (H3.out.sw.set i _ (by omega)).cell q (by simp; omega)⟩
        have f3 : (w2.setCell ⟨g, i, none⟩ (.int .u64 x2)).frozen? ⟨g, q, none⟩ = false := (H3.out.sw.set i _ (by omega)).f _
        have SZ : Hid (Rn w g w.heap.size tl (swp dk i q) R' ((w2.setCell ⟨g, i, none⟩ (.int .u64 x2)).setCell ⟨g, q, none⟩ (.int .u64 x1)).drew) := HX1.out ▸ HX2.out ▸ H3.out.swap HNE.out i q (by omega) (by omega)
        have HP2 : Hid (PermIn a b d (swp dk i q)) := Go.Sort.permIn_trans _ _ _ _ _ HP.out (Go.Sort.swp_permIn dk a b i q (by omega) (by omega) hq1 hq2 (by omega))
        have b1 : (i : Int) < (n : Int) := by omega
        have b2 : (q : Int) < (n : Int) := by omega
        go_big_region
        go_wp2_with fail
        go_roundw
        case rel => exact ⟨i + 1, R', _, by go_num, by omega, by omega, lR', by rw [size_swp]; exact hsk, HP2.out, SZ.out⟩
        case measure => simp [intOf] <;> omega
      · have hLO1 : ¬ (L : Int) ≤ (O : Int) := by omega
        obtain ⟨P, hPe⟩ : ∃ P : Nat, O = P := ⟨O, rfl⟩
        subst hPe
        have hP1 : O < L := by omega
        obtain ⟨q, hq⟩ : ∃ q : Nat, (a : Int) + (O : Int) = q := ⟨a + O, by omega⟩
        have wq : IntKind.i64.wrap ((a : Int) + (O : Int)) = (q : Int) := by rw [IntKind.wrap_i64]; omega
        have hq1 : a ≤ q := by omega
        have hq2 : q < b := by omega
        go_wp2_with (first | (go_at_call 41; refine HNX.out.mono ?_; rintro e w' ⟨rfl, rfl⟩))
        generalize ((wr.setCell ⟨w.heap.size, 0, none⟩ (.int .u64 (R' : Int))).drewN 3) = w2 at *
        obtain ⟨x1, HX1⟩ : ∃ x, Hid (dk[i]! = x) := ⟨_, rfl⟩
        obtain ⟨x2, HX2⟩ : ∃ x, Hid (dk[q]! = x) := ⟨_, rfl⟩
        have c1 : w2.cell? ⟨g, i, none⟩ = some (.int .u64 x1) := HX1.out ▸ H3.out.sw.cell i (by omega)
        have c2 : w2.cell? ⟨g, q, none⟩ = some (.int .u64 x2) := HX2.out ▸ H3.out.sw.cell q (by omega)
        have f1 : w2.frozen? ⟨g, i, none⟩ = false := H3.out.sw.f _
        have f2 : w2.frozen? ⟨g, q, none⟩ = false := H3.out.sw.f _
        obtain ⟨v2, c3⟩ : ∃ u, (w2.setCell ⟨g, i, none⟩ (.int .u64 x2)).cell? ⟨g, q, none⟩ = some u := ⟨_, (H3.out.sw.set i _ (by omega)).cell q (by simp; omega)⟩
        have f3 : (w2.setCell ⟨g, i, none⟩ (.int .u64 x2)).frozen? ⟨g, q, none⟩ = false := (H3.out.sw.set i _ (by omega)).f _
        have SZ : Hid (Rn w g w.heap.size tl (swp dk i q) R' ((w2.setCell ⟨g, i, none⟩ (.int .u64 x2)).setCell ⟨g, q, none⟩ (.int .u64 x1)).drew) := HX1.out ▸ HX2.out ▸ H3.out.swap HNE.out i q (by omega) (by omega)
        have HP2 : Hid (PermIn a b d (swp dk i q)) := Go.Sort.permIn_trans _ _ _ _ _ HP.out (Go.Sort.swp_permIn dk a b i q (by omega) (by omega) hq1 hq2 (by omega))
        have b1 : (i : Int) < (n : Int) := by omega
        have b2 : (q : Int) < (n : Int) := by omega
        go_big_region
        go_wp2_with fail
        go_roundw
        case rel => exact ⟨i + 1, R', _, by go_num, by omega, by omega, lR', by rw [size_swp]; exact hsk, HP2.out, SZ.out⟩
        case measure => simp [intOf] <;> omega
    · have hl1 : ¬ (i : Int) ≤ (a : Int) + (L : Int) / 4 * 2 + 1 := by omega
      clear hrn
      go_wp2_with fail
      go_end0
      exact ⟨rfl, dk, HP.out, HR.out.sw⟩

end Go.Proofs.Ytifddbfcongepaa
