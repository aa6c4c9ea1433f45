/-
  The law LexWorth, walked: true for every number.
-/
import Derived.Test.YtbdhlbigcepglaaDoorLexJoinsWalk
import Derived.Test.YtbdhlbigcepglaaDoorWorthMath
import Derived.Laws.IdiomStrings
namespace Go.Proofs.YtbdhlbigcepglaaDoor
open Go.RowKit

/-- one, of an empty text. -/
def mz : Value → Nat
  | .string s => if s.size = 0 then 1 else 0
  | _ => 0

theorem back1 (w : World) (c : UInt8) : (convert 34 9 (.slice (some ⟨w.heap.size, 0, none⟩) 1 1)).run Tryd.prog (w.alloc (.cells #[.int .u8 c.toNat] 5)) = .ok (.string (bar [c])) (w.alloc (.cells #[.int .u8 c.toNat] 5)) := by
  refine run_convert_bytes_back (w.alloc (.cells #[.int .u8 c.toNat] 5)) 34 9 5 ⟨w.heap.size, 0, none⟩ 1 [c] Tryd.underlying34 Tryd.underlying5 Tryd.underlying9 ?_
  intro j hj
  have h0 : j = 0 := by simp at hj; omega
  subst h0
  exact (blk_new w #[.int .u8 c.toNat] 5).cell 0

theorem Dg.le {b N M : Nat} {T : List UInt8} (h : Dg b N M T) (hb : 0 < b) : M ≤ N := by
  obtain ⟨v, h1, _⟩ := h.ex
  have : M * 1 ≤ M * b ^ T.length := Nat.mul_le_mul_left _ (Nat.pow_pos hb)
  omega

theorem u64_same {x : Int} (h0 : 0 ≤ x) (h1 : x < 18446744073709551616) : IntKind.u64.wrap x = x := by
  rw [IntKind.wrap_u64]
  omega

theorem mz_bar (T : List UInt8) : mz (.string (bar T)) = if T = [] then 1 else 0 := by
  show (if (bar T).size = 0 then 1 else 0) = _
  rw [bar_size]
  cases T <;> rfl

theorem bar_empty (T : List UInt8) : (bar T).toList.isEmpty = decide (T = []) := by
  rw [bar_list]
  cases T <;> rfl

def hexS : ByteArray := ⟨#[48, 49, 50, 51, 52, 53, 54, 55, 56, 57, 97, 98, 99, 100, 101, 102]⟩

theorem hex_at (W : World) : ∀ d, d < 16 → (Instr.index 9 (.string hexS) (.int .u64 (d : Nat))).run Tryd.prog W = .ok (.int .u8 (hexc d).toNat) W
  | 0, _ => by kernel_rfl
  | 1, _ => by kernel_rfl
  | 2, _ => by kernel_rfl
  | 3, _ => by kernel_rfl
  | 4, _ => by kernel_rfl
  | 5, _ => by kernel_rfl
  | 6, _ => by kernel_rfl
  | 7, _ => by kernel_rfl
  | 8, _ => by kernel_rfl
  | 9, _ => by kernel_rfl
  | 10, _ => by kernel_rfl
  | 11, _ => by kernel_rfl
  | 12, _ => by kernel_rfl
  | 13, _ => by kernel_rfl
  | 14, _ => by kernel_rfl
  | 15, _ => by kernel_rfl
  | d + 16, h => absurd h (by omega)

set_option maxRecDepth 4000 in
set_option maxHeartbeats 4000000 in
theorem lexWorth_walk (n : Int) (w : World) (hv : Vars w) (h0 : 0 ≤ n) (h1 : n < 18446744073709551616) :
    Calls Tryd.prog 8 #[.int .u64 n] w fun e w' => e = .returned (.bool true) ∧ Below w.heap.size w w' := by
  have HV : Hid (Vars w) := hv
  obtain ⟨N, rfl⟩ := Int.eq_ofNat_of_zero_le h0
  have HN : Hid (N < 18446744073709551616) := by show _ < _; omega
  clear hv h0 h1
  go_enter Tryd.func8, Tryd.ntmps8
  go_wp2_with (go_at_call 9; refine (awake_any _ HV.out).mono ?_; rintro e w1 ⟨rfl, b1⟩; have V1 : Hid (Vars w1) := HV.out.below b1; have B1 : Hid (Below w.heap.size w w1) := b1; clear b1)
  go_loopw [4, 5] (fun vt vm wr => ∃ (M : Nat) (T : List UInt8), vt = .string (bar T) ∧ vm = .int .u64 M ∧ Dg 10 N M T ∧ Below w.heap.size w wr) (fun vt vm _ => (intOf vm).toNat + mz vt)
  case atStart => exact ⟨N, [], rfl, rfl, dg_new 10 N, B1.out⟩
  case round =>
    obtain ⟨M, T, rfl, rfl, hd, hb⟩ := hrel
    have HB : Hid (Below w.heap.size w wr) := hb
    have HD : Hid (Dg 10 N M T) := hd
    have hTl : (bar T).size ≤ 20 := by rw [bar_size]; exact hd.le10 HN.out
    have HMZ : Hid (mz (.string (bar T)) = if T = [] then 1 else 0) := mz_bar T
    have hemp := bar_empty T
    clear hb
    by_cases hgo : ¬ M = 0 ∨ T = []
    · have HS : Hid (Dg 10 N (M / 10) (hexc (M % 10) :: T)) := hd.step (.inl rfl) hgo
      have HJ : Hid (bar [hexc (M % 10)] ++ bar T = bar (hexc (M % 10) :: T)) := bar_app _ _
      have HJ2 : Hid (mz (.string (bar (hexc (M % 10) :: T))) = 0) := by show _ = _; rw [mz_bar]; rfl
      have hcv := back1 wr (hexc (M % 10))
      have h48 : (48 : Int) + (M : Int) % 10 = ((hexc (M % 10)).toNat : Int) := by
        have := ((hexc_at (show M % 10 < 16 by omega)).2.2.2.1 (by omega)).2
        rw [this]
        omega
      have h256 : ((hexc (M % 10)).toNat : Int) < 256 := by have := (hexc (M % 10)).toNat_lt; omega
      have hc1 : (bar [hexc (M % 10)]).size ≤ 1 := by rw [bar_size]; exact Nat.le_refl _
      have hMd : Hid ((M : Int) / 10 = ((M / 10 : Nat) : Int)) := by show _ = _; omega
      have hwr : IntKind.u64.wrap ((M : Int) / 10) = (M : Int) / 10 := u64_same (by omega) (by have := hd.le (by decide); have := HN.out; omega)
      clear hd
      by_cases hM : M = 0
      · have hTn : T = [] := by rcases hgo with h | h; exact absurd hM h; exact h
        rw [decide_eq_true hTn] at hemp
        have hMi : ¬ (0 : Int) < (M : Int) := by omega
        have hMi2 : ¬ 0 < M := by omega
        have HM : Hid (M = 0 ∧ T = []) := ⟨hM, hTn⟩
        clear hM hTn hgo
        generalize bar [hexc (M % 10)] = C at *
        generalize bar T = BT at *
        go_wp2
        go_roundw
        case rel => exact ⟨M / 10, hexc (M % 10) :: T, by rw [← HJ.out], by rw [← hMd.out], HS.out, HB.out.alloc HB.out.size _⟩
        case measure =>
          rw [HJ.out, HJ2.out, HMZ.out, if_pos HM.out.2]
          simp [intOf]
          omega
      · have hMi : (0 : Int) < (M : Int) := by omega
        have hMi2 : 0 < M := by omega
        clear hgo hM hemp
        generalize bar [hexc (M % 10)] = C at *
        generalize bar T = BT at *
        go_wp2
        go_roundw
        case rel => exact ⟨M / 10, hexc (M % 10) :: T, by rw [← HJ.out], by rw [← hMd.out], HS.out, HB.out.alloc HB.out.size _⟩
        case measure =>
          rw [HJ.out, HJ2.out]
          simp [intOf]
          omega
    · have hM : M = 0 := by rcases Nat.eq_zero_or_pos M with h | h; exact h; exact absurd (.inl (by omega)) hgo
      have hTn : ¬ T = [] := fun h => hgo (.inr h)
      rw [decide_eq_false hTn] at hemp
      have hMi : ¬ (0 : Int) < (M : Int) := by omega
      have hMi2 : ¬ 0 < M := by omega
      have HT0 : Hid (¬ T = []) := hTn
      have HD0 : Hid (Dg 10 N 0 T) := by rw [← hM]; exact hd
      clear hgo hd hM hTn HD
      generalize hBT : bar T = BT at *
      have HBT : Hid (bar T = BT) := hBT
      clear hBT
      go_wp2
      go_loopw [6, 7] (fun vt vm wr => ∃ (M : Nat) (X : List UInt8), vt = .string (bar X) ∧ vm = .int .u64 M ∧ Dg 16 N M X ∧ Below w.heap.size w wr) (fun vt vm _ => (intOf vm).toNat + mz vt)
      case atStart => exact ⟨N, [], rfl, rfl, dg_new 16 N, HB.out⟩
      case round =>
        obtain ⟨K, X, rfl, rfl, hd, hb⟩ := hrel
        have HBK : Hid (Below w.heap.size w wr) := hb
        have hXl : (bar X).size ≤ 16 := by rw [bar_size]; exact hd.le16 HN.out
        have HMX : Hid (mz (.string (bar X)) = if X = [] then 1 else 0) := mz_bar X
        have hempX := bar_empty X
        clear hb
        by_cases hgo : ¬ K = 0 ∨ X = []
        · have HS : Hid (Dg 16 N (K / 16) (hexc (K % 16) :: X)) := hd.step (.inr rfl) hgo
          have HJ : Hid (bar [hexc (K % 16)] ++ bar X = bar (hexc (K % 16) :: X)) := bar_app _ _
          have HJ2 : Hid (mz (.string (bar (hexc (K % 16) :: X))) = 0) := by show _ = _; rw [mz_bar]; rfl
          have hcv := back1 wr (hexc (K % 16))
          have hix : ∀ W : World, (Instr.index 9 (.string ⟨#[48, 49, 50, 51, 52, 53, 54, 55, 56, 57, 97, 98, 99, 100, 101, 102]⟩) (.int .u64 ((K : Int) % 16))).run Tryd.prog W = .ok (.int .u8 (hexc (K % 16)).toNat) W := by
            intro W
            have := hex_at W (K % 16) (Nat.mod_lt _ (by decide))
            rw [show ((K % 16 : Nat) : Int) = (K : Int) % 16 from by omega] at this
            exact this
          have h256 : ((hexc (K % 16)).toNat : Int) < 256 := by have := (hexc (K % 16)).toNat_lt; omega
          have hc1 : (bar [hexc (K % 16)]).size ≤ 1 := by rw [bar_size]; exact Nat.le_refl _
          have hKd : Hid ((K : Int) / 16 = ((K / 16 : Nat) : Int)) := by show _ = _; omega
          have hwr : IntKind.u64.wrap ((K : Int) / 16) = (K : Int) / 16 := u64_same (by omega) (by have := hd.le (by decide); have := HN.out; omega)
          clear hd hemp
          by_cases hK : K = 0
          · have hXn : X = [] := by rcases hgo with h | h; exact absurd hK h; exact h
            rw [decide_eq_true hXn] at hempX
            have hKi : ¬ (0 : Int) < (K : Int) := by omega
            have hKi2 : ¬ 0 < K := by omega
            have HK : Hid (K = 0 ∧ X = []) := ⟨hK, hXn⟩
            clear hK hXn hgo
            generalize bar [hexc (K % 16)] = C at *
            generalize bar X = BX at *
            generalize (hexc (K % 16)).toNat = hc at *
            go_wp2
            go_roundw
            case rel => exact ⟨K / 16, hexc (K % 16) :: X, by rw [← HJ.out], by rw [← hKd.out], HS.out, HBK.out.alloc HBK.out.size _⟩
            case measure =>
              rw [HJ.out, HJ2.out, HMX.out, if_pos HK.out.2]
              simp [intOf]
              omega
          · have hKi : (0 : Int) < (K : Int) := by omega
            have hKi2 : 0 < K := by omega
            clear hgo hK hempX
            generalize bar [hexc (K % 16)] = C at *
            generalize bar X = BX at *
            generalize (hexc (K % 16)).toNat = hc at *
            go_wp2
            go_roundw
            case rel => exact ⟨K / 16, hexc (K % 16) :: X, by rw [← HJ.out], by rw [← hKd.out], HS.out, HBK.out.alloc HBK.out.size _⟩
            case measure =>
              rw [HJ.out, HJ2.out]
              simp [intOf]
              omega
        · have hK : K = 0 := by rcases Nat.eq_zero_or_pos K with h | h; exact h; exact absurd (.inl (by omega)) hgo
          have hXn : ¬ X = [] := fun h => hgo (.inr h)
          rw [decide_eq_false hXn] at hempX
          have hKi : ¬ (0 : Int) < (K : Int) := by omega
          have hKi2 : ¬ 0 < K := by omega
          have hcat : BT ++ ⟨#[32, 48, 120]⟩ ++ bar X = bar (T ++ ([32, 48, 120] ++ X)) := by
            have e : (⟨#[32, 48, 120]⟩ : ByteArray) = bar [32, 48, 120] := rfl
            rw [← HBT.out, e, bar_app, bar_app, List.append_assoc]
          have hsz : (BT ++ ⟨#[32, 48, 120]⟩).size ≤ 23 := by rw [ByteArray.size_append]; show _ + 3 ≤ 23; omega
          have HF : Hid (∀ W, Vars W → Calls Tryd.prog 10 #[.string (bar (T ++ ([32, 48, 120] ++ X)))] W fun e w' => Below W.heap.size W w' ∧ ∃ a cap, e = .returned (.tuple #[.slice a 3 cap, .int .i64 0, .int .i64 (-1)]) ∧ Toks w' a 3 [⟨2, 0, T, N⟩, ⟨2, T.length + 1, 48 :: 120 :: X, N⟩, ⟨4, T.length + 1 + (X.length + 2), [], 0⟩]) := by
            intro W hW
            refine (all_any (bar (T ++ ([32, 48, 120] ++ X))) W hW).mono ?_
            rintro e w' ⟨hb', ht⟩
            rw [lst_bar, all_worth HD0.out (by rw [← hK]; exact hd) HT0.out hXn HN.out] at ht
            obtain ⟨v, rfl, ho⟩ := ht
            obtain ⟨a, cap, rfl, hT⟩ := owns_toks ho
            exact ⟨hb', a, cap, rfl, hT⟩
          have VK : Hid (Vars wr) := HV.out.below HBK.out
          clear hgo hd hK hXn hemp
          generalize bar (T ++ ([32, 48, 120] ++ X)) = F at *
          generalize bar X = BX at *
          go_wp2_with (go_at_call 10; refine (HF.out _ VK.out).mono ?_; rintro e w3 ⟨b3, a, cap, rfl, hT⟩; obtain ⟨g, rfl, hc⟩ := hT.2 (by decide); have c0 : w3.cell? ⟨g, 0, none⟩ = some (.int .i64 2) := (hc 0 _ rfl).1; have c3 : w3.cell? ⟨g, 3, none⟩ = some (.int .u64 N) := (hc 0 _ rfl).2.2.2; have c7 : w3.cell? ⟨g, 7, none⟩ = some (.int .u64 N) := (hc 1 _ rfl).2.2.2; clear hc hT)
          go_ret
          exact ⟨by simp, HBK.out.trans (b3.mono HBK.out.size)⟩

end Go.Proofs.YtbdhlbigcepglaaDoor
