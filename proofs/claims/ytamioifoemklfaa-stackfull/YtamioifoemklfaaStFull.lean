/-
  StackFull: there may be just so many filters, of so much cost.
-/
import Derived.Test.YtamioifoemklfaaStBlt
namespace Go.Proofs.Ytamioifoemklfaa
open Go.RowKit

/-- so many that end a program. -/
def rets (n : Nat) : List V.In := List.replicate n ⟨6, 0, 0, 2147418112⟩
theorem rets_len (n : Nat) : (rets n).length = n := List.length_replicate
theorem rets_ok (n : Nat) : ∀ x ∈ rets n, x.ok := fun x hx => by
  have e := List.eq_of_mem_replicate hx
  subst e
  unfold V.In.ok
  decide
theorem rets_snoc (n : Nat) : rets (n + 1) = rets n ++ [⟨6, 0, 0, 2147418112⟩] := List.replicate_succ'
theorem fault_ret (n : Nat) : V.fault ⟨6, 0, 0, 2147418112⟩ n = 0 := by
  have h1 : V.knownB 6 = true := by decide +kernel
  have h2 : V.loadsB 6 2147418112 = false := by decide +kernel
  have h3 : V.reckB 6 2147418112 = false := by decide +kernel
  have h4 : V.jumpsB 6 = false := by decide +kernel
  have h5 : V.isIn V.endL 6 = true := by decide +kernel
  simp [V.fault, V.outB, h1, h2, h3, h4, h5]
theorem ff_rets (n : Nat) (p : Int) : (V.ff (rets n) p).1 = 0 := by
  induction n generalizing p with
  | zero => rfl
  | succ n ih =>
    show (V.ff (⟨6, 0, 0, 2147418112⟩ :: rets n) p).1 = 0
    unfold V.ff
    simp only [fault_ret, if_true]
    exact ih _
theorem chk_rets {n : Nat} (h0 : 0 < n) (h1 : n ≤ 4096) : (V.chk (rets n)).1 = 0 := by
  unfold V.chk
  rw [rets_len, if_neg (by omega), if_neg (by omega)]
  exact ff_rets n 0
theorem cost_rep (k : Nat) (l : List V.In) : costL (List.replicate k l) = k * (l.length + 4) := by
  unfold costL
  rw [List.map_replicate, List.sum_replicate_nat]
theorem att_rep {n : Nat} (h0 : 0 < n) (h1 : n ≤ 4096) (k : Nat) : attE (List.replicate k (rets n)) (rets n) = if k < 32 ∧ (k + 1) * (n + 4) ≤ 32768 then 0 else 16 := by
  unfold attE
  rw [if_pos (chk_rets h0 h1), List.length_replicate, cost_rep, rets_len, Nat.add_mul, Nat.one_mul]
  by_cases h : 32 ≤ k ∨ 32768 < k * (n + 4) + (n + 4)
  · rw [if_pos h, if_neg (by omega)]
  · rw [if_neg h, if_pos (by omega)]

set_option maxRecDepth 8000 in
set_option maxHeartbeats 4000000 in
theorem full_walk (w : World) (z : Int) : Calls Try.prog 7 #[.int .i64 z] w fun e w' => e = .returned (.bool true) ∧ Below w.heap.size w w' := by
  by_cases hz1 : z < 1
  · have hz2 : decide (z < 1) = true := by simpa using hz1
    go_enter Try.func7, Try.ntmps7
    go_wp2_with (first | (go_at_call 8; refine (awake_any _).mono ?_; rintro e w1 ⟨rfl, b1⟩))
    go_ret
    exact ⟨rfl, b1⟩
  · have hz2 : decide (z < 1) = false := by simpa using hz1
    by_cases hz3 : 4096 < z
    · have hz4 : decide ((4096 : Int) < z) = true := by simpa using hz3
      go_enter Try.func7, Try.ntmps7
      go_wp2_with (first | (go_at_call 8; refine (awake_any _).mono ?_; rintro e w1 ⟨rfl, b1⟩))
      go_ret
      exact ⟨rfl, b1⟩
    · have hz4 : decide ((4096 : Int) < z) = false := by simpa using hz3
      obtain ⟨n, rfl⟩ : ∃ n : Nat, z = n := ⟨z.toNat, by omega⟩
      have HN : Hid (0 < n ∧ n ≤ 4096) := ⟨by omega, by omega⟩
      clear hz1 hz3
      go_enter Try.func7, Try.ntmps7
      go_wp2_with (first | (go_at_call 8; refine (awake_any _).mono ?_; rintro e w1 ⟨rfl, b1⟩))
      go_loopw [4, 5] (fun v4 vi wr => ∃ i : Nat, vi = .int .i64 i ∧ i ≤ n ∧ wr.ownsRow w1.heap.size 56 4 v4 i (V.cellsI (rets i)) ∧ Below w1.heap.size w1 wr) (fun _ vi _ => n - (intOf vi).toNat)
      case atStart => exact ⟨0, rfl, Nat.zero_le _, own_nil _ _, Below.refl _ _⟩
      case round =>
        obtain ⟨i, rfl, hi2, ho, hb⟩ := hrel
        have HO : Hid (wr.ownsRow w1.heap.size 56 4 _ i (V.cellsI (rets i))) := ho
        have HB : Hid (Below w1.heap.size w1 wr) := hb
        obtain ⟨a4, q4, rfl⟩ := own_slice ho
        clear ho hb
        by_cases hlt : i < n
        · have hi1 : (i : Int) < (n : Int) := by omega
          have HI : Hid (i + 1 ≤ 100000) := by have := HN.out.2; unfold Hid; omega
          have hn4 : n ≤ 4096 := HN.out.2
          go_wp2_with (first | (at_builtin; refine app_rows rfl _ _ rfl w1.heap.size _ i (rets i) rfl (HO.out.alloc _) 0 _ 1 [⟨6, 0, 0, 2147418112⟩] rfl (own_in wr 0 (Nat.zero_le _) 6 0 0 2147418112 _ rfl) HI.out (by have := HB.out.size; simp; omega) ?_; intro v' w3 hg3; go_frame))
          go_roundw
          case rel =>
            refine ⟨i + 1, by go_num, hlt, ?_, hg3.below (HO.out.alloc _) (HB.out.alloc HB.out.size _) (by have := HB.out.size; simp; omega)⟩
            have := hg3.own
            rw [← rets_snoc] at this
            exact this
          case measure => simp [intOf]; omega
        · have hi1 : ¬ (i : Int) < (n : Int) := by omega
          obtain ⟨wa, hwa⟩ : ∃ wa, wa = wr := ⟨_, rfl⟩
          subst hwa
          have ei : i = n := by omega
          have HNw : Hid (StkV (wa.alloc (Obj.cells #[.slice none 0 0, .slice none 0 0] 34)) wa.heap.size (.slice none 0 0) (.slice none 0 0) [] ∧ Below wa.heap.size wa (wa.alloc (Obj.cells #[.slice none 0 0, .slice none 0 0] 34)) ∧ (wa.alloc (Obj.cells #[.slice none 0 0, .slice none 0 0] 34)).ownsRow w1.heap.size 56 4 (.slice a4 i q4) n (V.cellsI (rets n))) := ⟨stk_new wa, below_new wa _, by have := HO.out.alloc (Obj.cells #[.slice none 0 0, .slice none 0 0] 34); rw [ei] at this; rw [ei]; exact this⟩
          clear ei
          go_wp2_with fail
          generalize (wa.alloc (Obj.cells #[.slice none 0 0, .slice none 0 0] 34)) = X1 at *
          go_loopw [7, 8] (fun v7 vi wz => ∃ (j k : Nat) (vc ve : Value), vi = .int .i64 j ∧ v7 = .int .i64 k ∧ j ≤ 40 ∧ k ≤ 32 ∧ k * (n + 4) ≤ 32768 ∧ StkV wz wa.heap.size vc ve (List.replicate k (rets n)) ∧ wz.ownsRow w1.heap.size 56 4 (.slice a4 i q4) n (V.cellsI (rets n)) ∧ Below wa.heap.size wa wz) (fun _ vi _ => 40 - (intOf vi).toNat)
          case atStart => exact ⟨0, 0, _, _, rfl, rfl, by decide, by decide, by omega, HNw.out.1, HNw.out.2.2, HNw.out.2.1⟩
          case round =>
            obtain ⟨j, k, vc, ve, rfl, rfl, hj, hk, hkc, hs, ho, hb⟩ := hrel
            have hn := HN.out
            have HBt : Hid (∀ W, Below wa.heap.size wa W → Below w.heap.size w W) := fun W hW => (b1.trans (HB.out.mono b1.size)).trans (hW.mono (Nat.le_trans b1.size HB.out.size))
            have hfl := fl_of_own (l := rets n) (by rw [rets_len]; exact ho) (rets_ok n)
            rw [show (.slice a4 i q4 : Value) = .slice a4 i q4 from rfl] at hfl
            have hok : OkS (List.replicate k (rets n)) := ⟨fun l hl => by rw [List.eq_of_mem_replicate hl]; exact ⟨chk_rets hn.1 hn.2, rets_ok n⟩, by rw [List.length_replicate]; exact hk, by rw [cost_rep, rets_len]; exact hkc⟩
            have HA : Hid (Calls Try.prog 10 #[.pointer (some ⟨wa.heap.size, 0, none⟩), .slice a4 i q4] _ fun e Y => AttT _ wa.heap.size vc ve (List.replicate k (rets n)) (rets n) e Y) := attach_any _ wa.heap.size vc ve _ _ _ hs hok hfl
            have hbk := hs.blk
            have hrow : ∀ Y, World.grownBy _ Y (some wa.heap.size) → Y.ownsRow w1.heap.size 56 4 (.slice a4 i q4) n (V.cellsI (rets n)) := fun Y hg => ho.kept hg (row_ne (by decide) ho hbk)
            have HRow : Hid (∀ Y, World.grownBy _ Y (some wa.heap.size) → Y.ownsRow w1.heap.size 56 4 (.slice a4 i q4) n (V.cellsI (rets n))) := hrow
            have HBz : Hid (Below wa.heap.size wa _) := hb
            have HK : Hid (k ≤ 32 ∧ k * (n + 4) ≤ 32768 ∧ j ≤ 40) := ⟨hk, hkc, hj⟩
            by_cases hj4 : j < 40
            · have hj1 : (j : Int) < 40 := by omega
              have hj5 : decide ((j : Int) < 40) = true := by simpa using hj1
              have hatt := att_rep hn.1 hn.2 k
              by_cases hroom : k < 32 ∧ (k + 1) * (n + 4) ≤ 32768
              · rw [if_pos hroom] at hatt
                have HAt : Hid (attE (List.replicate k (rets n)) (rets n) = 0) := hatt
                have t1 : decide ((k : Int) < 32) = true := by have := hroom.1; simp; omega
                obtain ⟨M, hM⟩ : ∃ M : Int, M = ((k + 1) * (n + 4) : Nat) := ⟨_, rfl⟩
                have e1 : IntKind.i64.wrap ((k : Int) + 1) = (k : Int) + 1 := by rw [IntKind.wrap_i64]; omega
                have e2 : IntKind.i64.wrap ((n : Int) + 4) = (n : Int) + 4 := by rw [IntKind.wrap_i64]; omega
                have e3 : IntKind.i64.wrap (((k : Int) + 1) * ((n : Int) + 4)) = M := by
                  have : ((k : Int) + 1) * ((n : Int) + 4) = M := by rw [hM]; push_cast; rfl
                  rw [this, IntKind.wrap_i64]
                  omega
                have t2 : decide (M ≤ 32768) = true := by simp; omega
                have HR : Hid (k < 32 ∧ (k + 1) * (n + 4) ≤ 32768) := hroom
                clear hM hroom hatt hk hkc hj hs ho hb hok hfl hbk hrow
                go_wp2_with (first | (go_at_call 10; refine HA.out.mono ?_; rintro e w6 h6; obtain ⟨rfl, g6, vc6, ve6, s6⟩ := h6.yes HAt.out))
                go_roundw
                case rel => exact ⟨j + 1, k + 1, vc6, ve6, by go_num, by go_num, by have := of_decide_eq_true hj5; omega, HR.out.1, HR.out.2, by rw [List.replicate_succ']; exact s6, HRow.out _ g6, HBz.out.trans (grown_below g6 (Nat.le_refl _) HBz.out.size)⟩
                case measure => have := of_decide_eq_true hj5; simp [intOf]; omega
              · rw [if_neg hroom] at hatt
                have HAt : Hid (attE (List.replicate k (rets n)) (rets n) = 16) := hatt
                have HL : Hid (attL (List.replicate k (rets n)) (rets n) = List.replicate k (rets n)) := by unfold Hid attL; rw [if_neg (by rw [hatt]; decide)]
                by_cases hk3 : k < 32
                · have t1 : decide ((k : Int) < 32) = true := by simp; omega
                  obtain ⟨M, hM⟩ : ∃ M : Int, M = ((k + 1) * (n + 4) : Nat) := ⟨_, rfl⟩
                  have hM2 : 32768 < M := by omega
                  have hM3 : M ≤ 33 * 4100 := by
                    have := Nat.mul_le_mul (show k + 1 ≤ 33 by omega) (show n + 4 ≤ 4100 by omega)
                    omega
                  have e1 : IntKind.i64.wrap ((k : Int) + 1) = (k : Int) + 1 := by rw [IntKind.wrap_i64]; omega
                  have e2 : IntKind.i64.wrap ((n : Int) + 4) = (n : Int) + 4 := by rw [IntKind.wrap_i64]; omega
                  have e3 : IntKind.i64.wrap (((k : Int) + 1) * ((n : Int) + 4)) = M := by
                    have : ((k : Int) + 1) * ((n : Int) + 4) = M := by rw [hM]; push_cast; rfl
                    rw [this, IntKind.wrap_i64]
                    omega
                  have t2 : decide (M ≤ 32768) = false := by simp; omega
                  clear hM hM2 hM3 hroom hatt hk hkc hj hs ho hb hok hfl hbk hrow hk3
                  go_wp2_with (first | (go_at_call 10; refine HA.out.mono ?_; rintro e w6 h6; obtain ⟨rfl, g6, vc6, ve6, s6⟩ := h6.any; rw [HAt.out]))
                  go_roundw
                  case rel => exact ⟨j + 1, k, vc6, ve6, by go_num, rfl, by have := of_decide_eq_true hj5; omega, HK.out.1, HK.out.2.1, by rw [← HL.out]; exact s6, HRow.out _ g6, HBz.out.trans (grown_below g6 (Nat.le_refl _) HBz.out.size)⟩
                  case measure => have := of_decide_eq_true hj5; simp [intOf]; omega
                · have t1 : decide ((k : Int) < 32) = false := by simp; omega
                  clear hroom hatt hk hkc hj hs ho hb hok hfl hbk hrow hk3
                  go_wp2_with (first | (go_at_call 10; refine HA.out.mono ?_; rintro e w6 h6; obtain ⟨rfl, g6, vc6, ve6, s6⟩ := h6.any; rw [HAt.out]))
                  go_roundw
                  case rel => exact ⟨j + 1, k, vc6, ve6, by go_num, rfl, by have := of_decide_eq_true hj5; omega, HK.out.1, HK.out.2.1, by rw [← HL.out]; exact s6, HRow.out _ g6, HBz.out.trans (grown_below g6 (Nat.le_refl _) HBz.out.size)⟩
                  case measure => have := of_decide_eq_true hj5; simp [intOf]; omega
            · have hj5 : decide ((j : Int) < 40) = false := by simp; omega
              have HLn : Hid (Calls Try.prog 12 #[.pointer (some ⟨wa.heap.size, 0, none⟩)] wr fun e w' => e = .returned (.int .i64 (k : Nat)) ∧ w' = wr) := by have := len_any _ wa.heap.size vc ve _ hs; rw [List.length_replicate] at this; exact this
              have HCo : Hid (Calls Try.prog 13 #[.pointer (some ⟨wa.heap.size, 0, none⟩)] wr fun e w' => e = .returned (.int .i64 (k * (n + 4) : Nat)) ∧ Below wr.heap.size wr w') := by
                have hc := hok.2.2
                have hc2 := hok.2.1
                rw [cost_flat] at hc
                have := cost_any _ wa.heap.size vc ve _ hs (by omega) (by omega)
                rw [cost_rep, rets_len] at this
                exact this
              obtain ⟨M, hM⟩ : ∃ M : Int, M = (k * (n + 4) : Nat) := ⟨_, rfl⟩
              rw [← hM] at HCo
              have e2 : IntKind.i64.wrap ((n : Int) + 4) = (n : Int) + 4 := by rw [IntKind.wrap_i64]; omega
              have e3 : IntKind.i64.wrap ((k : Int) * ((n : Int) + 4)) = M := by
                have : (k : Int) * ((n : Int) + 4) = M := by rw [hM]; push_cast; rfl
                rw [this, IntKind.wrap_i64]
                omega
              have t1 : ((k : Int) == (k : Int)) = true := by simp
              have t2 : (M == M) = true := by simp
              clear hM hk hkc hj hs ho hok hfl hbk hrow hj4
              go_wp2_with (first | (go_at_call 12; refine HLn.out.mono ?_; rintro e w6 ⟨rfl, rfl⟩) | (go_at_call 13; refine HCo.out.mono ?_; rintro e w7 ⟨rfl, b7⟩))
              go_ret
              exact ⟨rfl, HBt.out _ (hb.trans (b7.mono hb.size))⟩

end Go.Proofs.Ytamioifoemklfaa
