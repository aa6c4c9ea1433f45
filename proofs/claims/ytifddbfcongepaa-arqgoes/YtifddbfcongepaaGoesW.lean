/-
  A timer that is set and not stopped goes off just every so many ticks: the law's walk.
-/
import Derived.Test.YtifddbfcongepaaTmF
import Derived.Test.YtifddbfcongepaaOpen
import Derived.BigQuiet
import Derived.Deep.DeepCutAuto
namespace Go.Proofs.Ytifddbfcongepaa
open Go.RowKit Go.Maps

theorem mod_next (a v : Int) (hv : 1 ≤ v) : (a + 1) % v = if a % v + 1 = v then 0 else a % v + 1 := by
  have h1 := Int.emod_add_mul_ediv a v
  have h2 := Int.emod_nonneg a (show v ≠ 0 by omega)
  have h3 := Int.emod_lt_of_pos a (show 0 < v by omega)
  have e : a + 1 = (a % v + 1) + v * (a / v) := by omega
  rw [e, Int.add_mul_emod_self_left]
  split
  · rename_i h
    rw [h, Int.emod_self]
  · exact Int.emod_eq_of_lt (by omega) (by omega)
theorem left_next {T : Tm} {v z : Int} {i : Nat} (hv : 1 ≤ v) (h : (z, v - ((i : Int) - 1) % v) ∈ T) : (z, v - (i : Int) % v) ∈ tickT T v := by
  have h1 := mod_next ((i : Int) - 1) v hv
  rw [show (i : Int) - 1 + 1 = i by omega] at h1
  unfold tickT resT decT
  refine List.mem_map.2 ⟨(z, v - ((i : Int) - 1) % v - 1), List.mem_map.2 ⟨_, h, rfl⟩, ?_⟩
  rw [h1]
  show (if v - ((i : Int) - 1) % v - 1 = 0 then (z, v) else (z, v - ((i : Int) - 1) % v - 1)) = _
  by_cases hc : ((i : Int) - 1) % v + 1 = v
  · rw [if_pos (by omega), if_pos hc, Int.sub_zero]
  · rw [if_neg (by omega), if_neg hc]
    congr 1
    omega
theorem left_off {T : Tm} {v z : Int} {i : Nat} (hn : (keys T).Nodup) (hv : 1 ≤ v) (h : (z, v - ((i : Int) - 1) % v) ∈ T) : z ∈ offs T ↔ (i : Int) % v = 0 := by
  have h1 := mod_next ((i : Int) - 1) v hv
  have h2 := Int.emod_nonneg ((i : Int) - 1) (show v ≠ 0 by omega)
  rw [show (i : Int) - 1 + 1 = i by omega] at h1
  rw [mem_offs, h1]
  constructor
  · intro hm
    have := keys_inj hn hm h
    rw [if_pos (by omega)]
  · intro hc
    by_cases hd : ((i : Int) - 1) % v + 1 = v
    · have e : v - ((i : Int) - 1) % v = 1 := by omega
      rw [e] at h
      exact h
    · rw [if_neg hd] at hc
      omega
theorem rise_lt {ts : List Int} (h : Rise ts) {j : Nat} (hj : 0 < j) (hl : j < ts.length) : ts[j - 1] < ts[j] := List.pairwise_iff_getElem.1 h (j - 1) j (by omega) hl (by omega)
theorem in_step {l : List Int} {k : Nat} (h : k < l.length) (z : Int) : decide (z ∈ l.take (k + 1)) = (decide (z ∈ l.take k) || (l[k] == z)) := by
  rw [List.take_succ_eq_append_getElem h, Bool.eq_iff_iff, Bool.or_eq_true, decide_eq_true_iff, decide_eq_true_iff, List.mem_append, List.mem_singleton, beq_iff_eq]
  exact ⟨fun h => h.imp id Eq.symm, fun h => h.imp id Eq.symm⟩

/-- timers in the middle of the law: one of them is set. -/
def GoS (w0 w : World) (b B : Nat) (v : Int) (k i : Nat) (T : Tm) (n : Nat) : Prop := TmF w0 w b B v T n ∧ n ≤ k + 1 ∧ n ≤ 301 ∧ (77, v - ((i : Int) - 1) % v) ∈ T

set_option maxHeartbeats 16000000 in
set_option maxRecDepth 8000 in
theorem goes_go (w : World) (v tk : Int) (a : Option Addr) (len cap : Nat) (l : List (Int × Int)) (h1 : 1 ≤ v) (h2 : v ≤ 1000) (h : OpsR w a len l) : Calls Try.prog 5 #[.int .i64 v, .int .i64 tk, .slice a len cap] w fun e w' => e = .returned (.bool true) ∧ Below w.heap.size w w' := by
  obtain rfl : len = l.length := h.1.symm
  have hmax : l.length ≤ 9223372036854775807 := by have := h.2.1; unfold maxLen at this; omega
  have HA : Hid (Calls Try.prog 8 #[] w fun e w' => e = .returned (.bool true) ∧ Below w.heap.size w w') := awake_any w
  have HN : Hid (∀ W, Below w.heap.size w W → Calls Try.prog 9 #[.int .i64 v] W fun e w' => NewF w v e w') := fun W hb => new_f hb h1 h2
  have HR : Hid (OpsR w a l.length l) := h
  have hv0 : v ≠ 0 := by omega
  have HS0 : Hid (∀ (b B : Nat) (W : World), TmF w W b B v [] 0 → Calls Try.prog 11 #[.pointer (some ⟨b, 0, none⟩), .int .u64 77] W fun e w' => SetF w b B v [(77, v)] 1 e w') := fun b B W h => set_f h 77 ⟨by omega, by omega⟩ (by omega)
  have HTK : Hid (∀ (b B : Nat) (T : Tm) (n : Nat) (W : World), TmF w W b B v T n → n ≤ 1000 → Calls Try.prog 16 #[.pointer (some ⟨b, 0, none⟩)] W fun e w' => TickF w W b B v T n e w') := fun b B T n W h hn => tick_f h hn
  have HST : Hid (∀ (b B : Nat) (T : Tm) (n : Nat) (z : Int) (W : World), TmF w W b B v T n → U64 z → n ≤ 1000 → Calls Try.prog 11 #[.pointer (some ⟨b, 0, none⟩), .int .u64 z] W fun e w' => SetF w b B v (setT T z v) (n + 1) e w') := fun b B T n z W h hz hn => set_f h z hz hn
  have HSP : Hid (∀ (b B : Nat) (T : Tm) (n : Nat) (z : Int) (W : World), TmF w W b B v T n → U64 z → Calls Try.prog 13 #[.pointer (some ⟨b, 0, none⟩), .int .u64 z] W fun e w' => StopF w b B v T z n e w') := fun b B T n z W h hz => stop_f h z hz
  clear h
  go_enter Try.func5, Try.ntmps5
  go_wp2_with fail
  refine HA.out.mono ?_
  rintro e w1 ⟨rfl, hb1⟩
  have B1 : Hid (Below w.heap.size w w1) := hb1
  clear hb1 HA
  go_wp2_with fail
  refine (HN.out w1 B1.out).mono ?_
  rintro e w2 ⟨b, B, rfl, ht2⟩
  have T2 : Hid (TmF w w2 b B v [] 0) := ht2
  clear ht2 HN
  go_wp2_with fail
  refine (HS0.out b B w2 T2.out).mono ?_
  rintro e w3 ⟨rfl, ht3⟩
  have T3 : Hid (GoS w w3 b B v 0 1 [(77, v)] 1) := ⟨ht3, Nat.le_refl _, by omega, by simp⟩
  clear ht3 T2 HS0
  go_wp2_with fail
  go_loopw [10, 11] (fun v10 v11 wr => ∃ (k i : Nat) (T : Tm) (n : Nat), v10 = .int .i64 k ∧ v11 = .int .i64 i ∧ 1 ≤ i ∧ i ≤ 301 ∧ k ≤ 300 + i ∧ GoS w wr b B v k i T n) (fun _ v11 _ => 301 - (intOf v11).toNat)
  case atStart => exact ⟨0, 1, _, _, rfl, rfl, Nat.le_refl _, by omega, by omega, T3.out⟩
  case round =>
    obtain ⟨k0, i, T0, n0, rfl, rfl, hi1, hi2, hk0, hgs⟩ := hrel
    have G0 : Hid (GoS w wr b B v k0 i T0 n0) := hgs
    clear hgs T3
    by_cases hit : (i : Int) ≤ tk
    · have hitd : decide ((i : Int) ≤ tk) = true := decide_eq_true hit
      by_cases hi3 : i ≤ 300
      · have hi4 : (i : Int) ≤ 300 := by omega
        go_wp2_with fail
        go_loopw [10] (fun v10 wz => ∃ (k : Nat) (T : Tm) (n : Nat), v10 = .int .i64 k ∧ k ≤ 300 + i ∧ GoS w wz b B v k i T n) (fun v10 _ => 1000 - (intOf v10).toNat)
        case atStart => exact ⟨k0, T0, n0, rfl, hk0, G0.out⟩
        case round =>
          obtain ⟨k, T, n, rfl, hk, hgs⟩ := hrel
          have G : Hid (GoS w wr b B v k i T n) := hgs
          clear hgs G0
          by_cases hkl : k < l.length
          · have hkl1 : (k : Int) < (l.length : Int) := by omega
            have hkl2 : decide ((k : Int) < (l.length : Int)) = true := decide_eq_true hkl1
            by_cases h300 : k < 300
            · have h301 : (k : Int) < 300 := by omega
              have h302 : decide ((k : Int) < 300) = true := decide_eq_true h301
              obtain ⟨bb, oo, rfl, cd, cz, hu⟩ := (HR.out.below G.out.1.bel).at hkl
              have HU : Hid (U64 l[k].2) := hu
              clear hu
              generalize l[k].1 = dd at *
              generalize l[k].2 = zz at *
              by_cases hd3 : dd < 3
              · have hd31 : decide (dd < 3) = true := decide_eq_true hd3
                by_cases h77 : zz = 77
                · have h771 : (zz == 77) = true := by simp [h77]
                  go_wp2_with fail
                  go_roundw
                  case rel => exact ⟨k + 1, T, n, by go_num, by omega, G.out.1, by have := G.out.2.1; omega, G.out.2.2⟩
                  case measure => simp [intOf]; omega
                · have h771 : (zz == 77) = false := by simp [h77]
                  by_cases hd2 : dd < 2
                  · have hd21 : decide (dd < 2) = true := decide_eq_true hd2
                    go_wp2_with fail
                    refine (HST.out b B T n zz wr G.out.1 HU.out (by have := G.out.2.2.1; omega)).mono ?_
                    rintro e w4 ⟨rfl, ht⟩
                    have G4 : Hid (GoS w w4 b B v (k + 1) i (setT T zz v) (n + 1)) := ⟨ht, by have := G.out.2.1; omega, by have := G.out.2.1; omega, mem_setT.2 (.inl ⟨G.out.2.2.2, fun e => h77 e.symm⟩)⟩
                    clear ht
                    go_wp2_with fail
                    go_roundw
                    case rel => exact ⟨k + 1, _, _, by go_num, by omega, G4.out⟩
                    case measure => simp [intOf]; omega
                  · have hd21 : decide (dd < 2) = false := decide_eq_false hd2
                    go_wp2_with fail
                    refine (HSP.out b B T n zz wr G.out.1 HU.out).mono ?_
                    rintro e w4 ⟨rfl, ht⟩
                    have G4 : Hid (GoS w w4 b B v (k + 1) i (stopT T zz) n) := ⟨ht, by have := G.out.2.1; omega, G.out.2.2.1, mem_stopT.2 ⟨G.out.2.2.2, fun e => h77 e.symm⟩⟩
                    clear ht
                    go_wp2_with fail
                    go_roundw
                    case rel => exact ⟨k + 1, _, _, by go_num, by omega, G4.out⟩
                    case measure => simp [intOf]; omega
              · have hd31 : decide (dd < 3) = false := decide_eq_false hd3
                clear cz HU
                go_wp2_with fail
                refine (HTK.out b B T n wr G.out.1 (by have := G.out.2.2.1; omega)).mono ?_
                rintro e w5 ⟨v', ts, rfl, hrow, htm, _⟩
                obtain ⟨base, hbase⟩ : ∃ x, wr.heap.size = x := ⟨_, rfl⟩
                rw [hbase] at hrow
                have G5 : Hid (GoS w w5 b B v (k + 1) (i + 1) (tickT T v) n) := ⟨htm, by have := G.out.2.1; omega, G.out.2.2.1, by rw [show ((i + 1 : Nat) : Int) - 1 = i by omega]; exact left_next h1 G.out.2.2.2⟩
                have HOFF : Hid ((77 : Int) ∈ ts ↔ (i : Int) % v = 0) := (hrow.2.2 77).trans (left_off G.out.1.ok.nd h1 G.out.2.2.2)
                have HRI : Hid (Rise ts) := hrow.2.1
                have htl : ts.length ≤ 1000 := by
                  have q1 := nodup_le ts (keys T) hrow.2.1.nodup fun z hz => mem_keys.2 ⟨1, mem_offs.1 ((hrow.2.2 z).1 hz)⟩
                  have q2 : (keys T).length = T.length := by unfold keys; rw [List.length_map]
                  have q3 := G.out.1.ok.len
                  have q4 := G.out.2.2.1
                  omega
                obtain ⟨p, c, rfl⟩ := row_slice hrow.1
                have HROW : Hid (w5.ownsRow base 31 1 (.slice p ts.length c) ts.length (cellsZ ts)) := hrow.1
                clear hrow htm G hbase
                go_wp2_with fail
                go_loopw [13, 14] (fun v13 v14 wz => ∃ j : Nat, v13 = .bool (decide ((77 : Int) ∈ ts.take j)) ∧ v14 = .int .i64 j ∧ j ≤ ts.length ∧ wz.ownsRow base 31 1 (.slice p ts.length c) ts.length (cellsZ ts) ∧ GoS w wz b B v (k + 1) (i + 1) (tickT T v) n) (fun _ v14 _ => ts.length - (intOf v14).toNat)
                case atStart => exact ⟨0, by simp, rfl, Nat.zero_le _, HROW.out, G5.out⟩
                case round =>
                  obtain ⟨j, rfl, rfl, hj, hrw, hgs⟩ := hrel
                  have G6 : Hid (GoS w wr b B v (k + 1) (i + 1) (tickT T v) n) := hgs
                  have HD6 : Hid (∀ m, GoS w (wr.drewN m) b B v (k + 1) (i + 1) (tickT T v) n ∧ (wr.drewN m).ownsRow base 31 1 (.slice p ts.length c) ts.length (cellsZ ts)) := fun m => ⟨⟨hgs.1.drewN m, hgs.2⟩, owns_below hrw (below_drewN wr m) (Nat.le_refl _)⟩
                  clear hgs G5 HROW
                  by_cases hjl : j < ts.length
                  · have hjl1 : (j : Int) < (ts.length : Int) := by omega
                    obtain ⟨g, rfl, hg, cj⟩ := row_at hrw hjl
                    have HST : Hid (decide ((77 : Int) ∈ ts.take (j + 1)) = (decide ((77 : Int) ∈ ts.take j) || (ts[j] == 77))) := in_step hjl 77
                    by_cases hj0 : 0 < j
                    · have hj01 : decide ((0 : Int) < (j : Int)) = true := decide_eq_true (by omega)
                      have hj02 : decide (0 < j) = true := decide_eq_true hj0
                      have hj03 : (0 : Int) < (j : Int) := by omega
                      obtain ⟨g', e', _, ck⟩ := row_at hrw (k := j - 1) (by omega)
                      cases e'
                      have hlt := rise_lt HRI.out hj0 hjl
                      have hle : decide (ts[j] ≤ ts[j - 1]) = false := decide_eq_false (by omega)
                      have hle2 : ¬ ts[j] ≤ ts[j - 1] := by omega
                      clear hlt hrw
                      generalize ts[j - 1] = y1 at *
                      generalize ts[j] = y2 at *
                      rcases Bool.eq_false_or_eq_true (decide ((77 : Int) ∈ ts.take j)) with hq | hq
                      · rw [hq] at HST
                        rw [hq]
                        go_wp2_with fail
                        go_quiet (fail)
                        go_wp2_with fail
                        go_roundw
                        case rel => exact ⟨j + 1, by rw [HST.out]; rfl, by go_num, hjl, (HD6.out _).2, (HD6.out _).1⟩
                        case measure => simp [intOf]; omega
                      · rw [hq] at HST
                        rw [hq]
                        go_wp2_with fail
                        go_quiet (fail)
                        go_wp2_with fail
                        go_roundw
                        case rel => exact ⟨j + 1, by rw [HST.out]; rfl, by go_num, hjl, (HD6.out _).2, (HD6.out _).1⟩
                        case measure => simp [intOf]; omega
                    · obtain rfl : j = 0 := by omega
                      have hq : decide ((77 : Int) ∈ ts.take 0) = false := by simp
                      clear hrw
                      generalize ts[0] = y2 at *
                      rw [hq] at HST
                      rw [hq]
                      go_wp2_with fail
                      go_quiet (fail)
                      go_wp2_with fail
                      go_roundw
                      case rel => exact ⟨1, by rw [HST.out]; rfl, by go_num, hjl, (HD6.out _).2, (HD6.out _).1⟩
                      case measure => simp [intOf]; omega
                  · have hjl1 : ¬ (j : Int) < (ts.length : Int) := by omega
                    obtain rfl : j = ts.length := by omega
                    have e1 : Int.tmod (i : Int) v = (i : Int) % v := Int.tmod_eq_emod_of_nonneg (by omega)
                    have HDEC : Hid (decide ((77 : Int) ∈ ts.take ts.length) = ((i : Int) % v == 0)) := by
                      show _ = _
                      rw [List.take_length, Bool.eq_iff_iff, decide_eq_true_iff, beq_iff_eq]
                      exact HOFF.out
                    rw [HDEC.out]
                    clear hrw
                    generalize (i : Int) % v = r at *
                    rcases Bool.eq_false_or_eq_true (r == 0) with hr | hr
                    · go_wp2_with fail
                      go_roundw
                      case rel => exact ⟨k + 1, i + 1, _, _, by go_num, by go_num, by omega, by omega, by omega, G6.out⟩
                      case measure => simp [intOf]; omega
                    · go_wp2_with fail
                      go_roundw
                      case rel => exact ⟨k + 1, i + 1, _, _, by go_num, by go_num, by omega, by omega, by omega, G6.out⟩
                      case measure => simp [intOf]; omega

            · have h301 : ¬ (k : Int) < 300 := by omega
              have h302 : decide ((k : Int) < 300) = false := decide_eq_false h301
              go_wp2_with fail
              refine (HTK.out b B T n wr G.out.1 (by have := G.out.2.2.1; omega)).mono ?_
              rintro e w5 ⟨v', ts, rfl, hrow, htm, _⟩
              obtain ⟨base, hbase⟩ : ∃ x, wr.heap.size = x := ⟨_, rfl⟩
              rw [hbase] at hrow
              have G5 : Hid (GoS w w5 b B v (k + 1) (i + 1) (tickT T v) n) := ⟨htm, by have := G.out.2.1; omega, G.out.2.2.1, by rw [show ((i + 1 : Nat) : Int) - 1 = i by omega]; exact left_next h1 G.out.2.2.2⟩
              have HOFF : Hid ((77 : Int) ∈ ts ↔ (i : Int) % v = 0) := (hrow.2.2 77).trans (left_off G.out.1.ok.nd h1 G.out.2.2.2)
              have HRI : Hid (Rise ts) := hrow.2.1
              have htl : ts.length ≤ 1000 := by
                have q1 := nodup_le ts (keys T) hrow.2.1.nodup fun z hz => mem_keys.2 ⟨1, mem_offs.1 ((hrow.2.2 z).1 hz)⟩
                have q2 : (keys T).length = T.length := by unfold keys; rw [List.length_map]
                have q3 := G.out.1.ok.len
                have q4 := G.out.2.2.1
                omega
              obtain ⟨p, c, rfl⟩ := row_slice hrow.1
              have HROW : Hid (w5.ownsRow base 31 1 (.slice p ts.length c) ts.length (cellsZ ts)) := hrow.1
              clear hrow htm G hbase
              go_wp2_with fail
              go_loopw [13, 14] (fun v13 v14 wz => ∃ j : Nat, v13 = .bool (decide ((77 : Int) ∈ ts.take j)) ∧ v14 = .int .i64 j ∧ j ≤ ts.length ∧ wz.ownsRow base 31 1 (.slice p ts.length c) ts.length (cellsZ ts) ∧ GoS w wz b B v (k + 1) (i + 1) (tickT T v) n) (fun _ v14 _ => ts.length - (intOf v14).toNat)
              case atStart => exact ⟨0, by simp, rfl, Nat.zero_le _, HROW.out, G5.out⟩
              case round =>
                obtain ⟨j, rfl, rfl, hj, hrw, hgs⟩ := hrel
                have G6 : Hid (GoS w wr b B v (k + 1) (i + 1) (tickT T v) n) := hgs
                have HD6 : Hid (∀ m, GoS w (wr.drewN m) b B v (k + 1) (i + 1) (tickT T v) n ∧ (wr.drewN m).ownsRow base 31 1 (.slice p ts.length c) ts.length (cellsZ ts)) := fun m => ⟨⟨hgs.1.drewN m, hgs.2⟩, owns_below hrw (below_drewN wr m) (Nat.le_refl _)⟩
                clear hgs G5 HROW
                by_cases hjl : j < ts.length
                · have hjl1 : (j : Int) < (ts.length : Int) := by omega
                  obtain ⟨g, rfl, hg, cj⟩ := row_at hrw hjl
                  have HST : Hid (decide ((77 : Int) ∈ ts.take (j + 1)) = (decide ((77 : Int) ∈ ts.take j) || (ts[j] == 77))) := in_step hjl 77
                  by_cases hj0 : 0 < j
                  · have hj01 : decide ((0 : Int) < (j : Int)) = true := decide_eq_true (by omega)
                    have hj02 : decide (0 < j) = true := decide_eq_true hj0
                    have hj03 : (0 : Int) < (j : Int) := by omega
                    obtain ⟨g', e', _, ck⟩ := row_at hrw (k := j - 1) (by omega)
                    cases e'
                    have hlt := rise_lt HRI.out hj0 hjl
                    have hle : decide (ts[j] ≤ ts[j - 1]) = false := decide_eq_false (by omega)
                    have hle2 : ¬ ts[j] ≤ ts[j - 1] := by omega
                    clear hlt hrw
                    generalize ts[j - 1] = y1 at *
                    generalize ts[j] = y2 at *
                    rcases Bool.eq_false_or_eq_true (decide ((77 : Int) ∈ ts.take j)) with hq | hq
                    · rw [hq] at HST
                      rw [hq]
                      go_wp2_with fail
                      go_quiet (fail)
                      go_wp2_with fail
                      go_roundw
                      case rel => exact ⟨j + 1, by rw [HST.out]; rfl, by go_num, hjl, (HD6.out _).2, (HD6.out _).1⟩
                      case measure => simp [intOf]; omega
                    · rw [hq] at HST
                      rw [hq]
                      go_wp2_with fail
                      go_quiet (fail)
                      go_wp2_with fail
                      go_roundw
                      case rel => exact ⟨j + 1, by rw [HST.out]; rfl, by go_num, hjl, (HD6.out _).2, (HD6.out _).1⟩
                      case measure => simp [intOf]; omega
                  · obtain rfl : j = 0 := by omega
                    have hq : decide ((77 : Int) ∈ ts.take 0) = false := by simp
                    clear hrw
                    generalize ts[0] = y2 at *
                    rw [hq] at HST
                    rw [hq]
                    go_wp2_with fail
                    go_quiet (fail)
                    go_wp2_with fail
                    go_roundw
                    case rel => exact ⟨1, by rw [HST.out]; rfl, by go_num, hjl, (HD6.out _).2, (HD6.out _).1⟩
                    case measure => simp [intOf]; omega
                · have hjl1 : ¬ (j : Int) < (ts.length : Int) := by omega
                  obtain rfl : j = ts.length := by omega
                  have e1 : Int.tmod (i : Int) v = (i : Int) % v := Int.tmod_eq_emod_of_nonneg (by omega)
                  have HDEC : Hid (decide ((77 : Int) ∈ ts.take ts.length) = ((i : Int) % v == 0)) := by
                    show _ = _
                    rw [List.take_length, Bool.eq_iff_iff, decide_eq_true_iff, beq_iff_eq]
                    exact HOFF.out
                  rw [HDEC.out]
                  clear hrw
                  generalize (i : Int) % v = r at *
                  rcases Bool.eq_false_or_eq_true (r == 0) with hr | hr
                  · go_wp2_with fail
                    go_roundw
                    case rel => exact ⟨k + 1, i + 1, _, _, by go_num, by go_num, by omega, by omega, by omega, G6.out⟩
                    case measure => simp [intOf]; omega
                  · go_wp2_with fail
                    go_roundw
                    case rel => exact ⟨k + 1, i + 1, _, _, by go_num, by go_num, by omega, by omega, by omega, G6.out⟩
                    case measure => simp [intOf]; omega

          · have hkl1 : ¬ (k : Int) < (l.length : Int) := by omega
            have hkl2 : decide ((k : Int) < (l.length : Int)) = false := decide_eq_false hkl1
            go_wp2_with fail
            refine (HTK.out b B T n wr G.out.1 (by have := G.out.2.2.1; omega)).mono ?_
            rintro e w5 ⟨v', ts, rfl, hrow, htm, _⟩
            obtain ⟨base, hbase⟩ : ∃ x, wr.heap.size = x := ⟨_, rfl⟩
            rw [hbase] at hrow
            have G5 : Hid (GoS w w5 b B v (k + 1) (i + 1) (tickT T v) n) := ⟨htm, by have := G.out.2.1; omega, G.out.2.2.1, by rw [show ((i + 1 : Nat) : Int) - 1 = i by omega]; exact left_next h1 G.out.2.2.2⟩
            have HOFF : Hid ((77 : Int) ∈ ts ↔ (i : Int) % v = 0) := (hrow.2.2 77).trans (left_off G.out.1.ok.nd h1 G.out.2.2.2)
            have HRI : Hid (Rise ts) := hrow.2.1
            have htl : ts.length ≤ 1000 := by
              have q1 := nodup_le ts (keys T) hrow.2.1.nodup fun z hz => mem_keys.2 ⟨1, mem_offs.1 ((hrow.2.2 z).1 hz)⟩
              have q2 : (keys T).length = T.length := by unfold keys; rw [List.length_map]
              have q3 := G.out.1.ok.len
              have q4 := G.out.2.2.1
              omega
            obtain ⟨p, c, rfl⟩ := row_slice hrow.1
            have HROW : Hid (w5.ownsRow base 31 1 (.slice p ts.length c) ts.length (cellsZ ts)) := hrow.1
            clear hrow htm G hbase
            go_wp2_with fail
            go_loopw [13, 14] (fun v13 v14 wz => ∃ j : Nat, v13 = .bool (decide ((77 : Int) ∈ ts.take j)) ∧ v14 = .int .i64 j ∧ j ≤ ts.length ∧ wz.ownsRow base 31 1 (.slice p ts.length c) ts.length (cellsZ ts) ∧ GoS w wz b B v (k + 1) (i + 1) (tickT T v) n) (fun _ v14 _ => ts.length - (intOf v14).toNat)
            case atStart => exact ⟨0, by simp, rfl, Nat.zero_le _, HROW.out, G5.out⟩
            case round =>
              obtain ⟨j, rfl, rfl, hj, hrw, hgs⟩ := hrel
              have G6 : Hid (GoS w wr b B v (k + 1) (i + 1) (tickT T v) n) := hgs
              have HD6 : Hid (∀ m, GoS w (wr.drewN m) b B v (k + 1) (i + 1) (tickT T v) n ∧ (wr.drewN m).ownsRow base 31 1 (.slice p ts.length c) ts.length (cellsZ ts)) := fun m => ⟨⟨hgs.1.drewN m, hgs.2⟩, owns_below hrw (below_drewN wr m) (Nat.le_refl _)⟩
              clear hgs G5 HROW
              by_cases hjl : j < ts.length
              · have hjl1 : (j : Int) < (ts.length : Int) := by omega
                obtain ⟨g, rfl, hg, cj⟩ := row_at hrw hjl
                have HST : Hid (decide ((77 : Int) ∈ ts.take (j + 1)) = (decide ((77 : Int) ∈ ts.take j) || (ts[j] == 77))) := in_step hjl 77
                by_cases hj0 : 0 < j
                · have hj01 : decide ((0 : Int) < (j : Int)) = true := decide_eq_true (by omega)
                  have hj02 : decide (0 < j) = true := decide_eq_true hj0
                  have hj03 : (0 : Int) < (j : Int) := by omega
                  obtain ⟨g', e', _, ck⟩ := row_at hrw (k := j - 1) (by omega)
                  cases e'
                  have hlt := rise_lt HRI.out hj0 hjl
                  have hle : decide (ts[j] ≤ ts[j - 1]) = false := decide_eq_false (by omega)
                  have hle2 : ¬ ts[j] ≤ ts[j - 1] := by omega
                  clear hlt hrw
                  generalize ts[j - 1] = y1 at *
                  generalize ts[j] = y2 at *
                  rcases Bool.eq_false_or_eq_true (decide ((77 : Int) ∈ ts.take j)) with hq | hq
                  · rw [hq] at HST
                    rw [hq]
                    go_wp2_with fail
                    go_quiet (fail)
                    go_wp2_with fail
                    go_roundw
                    case rel => exact ⟨j + 1, by rw [HST.out]; rfl, by go_num, hjl, (HD6.out _).2, (HD6.out _).1⟩
                    case measure => simp [intOf]; omega
                  · rw [hq] at HST
                    rw [hq]
                    go_wp2_with fail
                    go_quiet (fail)
                    go_wp2_with fail
                    go_roundw
                    case rel => exact ⟨j + 1, by rw [HST.out]; rfl, by go_num, hjl, (HD6.out _).2, (HD6.out _).1⟩
                    case measure => simp [intOf]; omega
                · obtain rfl : j = 0 := by omega
                  have hq : decide ((77 : Int) ∈ ts.take 0) = false := by simp
                  clear hrw
                  generalize ts[0] = y2 at *
                  rw [hq] at HST
                  rw [hq]
                  go_wp2_with fail
                  go_quiet (fail)
                  go_wp2_with fail
                  go_roundw
                  case rel => exact ⟨1, by rw [HST.out]; rfl, by go_num, hjl, (HD6.out _).2, (HD6.out _).1⟩
                  case measure => simp [intOf]; omega
              · have hjl1 : ¬ (j : Int) < (ts.length : Int) := by omega
                obtain rfl : j = ts.length := by omega
                have e1 : Int.tmod (i : Int) v = (i : Int) % v := Int.tmod_eq_emod_of_nonneg (by omega)
                have HDEC : Hid (decide ((77 : Int) ∈ ts.take ts.length) = ((i : Int) % v == 0)) := by
                  show _ = _
                  rw [List.take_length, Bool.eq_iff_iff, decide_eq_true_iff, beq_iff_eq]
                  exact HOFF.out
                rw [HDEC.out]
                clear hrw
                generalize (i : Int) % v = r at *
                rcases Bool.eq_false_or_eq_true (r == 0) with hr | hr
                · go_wp2_with fail
                  go_roundw
                  case rel => exact ⟨k + 1, i + 1, _, _, by go_num, by go_num, by omega, by omega, by omega, G6.out⟩
                  case measure => simp [intOf]; omega
                · go_wp2_with fail
                  go_roundw
                  case rel => exact ⟨k + 1, i + 1, _, _, by go_num, by go_num, by omega, by omega, by omega, G6.out⟩
                  case measure => simp [intOf]; omega

      · have hi4 : ¬ (i : Int) ≤ 300 := by omega
        go_wp2_with fail
        go_ret
        exact ⟨rfl, G0.out.1.bel⟩
    · have hitd : decide ((i : Int) ≤ tk) = false := decide_eq_false hit
      go_wp2_with fail
      go_ret
      exact ⟨rfl, G0.out.1.bel⟩

set_option maxHeartbeats 4000000 in
set_option maxRecDepth 8000 in
theorem goes_not (w : World) (v tk : Int) (a : Option Addr) (len cap : Nat) (h : v < 1 ∨ 1000 < v) : Calls Try.prog 5 #[.int .i64 v, .int .i64 tk, .slice a len cap] w fun e w' => e = .returned (.bool true) ∧ Below w.heap.size w w' := by
  have HA : Hid (Calls Try.prog 8 #[] w fun e w' => e = .returned (.bool true) ∧ Below w.heap.size w w') := awake_any w
  have HN : Hid (∀ W, Calls Try.prog 9 #[.int .i64 v] W fun e w' => e = .returned (.tuple #[.pointer none, .int .i64 1]) ∧ w' = W) := fun W => new_not v W h
  by_cases c1 : v < 1
  · have c2 : decide (v < 1) = true := decide_eq_true c1
    clear h
    go_enter Try.func5, Try.ntmps5
    go_wp2_with fail
    refine HA.out.mono ?_
    rintro e w1 ⟨rfl, hb1⟩
    have B1 : Hid (Below w.heap.size w w1) := hb1
    clear hb1 HA
    go_wp2_with fail
    refine (HN.out w1).mono ?_
    rintro e w2 ⟨rfl, hw2⟩
    subst hw2
    go_wp2_with fail
    go_ret
    exact ⟨rfl, B1.out⟩
  · have c2 : decide (v < 1) = false := decide_eq_false c1
    have c3 : 1000 < v := by omega
    have c4 : decide (1000 < v) = true := decide_eq_true c3
    clear h
    go_enter Try.func5, Try.ntmps5
    go_wp2_with fail
    refine HA.out.mono ?_
    rintro e w1 ⟨rfl, hb1⟩
    have B1 : Hid (Below w.heap.size w w1) := hb1
    clear hb1 HA
    go_wp2_with fail
    refine (HN.out w1).mono ?_
    rintro e w2 ⟨rfl, hw2⟩
    subst hw2
    go_wp2_with fail
    go_ret
    exact ⟨rfl, B1.out⟩

theorem goes_walk (w : World) (v tk : Int) (a : Option Addr) (len cap : Nat) (l : List (Int × Int)) (_hv : (Lit.int .i64 v).wf = true) (_ht : (Lit.int .i64 tk).wf = true) (h : OpsR w a len l) : Calls Try.prog 5 #[.int .i64 v, .int .i64 tk, .slice a len cap] w fun e w' => e = .returned (.bool true) ∧ Below w.heap.size w w' := by
  by_cases h2 : 1 ≤ v ∧ v ≤ 1000
  · exact goes_go w v tk a len cap l h2.1 h2.2 h
  · exact goes_not w v tk a len cap (by omega)

end Go.Proofs.Ytifddbfcongepaa
