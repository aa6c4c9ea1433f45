/-
  What is new of any row: the law's walk.
-/
import Derived.Test.YtifddbfcongepaaAwake
import Derived.Test.YtifddbfcongepaaOpen
import Derived.BigQuiet
import Derived.Deep.DeepCutAuto
namespace Go.Proofs.Ytifddbfcongepaa
open Go.RowKit Go.Maps

/-- what has come, in memory of the call's own. -/
structure SnF (w0 w : World) (s : Nat) (m : Option Nat) (S : List Int) : Prop where
  v : SnV w s m S
  bel : Below w0.heap.size w0 w
  s0 : w0.heap.size ≤ s
  m0 : ∀ B, m = some B → w0.heap.size ≤ B
def TkF (w0 : World) (s : Nat) (S : List Int) (z : Int) (e : Ending) (w' : World) : Prop := ∃ m', e = .returned (.bool (decide (z ∉ S))) ∧ SnF w0 w' s m' (takeS S z)
theorem take_f {w0 w : World} {s : Nat} {m : Option Nat} {S : List Int} (h : SnF w0 w s m S) (z : Int) (hn : S.length ≤ 100000) (hz : U64 z) : Calls Try.prog 20 #[.pointer (some ⟨s, 0, none⟩), .int .u64 z] w fun e w' => TkF w0 s S z e w' := by
  refine (take_any s m S z w h.v hn hz).mono ?_
  rintro e w' ⟨B, rfl, h1, h2, h3⟩
  have hs := h.bel.size
  refine ⟨some B, rfl, h1, h.bel.trans (fr_lift h3 ?_ hs).bel, h.s0, fun B' e => ?_⟩
  · intro x hx
    rcases List.mem_cons.1 hx with rfl | hx
    · exact h.s0
    · cases m with
      | none => cases hx
      | some b => simp at hx; subst hx; exact h.m0 _ rfl
  · cases e
    rcases h2 with h2 | ⟨_, h2⟩
    · exact h.m0 _ h2
    · omega
theorem SnF.new (w0 w : World) (hb : Below w0.heap.size w0 w) : SnF w0 (w.alloc (Obj.cells #[.map none] 46)) w.heap.size none [] :=
  ⟨⟨blk_new w _ _, by simp, fun _ => rfl, fun B e => by cases e⟩, hb.alloc hb.size _, hb.size, fun B e => by cases e⟩

theorem notin_step {l : List Int} {k : Nat} (h : k < l.length) (z : Int) : decide (z ∉ l.take (k + 1)) = (decide (z ∉ l.take k) && !(l[k] == z)) := by
  rw [List.take_succ_eq_append_getElem h, Bool.eq_iff_iff, Bool.and_eq_true, decide_eq_true_iff, decide_eq_true_iff, List.mem_append, List.mem_singleton, Bool.not_eq_true', beq_eq_false_iff_ne]
  exact ⟨fun h => ⟨fun h1 => h (.inl h1), fun h1 => h (.inr h1.symm)⟩, fun h h1 => h1.elim h.1 fun h2 => h.2 h2.symm⟩

set_option maxHeartbeats 8000000 in
set_option maxRecDepth 8000 in
theorem sees_walk (w : World) (a : Option Addr) (len cap : Nat) (l : List Int) (h : NumR w a len l) : Calls Try.prog 4 #[.slice a len cap] w fun e w' => e = .returned (.bool true) ∧ Below w.heap.size w w' := by
  obtain rfl : len = l.length := h.1.symm
  have hmax : l.length ≤ 9223372036854775807 := by have := h.2.1; unfold maxLen at this; omega
  have HA : Hid (Calls Try.prog 8 #[] w fun e w' => e = .returned (.bool true) ∧ Below w.heap.size w w') := awake_any w
  have HR : Hid (NumR w a l.length l) := h
  clear h
  go_enter Try.func4, Try.ntmps4
  go_wp2_with fail
  refine HA.out.mono ?_
  rintro e w1 ⟨rfl, hb1⟩
  have S0 : Hid (SnF w (w1.alloc (Obj.cells #[.map none] 46)) w1.heap.size none []) := SnF.new w w1 hb1
  clear hb1 HA
  go_wp2_with fail
  generalize (w1.alloc (Obj.cells #[.map none] 46)) = w2 at *
  generalize w1.heap.size = s at *
  go_loopw [5, 6] (fun v5 v6 wr => ∃ (i : Nat) (m : Option Nat), v5 = .int .i64 (seen (l.take i)).length ∧ v6 = .int .i64 i ∧ i ≤ l.length ∧ i ≤ 200 ∧ SnF w wr s m (seen (l.take i))) (fun _ v6 _ => l.length - (intOf v6).toNat)
  case atStart => exact ⟨0, none, rfl, rfl, Nat.zero_le _, by omega, S0.out⟩
  case round =>
    obtain ⟨i, m, rfl, rfl, hi, hi2, hsn⟩ := hrel
    have HS : Hid (SnF w wr s m (seen (l.take i))) := hsn
    clear hsn S0
    by_cases hlt : i < l.length
    · have hi1 : (i : Int) < (l.length : Int) := by omega
      have hi1d : decide ((i : Int) < (l.length : Int)) = true := decide_eq_true (by omega)
      by_cases h200 : i < 200
      · have hi3 : (i : Int) < 200 := by omega
        have hlen : (seen (l.take i)).length ≤ 200 := Nat.le_trans (len_seen _) (by rw [List.length_take]; omega)
        obtain ⟨b, o, rfl, hci, hui⟩ := (HR.out.below HS.out.bel).at hlt
        have HU : Hid (U64 l[i]) := hui
        have HST : Hid (seen (l.take (i + 1)) = takeS (seen (l.take i)) l[i]) := by
          show _ = _
          rw [List.take_succ_eq_append_getElem hlt, seen_snoc]
        obtain ⟨zi, hzi⟩ : ∃ z, l[i] = z := ⟨_, rfl⟩
        have HZI : Hid (l[i] = zi) := hzi
        clear hzi
        rw [HZI.out] at hci
        clear hui
        go_wp2_with fail
        go_loopw [7, 8] (fun v7 v8 wz => ∃ k : Nat, v7 = .bool (decide (zi ∉ l.take k)) ∧ v8 = .int .i64 k ∧ k ≤ i ∧ SnF w wz s m (seen (l.take i))) (fun _ v8 _ => i - (intOf v8).toNat)
        case atStart => exact ⟨0, by simp, rfl, Nat.zero_le _, HS.out⟩
        case round =>
          obtain ⟨k, rfl, rfl, hk, hsn⟩ := hrel
          have HS2 : Hid (SnF w wr s m (seen (l.take i))) := hsn
          have HDR : Hid (∀ m', SnF w (wr.drewN m') s m (seen (l.take i))) := fun m' => ⟨hsn.v.over (below_drewN wr m'), hsn.bel.trans ((below_drewN wr m').mono hsn.bel.size), hsn.s0, hsn.m0⟩
          clear hsn
          by_cases hki : k < i
          · have hk1 : (k : Int) < (i : Int) := by omega
            have hkl : k < l.length := by omega
            have hkl1 : (k : Int) < (l.length : Int) := by omega
            obtain ⟨b', o', e', hck, _⟩ := (HR.out.below HS2.out.bel).at hkl
            cases e'
            obtain ⟨b', o', e', hci', _⟩ := (HR.out.below HS2.out.bel).at hlt
            cases e'
            rw [HZI.out] at hci'
            have HK : Hid (decide (zi ∉ l.take (k + 1)) = (decide (zi ∉ l.take k) && !(l[k] == zi))) := notin_step hkl zi
            rcases Bool.eq_false_or_eq_true (decide (zi ∉ l.take k)) with hq | hq
            · have HK2 : Hid (decide (zi ∉ l.take (k + 1)) = !(l[k] == zi)) := by
                show _ = _
                rw [HK.out, hq, Bool.true_and]
              rw [hq]
              clear HK hq
              generalize l[k] = zk at *
              go_wp2_with fail
              go_quiet (fail)
              go_wp2_with fail
              go_roundw
              case rel => exact ⟨k + 1, (by rw [HK2.out]; try rfl), by go_num, hki, HDR.out _⟩
              case measure => simp [intOf]; omega
            · have HK2 : Hid (decide (zi ∉ l.take (k + 1)) = false) := by
                show _ = _
                rw [HK.out, hq, Bool.false_and]
              rw [hq]
              clear HK hq
              go_wp2_with fail
              go_quiet (fail)
              go_wp2_with fail
              go_roundw
              case rel => exact ⟨k + 1, (by rw [HK2.out]; try rfl), by go_num, hki, HDR.out _⟩
              case measure => simp [intOf]; omega
          · have hk1 : ¬ (k : Int) < (i : Int) := by omega
            obtain rfl : k = i := by omega
            have hmem : decide (zi ∉ l.take k) = decide (zi ∉ seen (l.take k)) := by
              rw [Bool.eq_iff_iff, decide_eq_true_iff, decide_eq_true_iff, mem_seen]
            rw [hmem]
            obtain ⟨b', o', e', hci', _⟩ := (HR.out.below HS2.out.bel).at hlt
            cases e'
            rw [HZI.out] at hci'
            have HT : Hid (Calls Try.prog 20 #[.pointer (some ⟨s, 0, none⟩), .int .u64 zi] wr fun e w' => TkF w s (seen (l.take k)) zi e w') := take_f HS2.out zi (by omega) (HZI.out ▸ HU.out)
            have HMY : Hid (∀ (S : List Int) m W, SnF w W s m S → Calls Try.prog 21 #[.pointer (some ⟨s, 0, none⟩)] W fun e w' => e = .returned (.int .i64 S.length) ∧ w' = W) := fun S m W h => many_any s m S W h.v
            have HSE : Hid (seen (l.take (k + 1)) = takeS (seen (l.take k)) zi) := HZI.out ▸ HST.out
            clear hmem hci
            by_cases hin : zi ∈ seen (l.take k)
            · have hd : decide (zi ∉ seen (l.take k)) = false := by simpa using hin
              have HLN : Hid (takeS (seen (l.take k)) zi = seen (l.take k)) := by
                show _ = _
                unfold takeS
                rw [if_pos hin]
              rw [hd]
              go_wp2_with (first
                | (go_at_call 20; refine HT.out.mono ?_; rintro e w3 ⟨m', rfl, hsn3⟩; rw [hd]; have HS3 : Hid (SnF w w3 s m' (takeS (seen (l.take k)) zi)) := hsn3; clear hsn3; rw [HLN.out] at HS3)
                | (go_at_call 21; refine (HMY.out _ _ _ HS3.out).mono ?_; rintro e w4 ⟨rfl, hw4⟩; subst hw4))
              go_roundw
              case rel => exact ⟨k + 1, m', by rw [HSE.out, HLN.out], by go_num, hlt, by omega, by rw [HSE.out, HLN.out]; exact HS3.out⟩
              case measure => simp [intOf]; omega
            · have hd : decide (zi ∉ seen (l.take k)) = true := by simpa using hin
              have HLN : Hid ((takeS (seen (l.take k)) zi).length = (seen (l.take k)).length + 1) := by
                show _ = _
                unfold takeS
                rw [if_neg hin, List.length_append, List.length_singleton]
              rw [hd]
              generalize hnn : (seen (l.take k)).length = nn at *
              go_wp2_with (first
                | (go_at_call 20; refine HT.out.mono ?_; rintro e w3 ⟨m', rfl, hsn3⟩; rw [hd]; have HS3 : Hid (SnF w w3 s m' (takeS (seen (l.take k)) zi)) := hsn3; clear hsn3)
                | (go_at_call 21; refine (HMY.out _ _ _ HS3.out).mono ?_; rintro e w4 ⟨rfl, hw4⟩; subst hw4; rw [HLN.out]))
              go_roundw
              case rel => exact ⟨k + 1, m', by rw [HSE.out, HLN.out]; go_num, by go_num, hlt, by omega, by rw [HSE.out]; exact HS3.out⟩
              case measure => simp [intOf]; omega
      · have hi3 : ¬ (i : Int) < 200 := by omega
        go_wp2_with fail
        go_ret
        exact ⟨rfl, HS.out.bel⟩
    · have hi1 : ¬ (i : Int) < (l.length : Int) := by omega
      have hi1d : decide ((i : Int) < (l.length : Int)) = false := decide_eq_false (by omega)
      go_wp2_with fail
      go_ret
      exact ⟨rfl, HS.out.bel⟩

end Go.Proofs.Ytifddbfcongepaa
