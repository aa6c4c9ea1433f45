/-
  VfsRing, walked over any interface.
-/
import Derived.Test.YtilemgpopjlchaaDoorLinkW
import Derived.Laws.BytesArg
namespace Go.Proofs.YtilemgpopjlchaaDoor
open Go.RowKit

/-- the name of a number. -/
def nameB (i : Nat) : ByteArray := bar (nameM i)
set_option maxHeartbeats 8000000 in
theorem name_any (i : Nat) (hi : i ≤ 21) (w : World) : Calls Tryd.prog 19 #[.int .i64 i] w (Tells w (.string (nameB i))) := by
  have HB : Hid (∀ o : Obj, Below w.heap.size w (w.alloc o)) := fun o => below_new w o
  have hw : IntKind.i64.wrap (97 + (i : Int)) = 97 + (i : Int) := by rw [IntKind.wrap_i64]; omega
  have hw8 : IntKind.u8.wrap (97 + (i : Int)) = 97 + (i : Int) := by simp [IntKind.wrap, IntKind.bits, IntKind.signed]; omega
  have hcw : (convert 59 9 (.slice (some ⟨w.heap.size, 0, none⟩) 1 1)).run Tryd.prog (w.alloc (.cells #[.int .u8 (97 + (i : Int))] 5)) = .ok (.string ⟨#[UInt8.ofNat (97 + i)]⟩) (w.alloc (.cells #[.int .u8 (97 + (i : Int))] 5)) := by
    have h := run_convert_bytes_arg (P := Tryd.prog) (w.alloc (.cells #[.int .u8 (97 + (i : Int))] 5)) 59 5 Tryd.underlying59 Tryd.underlying5 w.heap.size 0 1 1 [97 + (i : Int)] rfl (fun j hj => by
      obtain rfl : j = 0 := by omega
      exact cell_one_new w (.int .u8 (97 + (i : Int))) 5 0 _ rfl) 9 Tryd.underlying9
    rw [h]
    have e : (97 + (i : Int)).toNat = 97 + i := by omega
    show Result.ok (Value.string ⟨([97 + (i : Int)].map fun n => UInt8.ofNat n.toNat).toArray⟩) _ = _
    simp only [List.map_cons, List.map_nil, e]
  have HE : Hid (∀ b : ByteArray, b = ⟨#[UInt8.ofNat (97 + i)]⟩ → ByteArray.append ⟨#[47]⟩ b = nameB i) := fun b hb => by
    subst hb
    apply lst_inj
    unfold nameB
    rw [lst_bar]
    exact lst_app _ _
  obtain ⟨b, hb⟩ : ∃ b : ByteArray, b = ⟨#[UInt8.ofNat (97 + i)]⟩ := ⟨_, rfl⟩
  have HS : Hid (ByteArray.append ⟨#[47]⟩ b = nameB i) := HE.out b hb
  have hb1 : ¬ 9223372036854775807 < 1 + b.size := by rw [hb]; show ¬ _ < 1 + 1; omega
  rw [← hb] at hcw
  clear hb HE
  go_enter Tryd.func19, Tryd.ntmps19
  go_wp2
  go_ret
  exact ⟨congrArg (fun x => Ending.returned (.string x)) HS.out, HB.out _⟩

theorem nd_lk (W : World) (i j : Nat) (k : Int) : NdR (W.alloc (.cells #[.string (nameB i), .int .i64 k, .string (nameB j)] 29)) (.slice (some ⟨W.heap.size, 0, none⟩) 1 1) [⟨nameM i, k, nameM j⟩] := nd_one W ⟨nameM i, k, nameM j⟩
theorem nd_fl (W : World) (i : Nat) (k : Int) : NdR (W.alloc (.cells #[.string (nameB i), .int .i64 k, .string ⟨#[]⟩] 29)) (.slice (some ⟨W.heap.size, 0, none⟩) 1 1) [⟨nameM i, k, []⟩] := nd_one W ⟨nameM i, k, []⟩
theorem ringL_len (m : Nat) (ring : Bool) (i : Nat) : (ringL m ring i).length = i := by unfold ringL; simp
theorem ringA_len (m : Nat) (ring : Bool) : (ringA m ring).length ≤ m + 1 := by
  unfold ringA
  split
  · rw [ringL_len]; omega
  · rw [List.length_append, ringL_len]; exact Nat.le_refl _
theorem ringN_t (m : Nat) (ring : Bool) (i : Nat) : (ringN m ring i).t.length = 2 := by
  unfold ringN nameM
  simp only
  split <;> rfl
theorem ringA_lt (m : Nat) (ring : Bool) (h : m ≤ 20) : Lt (ringA m ring) := by
  have hl := ringA_len m ring
  have key : ∀ x ∈ ringA m ring, x.p.length ≤ 400 ∧ x.t.length ≤ 400 := fun x hx => by
    have hr : ∀ y ∈ ringL m ring m, y.p.length ≤ 400 ∧ y.t.length ≤ 400 := fun y hy => by
      unfold ringL at hy
      obtain ⟨i, _, rfl⟩ := List.mem_map.1 hy
      refine ⟨?_, ?_⟩
      · show 2 ≤ 400; omega
      · rw [ringN_t]; omega
    unfold ringA at hx
    split at hx
    · exact hr x hx
    · rcases List.mem_append.1 hx with hx | hx
      · exact hr x hx
      · rw [List.mem_singleton.1 hx]
        exact ⟨by show 2 ≤ 400; omega, Nat.zero_le _⟩
  exact ⟨by omega, fun x hx => (key x hx).1, fun x hx => (key x hx).2⟩

set_option maxHeartbeats 8000000 in
theorem ring_far (J : Ifv) (w : World) (n : Int) (ring : Bool) (hn : n < 1 ∨ 20 < n) : Calls Tryd.prog 8 #[.int .i64 n, .bool ring] w (Tells w (.bool true)) := by
  by_cases h1 : n < 1
  · have r1 : decide (n < 1) = true := decide_eq_true h1
    go_enter Tryd.func8, Tryd.ntmps8
    go_wp2_with fail
    refine (awake_any J _).mono ?_
    rintro e w1 ⟨rfl, hb1⟩
    go_wp2_with fail
    go_ret
    exact ⟨rfl, hb1⟩
  · have h2 : 20 < n := by omega
    have r1 : decide (n < 1) = false := decide_eq_false h1
    have r2 : decide (20 < n) = true := decide_eq_true h2
    go_enter Tryd.func8, Tryd.ntmps8
    go_wp2_with fail
    refine (awake_any J _).mono ?_
    rintro e w1 ⟨rfl, hb1⟩
    go_wp2_with fail
    go_ret
    exact ⟨rfl, hb1⟩

set_option maxHeartbeats 16000000 in
theorem ring_near (J : Ifv) (w : World) (m : Nat) (ring : Bool) (h1 : 1 ≤ m) (h2 : m ≤ 20) : Calls Tryd.prog 8 #[.int .i64 m, .bool ring] w (Tells w (.bool true)) := by
  have HM : Hid (1 ≤ m ∧ m ≤ 20) := ⟨h1, h2⟩
  have HNM : Hid (∀ (i : Nat) (W : World), i ≤ 21 → Calls Tryd.prog 19 #[.int .i64 i] W (Tells W (.string (nameB i)))) := fun i W hi => name_any i hi W
  have HN0 : Hid (∀ (W : World), Calls Tryd.prog 19 #[.int .i64 0] W (Tells W (.string (nameB 0)))) := fun W => name_any 0 (by omega) W
  have r1 : ¬ (m : Int) < 1 := by omega
  have r1' : decide ((m : Int) < 1) = false := decide_eq_false r1
  have r2 : ¬ (20 : Int) < m := by omega
  have r2' : decide ((20 : Int) < m) = false := decide_eq_false r2
  have hmw : IntKind.i64.wrap ((m : Int) - 1) = (m : Int) - 1 := by rw [IntKind.wrap_i64]; omega
  have HRS : Hid (∀ W u, NdR W u (ringA m ring) → Calls Tryd.prog 15 #[u, .string ⟨#[47, 97]⟩] W (Tells W (tellR (ringR m ring)))) := fun W u h => by
    have := J.resolve u (ringA m ring) ⟨#[47, 97]⟩ W h (ringA_lt m ring h2) (show 2 ≤ 5000 by omega)
    rw [show lst ⟨#[47, 97]⟩ = [47, 97] from rfl, ring_res h1 h2] at this
    exact this
  clear h1 h2
  go_enter Tryd.func8, Tryd.ntmps8
  go_wp2_with fail
  refine (awake_any J _).mono ?_
  rintro e w1 ⟨rfl, hb1⟩
  have H1 : Hid (Below w.heap.size w w1) := hb1
  clear hb1
  go_wp2_with fail
  go_loopw [6, 7, 8] (fun v6 v7 _ wr => ∃ i : Nat, v7 = .int .i64 i ∧ i ≤ m ∧ wr.ownsRow w1.heap.size 29 3 v6 i (cellsN (ringL m ring i)) ∧ Below w1.heap.size w1 wr) (fun _ v7 _ _ => m - (intOf v7).toNat)
  case atStart => exact ⟨0, rfl, Nat.zero_le _, ⟨rfl, .inl ⟨rfl, rfl⟩⟩, Below.refl _ _⟩
  case round =>
    obtain ⟨i, rfl, hi, hrow, hbw⟩ := hrel
    have HI : Hid (wr.ownsRow w1.heap.size 29 3 _ i (cellsN (ringL m ring i)) ∧ Below w1.heap.size w1 wr) := ⟨hrow, hbw⟩
    clear hrow hbw
    by_cases hlt : i < m
    · have hi1 : (i : Int) < (m : Int) := by omega
      have hi5 : i ≤ 20 := by have := HM.out; omega
      have hix : IntKind.i64.wrap ((i : Int) + 1) = (i : Int) + 1 := by rw [IntKind.wrap_i64]; omega
      have HN1 : Hid (∀ (W : World), Calls Tryd.prog 19 #[.int .i64 ((i : Int) + 1)] W (Tells W (.string (nameB (i + 1))))) := fun W => HNM.out (i + 1) W (by omega)
      have HN2 : Hid (∀ (W : World), Calls Tryd.prog 19 #[.int .i64 (i : Int)] W (Tells W (.string (nameB i)))) := fun W => HNM.out i W (by omega)
      go_wp2_with fail
      refine (HN1.out _).mono ?_
      rintro e w2 ⟨rfl, hb2⟩
      have H2 : Hid (wr.ownsRow w1.heap.size 29 3 _ i (cellsN (ringL m ring i)) ∧ Below w1.heap.size w1 wr ∧ Below wr.heap.size wr w2) := ⟨HI.out.1, HI.out.2, hb2⟩
      clear hb2
      by_cases hlast : ring = true ∧ i = m - 1
      · obtain ⟨rfl, rfl⟩ := hlast
        have q1 : (((m - 1 : Nat) : Int) == (m : Int) - 1) = true := by
          rw [beq_iff_eq]
          have := HM.out
          omega
        have HND : Hid (ringN m true (m - 1) = ⟨nameM (m - 1), 3, nameM 0⟩) := by
          show _ = _
          unfold ringN
          rw [if_pos (by simp)]
        go_wp2_with fail
        refine (HN0.out _).mono ?_
        rintro e w3 ⟨rfl, hb3⟩
        have H3 : Hid (Below wr.heap.size wr w3) := H2.out.2.2.trans (hb3.mono H2.out.2.2.size)
        clear hb3
        go_wp2_with fail
        refine (HN2.out _).mono ?_
        rintro e w4 ⟨rfl, hb4⟩
        have H4 : Hid (Below wr.heap.size wr w4) := H3.out.trans (hb4.mono H3.out.size)
        clear hb4
        have H5 : Hid (Below wr.heap.size wr (w4.alloc (.cells #[.string (nameB (m - 1)), .int .i64 3, .string (nameB 0)] 29))) := H4.out.trans ((below_new w4 _).mono H4.out.size)
        go_wp2_with (first
          | (at_builtin; refine list_appN (B := w1.heap.size) (L := ringL m true (m - 1)) (M := [⟨nameM (m - 1), 3, nameM 0⟩]) (n := m - 1) rfl _ _ rfl rfl rfl (owns_below H2.out.1 H5.out (Nat.le_refl _)) (ringL_len _ _ _) (nd_lk w4 (m - 1) 0 3) (by have := HM.out; show m - 1 + 1 ≤ 1000; omega) (Nat.le_trans H2.out.2.1.size H5.out.size) ?_; intro v7 w7 ha7; have HA7 : Hid (ApN w1.heap.size (w4.alloc (.cells #[.string (nameB (m - 1)), .int .i64 3, .string (nameB 0)] 29)) w7 _ v7 (ringL m true (m - 1) ++ [⟨nameM (m - 1), 3, nameM 0⟩])) := ha7; clear ha7)
          | fail)
        have H7 : Hid (w7.ownsRow w1.heap.size 29 3 v7 (m - 1 + 1) (cellsN (ringL m true (m - 1 + 1))) ∧ Below w1.heap.size w1 w7) := by
          have h1 := HA7.out.own
          have e1 : ringL m true (m - 1) ++ [⟨nameM (m - 1), 3, nameM 0⟩] = ringL m true (m - 1 + 1) := by rw [ringL_more, HND.out]
          rw [e1, ringL_len] at h1
          exact ⟨h1, HA7.out.below (owns_below H2.out.1 H5.out (Nat.le_refl _)) (H2.out.2.1.trans (H5.out.mono H2.out.2.1.size))⟩
        go_roundw
        case rel => exact ⟨m - 1 + 1, rfl, by omega, H7.out.1, H7.out.2⟩
        case measure => simp [intOf]; omega
      · have HND : Hid (ringN m ring i = ⟨nameM i, 3, nameM (i + 1)⟩) := by
          show _ = _
          unfold ringN
          rw [if_neg]
          simp only [Bool.and_eq_true, beq_iff_eq]
          exact hlast
        have q1 : ring = true → ((i : Int) == (m : Int) - 1) = false := fun hr => by
          rw [beq_eq_false_iff_ne]
          intro e
          exact hlast ⟨hr, by have := HM.out; omega⟩
        clear hlast
        cases ring with
        | false =>
          clear q1
          go_wp2_with fail
          refine (HN2.out _).mono ?_
          rintro e w4 ⟨rfl, hb4⟩
          have H4 : Hid (Below wr.heap.size wr w4) := H2.out.2.2.trans (hb4.mono H2.out.2.2.size)
          clear hb4
          have H5 : Hid (Below wr.heap.size wr (w4.alloc (.cells #[.string (nameB i), .int .i64 3, .string (nameB (i + 1))] 29))) := H4.out.trans ((below_new w4 _).mono H4.out.size)
          go_wp2_with (first
            | (at_builtin; refine list_appN (B := w1.heap.size) (L := ringL m false i) (M := [⟨nameM i, 3, nameM (i + 1)⟩]) (n := i) rfl _ _ rfl rfl rfl (owns_below H2.out.1 H5.out (Nat.le_refl _)) (ringL_len _ _ _) (nd_lk w4 i (i + 1) 3) (by have := HM.out; show i + 1 ≤ 1000; omega) (Nat.le_trans H2.out.2.1.size H5.out.size) ?_; intro v7 w7 ha7; have HA7 : Hid (ApN w1.heap.size (w4.alloc (.cells #[.string (nameB i), .int .i64 3, .string (nameB (i + 1))] 29)) w7 _ v7 (ringL m false i ++ [⟨nameM i, 3, nameM (i + 1)⟩])) := ha7; clear ha7)
            | fail)
          have H7 : Hid (w7.ownsRow w1.heap.size 29 3 v7 (i + 1) (cellsN (ringL m false (i + 1))) ∧ Below w1.heap.size w1 w7) := by
            have h1 := HA7.out.own
            rw [← HND.out, ← ringL_more, ringL_len] at h1
            exact ⟨h1, HA7.out.below (owns_below H2.out.1 H5.out (Nat.le_refl _)) (H2.out.2.1.trans (H5.out.mono H2.out.2.1.size))⟩
          go_roundw
          case rel => exact ⟨i + 1, rfl, hlt, H7.out.1, H7.out.2⟩
          case measure => simp [intOf]; omega
        | true =>
          have q2 := q1 rfl
          clear q1
          go_wp2_with fail
          refine (HN2.out _).mono ?_
          rintro e w4 ⟨rfl, hb4⟩
          have H4 : Hid (Below wr.heap.size wr w4) := H2.out.2.2.trans (hb4.mono H2.out.2.2.size)
          clear hb4
          have H5 : Hid (Below wr.heap.size wr (w4.alloc (.cells #[.string (nameB i), .int .i64 3, .string (nameB (i + 1))] 29))) := H4.out.trans ((below_new w4 _).mono H4.out.size)
          go_wp2_with (first
            | (at_builtin; refine list_appN (B := w1.heap.size) (L := ringL m true i) (M := [⟨nameM i, 3, nameM (i + 1)⟩]) (n := i) rfl _ _ rfl rfl rfl (owns_below H2.out.1 H5.out (Nat.le_refl _)) (ringL_len _ _ _) (nd_lk w4 i (i + 1) 3) (by have := HM.out; show i + 1 ≤ 1000; omega) (Nat.le_trans H2.out.2.1.size H5.out.size) ?_; intro v7 w7 ha7; have HA7 : Hid (ApN w1.heap.size (w4.alloc (.cells #[.string (nameB i), .int .i64 3, .string (nameB (i + 1))] 29)) w7 _ v7 (ringL m true i ++ [⟨nameM i, 3, nameM (i + 1)⟩])) := ha7; clear ha7)
            | fail)
          have H7 : Hid (w7.ownsRow w1.heap.size 29 3 v7 (i + 1) (cellsN (ringL m true (i + 1))) ∧ Below w1.heap.size w1 w7) := by
            have h1 := HA7.out.own
            rw [← HND.out, ← ringL_more, ringL_len] at h1
            exact ⟨h1, HA7.out.below (owns_below H2.out.1 H5.out (Nat.le_refl _)) (H2.out.2.1.trans (H5.out.mono H2.out.2.1.size))⟩
          go_roundw
          case rel => exact ⟨i + 1, rfl, hlt, H7.out.1, H7.out.2⟩
          case measure => simp [intOf]; omega
    · have hi1 : ¬ (i : Int) < (m : Int) := by omega
      obtain rfl : i = m := by omega
      have HNN : Hid (∀ (W : World), Calls Tryd.prog 19 #[.int .i64 (i : Int)] W (Tells W (.string (nameB i)))) := fun W => HNM.out i W (by have := HM.out; omega)
      cases ring with
      | true =>
        have HRT : Hid (∀ W u, NdR W u (ringL i true i) → Calls Tryd.prog 15 #[u, .string ⟨#[47, 97]⟩] W (Tells W (.tuple #[.string ⟨#[]⟩, .int .i64 0, .int .i64 19]))) := HRS.out
        go_wp2_with fail
        refine (HRT.out _ _ (ndR_own HI.out.1 (by rw [ringL_len]; have := HM.out; omega))).mono ?_
        rintro e w2 ⟨rfl, hb2⟩
        have H2 : Hid (Below w.heap.size w w2) := (H1.out.trans (HI.out.2.mono H1.out.size)).trans (hb2.mono (Nat.le_trans H1.out.size HI.out.2.size))
        clear hb2
        go_wp2_with fail
        go_ret
        exact ⟨rfl, H2.out⟩
      | false =>
        go_wp2_with fail
        refine (HNN.out _).mono ?_
        rintro e w4 ⟨rfl, hb4⟩
        have H4 : Hid (Below wr.heap.size wr w4) := hb4
        clear hb4
        have H5 : Hid (Below wr.heap.size wr (w4.alloc (.cells #[.string (nameB i), .int .i64 1, .string ⟨#[]⟩] 29))) := H4.out.trans ((below_new w4 _).mono H4.out.size)
        go_wp2_with (first
          | (at_builtin; refine list_appN (B := w1.heap.size) (L := ringL i false i) (M := [⟨nameM i, 1, []⟩]) (n := i) rfl _ _ rfl rfl rfl (owns_below HI.out.1 H5.out (Nat.le_refl _)) (ringL_len _ _ _) (nd_fl w4 i 1) (by have := HM.out; show i + 1 ≤ 1000; omega) (Nat.le_trans HI.out.2.size H5.out.size) ?_; intro v7 w7 ha7; have HA7 : Hid (ApN w1.heap.size (w4.alloc (.cells #[.string (nameB i), .int .i64 1, .string ⟨#[]⟩] 29)) w7 _ v7 (ringL i false i ++ [⟨nameM i, 1, []⟩])) := ha7; clear ha7)
          | fail)
        have H7 : Hid (NdR w7 v7 (ringA i false) ∧ Below w.heap.size w w7) := by
          have h9 := HM.out
          have h8 := ringA_len i false
          refine ⟨ndR_own HA7.out.own (by show (ringA i false).length ≤ _; omega), ?_⟩
          have hb := HA7.out.below (owns_below HI.out.1 H5.out (Nat.le_refl _)) (HI.out.2.trans (H5.out.mono HI.out.2.size))
          exact H1.out.trans (hb.mono H1.out.size)
        by_cases h8 : 8 < i
        · have q1 : (8 : Int) < (i : Int) := by omega
          have q1' : decide ((8 : Int) < (i : Int)) = true := decide_eq_true q1
          have HRF : Hid (∀ W u, NdR W u (ringA i false) → Calls Tryd.prog 15 #[u, .string ⟨#[47, 97]⟩] W (Tells W (.tuple #[.string ⟨#[]⟩, .int .i64 0, .int .i64 19]))) := by
            have h := HRS.out
            unfold ringR at h
            rw [if_pos (by simp [h8])] at h
            exact h
          refine (HRF.out _ _ H7.out.1).mono ?_
          rintro e w2 ⟨rfl, hb2⟩
          have H2 : Hid (Below w.heap.size w w2) := H7.out.2.trans (hb2.mono H7.out.2.size)
          clear hb2
          go_wp2_with fail
          go_ret
          exact ⟨rfl, H2.out⟩
        · have q1 : ¬ (8 : Int) < (i : Int) := by omega
          have q1' : decide ((8 : Int) < (i : Int)) = false := decide_eq_false q1
          have HRF : Hid (∀ W u, NdR W u (ringA i false) → Calls Tryd.prog 15 #[u, .string ⟨#[47, 97]⟩] W (Tells W (.tuple #[.string (nameB i), .int .i64 1, .int .i64 0]))) := by
            have h := HRS.out
            unfold ringR at h
            rw [if_neg (by simp [h8])] at h
            exact h
          refine (HRF.out _ _ H7.out.1).mono ?_
          rintro e w2 ⟨rfl, hb2⟩
          have H2 : Hid (Below w.heap.size w w2) := H7.out.2.trans (hb2.mono H7.out.2.size)
          clear hb2
          go_wp2_with fail
          refine (HNN.out _).mono ?_
          rintro e w3 ⟨rfl, hb3⟩
          have H3 : Hid (Below w.heap.size w w3) := H2.out.trans (hb3.mono H2.out.size)
          clear hb3
          go_wp2_with fail
          go_ret
          exact ⟨rfl, H3.out⟩

theorem ring_walk (J : Ifv) (w : World) (n : Int) (ring : Bool) : Calls Tryd.prog 8 #[.int .i64 n, .bool ring] w (Tells w (.bool true)) := by
  by_cases h : n < 1 ∨ 20 < n
  · exact ring_far J w n ring h
  · obtain ⟨m, rfl⟩ : ∃ m : Nat, n = m := ⟨n.toNat, by omega⟩
    exact ring_near J w m ring (by omega) (by omega)

end Go.Proofs.YtilemgpopjlchaaDoor
