/-
  The document's New, Kill, Drop, Rise, Reply.
-/
import Derived.Test.YtlckconhhhllkaaRGone
import Derived.BigRegion
namespace Go.Proofs.Ytlckconhhhllkaa
open Go.RowKit

/-- the document's table, just begun. -/
theorem rnew_any (x y first : Int) (w : World) (hn : newE x y = false) : Calls Try.prog 10 #[.int .i64 x, .int .i64 y, .int .u64 first] w fun e w' => ∃ b, e = .returned (.tuple #[.pointer (some ⟨b, 0, none⟩), .int .i64 0]) ∧ RfT w' w.heap.size b (newS x y first) ∧ Below w.heap.size w w' := by
  unfold newE at hn
  have hn := of_decide_eq_false hn
  have c1 : decide (x < 1) = false := decide_eq_false (by omega)
  have c2 : decide (8 < x) = false := decide_eq_false (by omega)
  have c3 : decide (y < 1) = false := decide_eq_false (by omega)
  have c4 : decide (1000 < y) = false := decide_eq_false (by omega)
  clear hn
  go_enter Try.func10, Try.ntmps10
  go_wp2_with fail
  go_ret2
  exact ⟨w.heap.size, by simp, ⟨_, Nat.le_refl _, blk_new w _ _, ⟨rfl, .inl ⟨rfl, rfl⟩⟩⟩, below_new w _⟩
theorem rnew_not (x y first : Int) (w : World) (hn : newE x y = true) : Calls Try.prog 10 #[.int .i64 x, .int .i64 y, .int .u64 first] w fun e w' => e = .returned (.tuple #[.pointer none, .int .i64 1]) ∧ Below w.heap.size w w' := by
  unfold newE at hn
  have hn := of_decide_eq_true hn
  by_cases h1 : x < 1
  · have c1 : decide (x < 1) = true := decide_eq_true h1
    clear hn h1
    go_enter Try.func10, Try.ntmps10
    go_wp2_with fail
    go_ret2
    exact ⟨rfl, Below.refl _ _⟩
  · have c1 : decide (x < 1) = false := decide_eq_false h1
    by_cases h2 : 8 < x
    · have c2 : decide (8 < x) = true := decide_eq_true h2
      clear hn h1 h2
      go_enter Try.func10, Try.ntmps10
      go_wp2_with fail
      go_ret2
      exact ⟨rfl, Below.refl _ _⟩
    · have c2 : decide (8 < x) = false := decide_eq_false h2
      by_cases h3 : y < 1
      · have c3 : decide (y < 1) = true := decide_eq_true h3
        clear hn h1 h2 h3
        go_enter Try.func10, Try.ntmps10
        go_wp2_with fail
        go_ret2
        exact ⟨rfl, Below.refl _ _⟩
      · have c3 : decide (y < 1) = false := decide_eq_false h3
        have c4 : decide (1000 < y) = true := decide_eq_true (by omega)
        clear hn h1 h2 h3
        go_enter Try.func10, Try.ntmps10
        go_wp2_with fail
        go_ret2
        exact ⟨rfl, Below.refl _ _⟩

/-- what a call of the document's leaves. -/
def RE (w : World) (base b : Nat) (s' : Nt) (v : Value) (e : Ending) (w' : World) : Prop := e = .returned v ∧ RfT w' base b s' ∧ Fr [44, 41] [] base w w'

set_option maxHeartbeats 4000000 in
theorem rkill_any (w : World) (base b : Nat) (s : Nt) (t : Int) (h : RfT w base b s) (ho : Ok s) (hB : base ≤ w.heap.size) :
    Calls Try.prog 27 #[.pointer (some ⟨b, 0, none⟩), .int .i64 t] w fun e w' => RE w base b (killS s t) (.bool (killB s t)) e w' := by
  obtain ⟨v, h⟩ := h
  obtain ⟨pv, cv, rfl⟩ := rowS_slice h.row
  obtain ⟨n, hnn⟩ : ∃ n, s.L.length = n := ⟨_, rfl⟩
  have hn8 : n ≤ 8 := by have := ho.len; have := ho.z1; omega
  have HR : Hid (RfC w base b (.slice pv s.L.length cv) s ∧ base ≤ w.heap.size ∧ Ok s) := ⟨h, hB, ho⟩
  have c0 : w.cell? ⟨b, 0, none⟩ = some (.slice pv n cv) := by rw [← hnn]; exact h.blk.cell 0
  have HNN : Hid (s.L.length = n) := hnn
  clear h hnn hB ho
  go_enter Try.func27, Try.ntmps27
  go_wp2_with fail
  go_loopw [5] (fun v5 wr => ∃ i : Nat, v5 = .int .i64 i ∧ i ≤ n ∧ (∀ (k : Nat) (hk : k < s.L.length), k < i → (s.L[k]).ta ≠ t) ∧ wr = w) (fun v5 _ => n - (intOf v5).toNat)
  case atStart => exact ⟨0, rfl, Nat.zero_le _, fun k _ hk => absurd hk (Nat.not_lt_zero _), rfl⟩
  case round =>
    obtain ⟨i, rfl, hi, hno, hw⟩ := hrel
    subst hw
    have HNO : Hid (∀ (k : Nat) (hk : k < s.L.length), k < i → (s.L[k]).ta ≠ t) := hno
    clear hno
    by_cases hlt : i < n
    · have hi1 : (i : Int) < (n : Int) := by omega
      have hil : i < s.L.length := by rw [HNN.out]; exact hlt
      obtain ⟨g, rfl, _, hce⟩ := rowE_at HR.out.1.row hil
      have x1 := hce 1 _ rfl
      have HX : Hid ((s.L[i]).ta ≠ t → ∀ (k : Nat) (hk : k < s.L.length), k < i + 1 → (s.L[k]).ta ≠ t) := fun e k hk hk1 => by
        by_cases e2 : k = i
        · subst e2; exact e
        · exact HNO.out k hk (by omega)
      have HQ : Hid ((s.L[i]).ta = t → Calls Try.prog 41 #[.pointer (some ⟨b, 0, none⟩), .int .i64 i, .int .i64 4] wr fun e w' => RE wr base b (killS s t) (.bool (killB s t)) e w') := fun e => by
        refine (rgone_any wr base b _ s i s.L[i] 4 HR.out.1 (by have := HNN.out; omega) (List.getElem?_eq_getElem hil) HR.out.2.1).mono ?_
        rintro e' w' ⟨rfl, h2, h3⟩
        refine ⟨by rw [kill_any HR.out.2.2 hil e], ⟨.slice (some ⟨g, 0, none⟩) s.L.length cv, ?_⟩, h3.mono (by simp) (by simp)⟩
        unfold killS
        rw [kill_set HR.out.2.2 hil e]
        exact h2
      clear hce
      generalize (s.L[i]).ta = y at *
      by_cases hyt : y = t
      · have hyd : (y == t) = true := by simp [hyt]
        have HQ2 := HQ.out hyt
        have HQ3 : Hid (Calls Try.prog 41 #[.pointer (some ⟨b, 0, none⟩), .int .i64 i, .int .i64 4] wr fun e w' => RE wr base b (killS s t) (.bool (killB s t)) e w') := HQ2
        clear hyt HQ HX hil HQ2
        go_wp2_with fail
        refine HQ3.out.mono ?_
        rintro e w2 ⟨rfl, h2, f2⟩
        have H2 : Hid (RfT w2 base b (killS s t) ∧ Fr [44, 41] [] base wr w2) := ⟨h2, f2⟩
        clear h2 f2 HQ3
        go_wp2_with fail
        go_ret
        exact ⟨rfl, H2.out.1, H2.out.2⟩
      · have hyd : (y == t) = false := by simp [hyt]
        have HX2 := HX.out hyt
        have HX3 : Hid (∀ (k : Nat) (hk : k < s.L.length), k < i + 1 → (s.L[k]).ta ≠ t) := HX2
        clear hyt HQ HX hil HX2
        go_wp2_with fail
        go_roundw
        case rel => exact ⟨i + 1, by go_num, hlt, HX3.out, by trivial⟩
        case measure => simp [intOf]; omega
    · have hi1 : ¬ (i : Int) < (n : Int) := by omega
      have hK := kill_none (L := s.L) (t := t) fun k hk => HNO.out k hk (by have := HNN.out; omega)
      have HK : Hid (killS s t = s ∧ killB s t = false) := by
        refine ⟨?_, hK.2⟩
        unfold killS
        rw [hK.1]
      clear hK
      go_wp2_with fail
      go_ret
      exact ⟨by rw [HK.out.2]; rfl, by rw [HK.out.1]; exact ⟨_, HR.out.1⟩, Fr.refl _ _ _ _⟩

set_option maxHeartbeats 4000000 in
theorem rdrop_any (w : World) (base b : Nat) (s : Nt) (h : RfT w base b s) (hn : s.L.length ≤ 8) (hB : base ≤ w.heap.size) :
    Calls Try.prog 32 #[.pointer (some ⟨b, 0, none⟩)] w fun e w' => RE w base b (dropS s) (.tuple #[]) e w' := by
  obtain ⟨v, h⟩ := h
  obtain ⟨pv, cv, rfl⟩ := rowS_slice h.row
  obtain ⟨n, hnn⟩ : ∃ n, s.L.length = n := ⟨_, rfl⟩
  rw [hnn] at h hn
  have HR : Hid (RfC w base b (.slice pv n cv) { s with L := half (goneW 7) s.L 0 } ∧ base ≤ w.heap.size) := ⟨h, hB⟩
  have HNN : Hid (s.L.length = n) := hnn
  clear h hnn hB
  go_enter Try.func32, Try.ntmps32
  go_wp2_with fail
  go_loopw [2] (fun v2 wr => ∃ i : Nat, v2 = .int .i64 i ∧ i ≤ n ∧ RfC wr base b (.slice pv n cv) { s with L := half (goneW 7) s.L i } ∧ Fr [44] [] base w wr) (fun v2 _ => n - (intOf v2).toNat)
  case atStart => exact ⟨0, rfl, Nat.zero_le _, HR.out.1, Fr.refl _ _ _ _⟩
  case round =>
    obtain ⟨i, rfl, hi, hr, hf⟩ := hrel
    have H1 : Hid (RfC wr base b (.slice pv n cv) { s with L := half (goneW 7) s.L i } ∧ Fr [44] [] base w wr ∧ base ≤ wr.heap.size) := ⟨hr, hf, Nat.le_trans HR.out.2 hf.bel.size⟩
    have c0 : wr.cell? ⟨b, 0, none⟩ = some (.slice pv n cv) := hr.blk.cell 0
    clear hr hf
    by_cases hlt : i < n
    · have hi1 : (i : Int) < (n : Int) := by omega
      have hil : i < s.L.length := by rw [HNN.out]; exact hlt
      have HQ : Hid (Calls Try.prog 41 #[.pointer (some ⟨b, 0, none⟩), .int .i64 i, .int .i64 7] wr fun e w' => ∃ q, e = .returned (.bool q) ∧ RfC w' base b (.slice pv n cv) { s with L := half (goneW 7) s.L (i + 1) } ∧ Fr [44] [] base w w') := by
        have hl := half_len (goneW 7) s.L i
        refine (rgone_any wr base b _ { s with L := half (goneW 7) s.L i } i s.L[i] 7 H1.out.1 (by show (half _ _ _).length ≤ 8; rw [hl, HNN.out]; exact hn) (by
          show (half (goneW 7) s.L i)[i]? = some s.L[i]
          rw [List.getElem?_eq_getElem (by rw [hl]; exact hil), half_at _ _ _ hil]) H1.out.2.2).mono ?_
        rintro e' w' ⟨rfl, h2, h3⟩
        refine ⟨_, rfl, ?_, H1.out.2.1.trans h3⟩
        have h4 : RfC w' base b (.slice pv n cv) { s with L := (half (goneW 7) s.L i).set i (goneW 7 s.L[i]) } := h2
        rw [half_set _ _ _ hil] at h4
        exact h4
      clear hil
      go_wp2_with fail
      refine HQ.out.mono ?_
      rintro e w2 ⟨q, rfl, h2, f2⟩
      have H2 : Hid (RfC w2 base b (.slice pv n cv) { s with L := half (goneW 7) s.L (i + 1) } ∧ Fr [44] [] base w w2) := ⟨h2, f2⟩
      clear h2 f2 HQ c0
      go_wp2_with fail
      go_roundw
      case rel => exact ⟨i + 1, by go_num, hlt, H2.out.1, H2.out.2⟩
      case measure => simp [intOf]; omega
    · have hi1 : ¬ (i : Int) < (n : Int) := by omega
      obtain rfl : i = n := by omega
      have HD : Hid (RfC wr base b (.slice pv i cv) (dropS s)) := by
        have h1 := H1.out.1
        have h2 := half_all (goneW 7) s.L
        rw [HNN.out] at h2
        rw [h2] at h1
        exact h1
      go_wp2_with fail
      go_end0
      exact ⟨rfl, ⟨_, HD.out⟩, H1.out.2.1.mono (by simp) (by simp)⟩

set_option maxHeartbeats 4000000 in
theorem rrise_any (w : World) (base b : Nat) (s : Nt) (ep : Int) (h : RfT w base b s) (hn : s.L.length ≤ 8) (hB : base ≤ w.heap.size) :
    Calls Try.prog 30 #[.pointer (some ⟨b, 0, none⟩), .int .u64 ep] w fun e w' => RE w base b (riseS s ep) (.int .i64 (riseE s ep)) e w' := by
  obtain ⟨v, h⟩ := h
  have c4 := h.blk.cell 4
  have f4 := h.blk.f 4
  by_cases hle : ep ≤ s.ep
  · have hd : decide (ep ≤ s.ep) = true := decide_eq_true hle
    have HK : Hid (riseS s ep = s ∧ riseE s ep = 22) := ⟨if_pos hle, if_pos hle⟩
    have HR : Hid (RfT w base b s) := ⟨v, h⟩
    clear h hle
    generalize s.ep = e0 at *
    go_enter Try.func30, Try.ntmps30
    go_wp2_with fail
    go_ret
    exact ⟨by rw [HK.out.2]; rfl, by rw [HK.out.1]; exact HR.out, Fr.refl _ _ _ _⟩
  · have hd : decide (ep ≤ s.ep) = false := decide_eq_false hle
    have HK : Hid (riseS s ep = dropS { s with ep := ep } ∧ riseE s ep = 0) := ⟨by unfold riseS; rw [if_neg hle]; rfl, if_neg hle⟩
    have H1 : Hid (RfC (w.setCell ⟨b, 4, none⟩ (.int .u64 ep)) base b v { s with ep := ep } ∧ Fr [41] [] base w (w.setCell ⟨b, 4, none⟩ (.int .u64 ep)) ∧ s.L.length ≤ 8 ∧ base ≤ w.heap.size) := by
      have hf : Fr [41] [] base w (w.setCell ⟨b, 4, none⟩ (.int .u64 ep)) := fr_set h.blk (by simp) h.bb
      exact ⟨⟨h.bb, h.blk.set 4 _, owns_fr h.row hf (by simp) (fun _ _ => by simp)⟩, hf, hn, hB⟩
    clear h hle hn hB
    generalize s.ep = e0 at *
    go_enter Try.func30, Try.ntmps30
    go_wp2_with fail
    refine (rdrop_any _ base b { s with ep := ep } ⟨v, H1.out.1⟩ H1.out.2.2.1 (by simp; exact H1.out.2.2.2)).mono ?_
    rintro e w2 ⟨rfl, h2, f2⟩
    have H2 : Hid (RfT w2 base b (dropS { s with ep := ep }) ∧ Fr [44, 41] [] base w w2) := ⟨h2, (H1.out.2.1.mono (by simp) (by simp)).trans f2⟩
    clear h2 f2 H1
    go_wp2_with fail
    go_ret
    exact ⟨by rw [HK.out.2]; rfl, by rw [HK.out.1]; exact H2.out.1, H2.out.2⟩

end Go.Proofs.Ytlckconhhhllkaa
