/-
  Calls that wait, call by call: the law's walk, over any interface.
-/
import Derived.Test.YtlckconhhhllkaaDoes2
import Derived.Test.YtlckconhhhllkaaRisesW
import Derived.BigQuiet
namespace Go.Proofs.Ytlckconhhhllkaa
open Go.RowKit

theorem rft_lower {W : World} {base base' br : Nat} {s : Nt} (h : RfT W base br s) (hb : base' ≤ base) : RfT W base' br s := by
  obtain ⟨v, h⟩ := h
  exact ⟨v, Nat.le_trans hb h.bb, h.blk, owns_lower h.row hb⟩
/-- the program's table and the document's. -/
structure Pw (F : World → World → Nat → Nt → Prop) (w X : World) (p br : Nat) (s : Nt) (v : Value) : Prop where
  f : F w X p s
  r : RfC X w.heap.size br v s
section
variable {F : World → World → Nat → Nt → Prop} {w W X X' : World} {p br : Nat} {s : Nt} {v : Value}
theorem Pw.step (h : Pw F w X p br s v) (hf : F w X' p s) (hc : Fc [62] w.heap.size X X') : Pw F w X' p br s v := ⟨hf, h.r.fc hc (by simp) (by simp)⟩
theorem Pw.over (I : Ifc F) (h : Pw F w X p br s v) (hb : Below X.heap.size X X') : Pw F w X' p br s v := ⟨I.over h.f hb, h.r.over hb⟩
end

set_option maxHeartbeats 16000000 in
set_option maxRecDepth 8000 in
theorem plays_walk {F : World → World → Nat → Nt → Prop} (I : Ifc F) (w : World) (x y first : Int) (a : Option Addr) (len cap : Nat) (l : List Do) (hu : U64 first) (h : OpsR w a len l) :
    Calls Try.prog 3 #[.agg #[.int .i64 x, .int .i64 y], .int .u64 first, .slice a len cap] w fun e w' => e = .returned (.bool true) ∧ Below w.heap.size w w' := by
  obtain rfl : len = l.length := h.1.symm
  have hmax : l.length ≤ 9223372036854775807 := by have := h.2.1; unfold maxLen at this; omega
  have HU : Hid (U64 first) := hu
  have HB0 : Hid (Below w.heap.size w (w.alloc (.cells #[.int .i64 x, .int .i64 y] 22))) := below_new w _
  have HX : Hid (Blk (w.alloc (.cells #[.int .i64 x, .int .i64 y] 22)) w.heap.size 22 [.int .i64 x, .int .i64 y]) := blk_new w _ _
  have HR : Hid (OpsR w a l.length l) := h
  clear hu h
  go_enter Try.func3, Try.ntmps3
  go_upto_region 1 with fail
  obtain ⟨b0, hb0⟩ : ∃ k, w.heap.size = k := ⟨_, rfl⟩
  have HS0 : Hid (w.heap.size = b0) := hb0
  rw [hb0] at HX ⊢
  clear hb0
  generalize w.alloc (.cells #[.int .i64 x, .int .i64 y] 22) = w0 at *
  go_wp2_with fail
  refine (awake_any I w0).mono ?_
  rintro e w1 ⟨rfl, hb1⟩
  have H1 : Hid (Below w.heap.size w w1 ∧ Blk w1 b0 22 [.int .i64 x, .int .i64 y]) := ⟨HB0.out.trans (hb1.mono HB0.out.size), HX.out.over hb1⟩
  have c0 := H1.out.2.cell 0
  have c1 := H1.out.2.cell 1
  clear hb1 HX
  cases hn : newE x y with
  | true =>
    have HN : Hid (newE x y = true) := hn
    clear hn
    go_wp2_with fail
    refine (I.newNot HN.out).mono ?_
    rintro e w2 ⟨rfl, hb2⟩
    have H2 : Hid (Below w.heap.size w w2 ∧ Blk w2 b0 22 [.int .i64 x, .int .i64 y]) := ⟨H1.out.1.trans (hb2.mono H1.out.1.size), H1.out.2.over hb2⟩
    clear hb2 c0 c1 H1
    have c0 := H2.out.2.cell 0
    have c1 := H2.out.2.cell 1
    go_wp2_with fail
    refine (rnew_not x y first w2 HN.out).mono ?_
    rintro e w3 ⟨rfl, hb3⟩
    have H3 : Hid (Below w.heap.size w w3) := H2.out.1.trans (hb3.mono H2.out.1.size)
    clear hb3 c0 c1 H2
    by_cases h0 : 0 < l.length
    · have h1 : (0 : Int) < (l.length : Int) := by omega
      have h2 : decide ((0 : Int) < (l.length : Int)) = true := decide_eq_true h1
      go_wp2_with fail
      go_loopw [12] (fun v12 wr => v12 = .int .i64 0 ∧ wr = w3) (fun _ _ => 0)
      case atStart => exact ⟨rfl, rfl⟩
      case round =>
        obtain ⟨rfl, hw⟩ := hrel
        subst hw
        go_wp2_with fail
        go_ret
        exact ⟨rfl, H3.out⟩
    · have h1 : ¬ (0 : Int) < (l.length : Int) := by omega
      have h2 : decide ((0 : Int) < (l.length : Int)) = false := decide_eq_false h1
      go_wp2_with fail
      go_loopw [12] (fun v12 wr => v12 = .int .i64 0 ∧ wr = w3) (fun _ _ => 0)
      case atStart => exact ⟨rfl, rfl⟩
      case round =>
        obtain ⟨rfl, hw⟩ := hrel
        subst hw
        go_wp2_with fail
        go_ret
        exact ⟨rfl, H3.out⟩
  | false =>
    have HN : Hid (newE x y = false) := hn
    clear hn
    go_wp2_with fail
    refine (I.new H1.out.1 HN.out HU.out).mono ?_
    rintro e w2 ⟨p, rfl, h2, hb2⟩
    have H2 : Hid (F w w2 p (newS x y first) ∧ Blk w2 b0 22 [.int .i64 x, .int .i64 y]) := ⟨h2, H1.out.2.over hb2⟩
    clear h2 hb2 c0 c1 H1
    have c0 := H2.out.2.cell 0
    have c1 := H2.out.2.cell 1
    go_wp2_with fail
    refine (rnew_any x y first w2 HN.out).mono ?_
    rintro e w3 ⟨br, rfl, h3, hb3⟩
    obtain ⟨s0, hs0⟩ : ∃ s, newS x y first = s := ⟨_, rfl⟩
    have H3 : Hid (F w w3 p s0 ∧ RfT w3 w.heap.size br s0) := by
      rw [← hs0]
      exact ⟨I.over H2.out.1 hb3, rft_lower h3 (I.bel H2.out.1).size⟩
    clear h3 hb3 c0 c1 H2 hs0
    go_wp2_with fail
    go_loopw [12] (fun v12 wr => ∃ (i : Nat) (s : Nt), v12 = .int .i64 i ∧ i ≤ 200 ∧ F w wr p s ∧ RfT wr w.heap.size br s) (fun v12 _ => 200 - (intOf v12).toNat)
    case atStart => exact ⟨0, s0, rfl, Nat.zero_le _, H3.out⟩
    case round =>
      obtain ⟨i, s, rfl, hi, hf, hr⟩ := hrel
      have HT : Hid (F w wr p s ∧ RfT wr w.heap.size br s) := ⟨hf, hr⟩
      have HCR : Hid (OpsR wr a l.length l) := HR.out.below (I.bel hf)
      clear hf hr H3
      by_cases hil : i < l.length
      · have hil1 : (i : Int) < (l.length : Int) := by omega
        have hil2 : decide ((i : Int) < (l.length : Int)) = true := decide_eq_true hil1
        by_cases h200 : i < 200
        · have h201 : (i : Int) < 200 := by omega
          have h202 : decide ((i : Int) < 200) = true := decide_eq_true h201
          obtain ⟨bb, oo, ea, x0, x1, x2, x3, x4⟩ := HCR.out.at hil
          have HUO : Hid (U64 (l[i]).i) := HCR.out.u64 hil
          subst ea
          obtain ⟨o, ho⟩ : ∃ o, l[i] = o := ⟨_, rfl⟩
          rw [ho] at x0 x1 x2 x3 x4 HUO
          clear ho HCR
          obtain ⟨d, n, z, k, v⟩ := o
          dsimp only at x0 x1 x2 x3 x4
          have HC : Hid (Calls Try.prog 11 #[.pointer (some ⟨p, 0, none⟩), .pointer (some ⟨br, 0, none⟩), .agg #[.int .i64 d, .int .i64 n, .int .u64 z, .int .i64 k, .int .i64 v]] wr fun e w' => DoesT F w p br w.heap.size e w') := does_any I ⟨d, n, z, k, v⟩ HT.out.1 HT.out.2 (Nat.le_refl _) HUO.out
          go_wp2_with fail
          refine HC.out.mono ?_
          rintro e w5 ⟨rfl, s2, h5, r5⟩
          clear x0 x1 x2 x3 x4 HC HT HUO
          obtain ⟨v5, r5⟩ := r5
          obtain ⟨pv, cv, rfl⟩ := rowS_slice r5.row
          obtain ⟨m, hm⟩ : ∃ m, s2.L.length = m := ⟨_, rfl⟩
          rw [hm] at r5
          have HM : Hid (s2.L.length = m ∧ m ≤ 8) := ⟨hm, by have h1 := (I.ok h5).len; have h2 := (I.ok h5).z1; omega⟩
          have HP5 : Hid (Pw F w w5.drew p br s2 (.slice pv m cv)) := ⟨I.over h5 (Below.refl _ _).drew, r5.over (Below.refl _ _).drew⟩
          have HF : Hid (F w w5.drew p s2) := HP5.out.f
          have HCI : Hid (∀ X, Fc [62] w.heap.size w5.drew X → X.cell? ⟨br, 0, none⟩ = some (.slice pv m cv)) := fun X hX => (HP5.out.r.fc hX (by simp) (by simp)).blk.cell 0
          have HCE : Hid (∀ X, Fc [62] w.heap.size w5.drew X → X.cell? ⟨br, 4, none⟩ = some (.int .u64 s2.ep)) := fun X hX => (HP5.out.r.fc hX (by simp) (by simp)).blk.cell 4
          have HMC : Hid (∀ X, F w X p s2 → Calls Try.prog 12 #[.pointer (some ⟨p, 0, none⟩)] X fun e w' => Tld F w X p s2 (.int .i64 m) e w') := fun X hX => by
            have := I.many hX
            rw [HM.out.1] at this
            exact this
          have e2 : ((m : Int) != (m : Int)) = false := by simp
          have e3 : (s2.ep != s2.ep) = false := by simp
          clear h5 r5 hm
          go_wp2_with fail
          refine wp_region_late (E := []) (S := (fun X => Fc [62] w.heap.size w5.drew X)) (by kernel_rfl) (Fc.refl _ _ _) (fun hHeld => ?_)
          simp only [List.size_toArray, List.length_cons, List.length_nil, Nat.reduceAdd]
          generalize w5.drew = wd at *
          refine wpAnyL_take [1, 2, 11, 12, 20] (i := 0) (v := ?_) (by kernel_rfl) (by kernel_rfl) (by kernel_rfl) rfl (by kernel_rfl) (by kernel_rfl) (by kernel_rfl) (fun _ _ _ h => h) (Or.inl ⟨by rfl, ?_⟩) hHeld ?_
          rotate_left
          · (intro w hSw; (try dsimp only at hSw); go_simp; try with_reducible rfl)
          try simp only [Act.put, List.setIfInBounds_toArray, List.set_cons_zero, List.set_cons_succ, List.getElem_toArray, List.getElem_cons_zero]
          refine wpAnyL_take [2, 11, 12, 20] (i := 1) (v := ?_) (by kernel_rfl) (by kernel_rfl) (by kernel_rfl) rfl (by kernel_rfl) (by kernel_rfl) (by kernel_rfl) (fun _ _ _ h => h) (Or.inl ⟨by rfl, ?_⟩) hHeld ?_
          rotate_left
          · (intro w hSw; (try dsimp only at hSw); go_simp; try with_reducible rfl)
          try simp only [Act.put, List.setIfInBounds_toArray, List.set_cons_zero, List.set_cons_succ, List.getElem_toArray, List.getElem_cons_zero, List.getElem_cons_succ]
          refine wpAnyL_take [11, 12, 20] (i := 2) (v := ?_) (by kernel_rfl) (by kernel_rfl) (by kernel_rfl) rfl (by kernel_rfl) (by kernel_rfl) (by kernel_rfl) (fun _ _ _ h => h) (Or.inl ⟨by rfl, ?_⟩) hHeld ?_
          rotate_left
          · (intro w hSw; (try dsimp only at hSw); go_simp; try with_reducible rfl)
          try simp only [Act.put, List.setIfInBounds_toArray, List.set_cons_zero, List.set_cons_succ, List.getElem_toArray, List.getElem_cons_zero, List.getElem_cons_succ]
          refine wpAnyL_take [4, 10, 11, 12, 20] (i := 3) (v := ?_) (by kernel_rfl) (by kernel_rfl) (by kernel_rfl) rfl (by kernel_rfl) (by kernel_rfl) (by kernel_rfl) (fun _ _ _ h => h) (Or.inl ⟨by rfl, ?_⟩) hHeld ?_
          rotate_left
          · (intro w hSw; (try dsimp only at hSw); go_simp; try with_reducible rfl)
          try simp only [Act.put, List.setIfInBounds_toArray, List.set_cons_zero, List.set_cons_succ, List.getElem_toArray, List.getElem_cons_zero, List.getElem_cons_succ]
          refine wpAnyL_take [6, 7, 8, 9, 10, 11, 12, 20] (i := 5) (v := ?_) (by kernel_rfl) (by kernel_rfl) (by kernel_rfl) rfl (by kernel_rfl) (by kernel_rfl) (by kernel_rfl) (fun _ _ _ h => h) (Or.inl ⟨by rfl, ?_⟩) hHeld ?_
          rotate_left
          · (intro w hSw; (try dsimp only at hSw); go_simp; try with_reducible rfl)
          try simp only [Act.put, List.setIfInBounds_toArray, List.set_cons_zero, List.set_cons_succ, List.getElem_toArray, List.getElem_cons_zero, List.getElem_cons_succ]
          refine wpAnyL_take [7, 8, 9, 10, 11, 12, 20] (i := 6) (v := ?_) (by kernel_rfl) (by kernel_rfl) (by kernel_rfl) rfl (by kernel_rfl) (by kernel_rfl) (by kernel_rfl) (fun _ _ _ h => h) (Or.inl ⟨by rfl, ?_⟩) hHeld ?_
          rotate_left
          · (intro w hSw; (try dsimp only at hSw); go_simp; try with_reducible rfl)
          try simp only [Act.put, List.setIfInBounds_toArray, List.set_cons_zero, List.set_cons_succ, List.getElem_toArray, List.getElem_cons_zero, List.getElem_cons_succ]
          refine wpAnyL_take [8, 9, 10, 11, 12, 20] (i := 7) (v := ?_) (by kernel_rfl) (by kernel_rfl) (by kernel_rfl) rfl (by kernel_rfl) (by kernel_rfl) (by kernel_rfl) (fun _ _ _ h => h) (Or.inl ⟨by rfl, ?_⟩) hHeld ?_
          rotate_left
          · (intro w hSw; (try dsimp only at hSw); go_simp; try with_reducible rfl)
          try simp only [Act.put, List.setIfInBounds_toArray, List.set_cons_zero, List.set_cons_succ, List.getElem_toArray, List.getElem_cons_zero, List.getElem_cons_succ]
          refine wpAnyL_take [9, 10, 11, 12, 20] (i := 8) (v := ?_) (by kernel_rfl) (by kernel_rfl) (by kernel_rfl) rfl (by kernel_rfl) (by kernel_rfl) (by kernel_rfl) (fun _ _ _ h => h) (Or.inl ⟨by rfl, ?_⟩) hHeld ?_
          rotate_left
          · (intro w hSw; (try dsimp only at hSw); have hc := HCI.out w hSw; go_simp; try with_reducible rfl)
          try simp only [Act.put, List.setIfInBounds_toArray, List.set_cons_zero, List.set_cons_succ, List.getElem_toArray, List.getElem_cons_zero, List.getElem_cons_succ]
          refine wpAnyL_take [10, 11, 12, 20] (i := 9) (v := ?_) (by kernel_rfl) (by kernel_rfl) (by kernel_rfl) rfl (by kernel_rfl) (by kernel_rfl) (by kernel_rfl) (fun _ _ _ h => h) (Or.inl ⟨by rfl, ?_⟩) hHeld ?_
          rotate_left
          · (intro w hSw; (try dsimp only at hSw); go_simp; try with_reducible rfl)
          try simp only [Act.put, List.setIfInBounds_toArray, List.set_cons_zero, List.set_cons_succ, List.getElem_toArray, List.getElem_cons_zero, List.getElem_cons_succ]
          refine wpAnyL_one (i := 4) (by kernel_rfl) rfl (fun K hK => ?_)
          go_simp
          go_at_call 12
          refine (HMC.out wd HF.out).mono ?_
          rintro e w6 ⟨rfl, h6, f6⟩
          have H6 : Hid (F w w6 p s2) := h6
          have s1 : Fc [62] w.heap.size wd w6 := f6
          clear h6 f6
          refine hK.out _ _ (fun _ => s1) ?_
          replace hHeld := s1
          clear hK K
          try simp only [Act.put, List.setIfInBounds_toArray, List.set_cons_zero, List.set_cons_succ, List.getElem_toArray, List.getElem_cons_zero, List.getElem_cons_succ]
          refine wpAnyL_take [11, 12, 20] (i := 10) (v := ?_) (by kernel_rfl) (by kernel_rfl) (by kernel_rfl) rfl (by kernel_rfl) (by kernel_rfl) (by kernel_rfl) (fun _ _ _ h => h) (Or.inl ⟨by rfl, ?_⟩) hHeld ?_
          rotate_left
          · (intro w hSw; (try dsimp only at hSw); go_simp; try with_reducible rfl)
          try simp only [Act.put, List.setIfInBounds_toArray, List.set_cons_zero, List.set_cons_succ, List.getElem_toArray, List.getElem_cons_zero, List.getElem_cons_succ]
          refine wpAnyL_take [12, 20] (i := 11) (v := ?_) (by kernel_rfl) (by kernel_rfl) (by kernel_rfl) rfl (by kernel_rfl) (by kernel_rfl) (by kernel_rfl) (fun _ _ _ h => h) (Or.inl ⟨by rfl, ?_⟩) hHeld ?_
          rotate_left
          · (intro w hSw; (try dsimp only at hSw); go_simp; try with_reducible rfl)
          try simp only [Act.put, List.setIfInBounds_toArray, List.set_cons_zero, List.set_cons_succ, List.getElem_toArray, List.getElem_cons_zero, List.getElem_cons_succ]
          refine wpAnyL_take [20] (i := 12) (v := ?_) (by kernel_rfl) (by kernel_rfl) (by kernel_rfl) rfl (by kernel_rfl) (by kernel_rfl) (by kernel_rfl) (fun _ _ _ h => h) (Or.inl ⟨by rfl, ?_⟩) hHeld ?_
          rotate_left
          · (intro w hSw; (try dsimp only at hSw); go_simp; try with_reducible rfl)
          try simp only [Act.put, List.setIfInBounds_toArray, List.set_cons_zero, List.set_cons_succ, List.getElem_toArray, List.getElem_cons_zero, List.getElem_cons_succ]
          refine wpAnyL_take [14, 19, 20] (i := 13) (v := ?_) (by kernel_rfl) (by kernel_rfl) (by kernel_rfl) rfl (by kernel_rfl) (by kernel_rfl) (by kernel_rfl) (fun _ _ _ h => h) (Or.inl ⟨by rfl, ?_⟩) hHeld ?_
          rotate_left
          · (intro w hSw; (try dsimp only at hSw); go_simp; try with_reducible rfl)
          try simp only [Act.put, List.setIfInBounds_toArray, List.set_cons_zero, List.set_cons_succ, List.getElem_toArray, List.getElem_cons_zero, List.getElem_cons_succ]
          refine wpAnyL_take [16, 17, 18, 19, 20] (i := 15) (v := ?_) (by kernel_rfl) (by kernel_rfl) (by kernel_rfl) rfl (by kernel_rfl) (by kernel_rfl) (by kernel_rfl) (fun _ _ _ h => h) (Or.inl ⟨by rfl, ?_⟩) hHeld ?_
          rotate_left
          · (intro w hSw; (try dsimp only at hSw); go_simp; try with_reducible rfl)
          try simp only [Act.put, List.setIfInBounds_toArray, List.set_cons_zero, List.set_cons_succ, List.getElem_toArray, List.getElem_cons_zero, List.getElem_cons_succ]
          refine wpAnyL_take [17, 18, 19, 20] (i := 16) (v := ?_) (by kernel_rfl) (by kernel_rfl) (by kernel_rfl) rfl (by kernel_rfl) (by kernel_rfl) (by kernel_rfl) (fun _ _ _ h => h) (Or.inl ⟨by rfl, ?_⟩) hHeld ?_
          rotate_left
          · (intro w hSw; (try dsimp only at hSw); go_simp; try with_reducible rfl)
          try simp only [Act.put, List.setIfInBounds_toArray, List.set_cons_zero, List.set_cons_succ, List.getElem_toArray, List.getElem_cons_zero, List.getElem_cons_succ]
          refine wpAnyL_take [18, 19, 20] (i := 17) (v := ?_) (by kernel_rfl) (by kernel_rfl) (by kernel_rfl) rfl (by kernel_rfl) (by kernel_rfl) (by kernel_rfl) (fun _ _ _ h => h) (Or.inl ⟨by rfl, ?_⟩) hHeld ?_
          rotate_left
          · (intro w hSw; (try dsimp only at hSw); go_simp; try with_reducible rfl)
          try simp only [Act.put, List.setIfInBounds_toArray, List.set_cons_zero, List.set_cons_succ, List.getElem_toArray, List.getElem_cons_zero, List.getElem_cons_succ]
          refine wpAnyL_take [19, 20] (i := 18) (v := ?_) (by kernel_rfl) (by kernel_rfl) (by kernel_rfl) rfl (by kernel_rfl) (by kernel_rfl) (by kernel_rfl) (fun _ _ _ h => h) (Or.inl ⟨by rfl, ?_⟩) hHeld ?_
          rotate_left
          · (intro w hSw; (try dsimp only at hSw); have hc := HCE.out w hSw; go_simp; try with_reducible rfl)
          try simp only [Act.put, List.setIfInBounds_toArray, List.set_cons_zero, List.set_cons_succ, List.getElem_toArray, List.getElem_cons_zero, List.getElem_cons_succ]
          refine wpAnyL_one (i := 14) (by kernel_rfl) rfl (fun K hK => ?_)
          go_simp
          go_at_call 13
          refine (I.epoch H6.out).mono ?_
          rintro e w7 ⟨rfl, h7, f7⟩
          have H7 : Hid (F w w7 p s2) := h7
          have s2' : Fc [62] w.heap.size wd w7 := (hHeld : Fc [62] w.heap.size wd w6).trans f7
          clear h7 f7
          refine hK.out _ _ (fun _ => s2') ?_
          replace hHeld := s2'
          clear hK K
          try simp only [Act.put, List.setIfInBounds_toArray, List.set_cons_zero, List.set_cons_succ, List.getElem_toArray, List.getElem_cons_zero, List.getElem_cons_succ]
          refine wpAnyL_take [20] (i := 19) (v := ?_) (by kernel_rfl) (by kernel_rfl) (by kernel_rfl) rfl (by kernel_rfl) (by kernel_rfl) (by kernel_rfl) (fun _ _ _ h => h) (Or.inl ⟨by rfl, ?_⟩) hHeld ?_
          rotate_left
          · (intro w hSw; (try dsimp only at hSw); go_simp; try with_reducible rfl)
          try simp only [Act.put, List.setIfInBounds_toArray, List.set_cons_zero, List.set_cons_succ, List.getElem_toArray, List.getElem_cons_zero, List.getElem_cons_succ]
          refine wpAnyL_take [] (i := 20) (v := ?_) (by kernel_rfl) (by kernel_rfl) (by kernel_rfl) rfl (by kernel_rfl) (by kernel_rfl) (by kernel_rfl) (fun _ _ _ h => h) (Or.inl ⟨by rfl, ?_⟩) hHeld ?_
          rotate_left
          · (intro w hSw; (try dsimp only at hSw); go_simp; try with_reducible rfl)
          try simp only [Act.put, List.setIfInBounds_toArray, List.set_cons_zero, List.set_cons_succ, List.getElem_toArray, List.getElem_cons_zero, List.getElem_cons_succ]
          refine wpAnyL_done (by kernel_rfl) ?_ _
          have HP7 : Hid (Pw F w w7 p br s2 (.slice pv m cv)) := HP5.out.step H7.out s2'
          clear s2' HF HCI HCE HMC hHeld e2 e3 H6 H7 HP5 s1
          go_wp2_with fail
          go_loopw [14] (fun v14 wz => ∃ j : Nat, v14 = .int .i64 j ∧ j ≤ m ∧ Pw F w wz p br s2 (.slice pv m cv)) (fun v14 _ => m - (intOf v14).toNat)
          case atStart => exact ⟨0, rfl, Nat.zero_le _, HP7.out⟩
          case round =>
            obtain ⟨j, rfl, hj, hp⟩ := hrel
            have HP : Hid (Pw F w wr p br s2 (.slice pv m cv)) := hp
            have c0 : wr.cell? ⟨br, 0, none⟩ = some (.slice pv m cv) := hp.r.blk.cell 0
            clear hp HP7
            by_cases hjm : j < m
            · have hj1 : (j : Int) < (m : Int) := by omega
              have hjl : j < s2.L.length := by rw [HM.out.1]; exact hjm
              have hrow := HP.out.r.row
              rw [HM.out.1] at hrow
              obtain ⟨g, rfl, _, hce⟩ := rowE_at hrow hjl
              have hmem : s2.L[j] ∈ s2.L := List.getElem_mem hjl
              have hok := (I.ok HP.out.f).all _ hmem
              have HUQ : Hid (U64 (s2.L[j]).id) := ⟨hok.i0, by have := hok.i1; have := (I.ok HP.out.f).n1; omega⟩
              have HFI : Hid (findI s2.L (s2.L[j]).id = some s2.L[j]) := findI_of (I.ok HP.out.f).up hmem
              have HRC : Hid (∀ X, Pw F w X p br s2 (.slice (some ⟨g, 0, none⟩) m cv) → ∀ i u, (s2.L[j]).cells[i]? = some u → X.cell? ⟨g, j * 6 + i, none⟩ = some u) := fun X hX => by
                have hrow := hX.r.row
                rw [HM.out.1] at hrow
                obtain ⟨g', e', _, hc⟩ := rowE_at hrow hjl
                cases e'
                exact hc
              clear hmem hok hrow
              obtain ⟨q, hq⟩ : ∃ q, s2.L[j] = q := ⟨_, rfl⟩
              rw [hq] at hce HUQ HFI HRC
              clear hq hjl
              obtain ⟨q1, q2, q3, q4, q5, q6⟩ := q
              have a0 := hce 0 _ rfl
              rw [Nat.add_zero] at a0
              have HC1 : Hid (Calls Try.prog 14 #[.pointer (some ⟨p, 0, none⟩), .int .u64 q1] wr fun e w' => Tld F w wr p s2 (.tuple #[.agg #[.int .u64 q1, .int .i64 q2, .int .i64 q3, .int .i64 q4, .int .i64 q5, .int .i64 q6], .bool true]) e w') := by
                have := I.get HUQ.out HP.out.f
                rw [HFI.out] at this
                exact this
              clear hce HFI
              go_wp2_with fail
              refine HC1.out.mono ?_
              rintro e w9 ⟨rfl, h9, f9⟩
              have H9 : Hid (Pw F w (w9.alloc (.cells #[.int .u64 q1, .int .i64 q2, .int .i64 q3, .int .i64 q4, .int .i64 q5, .int .i64 q6] 44)) p br s2 (.slice (some ⟨g, 0, none⟩) m cv)) := (HP.out.step h9 f9).over I (below_new _ _)
              have B9 : Hid (Blk (w9.alloc (.cells #[.int .u64 q1, .int .i64 q2, .int .i64 q3, .int .i64 q4, .int .i64 q5, .int .i64 q6] 44)) w9.heap.size 44 [.int .u64 q1, .int .i64 q2, .int .i64 q3, .int .i64 q4, .int .i64 q5, .int .i64 q6]) := blk_new _ _ _
              clear h9 f9 HC1 a0 HP c0
              go_upto_region 16 with fail
              generalize (w9.alloc (.cells #[.int .u64 q1, .int .i64 q2, .int .i64 q3, .int .i64 q4, .int .i64 q5, .int .i64 q6] 44)) = w10 at *
              generalize w9.heap.size = be at *
              have c0 : w10.cell? ⟨br, 0, none⟩ = some (.slice (some ⟨g, 0, none⟩) m cv) := H9.out.r.blk.cell 0
              have m0 := B9.out.cell 0
              have m1 := B9.out.cell 1
              have m2 := B9.out.cell 2
              have m3 := B9.out.cell 3
              have m4 := B9.out.cell 4
              have m5 := B9.out.cell 5
              have a0 := HRC.out w10 H9.out 0 _ rfl
              rw [Nat.add_zero] at a0
              have a1 := HRC.out w10 H9.out 1 _ rfl
              have a2 := HRC.out w10 H9.out 2 _ rfl
              have a3 := HRC.out w10 H9.out 3 _ rfl
              have a4 := HRC.out w10 H9.out 4 _ rfl
              have a5 := HRC.out w10 H9.out 5 _ rfl
              have q2e : ∀ X, (binOp .neq 44 (.agg #[.int .u64 q1, .int .i64 q2, .int .i64 q3, .int .i64 q4, .int .i64 q5, .int .i64 q6]) (.agg #[.int .u64 q1, .int .i64 q2, .int .i64 q3, .int .i64 q4, .int .i64 q5, .int .i64 q6])).run Try.prog X = .ok (.bool false) X := fun X => by
                have := neq_en ⟨q1, q2, q3, q4, q5, q6⟩ ⟨q1, q2, q3, q4, q5, q6⟩ X
                rw [En.same_self] at this
                exact this
              have g2e : ∀ (X : World) (s t : Operand), (eqGuard .neq 44 s t (.agg #[.int .u64 q1, .int .i64 q2, .int .i64 q3, .int .i64 q4, .int .i64 q5, .int .i64 q6]) (.agg #[.int .u64 q1, .int .i64 q2, .int .i64 q3, .int .i64 q4, .int .i64 q5, .int .i64 q6])).run Try.prog X = .ok () X := fun X s t => guard_en .neq _ _ _ _ X (.inr rfl)
              have hm8 : m ≤ 8 := HM.out.2
              have HDN : Hid (∀ mm, Pw F w (w10.drewN mm) p br s2 (.slice (some ⟨g, 0, none⟩) m cv)) := fun mm => H9.out.over I (below_drewN w10 mm)
              clear H9 B9 HRC
              go_wp2_with fail
              go_quiet (fail)
              go_wp2_with fail
              go_roundw
              case rel => exact ⟨j + 1, by go_num, hjm, HDN.out _⟩
              case measure => simp [intOf]; omega
            · have hj1 : ¬ (j : Int) < (m : Int) := by omega
              have HL : Hid (F w wr p s2 ∧ RfT wr w.heap.size br s2) := ⟨HP.out.f, _, HP.out.r⟩
              clear HP
              go_wp2_with fail
              go_roundw
              case rel => exact ⟨i + 1, s2, by go_num, h200, HL.out⟩
              case measure => simp [intOf]; omega
        · have h201 : ¬ (i : Int) < 200 := by omega
          have h202 : decide ((i : Int) < 200) = false := decide_eq_false h201
          clear HCR
          go_wp2_with fail
          go_ret
          exact ⟨rfl, I.bel HT.out.1⟩
      · have hil1 : ¬ (i : Int) < (l.length : Int) := by omega
        have hil2 : decide ((i : Int) < (l.length : Int)) = false := decide_eq_false hil1
        clear HCR
        go_wp2_with fail
        go_ret
        exact ⟨rfl, I.bel HT.out.1⟩

end Go.Proofs.Ytlckconhhhllkaa
