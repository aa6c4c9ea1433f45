/-
  Timers, call by call: the law's walk.
-/
import Derived.Test.YtifddbfcongepaaRTick
import Derived.Test.YtifddbfcongepaaTmF
import Derived.Test.YtifddbfcongepaaAwake
import Derived.BigQuiet
import Derived.Deep.DeepCutAuto
namespace Go.Proofs.Ytifddbfcongepaa
open Go.RowKit Go.Maps

theorem rft_lower {W : World} {base base' br : Nat} {v : Int} {R : Tm} (h : RfT W base br v R) (hb : base' ≤ base) : RfT W base' br v R := by
  obtain ⟨vi, vl, h⟩ := h
  exact ⟨vi, vl, Nat.le_trans hb h.bb, h.blk, owns_lower h.ri hb, owns_lower h.rl hb⟩
theorem not_map {W : World} {B k : Nat} {T : Tm} {cs : Array Value} {t : TypeId} {fz : Nat × Nat} (hm : MpT W B T) (hk : W.heap[k]? = some (.cells cs t fz)) : k ≠ B := by
  rintro rfl
  obtain ⟨D, ⟨es, c, h1, _⟩, _⟩ := hm
  rw [h1] at hk
  cases hk
theorem own_not_map {W : World} {B base n : Nat} {T : Tm} {e : TypeId} {v : Value} {xs : List Value} (hm : MpT W B T) (h : W.ownsRow base e 1 v n xs) : ∀ k, v.ownBlock = some k → k ∉ [B] := by
  intro k hk
  rcases h.2 with ⟨rfl, _⟩ | ⟨g, cap, cur, rfl, hg, hh, _⟩
  · cases hk
  · cases hk
    simp only [List.mem_singleton]
    exact not_map hm hh
theorem rft_grown {W W' : World} {base br B : Nat} {v : Int} {T R : Tm} (h : RfT W base br v R) (hm : MpT W B T) (hg : W.grownBy W' (some B)) : RfT W' base br v R := by
  obtain ⟨vi, vl, h⟩ := h
  have fr : Fr [] [B] 0 W W' := fr_grown hg (Nat.zero_le _) (Nat.zero_le _) (by simp)
  exact ⟨vi, vl, h.bb, h.blk.fr fr (by simp) (by simp only [List.mem_singleton]; exact not_map hm h.blk), owns_fr h.ri fr (by simp) (own_not_map hm h.ri), owns_fr h.rl fr (by simp) (own_not_map hm h.rl)⟩

/-- the program's timers and the document's. -/
structure Pl (w W : World) (b B br : Nat) (v : Int) (T R : Tm) (n : Nat) : Prop where
  tm : TmF w W b B v T n
  rf : RfT W w.heap.size br v R
  ok : Okt R v n
section
variable {w W : World} {b B br n : Nat} {v z : Int} {T R : Tm}
theorem Pl.over {W' : World} (h : Pl w W b B br v T R n) (hb : Below W.heap.size W W') : Pl w W' b B br v T R n := ⟨h.tm.over hb, h.rf.over hb, h.ok⟩
theorem Pl.t {W' : World} {T' : Tm} {n' : Nat} (h : Pl w W b B br v T R n) (ht : TmV W' b B v T') (hg : W.grownBy W' (some B)) (hok : Okt T' v n') (hn : n ≤ n') : Pl w W' b B br v T' R n' :=
  ⟨⟨ht, grown_bel h.tm.bel hg h.tm.B0, h.tm.b0, h.tm.B0, hok⟩, rft_grown h.rf h.tm.tm.2.1 hg, h.ok.mono hn⟩
theorem Pl.r {W' : World} {R' : Tm} {n' : Nat} {L : List Nat} (h : Pl w W b B br v T R n) (hr : RfT W' w.heap.size br v R') (hf : Fr L [] w.heap.size W W') (hL : 54 ∉ L) (hok : Okt R' v n') (hn : n ≤ n') : Pl w W' b B br v T R' n' :=
  ⟨⟨h.tm.tm.fr hf hL (by simp) (by simp), h.tm.bel.trans hf.bel, h.tm.b0, h.tm.B0, h.tm.ok.mono hn⟩, hr, hok⟩
theorem pl_set (h : Pl w W b B br v T R n) (hz : U64 z) (hn : n ≤ 1000) : Calls Try.prog 11 #[.pointer (some ⟨b, 0, none⟩), .int .u64 z] W fun e w' => e = .returned (.tuple #[]) ∧ Pl w w' b B br v (setT T z v) R (n + 1) := by
  refine (set_any b B v z T W h.tm.tm h.tm.ok.nd (Nat.le_trans h.tm.ok.len (by omega)) h.tm.ok.v1 h.tm.ok.v2 hz).mono ?_
  rintro e w' ⟨rfl, h1, h2⟩
  exact ⟨rfl, h.t h1 h2 (h.tm.ok.set hz) (Nat.le_succ _)⟩
theorem pl_stop (h : Pl w W b B br v T R n) (hz : U64 z) : Calls Try.prog 13 #[.pointer (some ⟨b, 0, none⟩), .int .u64 z] W fun e w' => e = .returned (.bool (decide (z ∈ keys T))) ∧ Pl w w' b B br v (stopT T z) R n := by
  refine (stop_any b B v z T W h.tm.tm h.tm.ok hz).mono ?_
  rintro e w' ⟨rfl, h1, h2⟩
  exact ⟨rfl, h.t h1 h2 (h.tm.ok.stop z) (Nat.le_refl _)⟩
theorem pl_tick (h : Pl w W b B br v T R n) (hn : n ≤ 1000) : Calls Try.prog 16 #[.pointer (some ⟨b, 0, none⟩)] W fun e w' => ∃ v' ts, e = .returned v' ∧ w'.ownsRow W.heap.size 31 1 v' ts.length (cellsZ ts) ∧ Rise ts ∧ (∀ z, z ∈ ts ↔ z ∈ offs T) ∧ Pl w w' b B br v (tickT T v) R n := by
  refine (tick_any b B v T W h.tm.tm h.tm.ok hn).mono ?_
  rintro e w' ⟨v', ts, rfl, h1, h2, h3, h4, h5⟩
  exact ⟨v', ts, rfl, h1, h2, h3, h.t h4 h5 h.tm.ok.tick (Nat.le_refl _)⟩
theorem pl_rset (h : Pl w W b B br v T R n) (hz : U64 z) (hn : n ≤ 999) : Calls Try.prog 12 #[.pointer (some ⟨br, 0, none⟩), .int .u64 z] W fun e w' => e = .returned (.tuple #[]) ∧ Pl w w' b B br v T (setT R z v) (n + 1) := by
  refine (rset_any W w.heap.size br v z R h.rf h.ok.nd (Nat.le_trans h.ok.len (by omega)) h.tm.bel.size).mono ?_
  rintro e w' ⟨rfl, h1, h2⟩
  exact ⟨rfl, h.r h1 h2 (by simp) (h.ok.set hz) (Nat.le_succ _)⟩
theorem pl_rstop (h : Pl w W b B br v T R n) (hn : n ≤ 1000) : Calls Try.prog 14 #[.pointer (some ⟨br, 0, none⟩), .int .u64 z] W fun e w' => e = .returned (.bool (decide (z ∈ keys R))) ∧ Pl w w' b B br v T (stopT R z) n := by
  refine (rstop_any W w.heap.size br v z R h.rf h.ok.nd (Nat.le_trans h.ok.len hn) h.tm.bel.size).mono ?_
  rintro e w' ⟨rfl, h1, h2⟩
  exact ⟨rfl, h.r h1 h2 (by simp) (h.ok.stop z) (Nat.le_refl _)⟩
theorem pl_rtick (h : Pl w W b B br v T R n) (hn : n ≤ 1000) : Calls Try.prog 17 #[.pointer (some ⟨br, 0, none⟩)] W fun e w' => ∃ v' ts, e = .returned v' ∧ w'.ownsRow W.heap.size 31 1 v' ts.length (cellsZ ts) ∧ Rise ts ∧ (∀ z, z ∈ ts ↔ z ∈ offs R) ∧ Pl w w' b B br v T (tickT R v) n ∧ Fr [3] [] w.heap.size W w' := by
  refine (rtick_any W w.heap.size br v R h.rf h.ok (Nat.le_trans h.ok.len hn) h.tm.bel.size).mono ?_
  rintro e w' ⟨v', ts, rfl, h1, h2, h3, h4, h5⟩
  exact ⟨v', ts, rfl, h1, h2, h3, h.r h4 h5 (by simp) h.ok.tick (Nat.le_refl _), h5⟩
end

set_option maxHeartbeats 16000000 in
set_option maxRecDepth 8000 in
theorem plays_go (w : World) (v : Int) (a : Option Addr) (len cap : Nat) (l : List (Int × Int)) (h1 : 1 ≤ v) (h2 : v ≤ 1000) (h : OpsR w a len l) : Calls Try.prog 3 #[.int .i64 v, .slice a len cap] w fun e w' => e = .returned (.bool true) ∧ Below w.heap.size w w' := by
  obtain rfl : len = l.length := h.1.symm
  have hmax : l.length ≤ 9223372036854775807 := by have := h.2.1; unfold maxLen at this; omega
  have HA : Hid (Calls Try.prog 8 #[] w fun e w' => e = .returned (.bool true) ∧ Below w.heap.size w w') := awake_any w
  have HR : Hid (OpsR w a l.length l) := h
  have HV : Hid (1 ≤ v ∧ v ≤ 1000) := ⟨h1, h2⟩
  clear h h1 h2
  go_enter Try.func3, Try.ntmps3
  go_wp2_with fail
  refine HA.out.mono ?_
  rintro e w1 ⟨rfl, hb1⟩
  have B1 : Hid (Below w.heap.size w w1) := hb1
  clear hb1 HA
  go_wp2_with fail
  refine (new_f B1.out HV.out.1 HV.out.2).mono ?_
  rintro e w2 ⟨b, B, rfl, ht2⟩
  have T2 : Hid (TmF w w2 b B v [] 0) := ht2
  clear ht2 B1
  go_wp2_with fail
  refine (rnew_any v w2 HV.out.1 HV.out.2).mono ?_
  rintro e w3 ⟨br, rfl, hr3, hb3⟩
  have HG0 : Hid (Pl w w3 b B br v [] [] 0) := ⟨T2.out.over hb3, rft_lower hr3 T2.out.bel.size, T2.out.ok⟩
  clear hr3 hb3 T2
  go_wp2_with fail
  go_loopw [10] (fun v10 wr => ∃ (i : Nat) (T : Tm) (n : Nat), v10 = .int .i64 i ∧ i ≤ 200 ∧ n ≤ 2 * i ∧ Pl w wr b B br v T T n) (fun v10 _ => 200 - (intOf v10).toNat)
  case atStart => exact ⟨0, [], 0, rfl, Nat.zero_le _, Nat.zero_le _, HG0.out⟩
  case round =>
    obtain ⟨i, T, n, rfl, hi, hn, hg⟩ := hrel
    have HG : Hid (Pl w wr b B br v T T n) := hg
    have HCR : Hid (OpsR wr a l.length l) := HR.out.below hg.tm.bel
    clear hg HG0
    by_cases hil : i < l.length
    · have hil1 : (i : Int) < (l.length : Int) := by omega
      have hil2 : decide ((i : Int) < (l.length : Int)) = true := decide_eq_true hil1
      by_cases h200 : i < 200
      · have h201 : (i : Int) < 200 := by omega
        have h202 : decide ((i : Int) < 200) = true := decide_eq_true h201
        have HNK : Hid (n ≤ 2 * i ∧ i < 200 ∧ i < l.length) := ⟨hn, h200, hil⟩
        obtain ⟨bb, oo, ea, cd, cz, hu⟩ := HCR.out.at hil
        obtain ⟨bb', oo', ea', _, cz0, _⟩ := HR.out.at hil
        rw [ea] at ea'
        cases ea'
        subst ea
        have HU : Hid (U64 l[i].2) := hu
        have HCZ : Hid (∀ X, Below w.heap.size w X → X.cell? ⟨bb, oo + i * 2 + 1, none⟩ = some (.int .u64 l[i].2)) := fun X hX => by
          rw [hX.cell (p := ⟨bb, oo + i * 2 + 1, none⟩) (World.block_lt_of_cell? w _ cz0)]
          exact cz0
        clear hu cz0 HCR hn
        generalize l[i].1 = dd at *
        generalize l[i].2 = zz at *
        by_cases hd0 : dd = 0
        · have hd01 : (dd == 0) = true := by simp [hd0]
          clear hd0
          go_wp2_with fail
          refine (pl_set HG.out HU.out (by have := HNK.out; omega)).mono ?_
          rintro e w5 ⟨rfl, hp⟩
          have HG5 : Hid (Pl w w5 b B br v (setT T zz v) T (n + 1)) := hp
          have cz5 : w5.cell? ⟨bb, oo + i * 2 + 1, none⟩ = some (.int .u64 zz) := HCZ.out w5 hp.tm.bel
          clear hp cz cd
          go_wp2_with fail
          refine (pl_rset HG5.out HU.out (by have := HNK.out; omega)).mono ?_
          rintro e w6 ⟨rfl, hp⟩
          have HG6 : Hid (Pl w w6 b B br v (setT T zz v) (setT T zz v) (n + 2)) := hp
          clear hp cz5 HG5
          go_wp2_with fail
          obtain ⟨TT, hTT⟩ : ∃ t, setT T zz v = t := ⟨_, rfl⟩
          obtain ⟨nn, hnn⟩ : ∃ t, n + 2 = t := ⟨_, rfl⟩
          have HNN : Hid (nn ≤ 2 * (i + 1) ∧ nn ≤ 900) := ⟨by have := HNK.out; omega, by have := HNK.out; omega⟩
          have HQ : Hid (Pl w w6.drew b B br v TT TT nn) := by
            have := HG6.out.over (Below.refl _ _).drew
            rw [hTT, hnn] at this
            exact this
          clear hTT hnn HG6
          refine wp_region_late (E := []) (S := (fun X => Below w6.drew.heap.size w6.drew X)) (by kernel_rfl) (Below.refl _ _) (fun hHeld => ?_)
          simp only [List.size_toArray, List.length_cons, List.length_nil, Nat.reduceAdd]
          generalize w6.drew = wd at *
          obtain ⟨vi, vl, hrf⟩ := HQ.out.rf
          obtain ⟨pi, ci, hvi⟩ := row_slice hrf.ri
          obtain ⟨m0, hm0⟩ : ∃ m, (keys TT).length = m := ⟨_, rfl⟩
          rw [hm0] at hvi
          subst hvi
          have HM0 : Hid ((keys TT).length = m0) := hm0
          have HCI : Hid (∀ X, Below wd.heap.size wd X → X.cell? ⟨br, 1, none⟩ = some (.slice pi m0 ci)) := fun X hX => (hrf.blk.over hX).cell 1
          have HMN : Hid (∀ X, Below wd.heap.size wd X → NumR X pi m0 (keys TT)) := fun X hX => by
            have q := owns_below hrf.ri hX (Nat.le_refl _)
            have q2 := HQ.out.tm.ok.len
            have q3 := HNN.out
            rw [hm0] at q
            have := num_row (os := keys TT) (by rw [hm0]; exact q) (fun z hz => by obtain ⟨x, hx⟩ := mem_keys.1 hz; exact (HQ.out.tm.ok.rng _ hx).1) (by rw [keys_len]; omega)
            exact this
          clear hrf hm0
          refine wpAnyL_take [1, 7, 8] (i := 0) (v := ?_) (by kernel_rfl) (by kernel_rfl) (by kernel_rfl) rfl (by kernel_rfl) (by kernel_rfl) (by kernel_rfl) (fun _ _ _ h => h) (Or.inl ⟨by rfl, ?_⟩) hHeld ?_
          rotate_left
          · (intro w hSw; (try dsimp only at hSw); go_simp; try with_reducible rfl)
          try simp only [Act.put, List.setIfInBounds_toArray, List.set_cons_zero, List.set_cons_succ, List.getElem_toArray, List.getElem_cons_zero]
          refine wpAnyL_take [3, 4, 5, 6, 7, 8] (i := 2) (v := ?_) (by kernel_rfl) (by kernel_rfl) (by kernel_rfl) rfl (by kernel_rfl) (by kernel_rfl) (by kernel_rfl) (fun _ _ _ h => h) (Or.inl ⟨by rfl, ?_⟩) hHeld ?_
          rotate_left
          · (intro w hSw; (try dsimp only at hSw); go_simp; try with_reducible rfl)
          try simp only [Act.put, List.setIfInBounds_toArray, List.set_cons_zero, List.set_cons_succ, List.getElem_toArray, List.getElem_cons_zero, List.getElem_cons_succ]
          refine wpAnyL_take [4, 5, 6, 7, 8] (i := 3) (v := ?_) (by kernel_rfl) (by kernel_rfl) (by kernel_rfl) rfl (by kernel_rfl) (by kernel_rfl) (by kernel_rfl) (fun _ _ _ h => h) (Or.inl ⟨by rfl, ?_⟩) hHeld ?_
          rotate_left
          · (intro w hSw; (try dsimp only at hSw); go_simp; try with_reducible rfl)
          try simp only [Act.put, List.setIfInBounds_toArray, List.set_cons_zero, List.set_cons_succ, List.getElem_toArray, List.getElem_cons_zero, List.getElem_cons_succ]
          refine wpAnyL_take [5, 6, 7, 8] (i := 4) (v := ?_) (by kernel_rfl) (by kernel_rfl) (by kernel_rfl) rfl (by kernel_rfl) (by kernel_rfl) (by kernel_rfl) (fun _ _ _ h => h) (Or.inl ⟨by rfl, ?_⟩) hHeld ?_
          rotate_left
          · (intro w hSw; (try dsimp only at hSw); go_simp; try with_reducible rfl)
          try simp only [Act.put, List.setIfInBounds_toArray, List.set_cons_zero, List.set_cons_succ, List.getElem_toArray, List.getElem_cons_zero, List.getElem_cons_succ]
          refine wpAnyL_take [6, 7, 8] (i := 5) (v := ?_) (by kernel_rfl) (by kernel_rfl) (by kernel_rfl) rfl (by kernel_rfl) (by kernel_rfl) (by kernel_rfl) (fun _ _ _ h => h) (Or.inl ⟨by rfl, ?_⟩) hHeld ?_
          rotate_left
          · (intro w hSw; (try dsimp only at hSw); have hc := HCI.out w hSw; go_simp; try with_reducible rfl)
          try simp only [Act.put, List.setIfInBounds_toArray, List.set_cons_zero, List.set_cons_succ, List.getElem_toArray, List.getElem_cons_zero, List.getElem_cons_succ]
          refine wpAnyL_one (i := 1) (by kernel_rfl) rfl (fun K hK => ?_)
          go_simp
          go_at_call 18
          refine (ids_any b B v TT wd HQ.out.tm.tm HQ.out.tm.ok (by have := HNN.out; omega)).mono ?_
          rintro e w7 ⟨v7, t7, rfl, q1, q2, q3, q4⟩
          have HR7 : Hid (w7.ownsRow wd.heap.size 31 1 v7 t7.length (cellsZ t7) ∧ Rise t7 ∧ ∀ z, z ∈ t7 ↔ z ∈ keys TT) := ⟨q1, q2, q3⟩
          have s1 : Below wd.heap.size wd w7 := q4
          have hl7 : t7.length ≤ 1000 := by
            have := nodup_le t7 (keys TT) q2.nodup fun z hz => (q3 z).1 hz
            have e2 := HQ.out.tm.ok.len
            have e3 := HNN.out
            rw [keys_len] at this
            omega
          have HL7 : Hid (t7.length ≤ 1000) := hl7
          obtain ⟨p7, c7, rfl⟩ := row_slice q1
          obtain ⟨m7, hm7⟩ : ∃ m, t7.length = m := ⟨_, rfl⟩
          have HM7 : Hid (t7.length = m7) := hm7
          rw [hm7]
          clear q1 q2 q3 q4 hl7 hm7
          refine hK.out _ _ (fun _ => s1) ?_
          replace hHeld := s1
          clear hK K
          try simp only [Act.put, List.setIfInBounds_toArray, List.set_cons_zero, List.set_cons_succ, List.getElem_toArray, List.getElem_cons_zero, List.getElem_cons_succ]
          refine wpAnyL_one (i := 6) (by kernel_rfl) rfl (fun K hK => ?_)
          go_simp
          go_at_call 19
          refine (rrising_any w7 pi m0 ci (keys TT) (HMN.out w7 hHeld) HQ.out.tm.ok.nd (by have := HM0.out; have := HQ.out.tm.ok.len; have := HNN.out; rw [keys_len] at *; omega)).mono ?_
          rintro e w8 ⟨v8, t8, rfl, q1, q2, q3, q4⟩
          have s2 : Below wd.heap.size wd w8 := hHeld.trans (q4.mono hHeld.size)
          have h78 : t8 = t7 := rise_ext q2 HR7.out.2.1 fun z => (q3 z).trans (HR7.out.2.2 z).symm
          subst h78
          have HR8 : Hid (w8.ownsRow wd.heap.size 31 1 (.slice p7 t8.length c7) t8.length (cellsZ t8) ∧ w8.ownsRow w7.heap.size 31 1 v8 t8.length (cellsZ t8)) := ⟨owns_below HR7.out.1 q4 (Nat.le_refl _), q1⟩
          obtain ⟨p8, c8, rfl⟩ := row_slice q1
          clear q1 q2 q3 q4
          rw [HM7.out] at HR8
          rw [HM7.out]
          refine hK.out _ _ (fun _ => s2) ?_
          replace hHeld := s2
          clear hK K
          try simp only [Act.put, List.setIfInBounds_toArray, List.set_cons_zero, List.set_cons_succ, List.getElem_toArray, List.getElem_cons_zero, List.getElem_cons_succ]
          refine wpAnyL_one (i := 7) (by kernel_rfl) rfl (fun K hK => ?_)
          go_simp
          go_at_call 15
          refine (rsame_any w8 wd.heap.size w7.heap.size (.slice p7 m7 c7) (.slice p8 m7 c8) t8 (by rw [HM7.out]; exact HR8.out.1) (by rw [HM7.out]; exact HR8.out.2) HL7.out).mono ?_
          rintro e w9 ⟨rfl, hb9⟩
          have s3 : Below wd.heap.size wd w9 := hHeld.trans (hb9.mono hHeld.size)
          clear hb9
          refine hK.out _ _ (fun _ => s3) ?_
          replace hHeld := s3
          clear hK K
          try simp only [Act.put, List.setIfInBounds_toArray, List.set_cons_zero, List.set_cons_succ, List.getElem_toArray, List.getElem_cons_zero, List.getElem_cons_succ]
          refine wpAnyL_take [] (i := 8) (v := ?_) (by kernel_rfl) (by kernel_rfl) (by kernel_rfl) rfl (by kernel_rfl) (by kernel_rfl) (by kernel_rfl) (fun _ _ _ h => h) (Or.inl ⟨by rfl, ?_⟩) hHeld ?_
          rotate_left
          · (intro w hSw; (try dsimp only at hSw); go_simp; try with_reducible rfl)
          try simp only [Act.put, List.setIfInBounds_toArray, List.set_cons_zero, List.set_cons_succ, List.getElem_toArray, List.getElem_cons_zero, List.getElem_cons_succ]
          refine wpAnyL_done (by kernel_rfl) ?_ _
          have HE : Hid (Pl w w9 b B br v TT TT nn) := HQ.out.over s3
          clear hHeld s3
          go_wp2_with fail
          go_roundw
          case rel => exact ⟨i + 1, TT, nn, by go_num, by have := HNK.out; omega, HNN.out.1, HE.out⟩
          case measure => simp [intOf]; have := HNK.out; omega
        · have hd00 : (dd == 0) = false := by simp [hd0]
          by_cases hd1 : dd = 1
          · have hd11 : (dd == 1) = true := by simp [hd1]
            clear hd1 hd0
            go_wp2_with fail
            refine (pl_set HG.out HU.out (by have := HNK.out; omega)).mono ?_
            rintro e w5 ⟨rfl, hp⟩
            have HG5 : Hid (Pl w w5 b B br v (setT T zz v) T (n + 1)) := hp
            have cz5 : w5.cell? ⟨bb, oo + i * 2 + 1, none⟩ = some (.int .u64 zz) := HCZ.out w5 hp.tm.bel
            clear hp cz cd
            go_wp2_with fail
            refine (pl_rset HG5.out HU.out (by have := HNK.out; omega)).mono ?_
            rintro e w6 ⟨rfl, hp⟩
            have HG6 : Hid (Pl w w6 b B br v (setT T zz v) (setT T zz v) (n + 2)) := hp
            clear hp cz5 HG5
            go_wp2_with fail
            obtain ⟨TT, hTT⟩ : ∃ t, setT T zz v = t := ⟨_, rfl⟩
            obtain ⟨nn, hnn⟩ : ∃ t, n + 2 = t := ⟨_, rfl⟩
            have HNN : Hid (nn ≤ 2 * (i + 1) ∧ nn ≤ 900) := ⟨by have := HNK.out; omega, by have := HNK.out; omega⟩
            have HQ : Hid (Pl w w6.drew b B br v TT TT nn) := by
              have := HG6.out.over (Below.refl _ _).drew
              rw [hTT, hnn] at this
              exact this
            clear hTT hnn HG6
            refine wp_region_late (E := []) (S := (fun X => Below w6.drew.heap.size w6.drew X)) (by kernel_rfl) (Below.refl _ _) (fun hHeld => ?_)
            simp only [List.size_toArray, List.length_cons, List.length_nil, Nat.reduceAdd]
            generalize w6.drew = wd at *
            obtain ⟨vi, vl, hrf⟩ := HQ.out.rf
            obtain ⟨pi, ci, hvi⟩ := row_slice hrf.ri
            obtain ⟨m0, hm0⟩ : ∃ m, (keys TT).length = m := ⟨_, rfl⟩
            rw [hm0] at hvi
            subst hvi
            have HM0 : Hid ((keys TT).length = m0) := hm0
            have HCI : Hid (∀ X, Below wd.heap.size wd X → X.cell? ⟨br, 1, none⟩ = some (.slice pi m0 ci)) := fun X hX => (hrf.blk.over hX).cell 1
            have HMN : Hid (∀ X, Below wd.heap.size wd X → NumR X pi m0 (keys TT)) := fun X hX => by
              have q := owns_below hrf.ri hX (Nat.le_refl _)
              have q2 := HQ.out.tm.ok.len
              have q3 := HNN.out
              rw [hm0] at q
              have := num_row (os := keys TT) (by rw [hm0]; exact q) (fun z hz => by obtain ⟨x, hx⟩ := mem_keys.1 hz; exact (HQ.out.tm.ok.rng _ hx).1) (by rw [keys_len]; omega)
              exact this
            clear hrf hm0
            refine wpAnyL_take [1, 7, 8] (i := 0) (v := ?_) (by kernel_rfl) (by kernel_rfl) (by kernel_rfl) rfl (by kernel_rfl) (by kernel_rfl) (by kernel_rfl) (fun _ _ _ h => h) (Or.inl ⟨by rfl, ?_⟩) hHeld ?_
            rotate_left
            · (intro w hSw; (try dsimp only at hSw); go_simp; try with_reducible rfl)
            try simp only [Act.put, List.setIfInBounds_toArray, List.set_cons_zero, List.set_cons_succ, List.getElem_toArray, List.getElem_cons_zero]
            refine wpAnyL_take [3, 4, 5, 6, 7, 8] (i := 2) (v := ?_) (by kernel_rfl) (by kernel_rfl) (by kernel_rfl) rfl (by kernel_rfl) (by kernel_rfl) (by kernel_rfl) (fun _ _ _ h => h) (Or.inl ⟨by rfl, ?_⟩) hHeld ?_
            rotate_left
            · (intro w hSw; (try dsimp only at hSw); go_simp; try with_reducible rfl)
            try simp only [Act.put, List.setIfInBounds_toArray, List.set_cons_zero, List.set_cons_succ, List.getElem_toArray, List.getElem_cons_zero, List.getElem_cons_succ]
            refine wpAnyL_take [4, 5, 6, 7, 8] (i := 3) (v := ?_) (by kernel_rfl) (by kernel_rfl) (by kernel_rfl) rfl (by kernel_rfl) (by kernel_rfl) (by kernel_rfl) (fun _ _ _ h => h) (Or.inl ⟨by rfl, ?_⟩) hHeld ?_
            rotate_left
            · (intro w hSw; (try dsimp only at hSw); go_simp; try with_reducible rfl)
            try simp only [Act.put, List.setIfInBounds_toArray, List.set_cons_zero, List.set_cons_succ, List.getElem_toArray, List.getElem_cons_zero, List.getElem_cons_succ]
            refine wpAnyL_take [5, 6, 7, 8] (i := 4) (v := ?_) (by kernel_rfl) (by kernel_rfl) (by kernel_rfl) rfl (by kernel_rfl) (by kernel_rfl) (by kernel_rfl) (fun _ _ _ h => h) (Or.inl ⟨by rfl, ?_⟩) hHeld ?_
            rotate_left
            · (intro w hSw; (try dsimp only at hSw); go_simp; try with_reducible rfl)
            try simp only [Act.put, List.setIfInBounds_toArray, List.set_cons_zero, List.set_cons_succ, List.getElem_toArray, List.getElem_cons_zero, List.getElem_cons_succ]
            refine wpAnyL_take [6, 7, 8] (i := 5) (v := ?_) (by kernel_rfl) (by kernel_rfl) (by kernel_rfl) rfl (by kernel_rfl) (by kernel_rfl) (by kernel_rfl) (fun _ _ _ h => h) (Or.inl ⟨by rfl, ?_⟩) hHeld ?_
            rotate_left
            · (intro w hSw; (try dsimp only at hSw); have hc := HCI.out w hSw; go_simp; try with_reducible rfl)
            try simp only [Act.put, List.setIfInBounds_toArray, List.set_cons_zero, List.set_cons_succ, List.getElem_toArray, List.getElem_cons_zero, List.getElem_cons_succ]
            refine wpAnyL_one (i := 1) (by kernel_rfl) rfl (fun K hK => ?_)
            go_simp
            go_at_call 18
            refine (ids_any b B v TT wd HQ.out.tm.tm HQ.out.tm.ok (by have := HNN.out; omega)).mono ?_
            rintro e w7 ⟨v7, t7, rfl, q1, q2, q3, q4⟩
            have HR7 : Hid (w7.ownsRow wd.heap.size 31 1 v7 t7.length (cellsZ t7) ∧ Rise t7 ∧ ∀ z, z ∈ t7 ↔ z ∈ keys TT) := ⟨q1, q2, q3⟩
            have s1 : Below wd.heap.size wd w7 := q4
            have hl7 : t7.length ≤ 1000 := by
              have := nodup_le t7 (keys TT) q2.nodup fun z hz => (q3 z).1 hz
              have e2 := HQ.out.tm.ok.len
              have e3 := HNN.out
              rw [keys_len] at this
              omega
            have HL7 : Hid (t7.length ≤ 1000) := hl7
            obtain ⟨p7, c7, rfl⟩ := row_slice q1
            obtain ⟨m7, hm7⟩ : ∃ m, t7.length = m := ⟨_, rfl⟩
            have HM7 : Hid (t7.length = m7) := hm7
            rw [hm7]
            clear q1 q2 q3 q4 hl7 hm7
            refine hK.out _ _ (fun _ => s1) ?_
            replace hHeld := s1
            clear hK K
            try simp only [Act.put, List.setIfInBounds_toArray, List.set_cons_zero, List.set_cons_succ, List.getElem_toArray, List.getElem_cons_zero, List.getElem_cons_succ]
            refine wpAnyL_one (i := 6) (by kernel_rfl) rfl (fun K hK => ?_)
            go_simp
            go_at_call 19
            refine (rrising_any w7 pi m0 ci (keys TT) (HMN.out w7 hHeld) HQ.out.tm.ok.nd (by have := HM0.out; have := HQ.out.tm.ok.len; have := HNN.out; rw [keys_len] at *; omega)).mono ?_
            rintro e w8 ⟨v8, t8, rfl, q1, q2, q3, q4⟩
            have s2 : Below wd.heap.size wd w8 := hHeld.trans (q4.mono hHeld.size)
            have h78 : t8 = t7 := rise_ext q2 HR7.out.2.1 fun z => (q3 z).trans (HR7.out.2.2 z).symm
            subst h78
            have HR8 : Hid (w8.ownsRow wd.heap.size 31 1 (.slice p7 t8.length c7) t8.length (cellsZ t8) ∧ w8.ownsRow w7.heap.size 31 1 v8 t8.length (cellsZ t8)) := ⟨owns_below HR7.out.1 q4 (Nat.le_refl _), q1⟩
            obtain ⟨p8, c8, rfl⟩ := row_slice q1
            clear q1 q2 q3 q4
            rw [HM7.out] at HR8
            rw [HM7.out]
            refine hK.out _ _ (fun _ => s2) ?_
            replace hHeld := s2
            clear hK K
            try simp only [Act.put, List.setIfInBounds_toArray, List.set_cons_zero, List.set_cons_succ, List.getElem_toArray, List.getElem_cons_zero, List.getElem_cons_succ]
            refine wpAnyL_one (i := 7) (by kernel_rfl) rfl (fun K hK => ?_)
            go_simp
            go_at_call 15
            refine (rsame_any w8 wd.heap.size w7.heap.size (.slice p7 m7 c7) (.slice p8 m7 c8) t8 (by rw [HM7.out]; exact HR8.out.1) (by rw [HM7.out]; exact HR8.out.2) HL7.out).mono ?_
            rintro e w9 ⟨rfl, hb9⟩
            have s3 : Below wd.heap.size wd w9 := hHeld.trans (hb9.mono hHeld.size)
            clear hb9
            refine hK.out _ _ (fun _ => s3) ?_
            replace hHeld := s3
            clear hK K
            try simp only [Act.put, List.setIfInBounds_toArray, List.set_cons_zero, List.set_cons_succ, List.getElem_toArray, List.getElem_cons_zero, List.getElem_cons_succ]
            refine wpAnyL_take [] (i := 8) (v := ?_) (by kernel_rfl) (by kernel_rfl) (by kernel_rfl) rfl (by kernel_rfl) (by kernel_rfl) (by kernel_rfl) (fun _ _ _ h => h) (Or.inl ⟨by rfl, ?_⟩) hHeld ?_
            rotate_left
            · (intro w hSw; (try dsimp only at hSw); go_simp; try with_reducible rfl)
            try simp only [Act.put, List.setIfInBounds_toArray, List.set_cons_zero, List.set_cons_succ, List.getElem_toArray, List.getElem_cons_zero, List.getElem_cons_succ]
            refine wpAnyL_done (by kernel_rfl) ?_ _
            have HE : Hid (Pl w w9 b B br v TT TT nn) := HQ.out.over s3
            clear hHeld s3
            go_wp2_with fail
            go_roundw
            case rel => exact ⟨i + 1, TT, nn, by go_num, by have := HNK.out; omega, HNN.out.1, HE.out⟩
            case measure => simp [intOf]; have := HNK.out; omega
          · have hd10 : (dd == 1) = false := by simp [hd1]
            by_cases hd2 : dd = 2
            · have hd22 : (dd == 2) = true := by simp [hd2]
              clear hd2 hd1 hd0
              go_wp2_with fail
              clear cd
              have HGd : Hid (Pl w wr.drew b B br v T T n) := HG.out.over (Below.refl _ _).drew
              have czd : wr.drew.cell? ⟨bb, oo + i * 2 + 1, none⟩ = some (.int .u64 zz) := HCZ.out _ HGd.out.tm.bel
              clear cz HG
              refine wp_region_late (E := []) (S := (fun X => X.cell? ⟨bb, oo + i * 2 + 1, none⟩ = some (.int .u64 zz))) (by kernel_rfl) (czd) (fun hHeld => ?_)
              simp only [List.size_toArray, List.length_cons, List.length_nil, Nat.reduceAdd]
              generalize wr.drew = W0 at *
              refine wpAnyL_take [6, 14] (i := 0) (v := ?_) (by kernel_rfl) (by kernel_rfl) (by kernel_rfl) rfl (by kernel_rfl) (by kernel_rfl) (by kernel_rfl) (fun _ _ _ h => h) (Or.inl ⟨by rfl, ?_⟩) hHeld ?_
              rotate_left
              · (intro w hSw; (try dsimp only at hSw); go_simp; try with_reducible rfl)
              try simp only [Act.put, List.setIfInBounds_toArray, List.set_cons_zero, List.set_cons_succ, List.getElem_toArray, List.getElem_cons_zero]
              refine wpAnyL_take [3, 4, 5, 6, 14] (i := 1) (v := ?_) (by kernel_rfl) (by kernel_rfl) (by kernel_rfl) rfl (by kernel_rfl) (by kernel_rfl) (by kernel_rfl) (fun _ _ _ h => h) (Or.inl ⟨by rfl, ?_⟩) hHeld ?_
              rotate_left
              · (intro w hSw; (try dsimp only at hSw); go_simp; try with_reducible rfl)
              try simp only [Act.put, List.setIfInBounds_toArray, List.set_cons_zero, List.set_cons_succ, List.getElem_toArray, List.getElem_cons_zero, List.getElem_cons_succ]
              refine wpAnyL_take [3, 4, 5, 6, 14] (i := 2) (v := ?_) (by kernel_rfl) (by kernel_rfl) (by kernel_rfl) rfl (by kernel_rfl) (by kernel_rfl) (by kernel_rfl) (fun _ _ _ h => h) (Or.inl ⟨by rfl, ?_⟩) hHeld ?_
              rotate_left
              · (intro w hSw; (try dsimp only at hSw); go_simp; try with_reducible rfl)
              try simp only [Act.put, List.setIfInBounds_toArray, List.set_cons_zero, List.set_cons_succ, List.getElem_toArray, List.getElem_cons_zero, List.getElem_cons_succ]
              refine wpAnyL_take [4, 5, 6, 14] (i := 3) (v := ?_) (by kernel_rfl) (by kernel_rfl) (by kernel_rfl) rfl (by kernel_rfl) (by kernel_rfl) (by kernel_rfl) (fun _ _ _ h => h) (Or.inl ⟨by rfl, ?_⟩) hHeld ?_
              rotate_left
              · (intro w hSw; (try dsimp only at hSw); go_simp; try with_reducible rfl)
              try simp only [Act.put, List.setIfInBounds_toArray, List.set_cons_zero, List.set_cons_succ, List.getElem_toArray, List.getElem_cons_zero, List.getElem_cons_succ]
              refine wpAnyL_take [5, 6, 14] (i := 4) (v := ?_) (by kernel_rfl) (by kernel_rfl) (by kernel_rfl) rfl (by kernel_rfl) (by kernel_rfl) (by kernel_rfl) (fun _ _ _ h => h) (Or.inl ⟨by rfl, ?_⟩) hHeld ?_
              rotate_left
              · (intro w hSw; (try dsimp only at hSw); go_simp; try with_reducible rfl)
              try simp only [Act.put, List.setIfInBounds_toArray, List.set_cons_zero, List.set_cons_succ, List.getElem_toArray, List.getElem_cons_zero, List.getElem_cons_succ]
              refine wpAnyL_take [6, 14] (i := 5) (v := ?_) (by kernel_rfl) (by kernel_rfl) (by kernel_rfl) rfl (by kernel_rfl) (by kernel_rfl) (by kernel_rfl) (fun _ _ _ h => h) (Or.inl ⟨by rfl, ?_⟩) hHeld ?_
              rotate_left
              · (intro w hSw; (try dsimp only at hSw); go_simp; try with_reducible rfl)
              try simp only [Act.put, List.setIfInBounds_toArray, List.set_cons_zero, List.set_cons_succ, List.getElem_toArray, List.getElem_cons_zero, List.getElem_cons_succ]
              refine wpAnyL_take [13, 14] (i := 7) (v := ?_) (by kernel_rfl) (by kernel_rfl) (by kernel_rfl) rfl (by kernel_rfl) (by kernel_rfl) (by kernel_rfl) (fun _ _ _ h => h) (Or.inl ⟨by rfl, ?_⟩) hHeld ?_
              rotate_left
              · (intro w hSw; (try dsimp only at hSw); go_simp; try with_reducible rfl)
              try simp only [Act.put, List.setIfInBounds_toArray, List.set_cons_zero, List.set_cons_succ, List.getElem_toArray, List.getElem_cons_zero, List.getElem_cons_succ]
              refine wpAnyL_take [10, 11, 12, 13, 14] (i := 8) (v := ?_) (by kernel_rfl) (by kernel_rfl) (by kernel_rfl) rfl (by kernel_rfl) (by kernel_rfl) (by kernel_rfl) (fun _ _ _ h => h) (Or.inl ⟨by rfl, ?_⟩) hHeld ?_
              rotate_left
              · (intro w hSw; (try dsimp only at hSw); go_simp; try with_reducible rfl)
              try simp only [Act.put, List.setIfInBounds_toArray, List.set_cons_zero, List.set_cons_succ, List.getElem_toArray, List.getElem_cons_zero, List.getElem_cons_succ]
              refine wpAnyL_take [10, 11, 12, 13, 14] (i := 9) (v := ?_) (by kernel_rfl) (by kernel_rfl) (by kernel_rfl) rfl (by kernel_rfl) (by kernel_rfl) (by kernel_rfl) (fun _ _ _ h => h) (Or.inl ⟨by rfl, ?_⟩) hHeld ?_
              rotate_left
              · (intro w hSw; (try dsimp only at hSw); go_simp; try with_reducible rfl)
              try simp only [Act.put, List.setIfInBounds_toArray, List.set_cons_zero, List.set_cons_succ, List.getElem_toArray, List.getElem_cons_zero, List.getElem_cons_succ]
              refine wpAnyL_take [11, 12, 13, 14] (i := 10) (v := ?_) (by kernel_rfl) (by kernel_rfl) (by kernel_rfl) rfl (by kernel_rfl) (by kernel_rfl) (by kernel_rfl) (fun _ _ _ h => h) (Or.inl ⟨by rfl, ?_⟩) hHeld ?_
              rotate_left
              · (intro w hSw; (try dsimp only at hSw); go_simp; try with_reducible rfl)
              try simp only [Act.put, List.setIfInBounds_toArray, List.set_cons_zero, List.set_cons_succ, List.getElem_toArray, List.getElem_cons_zero, List.getElem_cons_succ]
              refine wpAnyL_take [12, 13, 14] (i := 11) (v := ?_) (by kernel_rfl) (by kernel_rfl) (by kernel_rfl) rfl (by kernel_rfl) (by kernel_rfl) (by kernel_rfl) (fun _ _ _ h => h) (Or.inl ⟨by rfl, ?_⟩) hHeld ?_
              rotate_left
              · (intro w hSw; (try dsimp only at hSw); go_simp; try with_reducible rfl)
              try simp only [Act.put, List.setIfInBounds_toArray, List.set_cons_zero, List.set_cons_succ, List.getElem_toArray, List.getElem_cons_zero, List.getElem_cons_succ]
              refine wpAnyL_take [13, 14] (i := 12) (v := ?_) (by kernel_rfl) (by kernel_rfl) (by kernel_rfl) rfl (by kernel_rfl) (by kernel_rfl) (by kernel_rfl) (fun _ _ _ h => h) (Or.inl ⟨by rfl, ?_⟩) hHeld ?_
              rotate_left
              · (intro w hSw; (try dsimp only at hSw); go_simp; try with_reducible rfl)
              try simp only [Act.put, List.setIfInBounds_toArray, List.set_cons_zero, List.set_cons_succ, List.getElem_toArray, List.getElem_cons_zero, List.getElem_cons_succ]
              refine wpAnyL_one (i := 6) (by kernel_rfl) rfl (fun K hK => ?_)
              go_simp
              go_at_call 13
              refine (pl_stop HGd.out HU.out).mono ?_
              rintro e w5 ⟨rfl, hp⟩
              have HG5 : Hid (Pl w w5 b B br v (stopT T zz) T n) := hp
              have s1 : w5.cell? ⟨bb, oo + i * 2 + 1, none⟩ = some (.int .u64 zz) := HCZ.out w5 hp.tm.bel
              clear hp
              refine hK.out _ _ (fun _ => s1) ?_
              replace hHeld := s1
              clear hK K
              try simp only [Act.put, List.setIfInBounds_toArray, List.set_cons_zero, List.set_cons_succ, List.getElem_toArray, List.getElem_cons_zero, List.getElem_cons_succ]
              refine wpAnyL_one (i := 13) (by kernel_rfl) rfl (fun K hK => ?_)
              go_simp
              go_at_call 14
              refine (pl_rstop HG5.out (by have := HNK.out; omega)).mono ?_
              rintro e w6 ⟨rfl, hp⟩
              have HG6 : Hid (Pl w w6 b B br v (stopT T zz) (stopT T zz) n) := hp
              have s2 : w6.cell? ⟨bb, oo + i * 2 + 1, none⟩ = some (.int .u64 zz) := HCZ.out w6 hp.tm.bel
              clear hp
              refine hK.out _ _ (fun _ => s2) ?_
              replace hHeld := s2
              clear hK K
              try simp only [Act.put, List.setIfInBounds_toArray, List.set_cons_zero, List.set_cons_succ, List.getElem_toArray, List.getElem_cons_zero, List.getElem_cons_succ]
              refine wpAnyL_take [] (i := 14) (v := ?_) (by kernel_rfl) (by kernel_rfl) (by kernel_rfl) rfl (by kernel_rfl) (by kernel_rfl) (by kernel_rfl) (fun _ _ _ h => h) (Or.inl ⟨by rfl, ?_⟩) hHeld ?_
              rotate_left
              · (intro w hSw; (try dsimp only at hSw); go_simp; try with_reducible rfl)
              try simp only [Act.put, List.setIfInBounds_toArray, List.set_cons_zero, List.set_cons_succ, List.getElem_toArray, List.getElem_cons_zero, List.getElem_cons_succ]
              refine wpAnyL_done (by kernel_rfl) ?_ _
              clear hHeld HG5 s1 s2
              generalize hq : decide (zz ∈ keys T) = q at *
              clear hq
              have hqq : (q != q) = false := by cases q <;> rfl
              go_wp2_with fail
              obtain ⟨TT, hTT⟩ : ∃ t, stopT T zz = t := ⟨_, rfl⟩
              obtain ⟨nn, hnn⟩ : ∃ t, n = t := ⟨_, rfl⟩
              have HNN : Hid (nn ≤ 2 * (i + 1) ∧ nn ≤ 900) := ⟨by have := HNK.out; omega, by have := HNK.out; omega⟩
              have HQ : Hid (Pl w w6.drew b B br v TT TT nn) := by
                have := HG6.out.over (Below.refl _ _).drew
                rw [hTT, hnn] at this
                exact this
              clear hTT hnn HG6
              refine wp_region_late (E := []) (S := (fun X => Below w6.drew.heap.size w6.drew X)) (by kernel_rfl) (Below.refl _ _) (fun hHeld => ?_)
              simp only [List.size_toArray, List.length_cons, List.length_nil, Nat.reduceAdd]
              generalize w6.drew = wd at *
              obtain ⟨vi, vl, hrf⟩ := HQ.out.rf
              obtain ⟨pi, ci, hvi⟩ := row_slice hrf.ri
              obtain ⟨m0, hm0⟩ : ∃ m, (keys TT).length = m := ⟨_, rfl⟩
              rw [hm0] at hvi
              subst hvi
              have HM0 : Hid ((keys TT).length = m0) := hm0
              have HCI : Hid (∀ X, Below wd.heap.size wd X → X.cell? ⟨br, 1, none⟩ = some (.slice pi m0 ci)) := fun X hX => (hrf.blk.over hX).cell 1
              have HMN : Hid (∀ X, Below wd.heap.size wd X → NumR X pi m0 (keys TT)) := fun X hX => by
                have q := owns_below hrf.ri hX (Nat.le_refl _)
                have q2 := HQ.out.tm.ok.len
                have q3 := HNN.out
                rw [hm0] at q
                have := num_row (os := keys TT) (by rw [hm0]; exact q) (fun z hz => by obtain ⟨x, hx⟩ := mem_keys.1 hz; exact (HQ.out.tm.ok.rng _ hx).1) (by rw [keys_len]; omega)
                exact this
              clear hrf hm0
              refine wpAnyL_take [1, 7, 8] (i := 0) (v := ?_) (by kernel_rfl) (by kernel_rfl) (by kernel_rfl) rfl (by kernel_rfl) (by kernel_rfl) (by kernel_rfl) (fun _ _ _ h => h) (Or.inl ⟨by rfl, ?_⟩) hHeld ?_
              rotate_left
              · (intro w hSw; (try dsimp only at hSw); go_simp; try with_reducible rfl)
              try simp only [Act.put, List.setIfInBounds_toArray, List.set_cons_zero, List.set_cons_succ, List.getElem_toArray, List.getElem_cons_zero]
              refine wpAnyL_take [3, 4, 5, 6, 7, 8] (i := 2) (v := ?_) (by kernel_rfl) (by kernel_rfl) (by kernel_rfl) rfl (by kernel_rfl) (by kernel_rfl) (by kernel_rfl) (fun _ _ _ h => h) (Or.inl ⟨by rfl, ?_⟩) hHeld ?_
              rotate_left
              · (intro w hSw; (try dsimp only at hSw); go_simp; try with_reducible rfl)
              try simp only [Act.put, List.setIfInBounds_toArray, List.set_cons_zero, List.set_cons_succ, List.getElem_toArray, List.getElem_cons_zero, List.getElem_cons_succ]
              refine wpAnyL_take [4, 5, 6, 7, 8] (i := 3) (v := ?_) (by kernel_rfl) (by kernel_rfl) (by kernel_rfl) rfl (by kernel_rfl) (by kernel_rfl) (by kernel_rfl) (fun _ _ _ h => h) (Or.inl ⟨by rfl, ?_⟩) hHeld ?_
              rotate_left
              · (intro w hSw; (try dsimp only at hSw); go_simp; try with_reducible rfl)
              try simp only [Act.put, List.setIfInBounds_toArray, List.set_cons_zero, List.set_cons_succ, List.getElem_toArray, List.getElem_cons_zero, List.getElem_cons_succ]
              refine wpAnyL_take [5, 6, 7, 8] (i := 4) (v := ?_) (by kernel_rfl) (by kernel_rfl) (by kernel_rfl) rfl (by kernel_rfl) (by kernel_rfl) (by kernel_rfl) (fun _ _ _ h => h) (Or.inl ⟨by rfl, ?_⟩) hHeld ?_
              rotate_left
              · (intro w hSw; (try dsimp only at hSw); go_simp; try with_reducible rfl)
              try simp only [Act.put, List.setIfInBounds_toArray, List.set_cons_zero, List.set_cons_succ, List.getElem_toArray, List.getElem_cons_zero, List.getElem_cons_succ]
              refine wpAnyL_take [6, 7, 8] (i := 5) (v := ?_) (by kernel_rfl) (by kernel_rfl) (by kernel_rfl) rfl (by kernel_rfl) (by kernel_rfl) (by kernel_rfl) (fun _ _ _ h => h) (Or.inl ⟨by rfl, ?_⟩) hHeld ?_
              rotate_left
              · (intro w hSw; (try dsimp only at hSw); have hc := HCI.out w hSw; go_simp; try with_reducible rfl)
              try simp only [Act.put, List.setIfInBounds_toArray, List.set_cons_zero, List.set_cons_succ, List.getElem_toArray, List.getElem_cons_zero, List.getElem_cons_succ]
              refine wpAnyL_one (i := 1) (by kernel_rfl) rfl (fun K hK => ?_)
              go_simp
              go_at_call 18
              refine (ids_any b B v TT wd HQ.out.tm.tm HQ.out.tm.ok (by have := HNN.out; omega)).mono ?_
              rintro e w7 ⟨v7, t7, rfl, q1, q2, q3, q4⟩
              have HR7 : Hid (w7.ownsRow wd.heap.size 31 1 v7 t7.length (cellsZ t7) ∧ Rise t7 ∧ ∀ z, z ∈ t7 ↔ z ∈ keys TT) := ⟨q1, q2, q3⟩
              have s1 : Below wd.heap.size wd w7 := q4
              have hl7 : t7.length ≤ 1000 := by
                have := nodup_le t7 (keys TT) q2.nodup fun z hz => (q3 z).1 hz
                have e2 := HQ.out.tm.ok.len
                have e3 := HNN.out
                rw [keys_len] at this
                omega
              have HL7 : Hid (t7.length ≤ 1000) := hl7
              obtain ⟨p7, c7, rfl⟩ := row_slice q1
              obtain ⟨m7, hm7⟩ : ∃ m, t7.length = m := ⟨_, rfl⟩
              have HM7 : Hid (t7.length = m7) := hm7
              rw [hm7]
              clear q1 q2 q3 q4 hl7 hm7
              refine hK.out _ _ (fun _ => s1) ?_
              replace hHeld := s1
              clear hK K
              try simp only [Act.put, List.setIfInBounds_toArray, List.set_cons_zero, List.set_cons_succ, List.getElem_toArray, List.getElem_cons_zero, List.getElem_cons_succ]
              refine wpAnyL_one (i := 6) (by kernel_rfl) rfl (fun K hK => ?_)
              go_simp
              go_at_call 19
              refine (rrising_any w7 pi m0 ci (keys TT) (HMN.out w7 hHeld) HQ.out.tm.ok.nd (by have := HM0.out; have := HQ.out.tm.ok.len; have := HNN.out; rw [keys_len] at *; omega)).mono ?_
              rintro e w8 ⟨v8, t8, rfl, q1, q2, q3, q4⟩
              have s2 : Below wd.heap.size wd w8 := hHeld.trans (q4.mono hHeld.size)
              have h78 : t8 = t7 := rise_ext q2 HR7.out.2.1 fun z => (q3 z).trans (HR7.out.2.2 z).symm
              subst h78
              have HR8 : Hid (w8.ownsRow wd.heap.size 31 1 (.slice p7 t8.length c7) t8.length (cellsZ t8) ∧ w8.ownsRow w7.heap.size 31 1 v8 t8.length (cellsZ t8)) := ⟨owns_below HR7.out.1 q4 (Nat.le_refl _), q1⟩
              obtain ⟨p8, c8, rfl⟩ := row_slice q1
              clear q1 q2 q3 q4
              rw [HM7.out] at HR8
              rw [HM7.out]
              refine hK.out _ _ (fun _ => s2) ?_
              replace hHeld := s2
              clear hK K
              try simp only [Act.put, List.setIfInBounds_toArray, List.set_cons_zero, List.set_cons_succ, List.getElem_toArray, List.getElem_cons_zero, List.getElem_cons_succ]
              refine wpAnyL_one (i := 7) (by kernel_rfl) rfl (fun K hK => ?_)
              go_simp
              go_at_call 15
              refine (rsame_any w8 wd.heap.size w7.heap.size (.slice p7 m7 c7) (.slice p8 m7 c8) t8 (by rw [HM7.out]; exact HR8.out.1) (by rw [HM7.out]; exact HR8.out.2) HL7.out).mono ?_
              rintro e w9 ⟨rfl, hb9⟩
              have s3 : Below wd.heap.size wd w9 := hHeld.trans (hb9.mono hHeld.size)
              clear hb9
              refine hK.out _ _ (fun _ => s3) ?_
              replace hHeld := s3
              clear hK K
              try simp only [Act.put, List.setIfInBounds_toArray, List.set_cons_zero, List.set_cons_succ, List.getElem_toArray, List.getElem_cons_zero, List.getElem_cons_succ]
              refine wpAnyL_take [] (i := 8) (v := ?_) (by kernel_rfl) (by kernel_rfl) (by kernel_rfl) rfl (by kernel_rfl) (by kernel_rfl) (by kernel_rfl) (fun _ _ _ h => h) (Or.inl ⟨by rfl, ?_⟩) hHeld ?_
              rotate_left
              · (intro w hSw; (try dsimp only at hSw); go_simp; try with_reducible rfl)
              try simp only [Act.put, List.setIfInBounds_toArray, List.set_cons_zero, List.set_cons_succ, List.getElem_toArray, List.getElem_cons_zero, List.getElem_cons_succ]
              refine wpAnyL_done (by kernel_rfl) ?_ _
              have HE : Hid (Pl w w9 b B br v TT TT nn) := HQ.out.over s3
              clear hHeld s3
              go_wp2_with fail
              go_roundw
              case rel => exact ⟨i + 1, TT, nn, by go_num, by have := HNK.out; omega, HNN.out.1, HE.out⟩
              case measure => simp [intOf]; have := HNK.out; omega
            · have hd20 : (dd == 2) = false := by simp [hd2]
              clear cz
              go_wp2_with fail
              refine (pl_tick HG.out (by have := HNK.out; omega)).mono ?_
              rintro e w5 ⟨v5, t5, rfl, q1, q2, q3, hp⟩
              have HG5 : Hid (Pl w w5 b B br v (tickT T v) T n) := hp
              have HR5 : Hid (w5.ownsRow wr.heap.size 31 1 v5 t5.length (cellsZ t5) ∧ Rise t5 ∧ ∀ z, z ∈ t5 ↔ z ∈ offs T) := ⟨q1, q2, q3⟩
              have HL5 : Hid (t5.length ≤ 1000) := by
                have q4 := nodup_le t5 (offs T) q2.nodup fun z hz => (q3 z).1 hz
                have q5 := offs_len T
                have q6 := HG.out.tm.ok.len
                have q7 := HNK.out
                show t5.length ≤ 1000
                omega
              obtain ⟨p5, c5, rfl⟩ := row_slice q1
              obtain ⟨m5, hm5⟩ : ∃ m, t5.length = m := ⟨_, rfl⟩
              have HM5 : Hid (t5.length = m5) := hm5
              rw [hm5]
              clear q1 q2 q3 hp hm5 cd
              obtain ⟨z5, hz5⟩ : ∃ x, wr.heap.size = x := ⟨_, rfl⟩
              rw [hz5] at HR5
              clear hz5
              go_wp2_with fail
              refine (pl_rtick HG5.out (by have := HNK.out; omega)).mono ?_
              rintro e w6 ⟨v6, t6, rfl, q1, q2, q3, hp, hf⟩
              have HG6 : Hid (Pl w w6 b B br v (tickT T v) (tickT T v) n) := hp
              have h56 : t6 = t5 := rise_ext q2 HR5.out.2.1 fun z => (q3 z).trans (HR5.out.2.2 z).symm
              subst h56
              have HR6 : Hid (w6.ownsRow z5 31 1 (.slice p5 t6.length c5) t6.length (cellsZ t6) ∧ w6.ownsRow w5.heap.size 31 1 v6 t6.length (cellsZ t6)) := ⟨owns_fr HR5.out.1 hf (by simp) (fun _ _ => by simp), q1⟩
              obtain ⟨p6, c6, rfl⟩ := row_slice q1
              rw [HM5.out] at HR6
              rw [HM5.out]
              clear q1 q2 q3 hp hf HR5 HG5
              go_wp2_with fail
              refine (rsame_any w6 z5 w5.heap.size (.slice p5 m5 c5) (.slice p6 m5 c6) t6 (by rw [HM5.out]; exact HR6.out.1) (by rw [HM5.out]; exact HR6.out.2) HL5.out).mono ?_
              rintro e w7 ⟨rfl, hb7⟩
              have HG7 : Hid (Pl w w7 b B br v (tickT T v) (tickT T v) n) := HG6.out.over hb7
              clear hb7 HR6 HG6
              go_wp2_with fail
              obtain ⟨TT, hTT⟩ : ∃ t, tickT T v = t := ⟨_, rfl⟩
              obtain ⟨nn, hnn⟩ : ∃ t, n = t := ⟨_, rfl⟩
              have HNN : Hid (nn ≤ 2 * (i + 1) ∧ nn ≤ 900) := ⟨by have := HNK.out; omega, by have := HNK.out; omega⟩
              have HQ : Hid (Pl w w7.drew b B br v TT TT nn) := by
                have := HG7.out.over (Below.refl _ _).drew
                rw [hTT, hnn] at this
                exact this
              clear hTT hnn HG7
              refine wp_region_late (E := []) (S := (fun X => Below w7.drew.heap.size w7.drew X)) (by kernel_rfl) (Below.refl _ _) (fun hHeld => ?_)
              simp only [List.size_toArray, List.length_cons, List.length_nil, Nat.reduceAdd]
              generalize w7.drew = wd at *
              obtain ⟨vi, vl, hrf⟩ := HQ.out.rf
              obtain ⟨pi, ci, hvi⟩ := row_slice hrf.ri
              obtain ⟨m0, hm0⟩ : ∃ m, (keys TT).length = m := ⟨_, rfl⟩
              rw [hm0] at hvi
              subst hvi
              have HM0 : Hid ((keys TT).length = m0) := hm0
              have HCI : Hid (∀ X, Below wd.heap.size wd X → X.cell? ⟨br, 1, none⟩ = some (.slice pi m0 ci)) := fun X hX => (hrf.blk.over hX).cell 1
              have HMN : Hid (∀ X, Below wd.heap.size wd X → NumR X pi m0 (keys TT)) := fun X hX => by
                have q := owns_below hrf.ri hX (Nat.le_refl _)
                have q2 := HQ.out.tm.ok.len
                have q3 := HNN.out
                rw [hm0] at q
                have := num_row (os := keys TT) (by rw [hm0]; exact q) (fun z hz => by obtain ⟨x, hx⟩ := mem_keys.1 hz; exact (HQ.out.tm.ok.rng _ hx).1) (by rw [keys_len]; omega)
                exact this
              clear hrf hm0
              refine wpAnyL_take [1, 7, 8] (i := 0) (v := ?_) (by kernel_rfl) (by kernel_rfl) (by kernel_rfl) rfl (by kernel_rfl) (by kernel_rfl) (by kernel_rfl) (fun _ _ _ h => h) (Or.inl ⟨by rfl, ?_⟩) hHeld ?_
              rotate_left
              · (intro w hSw; (try dsimp only at hSw); go_simp; try with_reducible rfl)
              try simp only [Act.put, List.setIfInBounds_toArray, List.set_cons_zero, List.set_cons_succ, List.getElem_toArray, List.getElem_cons_zero]
              refine wpAnyL_take [3, 4, 5, 6, 7, 8] (i := 2) (v := ?_) (by kernel_rfl) (by kernel_rfl) (by kernel_rfl) rfl (by kernel_rfl) (by kernel_rfl) (by kernel_rfl) (fun _ _ _ h => h) (Or.inl ⟨by rfl, ?_⟩) hHeld ?_
              rotate_left
              · (intro w hSw; (try dsimp only at hSw); go_simp; try with_reducible rfl)
              try simp only [Act.put, List.setIfInBounds_toArray, List.set_cons_zero, List.set_cons_succ, List.getElem_toArray, List.getElem_cons_zero, List.getElem_cons_succ]
              refine wpAnyL_take [4, 5, 6, 7, 8] (i := 3) (v := ?_) (by kernel_rfl) (by kernel_rfl) (by kernel_rfl) rfl (by kernel_rfl) (by kernel_rfl) (by kernel_rfl) (fun _ _ _ h => h) (Or.inl ⟨by rfl, ?_⟩) hHeld ?_
              rotate_left
              · (intro w hSw; (try dsimp only at hSw); go_simp; try with_reducible rfl)
              try simp only [Act.put, List.setIfInBounds_toArray, List.set_cons_zero, List.set_cons_succ, List.getElem_toArray, List.getElem_cons_zero, List.getElem_cons_succ]
              refine wpAnyL_take [5, 6, 7, 8] (i := 4) (v := ?_) (by kernel_rfl) (by kernel_rfl) (by kernel_rfl) rfl (by kernel_rfl) (by kernel_rfl) (by kernel_rfl) (fun _ _ _ h => h) (Or.inl ⟨by rfl, ?_⟩) hHeld ?_
              rotate_left
              · (intro w hSw; (try dsimp only at hSw); go_simp; try with_reducible rfl)
              try simp only [Act.put, List.setIfInBounds_toArray, List.set_cons_zero, List.set_cons_succ, List.getElem_toArray, List.getElem_cons_zero, List.getElem_cons_succ]
              refine wpAnyL_take [6, 7, 8] (i := 5) (v := ?_) (by kernel_rfl) (by kernel_rfl) (by kernel_rfl) rfl (by kernel_rfl) (by kernel_rfl) (by kernel_rfl) (fun _ _ _ h => h) (Or.inl ⟨by rfl, ?_⟩) hHeld ?_
              rotate_left
              · (intro w hSw; (try dsimp only at hSw); have hc := HCI.out w hSw; go_simp; try with_reducible rfl)
              try simp only [Act.put, List.setIfInBounds_toArray, List.set_cons_zero, List.set_cons_succ, List.getElem_toArray, List.getElem_cons_zero, List.getElem_cons_succ]
              refine wpAnyL_one (i := 1) (by kernel_rfl) rfl (fun K hK => ?_)
              go_simp
              go_at_call 18
              refine (ids_any b B v TT wd HQ.out.tm.tm HQ.out.tm.ok (by have := HNN.out; omega)).mono ?_
              rintro e w7 ⟨v7, t7, rfl, q1, q2, q3, q4⟩
              have HR7 : Hid (w7.ownsRow wd.heap.size 31 1 v7 t7.length (cellsZ t7) ∧ Rise t7 ∧ ∀ z, z ∈ t7 ↔ z ∈ keys TT) := ⟨q1, q2, q3⟩
              have s1 : Below wd.heap.size wd w7 := q4
              have hl7 : t7.length ≤ 1000 := by
                have := nodup_le t7 (keys TT) q2.nodup fun z hz => (q3 z).1 hz
                have e2 := HQ.out.tm.ok.len
                have e3 := HNN.out
                rw [keys_len] at this
                omega
              have HL7 : Hid (t7.length ≤ 1000) := hl7
              obtain ⟨p7, c7, rfl⟩ := row_slice q1
              obtain ⟨m7, hm7⟩ : ∃ m, t7.length = m := ⟨_, rfl⟩
              have HM7 : Hid (t7.length = m7) := hm7
              rw [hm7]
              clear q1 q2 q3 q4 hl7 hm7
              refine hK.out _ _ (fun _ => s1) ?_
              replace hHeld := s1
              clear hK K
              try simp only [Act.put, List.setIfInBounds_toArray, List.set_cons_zero, List.set_cons_succ, List.getElem_toArray, List.getElem_cons_zero, List.getElem_cons_succ]
              refine wpAnyL_one (i := 6) (by kernel_rfl) rfl (fun K hK => ?_)
              go_simp
              go_at_call 19
              refine (rrising_any w7 pi m0 ci (keys TT) (HMN.out w7 hHeld) HQ.out.tm.ok.nd (by have := HM0.out; have := HQ.out.tm.ok.len; have := HNN.out; rw [keys_len] at *; omega)).mono ?_
              rintro e w8 ⟨v8, t8, rfl, q1, q2, q3, q4⟩
              have s2 : Below wd.heap.size wd w8 := hHeld.trans (q4.mono hHeld.size)
              have h78 : t8 = t7 := rise_ext q2 HR7.out.2.1 fun z => (q3 z).trans (HR7.out.2.2 z).symm
              subst h78
              have HR8 : Hid (w8.ownsRow wd.heap.size 31 1 (.slice p7 t8.length c7) t8.length (cellsZ t8) ∧ w8.ownsRow w7.heap.size 31 1 v8 t8.length (cellsZ t8)) := ⟨owns_below HR7.out.1 q4 (Nat.le_refl _), q1⟩
              obtain ⟨p8, c8, rfl⟩ := row_slice q1
              clear q1 q2 q3 q4
              rw [HM7.out] at HR8
              rw [HM7.out]
              refine hK.out _ _ (fun _ => s2) ?_
              replace hHeld := s2
              clear hK K
              try simp only [Act.put, List.setIfInBounds_toArray, List.set_cons_zero, List.set_cons_succ, List.getElem_toArray, List.getElem_cons_zero, List.getElem_cons_succ]
              refine wpAnyL_one (i := 7) (by kernel_rfl) rfl (fun K hK => ?_)
              go_simp
              go_at_call 15
              refine (rsame_any w8 wd.heap.size w7.heap.size (.slice p7 m7 c7) (.slice p8 m7 c8) t8 (by rw [HM7.out]; exact HR8.out.1) (by rw [HM7.out]; exact HR8.out.2) HL7.out).mono ?_
              rintro e w9 ⟨rfl, hb9⟩
              have s3 : Below wd.heap.size wd w9 := hHeld.trans (hb9.mono hHeld.size)
              clear hb9
              refine hK.out _ _ (fun _ => s3) ?_
              replace hHeld := s3
              clear hK K
              try simp only [Act.put, List.setIfInBounds_toArray, List.set_cons_zero, List.set_cons_succ, List.getElem_toArray, List.getElem_cons_zero, List.getElem_cons_succ]
              refine wpAnyL_take [] (i := 8) (v := ?_) (by kernel_rfl) (by kernel_rfl) (by kernel_rfl) rfl (by kernel_rfl) (by kernel_rfl) (by kernel_rfl) (fun _ _ _ h => h) (Or.inl ⟨by rfl, ?_⟩) hHeld ?_
              rotate_left
              · (intro w hSw; (try dsimp only at hSw); go_simp; try with_reducible rfl)
              try simp only [Act.put, List.setIfInBounds_toArray, List.set_cons_zero, List.set_cons_succ, List.getElem_toArray, List.getElem_cons_zero, List.getElem_cons_succ]
              refine wpAnyL_done (by kernel_rfl) ?_ _
              have HE : Hid (Pl w w9 b B br v TT TT nn) := HQ.out.over s3
              clear hHeld s3
              go_wp2_with fail
              go_roundw
              case rel => exact ⟨i + 1, TT, nn, by go_num, by have := HNK.out; omega, HNN.out.1, HE.out⟩
              case measure => simp [intOf]; have := HNK.out; omega
      · have h201 : ¬ (i : Int) < 200 := by omega
        have h202 : decide ((i : Int) < 200) = false := decide_eq_false h201
        go_wp2_with fail
        go_ret
        exact ⟨rfl, HG.out.tm.bel⟩
    · have hil1 : ¬ (i : Int) < (l.length : Int) := by omega
      have hil2 : decide ((i : Int) < (l.length : Int)) = false := decide_eq_false hil1
      go_wp2_with fail
      go_ret
      exact ⟨rfl, HG.out.tm.bel⟩

set_option maxHeartbeats 4000000 in
set_option maxRecDepth 8000 in
theorem plays_not (w : World) (v : Int) (a : Option Addr) (len cap : Nat) (l : List (Int × Int)) (h0 : v < 1 ∨ 1000 < v) (h : OpsR w a len l) : Calls Try.prog 3 #[.int .i64 v, .slice a len cap] w fun e w' => e = .returned (.bool true) ∧ Below w.heap.size w w' := by
  obtain rfl : len = l.length := h.1.symm
  have HA : Hid (Calls Try.prog 8 #[] w fun e w' => e = .returned (.bool true) ∧ Below w.heap.size w w') := awake_any w
  have HN : Hid (v < 1 ∨ 1000 < v) := h0
  clear h h0
  go_enter Try.func3, Try.ntmps3
  go_wp2_with fail
  refine HA.out.mono ?_
  rintro e w1 ⟨rfl, hb1⟩
  have B1 : Hid (Below w.heap.size w w1) := hb1
  clear hb1 HA
  go_wp2_with fail
  refine (new_not v w1 HN.out).mono ?_
  rintro e w2 ⟨rfl, hw2⟩
  subst hw2
  go_wp2_with fail
  refine (rnew_not v w2 HN.out).mono ?_
  rintro e w3 ⟨rfl, hw3⟩
  subst hw3
  go_wp2_with fail
  go_loopw [10] (fun v10 wr => v10 = .int .i64 0 ∧ wr = w3) (fun _ _ => 0)
  case atStart => exact ⟨rfl, rfl⟩
  case round =>
    obtain ⟨rfl, rfl⟩ := hrel
    by_cases h0 : 0 < l.length
    · have h01 : (0 : Int) < (l.length : Int) := by omega
      go_wp2_with fail
      go_ret
      exact ⟨rfl, B1.out⟩
    · have h01 : ¬ (0 : Int) < (l.length : Int) := by omega
      go_wp2_with fail
      go_ret
      exact ⟨rfl, B1.out⟩

theorem plays_walk (w : World) (v : Int) (a : Option Addr) (len cap : Nat) (l : List (Int × Int)) (_hv : (Lit.int .i64 v).wf = true) (h : OpsR w a len l) : Calls Try.prog 3 #[.int .i64 v, .slice a len cap] w fun e w' => e = .returned (.bool true) ∧ Below w.heap.size w w' := by
  by_cases h1 : 1 ≤ v ∧ v ≤ 1000
  · exact plays_go w v a len cap l h1.1 h1.2 h
  · exact plays_not w v a len cap l (by omega) h

end Go.Proofs.Ytifddbfcongepaa
