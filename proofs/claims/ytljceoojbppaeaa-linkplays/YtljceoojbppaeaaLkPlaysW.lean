/-
  The walk of LinkPlays.
-/
import Derived.Test.YtljceoojbppaeaaLkDrain
import Derived.Test.YtljceoojbppaeaaLkFew
namespace Go.Proofs.Ytljceoojbppaeaa
open Go.RowKit D

set_option maxRecDepth 20000 in
set_option maxHeartbeats 16000000 in
theorem plays_walk (w : World) (v : Value) (cs : List Cal) (h : CalS w v cs) :
    Calls Try.prog 3 #[v] w fun e w' => e = .returned (.bool true) ∧ Below w.heap.size w w' := by
  obtain ⟨p1, c1, rfl⟩ : ∃ p c, v = .slice p cs.length c := by obtain ⟨⟨p, c, e, _⟩, _⟩ := h; exact ⟨p, c, e⟩
  have HF : Hid (∀ W, Below w.heap.size w W → CalS W (.slice p1 cs.length c1) cs) := fun W hW => h.over hW
  have HI : Hid (∀ u l, PcV w u l → PcT w.heap.size w u l) := fun u l hu => pcT_in hu (Nat.le_refl _)
  clear h
  have hzv : ∀ W, (zeroValue 30).run Try.prog W = .ok (.agg zeroLk) W := zero_run
  have HN : Hid (∀ W, LkV (W.alloc (.cells zeroLk 30)) W.heap.size lk0 ∧ Below W.heap.size W (W.alloc (.cells zeroLk 30))) := fun W => ⟨lk_new W, alloc_below W _⟩
  generalize zeroLk = Z at *
  go_enter Try.func3, Try.ntmps3
  go_upto_region 3 with (first
    | (go_at_call 8; refine (awake_any _).mono ?_; rintro e w1 ⟨rfl, hb1⟩)
    | (go_at_call 9; refine (few_any _ _ cs (HF.out _ hb1)).mono ?_; rintro e w2 ⟨bb, rfl, hw2, hbb⟩; subst hw2))
  cases bb with
  | false =>
    clear hbb
    go_wp2
    go_ret
    exact ⟨rfl, hb1⟩
  | true =>
    have h200 : (cs.length : Int) ≤ 200 := by have := hbb rfl; omega
    have HO : Hid (DoS w.heap.size w2.heap.size (w2.alloc (.cells Z 30)).heap.size w ((w2.alloc (.cells Z 30)).alloc (.cells #[.slice none 0 0, .slice none 0 0] 35)) ∧ w.heap.size ≤ w2.heap.size ∧ w.heap.size ≤ w.heap.size) := by
      have hb2 := hb1.trans ((HN.out w2).2.mono hb1.size)
      have hb3 := alloc_below (w2.alloc (.cells Z 30)) (.cells #[.slice none 0 0, .slice none 0 0] 35)
      exact ⟨⟨lk0, (HN.out w2).1.over hb3, rf_new 35 _ _ hb2.size, hb2.trans (hb3.mono hb2.size)⟩, hb1.size, Nat.le_refl _⟩
    rw [size_alloc'] at HO
    clear HN hbb hb1
    go_upto_region 7 with fail
    clear hzv
    generalize ((w2.alloc (.cells Z 30)).alloc (.cells #[.slice none 0 0, .slice none 0 0] 35)) = w3 at *
    generalize w2.heap.size + 1 = c at *
    generalize w2.heap.size = b at *
    go_wp2
    go_loopg [7] cs.length (fun g vi wr => ∃ i : Nat, vi = .int .i64 i ∧ i + g = cs.length ∧ Hid (DoS w.heap.size b c w wr))
    case atStart => exact ⟨0, rfl, Nat.zero_add _, HO.out.1⟩
    case round =>
      obtain ⟨i, rfl, hig, hg⟩ := hrel
      have hgk : Hid (i + gk = cs.length) := hig
      have HLo : Hid (w.heap.size ≤ b) := HO.out.2.1
      clear HO
      by_cases hlt : i < cs.length
      · have hi1 : (i : Int) < (cs.length : Int) := by omega
        have HLt : Hid (i < cs.length ∧ i < 200) := ⟨hlt, by omega⟩
        obtain ⟨s, hl, hr, hbw⟩ := hg.out
        obtain ⟨pb, po, uv, rfl, hc0⟩ := calR_at (HF.out w (Below.refl _ _)).1 hlt
        have HPt : Hid (PcT w.heap.size w uv cs[i].b) := HI.out _ _ hc0.pc
        obtain ⟨a', c', huv, w01, w02⟩ := id hc0.pc
        clear w01 w02
        subst huv
        have hc := hc0.over hbw
        obtain ⟨x0, x1, x2, x3, x4, x5, x6⟩ := hc
        have HNw : Hid (cs[i].n < 9223372036854775808) := x6
        have HD1 : Hid (PcT w.heap.size wr (.slice a' cs[i].b.length c') cs[i].b) := HPt.out.over (Nat.le_refl _) hbw
        generalize cs[i].act = act at *
        generalize cs[i].n = n at *
        generalize cs[i].bit = bit at *
        generalize cs[i].up = up at *
        generalize cs[i].b = f at *
        have hfl : f.length = f.length := rfl
        clear hc0 hig hlt x5 x6 hfl HPt
        have HDo : Hid (Calls Try.prog 10 #[.pointer (some ⟨b, 0, none⟩), .pointer (some ⟨c, 0, none⟩), .agg #[.int .i64 act, .int .i64 n, .int .i64 bit, .bool up, .slice a' f.length c']] wr fun e w' => DoR w.heap.size b c wr e w') :=
          does_any w.heap.size b c s wr act n bit up a' f.length c' f hl hr HLo.out hbw.size HD1.out HNw.out
        have HBw : Hid (Below w.heap.size w wr) := hbw
        clear hl hr hbw hg HD1
        generalize f.length = fl at *
        generalize cs.length = len at *
        have hi0 : (0 : Int) ≤ (i : Int) := by omega
        go_upto_region 11 with (go_at_call 10; refine HDo.out.mono ?_; rintro e w5 ⟨rfl, hD5⟩)
        obtain ⟨s', hl5, hr5, hb5⟩ := hD5
        have HB5 : Hid (Below w.heap.size w w5) := HBw.out.trans hb5
        have HL5 : Hid (LkV w5 b s' ∧ RfV 35 w.heap.size w5 c s') := ⟨hl5, hr5⟩
        obtain ⟨v0, v3, q0, q1, r0, r1⟩ := hr5.cells
        obtain ⟨p0, d0, hv0, _⟩ := r0.slice
        obtain ⟨p3, d1, hv3, _⟩ := r1.slice
        subst hv0 hv3
        obtain ⟨m1, hm1⟩ : ∃ m, s'.u.length = m := ⟨_, rfl⟩
        obtain ⟨m2, hm2⟩ : ∃ m, s'.d.length = m := ⟨_, rfl⟩
        have HM1 : Hid ((s'.sel true).length = m1) := hm1
        have HM2 : Hid ((s'.sel false).length = m2) := hm2
        rw [hm1] at q0
        rw [hm2] at q1
        have HC : Hid ((∀ W, Below w5.heap.size w5 W → W.cell? ⟨c, 0, none⟩ = some (.slice p0 m1 d0)) ∧ (∀ W, Below w5.heap.size w5 W → W.cell? ⟨c, 1, none⟩ = some (.slice p3 m2 d1))) := ⟨fun W hW => cellK q0 hW, fun W hW => cellK q1 hW⟩
        have HA : Hid (∀ (u : Bool) (m : Nat) (W : World), Below w5.heap.size w5 W → (s'.sel u).length = m → Calls Try.prog 11 #[.pointer (some ⟨b, 0, none⟩), .bool u] W fun e w' => e = .returned (.int .i64 m) ∧ Below w5.heap.size w5 w') := fun u m W hW hm =>
          (len_to (HL5.out.1.over hW) hm).mono fun e w' ⟨h1, h2⟩ => ⟨h1, hW.trans (h2.mono hW.size)⟩
        have hS5 : (fun X => X.cell? ⟨c, 0, none⟩ = some (.slice p0 m1 d0) ∧ X.cell? ⟨c, 1, none⟩ = some (.slice p3 m2 d1) ∧ Hid (Below w5.heap.size w5 X)) w5.drew := ⟨HC.out.1 _ (Below.refl _ _).drew, HC.out.2 _ (Below.refl _ _).drew, (Below.refl _ _).drew⟩
        clear hl5 hr5 hb5 hm1 hm2 q0 q1 r0 r1
        go_upto_region 11 with fail
        refine wp_region_late (E := []) (S := (fun X => X.cell? ⟨c, 0, none⟩ = some (.slice p0 m1 d0) ∧ X.cell? ⟨c, 1, none⟩ = some (.slice p3 m2 d1) ∧ Hid (Below w5.heap.size w5 X))) (by kernel_rfl) (hS5) (fun hHeld => ?_)
        simp only [List.size_toArray, List.length_cons, List.length_nil, Nat.reduceAdd]
        refine wpAnyL_take [1, 2, 12, 13, 23] (i := 0) (v := ?_) (by kernel_rfl) (by kernel_rfl) (by kernel_rfl) rfl (by kernel_rfl) (by kernel_rfl) (by kernel_rfl) (fun _ _ _ h => h) (Or.inl ⟨by rfl, ?_⟩) hHeld ?_
        rotate_left
        · (intro w hSw; (try dsimp only at hSw); obtain ⟨s0, s1, s2⟩ := hSw; go_simp; try with_reducible rfl)
        try simp only [Act.put, List.setIfInBounds_toArray, List.set_cons_zero, List.set_cons_succ, List.getElem_toArray, List.getElem_cons_zero]
        refine wpAnyL_take [2, 12, 13, 23] (i := 1) (v := ?_) (by kernel_rfl) (by kernel_rfl) (by kernel_rfl) rfl (by kernel_rfl) (by kernel_rfl) (by kernel_rfl) (fun _ _ _ h => h) (Or.inl ⟨by rfl, ?_⟩) hHeld ?_
        rotate_left
        · (intro w hSw; (try dsimp only at hSw); obtain ⟨s0, s1, s2⟩ := hSw; go_simp; try with_reducible rfl)
        try simp only [Act.put, List.setIfInBounds_toArray, List.set_cons_zero, List.set_cons_succ, List.getElem_toArray, List.getElem_cons_zero, List.getElem_cons_succ]
        refine wpAnyL_take [12, 13, 23] (i := 2) (v := ?_) (by kernel_rfl) (by kernel_rfl) (by kernel_rfl) rfl (by kernel_rfl) (by kernel_rfl) (by kernel_rfl) (fun _ _ _ h => h) (Or.inl ⟨by rfl, ?_⟩) hHeld ?_
        rotate_left
        · (intro w hSw; (try dsimp only at hSw); obtain ⟨s0, s1, s2⟩ := hSw; go_simp; try with_reducible rfl)
        try simp only [Act.put, List.setIfInBounds_toArray, List.set_cons_zero, List.set_cons_succ, List.getElem_toArray, List.getElem_cons_zero, List.getElem_cons_succ]
        refine wpAnyL_take [4, 11, 12, 13, 23] (i := 3) (v := ?_) (by kernel_rfl) (by kernel_rfl) (by kernel_rfl) rfl (by kernel_rfl) (by kernel_rfl) (by kernel_rfl) (fun _ _ _ h => h) (Or.inl ⟨by rfl, ?_⟩) hHeld ?_
        rotate_left
        · (intro w hSw; (try dsimp only at hSw); obtain ⟨s0, s1, s2⟩ := hSw; go_simp; try with_reducible rfl)
        try simp only [Act.put, List.setIfInBounds_toArray, List.set_cons_zero, List.set_cons_succ, List.getElem_toArray, List.getElem_cons_zero, List.getElem_cons_succ]
        refine wpAnyL_take [6, 7, 8, 9, 10, 11, 12, 13, 23] (i := 5) (v := ?_) (by kernel_rfl) (by kernel_rfl) (by kernel_rfl) rfl (by kernel_rfl) (by kernel_rfl) (by kernel_rfl) (fun _ _ _ h => h) (Or.inl ⟨by rfl, ?_⟩) hHeld ?_
        rotate_left
        · (intro w hSw; (try dsimp only at hSw); obtain ⟨s0, s1, s2⟩ := hSw; go_simp; try with_reducible rfl)
        try simp only [Act.put, List.setIfInBounds_toArray, List.set_cons_zero, List.set_cons_succ, List.getElem_toArray, List.getElem_cons_zero, List.getElem_cons_succ]
        refine wpAnyL_take [7, 8, 9, 10, 11, 12, 13, 23] (i := 6) (v := ?_) (by kernel_rfl) (by kernel_rfl) (by kernel_rfl) rfl (by kernel_rfl) (by kernel_rfl) (by kernel_rfl) (fun _ _ _ h => h) (Or.inl ⟨by rfl, ?_⟩) hHeld ?_
        rotate_left
        · (intro w hSw; (try dsimp only at hSw); obtain ⟨s0, s1, s2⟩ := hSw; go_simp; try with_reducible rfl)
        try simp only [Act.put, List.setIfInBounds_toArray, List.set_cons_zero, List.set_cons_succ, List.getElem_toArray, List.getElem_cons_zero, List.getElem_cons_succ]
        refine wpAnyL_take [8, 9, 10, 11, 12, 13, 23] (i := 7) (v := ?_) (by kernel_rfl) (by kernel_rfl) (by kernel_rfl) rfl (by kernel_rfl) (by kernel_rfl) (by kernel_rfl) (fun _ _ _ h => h) (Or.inl ⟨by rfl, ?_⟩) hHeld ?_
        rotate_left
        · (intro w hSw; (try dsimp only at hSw); obtain ⟨s0, s1, s2⟩ := hSw; go_simp; try with_reducible rfl)
        try simp only [Act.put, List.setIfInBounds_toArray, List.set_cons_zero, List.set_cons_succ, List.getElem_toArray, List.getElem_cons_zero, List.getElem_cons_succ]
        refine wpAnyL_take [9, 10, 11, 12, 13, 23] (i := 8) (v := ?_) (by kernel_rfl) (by kernel_rfl) (by kernel_rfl) rfl (by kernel_rfl) (by kernel_rfl) (by kernel_rfl) (fun _ _ _ h => h) (Or.inl ⟨by rfl, ?_⟩) hHeld ?_
        rotate_left
        · (intro w hSw; (try dsimp only at hSw); obtain ⟨s0, s1, s2⟩ := hSw; go_simp; try with_reducible rfl)
        try simp only [Act.put, List.setIfInBounds_toArray, List.set_cons_zero, List.set_cons_succ, List.getElem_toArray, List.getElem_cons_zero, List.getElem_cons_succ]
        refine wpAnyL_take [10, 11, 12, 13, 23] (i := 9) (v := ?_) (by kernel_rfl) (by kernel_rfl) (by kernel_rfl) rfl (by kernel_rfl) (by kernel_rfl) (by kernel_rfl) (fun _ _ _ h => h) (Or.inl ⟨by rfl, ?_⟩) hHeld ?_
        rotate_left
        · (intro w hSw; (try dsimp only at hSw); obtain ⟨s0, s1, s2⟩ := hSw; go_simp; try with_reducible rfl)
        try simp only [Act.put, List.setIfInBounds_toArray, List.set_cons_zero, List.set_cons_succ, List.getElem_toArray, List.getElem_cons_zero, List.getElem_cons_succ]
        refine wpAnyL_take [11, 12, 13, 23] (i := 10) (v := ?_) (by kernel_rfl) (by kernel_rfl) (by kernel_rfl) rfl (by kernel_rfl) (by kernel_rfl) (by kernel_rfl) (fun _ _ _ h => h) (Or.inl ⟨by rfl, ?_⟩) hHeld ?_
        rotate_left
        · (intro w hSw; (try dsimp only at hSw); obtain ⟨s0, s1, s2⟩ := hSw; go_simp; try with_reducible rfl)
        try simp only [Act.put, List.setIfInBounds_toArray, List.set_cons_zero, List.set_cons_succ, List.getElem_toArray, List.getElem_cons_zero, List.getElem_cons_succ]
        refine wpAnyL_one (i := 4) (by kernel_rfl) rfl (fun K hK => ?_)
        go_simp
        obtain ⟨s0, s1, s2⟩ := hHeld
        go_at_call 11
        refine (HA.out true m1 _ s2.out HM1.out).mono ?_
        rintro e w6 ⟨rfl, hb6⟩
        have t6 : (fun X => X.cell? ⟨c, 0, none⟩ = some (.slice p0 m1 d0) ∧ X.cell? ⟨c, 1, none⟩ = some (.slice p3 m2 d1) ∧ Hid (Below w5.heap.size w5 X)) w6 := ⟨HC.out.1 _ hb6, HC.out.2 _ hb6, hb6⟩
        clear s0 s1 s2
        refine hK.out _ _ (fun _ => t6) ?_
        replace hHeld := t6
        clear hK K
        try simp only [Act.put, List.setIfInBounds_toArray, List.set_cons_zero, List.set_cons_succ, List.getElem_toArray, List.getElem_cons_zero, List.getElem_cons_succ]
        refine wpAnyL_take [12, 13, 23] (i := 11) (v := ?_) (by kernel_rfl) (by kernel_rfl) (by kernel_rfl) rfl (by kernel_rfl) (by kernel_rfl) (by kernel_rfl) (fun _ _ _ h => h) (Or.inl ⟨by rfl, ?_⟩) hHeld ?_
        rotate_left
        · (intro w hSw; (try dsimp only at hSw); obtain ⟨s0, s1, s2⟩ := hSw; go_simp; try with_reducible rfl)
        try simp only [Act.put, List.setIfInBounds_toArray, List.set_cons_zero, List.set_cons_succ, List.getElem_toArray, List.getElem_cons_zero, List.getElem_cons_succ]
        refine wpAnyL_take [13, 23] (i := 12) (v := ?_) (by kernel_rfl) (by kernel_rfl) (by kernel_rfl) rfl (by kernel_rfl) (by kernel_rfl) (by kernel_rfl) (fun _ _ _ h => h) (Or.inl ⟨by rfl, ?_⟩) hHeld ?_
        rotate_left
        · (intro w hSw; (try dsimp only at hSw); obtain ⟨s0, s1, s2⟩ := hSw; go_simp; try with_reducible rfl)
        try simp only [Act.put, List.setIfInBounds_toArray, List.set_cons_zero, List.set_cons_succ, List.getElem_toArray, List.getElem_cons_zero, List.getElem_cons_succ]
        refine wpAnyL_take [23] (i := 13) (v := ?_) (by kernel_rfl) (by kernel_rfl) (by kernel_rfl) rfl (by kernel_rfl) (by kernel_rfl) (by kernel_rfl) (fun _ _ _ h => h) (Or.inl ⟨by rfl, ?_⟩) hHeld ?_
        rotate_left
        · (intro w hSw; (try dsimp only at hSw); obtain ⟨s0, s1, s2⟩ := hSw; go_simp; try with_reducible rfl)
        try simp only [Act.put, List.setIfInBounds_toArray, List.set_cons_zero, List.set_cons_succ, List.getElem_toArray, List.getElem_cons_zero, List.getElem_cons_succ]
        refine wpAnyL_take [15, 22, 23] (i := 14) (v := ?_) (by kernel_rfl) (by kernel_rfl) (by kernel_rfl) rfl (by kernel_rfl) (by kernel_rfl) (by kernel_rfl) (fun _ _ _ h => h) (Or.inl ⟨by rfl, ?_⟩) hHeld ?_
        rotate_left
        · (intro w hSw; (try dsimp only at hSw); obtain ⟨s0, s1, s2⟩ := hSw; go_simp; try with_reducible rfl)
        try simp only [Act.put, List.setIfInBounds_toArray, List.set_cons_zero, List.set_cons_succ, List.getElem_toArray, List.getElem_cons_zero, List.getElem_cons_succ]
        refine wpAnyL_take [17, 18, 19, 20, 21, 22, 23] (i := 16) (v := ?_) (by kernel_rfl) (by kernel_rfl) (by kernel_rfl) rfl (by kernel_rfl) (by kernel_rfl) (by kernel_rfl) (fun _ _ _ h => h) (Or.inl ⟨by rfl, ?_⟩) hHeld ?_
        rotate_left
        · (intro w hSw; (try dsimp only at hSw); obtain ⟨s0, s1, s2⟩ := hSw; go_simp; try with_reducible rfl)
        try simp only [Act.put, List.setIfInBounds_toArray, List.set_cons_zero, List.set_cons_succ, List.getElem_toArray, List.getElem_cons_zero, List.getElem_cons_succ]
        refine wpAnyL_take [18, 19, 20, 21, 22, 23] (i := 17) (v := ?_) (by kernel_rfl) (by kernel_rfl) (by kernel_rfl) rfl (by kernel_rfl) (by kernel_rfl) (by kernel_rfl) (fun _ _ _ h => h) (Or.inl ⟨by rfl, ?_⟩) hHeld ?_
        rotate_left
        · (intro w hSw; (try dsimp only at hSw); obtain ⟨s0, s1, s2⟩ := hSw; go_simp; try with_reducible rfl)
        try simp only [Act.put, List.setIfInBounds_toArray, List.set_cons_zero, List.set_cons_succ, List.getElem_toArray, List.getElem_cons_zero, List.getElem_cons_succ]
        refine wpAnyL_take [19, 20, 21, 22, 23] (i := 18) (v := ?_) (by kernel_rfl) (by kernel_rfl) (by kernel_rfl) rfl (by kernel_rfl) (by kernel_rfl) (by kernel_rfl) (fun _ _ _ h => h) (Or.inl ⟨by rfl, ?_⟩) hHeld ?_
        rotate_left
        · (intro w hSw; (try dsimp only at hSw); obtain ⟨s0, s1, s2⟩ := hSw; go_simp; try with_reducible rfl)
        try simp only [Act.put, List.setIfInBounds_toArray, List.set_cons_zero, List.set_cons_succ, List.getElem_toArray, List.getElem_cons_zero, List.getElem_cons_succ]
        refine wpAnyL_take [20, 21, 22, 23] (i := 19) (v := ?_) (by kernel_rfl) (by kernel_rfl) (by kernel_rfl) rfl (by kernel_rfl) (by kernel_rfl) (by kernel_rfl) (fun _ _ _ h => h) (Or.inl ⟨by rfl, ?_⟩) hHeld ?_
        rotate_left
        · (intro w hSw; (try dsimp only at hSw); obtain ⟨s0, s1, s2⟩ := hSw; go_simp; try with_reducible rfl)
        try simp only [Act.put, List.setIfInBounds_toArray, List.set_cons_zero, List.set_cons_succ, List.getElem_toArray, List.getElem_cons_zero, List.getElem_cons_succ]
        refine wpAnyL_take [21, 22, 23] (i := 20) (v := ?_) (by kernel_rfl) (by kernel_rfl) (by kernel_rfl) rfl (by kernel_rfl) (by kernel_rfl) (by kernel_rfl) (fun _ _ _ h => h) (Or.inl ⟨by rfl, ?_⟩) hHeld ?_
        rotate_left
        · (intro w hSw; (try dsimp only at hSw); obtain ⟨s0, s1, s2⟩ := hSw; go_simp; try with_reducible rfl)
        try simp only [Act.put, List.setIfInBounds_toArray, List.set_cons_zero, List.set_cons_succ, List.getElem_toArray, List.getElem_cons_zero, List.getElem_cons_succ]
        refine wpAnyL_take [22, 23] (i := 21) (v := ?_) (by kernel_rfl) (by kernel_rfl) (by kernel_rfl) rfl (by kernel_rfl) (by kernel_rfl) (by kernel_rfl) (fun _ _ _ h => h) (Or.inl ⟨by rfl, ?_⟩) hHeld ?_
        rotate_left
        · (intro w hSw; (try dsimp only at hSw); obtain ⟨s0, s1, s2⟩ := hSw; go_simp; try with_reducible rfl)
        try simp only [Act.put, List.setIfInBounds_toArray, List.set_cons_zero, List.set_cons_succ, List.getElem_toArray, List.getElem_cons_zero, List.getElem_cons_succ]
        refine wpAnyL_one (i := 15) (by kernel_rfl) rfl (fun K hK => ?_)
        go_simp
        obtain ⟨s0, s1, s2⟩ := hHeld
        go_at_call 11
        refine (HA.out false m2 _ s2.out HM2.out).mono ?_
        rintro e w7 ⟨rfl, hb7⟩
        have t7 : (fun X => X.cell? ⟨c, 0, none⟩ = some (.slice p0 m1 d0) ∧ X.cell? ⟨c, 1, none⟩ = some (.slice p3 m2 d1) ∧ Hid (Below w5.heap.size w5 X)) w7 := ⟨HC.out.1 _ hb7, HC.out.2 _ hb7, hb7⟩
        clear s0 s1 s2
        refine hK.out _ _ (fun _ => t7) ?_
        replace hHeld := t7
        clear hK K
        try simp only [Act.put, List.setIfInBounds_toArray, List.set_cons_zero, List.set_cons_succ, List.getElem_toArray, List.getElem_cons_zero, List.getElem_cons_succ]
        refine wpAnyL_take [23] (i := 22) (v := ?_) (by kernel_rfl) (by kernel_rfl) (by kernel_rfl) rfl (by kernel_rfl) (by kernel_rfl) (by kernel_rfl) (fun _ _ _ h => h) (Or.inl ⟨by rfl, ?_⟩) hHeld ?_
        rotate_left
        · (intro w hSw; (try dsimp only at hSw); obtain ⟨s0, s1, s2⟩ := hSw; go_simp; try with_reducible rfl)
        try simp only [Act.put, List.setIfInBounds_toArray, List.set_cons_zero, List.set_cons_succ, List.getElem_toArray, List.getElem_cons_zero, List.getElem_cons_succ]
        refine wpAnyL_take [] (i := 23) (v := ?_) (by kernel_rfl) (by kernel_rfl) (by kernel_rfl) rfl (by kernel_rfl) (by kernel_rfl) (by kernel_rfl) (fun _ _ _ h => h) (Or.inl ⟨by rfl, ?_⟩) hHeld ?_
        rotate_left
        · (intro w hSw; (try dsimp only at hSw); obtain ⟨s0, s1, s2⟩ := hSw; go_simp; try with_reducible rfl)
        try simp only [Act.put, List.setIfInBounds_toArray, List.set_cons_zero, List.set_cons_succ, List.getElem_toArray, List.getElem_cons_zero, List.getElem_cons_succ]
        refine wpAnyL_done (by kernel_rfl) ?_ _
        have HD7 : Hid (DoS w.heap.size b c w w7) := ⟨s', HL5.out.1.over t7.2.2.out, HL5.out.2.over HB5.out.size t7.2.2.out, HB5.out.trans (t7.2.2.out.mono HB5.out.size)⟩
        go_wp2
        go_roundg (gk - 1)
        case measure => (have := hgk.out; have := HLt.out; omega)
        case rel => exact ⟨i + 1, by go_num, by have := hgk.out; have := HLt.out; omega, HD7.out⟩
      · have hi1 : ¬ (i : Int) < (cs.length : Int) := by omega
        clear hig hgk hlt
        generalize cs.length = len at *
        obtain ⟨s, hl, hr, hb⟩ := hg.out
        have HDr : Hid (Calls Try.prog 12 #[.pointer (some ⟨b, 0, none⟩), .pointer (some ⟨c, 0, none⟩)] wr fun e w' => e = .returned (.bool true) ∧ Below w.heap.size wr w') := drains_any w.heap.size b c wr ⟨s, hl, hr, Below.refl _ _⟩ HLo.out hb.size
        have HB : Hid (Below w.heap.size w wr) := hb
        clear hl hr hb hg
        go_wp2_with (go_at_call 12; refine HDr.out.mono ?_; rintro e w9 ⟨rfl, hb9⟩)
        go_ret
        exact ⟨rfl, HB.out.trans hb9⟩

end Go.Proofs.Ytljceoojbppaeaa
