/-
  Sorting by parts.
-/
import Derived.Test.YtifddbfcongepaaSrt1
import Derived.Test.YtifddbfcongepaaSrt3
import Derived.Test.YtifddbfcongepaaSrt4
import Derived.Test.YtifddbfcongepaaSrt6
import Derived.Test.YtifddbfcongepaaSrtP
import Derived.Deep.LoopGhost
import Derived.Deep.DeepCutAuto
namespace Go.Proofs.Ytifddbfcongepaa
open Go.RowKit
open Go.Sort (swp size_swp PermIn SortedIn)

/-- a part of the row is sorted. -/
def Srd (w : World) (g a b : Nat) (tl : List Value) (d : Array Int) (e : Ending) (w' : World) : Prop :=
  e = .returned (.tuple #[]) ∧ ∃ d', PermIn a b d d' ∧ SortedIn ltZ a b d' ∧ Sw w g tl d' w'

set_option maxHeartbeats 16000000 in
set_option maxRecDepth 8000 in
theorem pdq_any (g n cap : Nat) (tl : List Value) (hn : n ≤ 1000) : ∀ (k a b : Nat) (l : Int) (d : Array Int) (w : World), b - a ≤ k → Blk w g 31 (cellsA d ++ tl) → d.size = n → a ≤ b → b ≤ n → Dst a b d → Ahd a b d →
    Calls Try.prog 26 #[.slice (some ⟨g, 0, none⟩) n cap, .int .i64 a, .int .i64 b, .int .i64 l] w fun e w' => Srd w g a b tl d e w' := by
  intro k
  induction k using Nat.strongRecOn with
  | _ k ih =>
  intro a b l d w hk hblk hd hab hb hdst hfr
  have HREC : Hid (∀ (a' b' : Nat) (l' : Int) (d' : Array Int) (W : World), b' - a' < b - a → Blk W g 31 (cellsA d' ++ tl) → d'.size = n → a' ≤ b' → b' ≤ n → Dst a' b' d' → Ahd a' b' d' →
    Calls Try.prog 26 #[.slice (some ⟨g, 0, none⟩) n cap, .int .i64 a', .int .i64 b', .int .i64 l'] W fun e w' => Srd W g a' b' tl d' e w') :=
    fun a' b' l' d' W c1 c2 c3 c4 c5 c6 c7 => ih (b' - a') (by omega) a' b' l' d' W (Nat.le_refl _) c2 c3 c4 c5 c6 c7
  have H0 : Hid (St a b a b n d d) := St.start hd hdst hfr hab hb
  have S0 : Hid (Sw w g tl d w) := Sw.refl hblk
  clear ih hblk hdst hfr hk
  go_enter Try.func26, Try.ntmps26
  go_wp2_with fail
  go_loopg [1, 2, 3, 8, 9] (b - a) (fun k v1 v2 v3 v8 v9 wr => ∃ (x y : Nat) (l : Int) (q8 q9 : Bool) (dk : Array Int), v1 = .int .i64 x ∧ v2 = .int .i64 y ∧ v3 = .int .i64 l ∧ v8 = .bool q8 ∧ v9 = .bool q9 ∧ y - x ≤ k ∧ St a b x y n d dk ∧ Sw w g tl dk wr)
  case atStart => exact ⟨a, b, l, true, true, d, rfl, rfl, rfl, rfl, rfl, Nat.le_refl _, H0.out, S0.out⟩
  case round =>
    obtain ⟨x, y, l1, q8, q9, dk, rfl, rfl, rfl, rfl, rfl, hm, hst, hsw⟩ := hrel
    have hax := hst.ax
    have hxy := hst.xy
    have hyb := hst.yb
    have HST : Hid (St a b x y n d dk) := hst
    have SK : Hid (Sw w g tl dk wr) := hsw
    clear hst hsw H0 S0
    obtain ⟨L, hL⟩ : ∃ L, y - x = L := ⟨_, rfl⟩
    have e8 : (y : Int) - (x : Int) = (L : Int) := by omega
    have w8 : IntKind.i64.wrap ((y : Int) - (x : Int)) = (L : Int) := by rw [IntKind.wrap_i64]; omega
    by_cases hs : L ≤ 12
    · have hs1 : (L : Int) ≤ 12 := by omega
      have HC : Hid (Calls Try.prog 28 #[.slice (some ⟨g, 0, none⟩) n cap, .int .i64 x, .int .i64 y] wr fun e w' => e = .returned (.tuple #[]) ∧ Sw wr g tl (Go.Sort.insertionSort ltZ dk x y) w') := ins_any g n cap x y tl dk wr SK.out.blk HST.out.sz hxy (by omega) (by omega)
      have HI : Hid (PermIn x y dk (Go.Sort.insertionSort ltZ dk x y) ∧ SortedIn ltZ x y (Go.Sort.insertionSort ltZ dk x y)) := Go.Sort.insertionSort_holds swoZ dk x y hxy (by rw [HST.out.sz]; omega)
      go_wp2_with fail
      refine HC.out.mono ?_
      rintro e w1 ⟨rfl, s1⟩
      have S1 : Hid (Sw w g tl (Go.Sort.insertionSort ltZ dk x y) w1) := SK.out.trans s1
      clear s1
      go_wp2_with fail
      (try simp only [Exit.inBlock, Exit.then])
      refine bodyPost_ret (results_none rfl _ _ _) rfl ?_
      exact ⟨rfl, _, (HST.out.turn HI.out.1).perm, (HST.out.turn HI.out.1).done HI.out.2, S1.out⟩
    · have hs1 : ¬ (L : Int) ≤ 12 := by omega
      by_cases hl0 : l1 = 0
      · have hl1 : (l1 == 0) = true := by simp [hl0]
        have HC : Hid (Calls Try.prog 29 #[.slice (some ⟨g, 0, none⟩) n cap, .int .i64 x, .int .i64 y] wr fun e w' => e = .returned (.tuple #[]) ∧ Sw wr g tl (Go.Sort.heapSort ltZ dk x y) w') := heap_any g n cap x y tl dk wr SK.out.blk HST.out.sz (by omega) (by omega) (by omega)
        have HI : Hid (PermIn x y dk (Go.Sort.heapSort ltZ dk x y) ∧ SortedIn ltZ x y (Go.Sort.heapSort ltZ dk x y)) := Go.Sort.heapSort_holds swoZ dk x y hxy (by rw [HST.out.sz]; omega)
        go_wp2_with fail
        refine HC.out.mono ?_
        rintro e w1 ⟨rfl, s1⟩
        have S1 : Hid (Sw w g tl (Go.Sort.heapSort ltZ dk x y) w1) := SK.out.trans s1
        clear s1
        go_wp2_with fail
        (try simp only [Exit.inBlock, Exit.then])
        refine bodyPost_ret (results_none rfl _ _ _) rfl ?_
        exact ⟨rfl, _, (HST.out.turn HI.out.1).perm, (HST.out.turn HI.out.1).done HI.out.2, S1.out⟩
      · have hl1 : (l1 == 0) = false := by simp [hl0]
        go_upto_if 35 with fail
        go_cut [3] (fun v wc => ∃ (l2 : Int) (d1 : Array Int), v = .int .i64 l2 ∧ PermIn x y dk d1 ∧ Sw w g tl d1 wc)
        case first =>
          cases q8 with
          | true =>
            go_wp2_with fail
            go_meet
            exact ⟨l1, dk, rfl, Go.Sort.permIn_refl _ _ _, SK.out⟩
          | false =>
            have HC : Hid (Calls Try.prog 30 #[.slice (some ⟨g, 0, none⟩) n cap, .int .i64 x, .int .i64 y] wr fun e w' => Ord wr g x y tl dk e w') := break_any g n cap x y tl dk wr SK.out.blk HST.out.sz (by omega) (by omega) hn
            go_wp2_with fail
            refine HC.out.mono ?_
            rintro e w1 ⟨rfl, d1, hp1, s1⟩
            have S1 : Hid (PermIn x y dk d1 ∧ Sw w g tl d1 w1) := ⟨hp1, SK.out.trans s1⟩
            clear s1 hp1
            go_wp2_with fail
            go_meet
            exact ⟨_, d1, rfl, S1.out.1, S1.out.2⟩
        case rest =>
          obtain ⟨l2, d1, rfl, hp1, hs1'⟩ := hcut
          have HST1 : Hid (St a b x y n d d1) := HST.out.turn hp1
          have SK1 : Hid (Sw w g tl d1 wc) := hs1'
          clear hp1 hs1' HST SK
          have HC : Hid (Calls Try.prog 31 #[.slice (some ⟨g, 0, none⟩) n cap, .int .i64 x, .int .i64 y] wc fun e w' => Pv x y wc e w') := pivot_any g n cap x y tl d1 wc SK1.out.blk HST1.out.sz (by omega) (by omega) hn
          go_upto_if 50 with (first | (go_at_call 31; refine HC.out.mono ?_; rintro e w2 ⟨p, t, rfl, hp1, hp2, hbw⟩))
          have SK2 : Hid (Sw w g tl d1 w2) := SK1.out.over hbw
          clear hbw SK1 HC
          go_cut [11, 12] (fun v11 v12 wc => ∃ (p2 : Nat) (t2 : Int) (d2 : Array Int), v11 = .int .i64 p2 ∧ v12 = .int .i64 t2 ∧ (x ≤ p2 ∧ p2 < y) ∧ PermIn x y d1 d2 ∧ Sw w g tl d2 wc)
          case first =>
            rcases Bool.eq_false_or_eq_true (t == 2) with ht | ht
            · have HC : Hid (Calls Try.prog 32 #[.slice (some ⟨g, 0, none⟩) n cap, .int .i64 x, .int .i64 y] w2 fun e w' => Ord w2 g x y tl d1 e w') := rev_any g n cap x y tl d1 w2 SK2.out.blk HST1.out.sz (by omega) (by omega) (by omega)
              obtain ⟨P, hP⟩ : ∃ P : Nat, (y : Int) - 1 - ((p : Int) - (x : Int)) = P := ⟨y - 1 - (p - x), by omega⟩
              have wP : IntKind.i64.wrap ((y : Int) - 1 - ((p : Int) - (x : Int))) = (P : Int) := by rw [IntKind.wrap_i64]; omega
              have hP1 : x ≤ P ∧ P < y := by omega
              go_wp2_with fail
              refine HC.out.mono ?_
              rintro e w3 ⟨rfl, d2, hpp, s3⟩
              have S3 : Hid (PermIn x y d1 d2 ∧ Sw w g tl d2 w3) := ⟨hpp, SK2.out.trans s3⟩
              clear s3 hpp
              go_wp2_with fail
              go_meet
              exact ⟨P, 1, d2, rfl, rfl, hP1, S3.out.1, S3.out.2⟩
            · go_wp2_with fail
              go_meet
              exact ⟨p, t, d1, rfl, rfl, ⟨hp1, hp2⟩, Go.Sort.permIn_refl _ _ _, SK2.out⟩
          case rest =>
            obtain ⟨p2, t2, d2, rfl, rfl, hp3, hpp, s3⟩ := hcut
            have HST2 : Hid (St a b x y n d d2) := HST1.out.turn hpp
            have SK3 : Hid (Sw w g tl d2 wc) := s3
            clear hpp s3 HST1 SK2 hp1 hp2
            obtain ⟨hp1, hp2⟩ := hp3
            go_upto_region 15 with fail
            go_cut [68] (fun v wd => (∃ q : Bool, v = .bool q) ∧ Sw w g tl d2 wd)
            case first =>
              cases q8 with
              | true =>
                cases q9 with
                | true =>
                  go_wp2_with fail
                  go_meet
                  exact ⟨⟨_, rfl⟩, SK3.out⟩
                | false =>
                  go_wp2_with fail
                  go_meet
                  exact ⟨⟨_, rfl⟩, SK3.out⟩
              | false =>
                go_wp2_with fail
                go_meet
                exact ⟨⟨_, rfl⟩, SK3.out⟩
            case rest =>
              obtain ⟨⟨q, rfl⟩, hwd⟩ := hcut
              have SK4 : Hid (Sw w g tl d2 wc) := hwd
              clear hwd SK3
              go_upto_if 68 with fail
              go_cut [68] (fun _ wc => ∃ d3, PermIn x y d2 d3 ∧ Sw w g tl d3 wc)
              case first =>
                cases q with
                | false =>
                  go_wp2_with fail
                  go_meet
                  exact ⟨d2, Go.Sort.permIn_refl _ _ _, SK4.out⟩
                | true =>
                  have HC : Hid (Calls Try.prog 33 #[.slice (some ⟨g, 0, none⟩) n cap, .int .i64 x, .int .i64 y] wc fun e w' => Psr wc g x y tl d2 e w') := partial_any g n cap x y tl d2 wc SK4.out.blk HST2.out.sz (by omega) (by omega) hn
                  obtain ⟨r, HR⟩ : ∃ r, Hid (Go.Sort.partialInsertionSort ltZ d2 x y = r) := ⟨_, rfl⟩
                  have HP : Hid (PermIn x y d2 r.1 ∧ (r.2 = true → SortedIn ltZ x y r.1)) := by
                    show _ ∧ _
                    rw [← HR.out]
                    exact Go.Sort.partialInsertionSort_holds swoZ d2 x y (by omega) (by rw [HST2.out.sz]; omega) (by
                      rcases HST2.out.fr with c | c
                      · exact .inl c
                      · exact .inr fun k k1 k2 => by
                          have := c k k1 k2
                          unfold ltZ
                          exact decide_eq_false (by omega))
                  go_wp2_with fail
                  refine HC.out.mono ?_
                  rintro e w4 ⟨rfl, s4⟩
                  rw [HR.out] at s4
                  rw [HR.out]
                  have S4 : Hid (Sw w g tl r.1 w4) := SK4.out.trans s4
                  clear s4 HC HR
                  obtain ⟨d3, q3⟩ := r
                  cases q3 with
                  | true =>
                    go_wp2_with fail
                    (try simp only [Exit.inBlock, Exit.then])
                    refine bodyPost_ret (results_none rfl _ _ _) rfl ?_
                    exact ⟨rfl, _, (HST2.out.turn HP.out.1).perm, (HST2.out.turn HP.out.1).done (HP.out.2 (by simp)), S4.out⟩
                  | false =>
                    go_wp2_with fail
                    go_meet
                    exact ⟨d3, HP.out.1, S4.out⟩
              case rest =>
                obtain ⟨d3, hp3', hs5⟩ := hcut
                have HST3 : Hid (St a b x y n d d3) := HST2.out.turn hp3'
                have SK5 : Hid (Sw w g tl d3 wc) := hs5
                clear hp3' hs5 SK4 HST2
                go_upto_region 17 with fail
                go_cut [87] (fun v wc => v = .bool false ∧ Sw w g tl d3 wc)
                case first =>
                  have HBD : Hid (∀ m, Sw w g tl d3 (wc.drewN m)) := fun m => SK5.out.drewN m
                  rcases Nat.eq_zero_or_pos x with hx0 | hx0
                  · have l0 : decide ((0 : Int) < (x : Int)) = false := decide_eq_false (by omega)
                    have l1' : ¬ (0 : Int) < (x : Int) := by omega
                    have l2' : decide (0 < x) = false := decide_eq_false (by omega)
                    clear hx0
                    go_wp2_with fail
                    go_quiet (fail)
                    go_wp2_with fail
                    go_meet
                    exact ⟨rfl, HBD.out _⟩
                  · have l0 : decide ((0 : Int) < (x : Int)) = true := decide_eq_true (by omega)
                    have l1' : (0 : Int) < (x : Int) := by omega
                    have l2' : decide (0 < x) = true := decide_eq_true (by omega)
                    obtain ⟨x1, HX1⟩ : ∃ v, Hid (d3[x - 1]! = v) := ⟨_, rfl⟩
                    obtain ⟨x2, HX2⟩ : ∃ v, Hid (d3[p2]! = v) := ⟨_, rfl⟩
                    have hsz : d3.size = n := HST3.out.sz
                    have c1 : wc.cell? ⟨g, x - 1, none⟩ = some (.int .u64 x1) := HX1.out ▸ SK5.out.cell (x - 1) (by omega)
                    have c2 : wc.cell? ⟨g, p2, none⟩ = some (.int .u64 x2) := HX2.out ▸ SK5.out.cell p2 (by omega)
                    have hlt : ltZ x1 x2 = true := by
                      rcases HST3.out.fr with c | c
                      · omega
                      · rw [← HX1.out, ← HX2.out]; exact ltZ_true.2 (c p2 hp1 hp2)
                    have HQ : Hid (∀ W, Calls Try.prog 34 #[.int .u64 x1, .int .u64 x2] W fun e w' => e = .returned (.bool true) ∧ w' = W) := fun W => hlt ▸ lessU_any _ _ W
                    have b1 : (x : Int) - 1 < (n : Int) := by omega
                    have b2 : (p2 : Int) < (n : Int) := by omega
                    clear hlt
                    go_wp2_with fail
                    go_quiet ((go_at_call 34; refine Calls.quiet_of_same (HQ.out _)))
                    go_wp2_with fail
                    go_meet
                    exact ⟨rfl, HBD.out _⟩
                case rest =>
                  obtain ⟨rfl, s6⟩ := hcut
                  have SK6 : Hid (Sw w g tl d3 wc) := s6
                  clear s6 SK5
                  have HC : Hid (Calls Try.prog 36 #[.slice (some ⟨g, 0, none⟩) n cap, .int .i64 x, .int .i64 y, .int .i64 p2] wc fun e w' => Prd wc g x y n tl d3 e w') := part_any g n cap x y p2 tl d3 wc SK6.out.blk HST3.out.sz hp1 hp2 (by omega) (by omega)
                  go_upto_if 113 with (first | (go_at_call 36; refine HC.out.mono ?_; rintro e w5 ⟨m, qm, d4, rfl, hprt, s5⟩; obtain ⟨A, hA, wA⟩ : ∃ A : Nat, (m : Int) - (x : Int) = A ∧ IntKind.i64.wrap ((m : Int) - (x : Int)) = A := ⟨m - x, by have := hprt.am; omega, by rw [IntKind.wrap_i64]; have := hprt.am; have := hprt.mb; omega⟩; obtain ⟨B, hB, wB⟩ : ∃ B : Nat, (y : Int) - (m : Int) = B ∧ IntKind.i64.wrap ((y : Int) - (m : Int)) = B := ⟨y - m, by have := hprt.mb; omega, by rw [IntKind.wrap_i64]; have := hprt.am; have := hprt.mb; omega⟩))
                  have HPRT : Hid (Prt x y m n d3 d4) := hprt
                  have SK7 : Hid (Sw w g tl d4 w5) := SK6.out.trans s5
                  have hm1 := hprt.am
                  have hm2 := hprt.mb
                  clear hprt s5 SK6 HC
                  by_cases hAB : A < B
                  · have hAB1 : (A : Int) < (B : Int) := by omega
                    have hAB2 : decide (A < B) = true := decide_eq_true hAB
                    have HC : Hid (Calls Try.prog 26 #[.slice (some ⟨g, 0, none⟩) n cap, .int .i64 x, .int .i64 m, .int .i64 l2] w5 fun e w' => Srd w5 g x m tl d4 e w') := HREC.out x m l2 d4 w5 (by omega) SK7.out.blk HPRT.out.sz hm1 (by omega) (HST3.out.leftDst HPRT.out) (HST3.out.leftFr HPRT.out)
                    go_wp2_with fail
                    refine HC.out.mono ?_
                    rintro e w6 ⟨rfl, d5, hp4, hs4, s6⟩
                    have S8 : Hid (St a b (m + 1) y n d d5 ∧ Sw w g tl d5 w6) := ⟨HST3.out.left HPRT.out hp4 hs4, SK7.out.trans s6⟩
                    clear hp4 hs4 s6 HC
                    go_wp2_with fail
                    go_roundg (y - (m + 1))
                    case measure => omega
                    case rel => exact ⟨m + 1, y, l2, _, _, d5, by go_num, rfl, rfl, rfl, rfl, Nat.le_refl _, S8.out.1, S8.out.2⟩
                  · have hAB1 : ¬ (A : Int) < (B : Int) := by omega
                    have hAB2 : decide (A < B) = false := decide_eq_false hAB
                    have HC : Hid (Calls Try.prog 26 #[.slice (some ⟨g, 0, none⟩) n cap, .int .i64 ((m : Int) + 1), .int .i64 y, .int .i64 l2] w5 fun e w' => Srd w5 g (m + 1) y tl d4 e w') := by
                      have := HREC.out (m + 1) y l2 d4 w5 (by omega) SK7.out.blk HPRT.out.sz (by omega) (by omega) (HST3.out.rightDst HPRT.out) (HST3.out.rightFr HPRT.out)
                      rw [show ((m + 1 : Nat) : Int) = (m : Int) + 1 from by omega] at this
                      exact this
                    go_wp2_with fail
                    refine HC.out.mono ?_
                    rintro e w6 ⟨rfl, d5, hp4, hs4, s6⟩
                    have S8 : Hid (St a b x m n d d5 ∧ Sw w g tl d5 w6) := ⟨HST3.out.right HPRT.out hp4 hs4, SK7.out.trans s6⟩
                    clear hp4 hs4 s6 HC
                    go_wp2_with fail
                    go_roundg (m - x)
                    case measure => omega
                    case rel => exact ⟨x, m, l2, _, _, d5, rfl, rfl, rfl, rfl, rfl, Nat.le_refl _, S8.out.1, S8.out.2⟩

end Go.Proofs.Ytifddbfcongepaa
