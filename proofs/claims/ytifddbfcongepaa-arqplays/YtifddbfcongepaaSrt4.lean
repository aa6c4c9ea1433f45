/-
  Which place is to be the pivot.
-/
import Derived.Test.YtifddbfcongepaaSrt0
import Derived.Deep.DeepCutAuto
namespace Go.Proofs.Ytifddbfcongepaa
open Go.RowKit

/-- the row as it was, and a count that may have turned. -/
def Pm (s g : Nat) (L : List Value) (X Y : World) : Prop := Blk Y g 31 L ∧ (∃ z, Blk Y s 3 [.int .i64 z]) ∧ X.grownBy Y (some s)
theorem Pm.trans {s g : Nat} {L : List Value} {X Y Z : World} (h : Pm s g L X Y) (h' : Pm s g L Y Z) : Pm s g L X Z :=
  ⟨h'.1, h'.2.1, h'.2.2.os.trans h.2.2.os, h'.2.2.tape.trans h.2.2.tape, h'.2.2.output.trans h.2.2.output, Nat.le_trans h.2.2.size h'.2.2.size, fun k hk hn => (h'.2.2.block k (Nat.lt_of_lt_of_le hk h.2.2.size) hn).trans (h.2.2.block k hk hn)⟩
theorem pm_drewN {s g : Nat} {L : List Value} {X : World} {z : Int} (hg : Blk X g 31 L) (hs : Blk X s 3 [.int .i64 z]) (m : Nat) : Pm s g L X (X.drewN m) := by
  have hb := below_drewN X m
  exact ⟨hg.over hb, ⟨z, hs.over hb⟩, hb.os, hb.tape, hb.output, hb.size, fun k hk _ => hb.block k hk⟩
theorem pm_set {s g : Nat} {L : List Value} {X : World} {z : Int} (hg : Blk X g 31 L) (hs : Blk X s 3 [.int .i64 z]) (hne : g ≠ s) (m : Nat) (z' : Int) : Pm s g L X ((X.drewN m).setCell ⟨s, 0, none⟩ (.int .i64 z')) := by
  have hb := below_drewN X m
  refine ⟨(hg.over hb).other _ _ hne, ⟨z', (hs.over hb).set 0 _⟩, hb.os, hb.tape, hb.output, by simp, fun k hk hn => ?_⟩
  rw [heap_setCell_other _ ⟨s, 0, none⟩ k _ (fun e => hn (by rw [e]))]
  exact hb.block k hk

/-- two places, in one order or the other. -/
def O2 (s g a b : Nat) (L : List Value) (X : World) (e : Ending) (Y : World) : Prop :=
  ∃ x y : Nat, e = .returned (.tuple #[.int .i64 x, .int .i64 y]) ∧ ((x = a ∧ y = b) ∨ (x = b ∧ y = a)) ∧ Pm s g L X Y

set_option maxHeartbeats 2000000 in
theorem order2_any (s g n cap a b : Nat) (tl : List Value) (d : Array Int) (w : World) (h : Blk w g 31 (cellsA d ++ tl)) (hs : ∃ z, Blk w s 3 [.int .i64 z]) (hne : g ≠ s) (hd : d.size = n) (ha : a < n) (hb : b < n) (_hn : n ≤ 1000) :
    Calls Try.prog 45 #[.slice (some ⟨g, 0, none⟩) n cap, .int .i64 a, .int .i64 b, .pointer (some ⟨s, 0, none⟩)] w fun e w' => O2 s g a b (cellsA d ++ tl) w e w' := by
  obtain ⟨z, hz⟩ := hs
  have ca : w.cell? ⟨g, a, none⟩ = some (.int .u64 d[a]!) := (Sw.refl h).cell a (by omega)
  have cb : w.cell? ⟨g, b, none⟩ = some (.int .u64 d[b]!) := (Sw.refl h).cell b (by omega)
  have cs : w.cell? ⟨s, 0, none⟩ = some (.int .i64 z) := hz.cell 0
  have fs : w.frozen? ⟨s, 0, none⟩ = false := hz.f 0
  have HP1 : Hid (∀ m, Pm s g (cellsA d ++ tl) w (w.drewN m)) := pm_drewN h hz
  have HP2 : Hid (∀ m z', Pm s g (cellsA d ++ tl) w ((w.drewN m).setCell ⟨s, 0, none⟩ (.int .i64 z'))) := pm_set h hz hne
  have ia : (a : Int) < (n : Int) := by omega
  have ib : (b : Int) < (n : Int) := by omega
  clear h hz hne
  rcases Bool.eq_false_or_eq_true (ltZ d[b]! d[a]!) with hq | hq
  · have HQ : Hid (∀ W, Calls Try.prog 34 #[.int .u64 d[b]!, .int .u64 d[a]!] W fun e w' => e = .returned (.bool true) ∧ w' = W) := fun W => hq ▸ lessU_any _ _ W
    clear hq
    generalize hx1 : d[a]! = x1 at *
    generalize hx2 : d[b]! = x2 at *
    clear hx1 hx2
    go_enter Try.func45, Try.ntmps45
    go_wp2_with fail
    go_quiet ((go_at_call 34; refine Calls.quiet_of_same (HQ.out _)))
    go_wp2_with fail
    go_ret2
    exact ⟨b, a, rfl, .inr ⟨rfl, rfl⟩, HP2.out _ _⟩
  · have HQ : Hid (∀ W, Calls Try.prog 34 #[.int .u64 d[b]!, .int .u64 d[a]!] W fun e w' => e = .returned (.bool false) ∧ w' = W) := fun W => hq ▸ lessU_any _ _ W
    clear hq
    generalize hx1 : d[a]! = x1 at *
    generalize hx2 : d[b]! = x2 at *
    clear hx1 hx2
    go_enter Try.func45, Try.ntmps45
    go_wp2_with fail
    go_quiet ((go_at_call 34; refine Calls.quiet_of_same (HQ.out _)))
    go_wp2_with fail
    go_ret2
    exact ⟨a, b, rfl, .inl ⟨rfl, rfl⟩, HP1.out _⟩

/-- one of three places. -/
def O3 (s g a b c : Nat) (L : List Value) (X : World) (e : Ending) (Y : World) : Prop :=
  ∃ x : Nat, e = .returned (.int .i64 x) ∧ (x = a ∨ x = b ∨ x = c) ∧ Pm s g L X Y

set_option maxHeartbeats 2000000 in
theorem median_any (s g n cap a b c : Nat) (tl : List Value) (d : Array Int) (w : World) (h : Blk w g 31 (cellsA d ++ tl)) (hs : ∃ z, Blk w s 3 [.int .i64 z]) (hne : g ≠ s) (hd : d.size = n) (ha : a < n) (hb : b < n) (hc : c < n) (hn : n ≤ 1000) :
    Calls Try.prog 43 #[.slice (some ⟨g, 0, none⟩) n cap, .int .i64 a, .int .i64 b, .int .i64 c, .pointer (some ⟨s, 0, none⟩)] w fun e w' => O3 s g a b c (cellsA d ++ tl) w e w' := by
  have HO : Hid (∀ (x y : Nat) W, x < n → y < n → Blk W g 31 (cellsA d ++ tl) → (∃ z, Blk W s 3 [.int .i64 z]) → Calls Try.prog 45 #[.slice (some ⟨g, 0, none⟩) n cap, .int .i64 x, .int .i64 y, .pointer (some ⟨s, 0, none⟩)] W fun e w' => O2 s g x y (cellsA d ++ tl) W e w') := fun x y W h1 h2 h3 h4 => order2_any s g n cap x y tl d W h3 h4 hne hd h1 h2 hn
  have H0 : Hid (Blk w g 31 (cellsA d ++ tl) ∧ ∃ z, Blk w s 3 [.int .i64 z]) := ⟨h, hs⟩
  have HB : Hid (a < n ∧ b < n ∧ c < n) := ⟨ha, hb, hc⟩
  clear h hs hne ha hb hc
  go_enter Try.func43, Try.ntmps43
  go_wp2_with fail
  refine (HO.out a b w HB.out.1 HB.out.2.1 H0.out.1 H0.out.2).mono ?_
  rintro e w1 ⟨x1, y1, rfl, hx1, hP1⟩
  have P1 : Hid (((x1 = a ∧ y1 = b) ∨ (x1 = b ∧ y1 = a)) ∧ Pm s g (cellsA d ++ tl) w w1) := ⟨hx1, hP1⟩
  clear hx1 hP1
  go_wp2_with fail
  refine (HO.out y1 c w1 (by rcases P1.out.1 with ⟨_, rfl⟩ | ⟨_, rfl⟩; exact HB.out.2.1; exact HB.out.1) HB.out.2.2 P1.out.2.1 P1.out.2.2.1).mono ?_
  rintro e w2 ⟨x2, y2, rfl, hx2, hP2⟩
  have P2 : Hid (((x2 = y1 ∧ y2 = c) ∨ (x2 = c ∧ y2 = y1)) ∧ Pm s g (cellsA d ++ tl) w1 w2) := ⟨hx2, hP2⟩
  clear hx2 hP2
  go_wp2_with fail
  refine (HO.out x1 x2 w2 (by rcases P1.out.1 with ⟨rfl, _⟩ | ⟨rfl, _⟩; exact HB.out.1; exact HB.out.2.1) (by rcases P2.out.1 with ⟨rfl, _⟩ | ⟨rfl, _⟩; (rcases P1.out.1 with ⟨_, rfl⟩ | ⟨_, rfl⟩; exact HB.out.2.1; exact HB.out.1); exact HB.out.2.2) P2.out.2.1 P2.out.2.2.1).mono ?_
  rintro e w3 ⟨x3, y3, rfl, hx3, hP3⟩
  have P3 : Hid (((x3 = x1 ∧ y3 = x2) ∨ (x3 = x2 ∧ y3 = x1)) ∧ Pm s g (cellsA d ++ tl) w2 w3) := ⟨hx3, hP3⟩
  clear hx3 hP3
  go_wp2_with fail
  go_ret
  refine ⟨y3, rfl, ?_, (P1.out.2.trans P2.out.2).trans P3.out.2⟩
  have q1 := P1.out.1
  have q2 := P2.out.1
  have q3 := P3.out.1
  omega

/-- the pivot's place, and a hint. -/
def Pv (a b : Nat) (w : World) (e : Ending) (w' : World) : Prop :=
  ∃ (p : Nat) (t : Int), e = .returned (.tuple #[.int .i64 p, .int .i64 t]) ∧ a ≤ p ∧ p < b ∧ Below w.heap.size w w'

theorem pm_below {s g : Nat} {L : List Value} {X Y : World} (h : Pm s g L X Y) (w : World) (hb : Below w.heap.size w X) (hs : w.heap.size ≤ s) : Below w.heap.size w Y :=
  ⟨h.2.2.os.trans hb.os, h.2.2.tape.trans hb.tape, h.2.2.output.trans hb.output, Nat.le_trans hb.size h.2.2.size, fun k hk => (h.2.2.block k (Nat.lt_of_lt_of_le hk hb.size) (fun e => by injection e with e; omega)).trans (hb.block k hk)⟩

set_option maxHeartbeats 2000000 in
theorem medadj_any (s g n cap a : Nat) (tl : List Value) (d : Array Int) (w : World) (h : Blk w g 31 (cellsA d ++ tl)) (hs : ∃ z, Blk w s 3 [.int .i64 z]) (hne : g ≠ s) (hd : d.size = n) (ha : 1 ≤ a) (ha2 : a + 1 < n) (hn : n ≤ 1000) :
    Calls Try.prog 42 #[.slice (some ⟨g, 0, none⟩) n cap, .int .i64 a, .pointer (some ⟨s, 0, none⟩)] w fun e w' => O3 s g (a - 1) a (a + 1) (cellsA d ++ tl) w e w' := by
  have HM : Hid (Calls Try.prog 43 #[.slice (some ⟨g, 0, none⟩) n cap, .int .i64 ((a : Int) - 1), .int .i64 a, .int .i64 ((a : Int) + 1), .pointer (some ⟨s, 0, none⟩)] w fun e w' => O3 s g (a - 1) a (a + 1) (cellsA d ++ tl) w e w') := by
    have := median_any s g n cap (a - 1) a (a + 1) tl d w h hs hne hd (by omega) (by omega) ha2 hn
    rw [show ((a - 1 : Nat) : Int) = (a : Int) - 1 from by omega, show ((a + 1 : Nat) : Int) = (a : Int) + 1 from by omega] at this
    exact this
  clear h hs
  go_enter Try.func42, Try.ntmps42
  go_wp2_with fail
  refine HM.out.mono ?_
  rintro e w1 ⟨x, rfl, hx, hP⟩
  go_wp2_with fail
  go_ret
  exact ⟨x, rfl, hx, hP⟩

set_option maxHeartbeats 4000000 in
theorem pivot_any (g n cap a b : Nat) (tl : List Value) (d : Array Int) (w : World) (h : Blk w g 31 (cellsA d ++ tl)) (hd : d.size = n) (hab : a + 12 < b) (hb : b ≤ n) (hn : n ≤ 1000) :
    Calls Try.prog 31 #[.slice (some ⟨g, 0, none⟩) n cap, .int .i64 a, .int .i64 b] w fun e w' => Pv a b w e w' := by
  obtain ⟨m, hm⟩ : ∃ m, b - a = m := ⟨_, rfl⟩
  obtain ⟨q, hq⟩ : ∃ q, m / 4 = q := ⟨_, rfl⟩
  have e8 : (b : Int) - (a : Int) = (m : Int) := by omega
  have w8 : IntKind.i64.wrap ((b : Int) - (a : Int)) = (m : Int) := by rw [IntKind.wrap_i64]; omega
  have hne : g ≠ w.heap.size := Nat.ne_of_lt h.lt
  have HM : Hid (∀ (x y z : Nat) W, x < n → y < n → z < n → Blk W g 31 (cellsA d ++ tl) → (∃ z, Blk W w.heap.size 3 [.int .i64 z]) → Calls Try.prog 43 #[.slice (some ⟨g, 0, none⟩) n cap, .int .i64 x, .int .i64 y, .int .i64 z, .pointer (some ⟨w.heap.size, 0, none⟩)] W fun e w' => O3 w.heap.size g x y z (cellsA d ++ tl) W e w') := fun x y z W h1 h2 h3 h4 h5 => median_any w.heap.size g n cap x y z tl d W h4 h5 hne hd h1 h2 h3 (by omega)
  have HG : Hid (Blk (w.alloc (Obj.cells #[.int .i64 0] 3)) g 31 (cellsA d ++ tl)) := h.alloc _
  have HZ : Hid (Blk (w.alloc (Obj.cells #[.int .i64 0] 3)) w.heap.size 3 [.int .i64 0]) := blk_new w _ _
  have HB : Hid (Below w.heap.size w (w.alloc (Obj.cells #[.int .i64 0] 3))) := below_new w _
  have HNE : Hid (g ≠ w.heap.size) := hne
  clear h hne
  have HA : Hid (∀ (x : Nat) W, 1 ≤ x → x + 1 < n → Blk W g 31 (cellsA d ++ tl) → (∃ z, Blk W w.heap.size 3 [.int .i64 z]) → Calls Try.prog 42 #[.slice (some ⟨g, 0, none⟩) n cap, .int .i64 x, .pointer (some ⟨w.heap.size, 0, none⟩)] W fun e w' => O3 w.heap.size g (x - 1) x (x + 1) (cellsA d ++ tl) W e w') := fun x W h1 h2 h3 h4 => medadj_any w.heap.size g n cap x tl d W h3 h4 HNE.out hd h1 h2 (by omega)
  go_enter Try.func31, Try.ntmps31
  go_upto_if 32 with fail
  generalize (w.alloc (Obj.cells #[.int .i64 0] 3)) = X at *
  go_cut [11] (fun v wc => ∃ x : Nat, v = .int .i64 x ∧ (a ≤ x ∧ x < b) ∧ Blk wc g 31 (cellsA d ++ tl) ∧ (∃ z, Blk wc w.heap.size 3 [.int .i64 z]) ∧ Below w.heap.size w wc)
  case first =>
    by_cases h50 : m < 50
    · have h51 : ¬ (50 : Int) ≤ (m : Int) := by omega
      have HMM : Hid (Calls Try.prog 43 #[.slice (some ⟨g, 0, none⟩) n cap, .int .i64 ((a : Int) + (m : Int) / 4), .int .i64 ((a : Int) + (m : Int) / 4 * 2), .int .i64 ((a : Int) + (m : Int) / 4 * 3), .pointer (some ⟨w.heap.size, 0, none⟩)] X fun e w' => O3 w.heap.size g (a + m / 4) (a + m / 4 * 2) (a + m / 4 * 3) (cellsA d ++ tl) X e w') := by
        have := HM.out (a + m / 4) (a + m / 4 * 2) (a + m / 4 * 3) _ (by omega) (by omega) (by omega) HG.out ⟨0, HZ.out⟩
        rw [show ((a + m / 4 : Nat) : Int) = (a : Int) + (m : Int) / 4 from by omega, show ((a + m / 4 * 2 : Nat) : Int) = (a : Int) + (m : Int) / 4 * 2 from by omega, show ((a + m / 4 * 3 : Nat) : Int) = (a : Int) + (m : Int) / 4 * 3 from by omega] at this
        exact this
      go_wp2_with fail
      refine HMM.out.mono ?_
      rintro e w1 ⟨x, rfl, hx, hP⟩
      have HX : Hid (a ≤ x ∧ x < b) := by show a ≤ x ∧ x < b; omega
      have HE : Hid (Blk w1 g 31 (cellsA d ++ tl) ∧ (∃ z, Blk w1 w.heap.size 3 [.int .i64 z]) ∧ Below w.heap.size w w1) := ⟨hP.1, hP.2.1, pm_below hP w HB.out (Nat.le_refl _)⟩
      clear hx hP
      go_wp2_with fail
      go_meet
      exact ⟨x, rfl, HX.out, HE.out⟩
    · have h51 : (50 : Int) ≤ (m : Int) := by omega
      have A1 : Hid (Calls Try.prog 42 #[.slice (some ⟨g, 0, none⟩) n cap, .int .i64 ((a : Int) + (m : Int) / 4), .pointer (some ⟨w.heap.size, 0, none⟩)] X fun e w' => O3 w.heap.size g (a + m / 4 - 1) (a + m / 4) (a + m / 4 + 1) (cellsA d ++ tl) X e w') := by
        have := HA.out (a + m / 4) _ (by omega) (by omega) HG.out ⟨0, HZ.out⟩
        rw [show ((a + m / 4 : Nat) : Int) = (a : Int) + (m : Int) / 4 from by omega] at this
        exact this
      have A2 : Hid (∀ W, Blk W g 31 (cellsA d ++ tl) → (∃ z, Blk W w.heap.size 3 [.int .i64 z]) → Calls Try.prog 42 #[.slice (some ⟨g, 0, none⟩) n cap, .int .i64 ((a : Int) + (m : Int) / 4 * 2), .pointer (some ⟨w.heap.size, 0, none⟩)] W fun e w' => O3 w.heap.size g (a + m / 4 * 2 - 1) (a + m / 4 * 2) (a + m / 4 * 2 + 1) (cellsA d ++ tl) W e w') := fun W k1 k2 => by
        have := HA.out (a + m / 4 * 2) W (by omega) (by omega) k1 k2
        rw [show ((a + m / 4 * 2 : Nat) : Int) = (a : Int) + (m : Int) / 4 * 2 from by omega] at this
        exact this
      have A3 : Hid (∀ W, Blk W g 31 (cellsA d ++ tl) → (∃ z, Blk W w.heap.size 3 [.int .i64 z]) → Calls Try.prog 42 #[.slice (some ⟨g, 0, none⟩) n cap, .int .i64 ((a : Int) + (m : Int) / 4 * 3), .pointer (some ⟨w.heap.size, 0, none⟩)] W fun e w' => O3 w.heap.size g (a + m / 4 * 3 - 1) (a + m / 4 * 3) (a + m / 4 * 3 + 1) (cellsA d ++ tl) W e w') := fun W k1 k2 => by
        have := HA.out (a + m / 4 * 3) W (by omega) (by omega) k1 k2
        rw [show ((a + m / 4 * 3 : Nat) : Int) = (a : Int) + (m : Int) / 4 * 3 from by omega] at this
        exact this
      go_wp2_with fail
      refine A1.out.mono ?_
      rintro e w1 ⟨x1, rfl, hx1, hP1⟩
      have X1 : Hid (a ≤ x1 ∧ x1 < b) := by show a ≤ x1 ∧ x1 < b; omega
      have P1 : Hid (Pm w.heap.size g (cellsA d ++ tl) X w1) := hP1
      clear hx1 hP1
      go_wp2_with fail
      refine (A2.out w1 P1.out.1 P1.out.2.1).mono ?_
      rintro e w2 ⟨x2, rfl, hx2, hP2⟩
      have X2 : Hid (a ≤ x2 ∧ x2 < b) := by show a ≤ x2 ∧ x2 < b; omega
      have P2 : Hid (Pm w.heap.size g (cellsA d ++ tl) X w2) := P1.out.trans hP2
      clear hx2 hP2
      go_wp2_with fail
      refine (A3.out w2 P2.out.1 P2.out.2.1).mono ?_
      rintro e w3 ⟨x3, rfl, hx3, hP3⟩
      have X3 : Hid (a ≤ x3 ∧ x3 < b) := by show a ≤ x3 ∧ x3 < b; omega
      have P3 : Hid (Pm w.heap.size g (cellsA d ++ tl) X w3) := P2.out.trans hP3
      clear hx3 hP3
      go_wp2_with fail
      refine (HM.out x1 x2 x3 w3 (by have := X1.out; omega) (by have := X2.out; omega) (by have := X3.out; omega) P3.out.1 P3.out.2.1).mono ?_
      rintro e w4 ⟨x, rfl, hx, hP⟩
      have HX : Hid (a ≤ x ∧ x < b) := by
        show a ≤ x ∧ x < b
        have q1 := X1.out; have q2 := X2.out; have q3 := X3.out
        omega
      have P4 : Hid (Pm w.heap.size g (cellsA d ++ tl) X w4) := P3.out.trans hP
      have HE : Hid (Blk w4 g 31 (cellsA d ++ tl) ∧ (∃ z, Blk w4 w.heap.size 3 [.int .i64 z]) ∧ Below w.heap.size w w4) := ⟨P4.out.1, P4.out.2.1, pm_below P4.out w HB.out (Nat.le_refl _)⟩
      clear hx hP
      go_wp2_with fail
      go_meet
      exact ⟨x, rfl, HX.out, HE.out⟩
  case rest =>
    obtain ⟨x, rfl, hx, hbl, ⟨z, hz⟩, hbw⟩ := hcut
    have cz : wc.cell? ⟨w.heap.size, 0, none⟩ = some (.int .i64 z) := hz.cell 0
    have HX : Hid (a ≤ x ∧ x < b) := hx
    have HBB : Hid (Below w.heap.size w wc) := hbw
    clear hz hx hbl hbw HM HA HG HZ HB
    rcases Bool.eq_false_or_eq_true (z == 0) with h0 | h0
    · go_wp2_with fail
      go_ret2
      exact ⟨x, _, rfl, HX.out.1, HX.out.2, HBB.out⟩
    · rcases Bool.eq_false_or_eq_true (z == 12) with h1 | h1
      · go_wp2_with fail
        go_ret2
        exact ⟨x, _, rfl, HX.out.1, HX.out.2, HBB.out⟩
      · go_wp2_with fail
        go_ret2
        exact ⟨x, _, rfl, HX.out.1, HX.out.2, HBB.out⟩

end Go.Proofs.Ytifddbfcongepaa
