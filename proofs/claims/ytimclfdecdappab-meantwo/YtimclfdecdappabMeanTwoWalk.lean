/-
  Two rules of one act side by side are as one of the names of both: the law's walk.
-/
import Derived.Test.YtimclfdecdappabAwake
import Derived.Test.YtimclfdecdappabSLight
import Derived.Test.YtimclfdecdappabApp
import Derived.Deep.DeepCutAuto
import Derived.Deep.RegionHeld3
namespace Go.Proofs.Ytimclfdecdappab
open Go.RowKit

theorem named_app (z : Int) (l m : List ByteArray) : namedB z (l ++ m) = (namedB z l || namedB z m) := by
  unfold namedB
  rw [List.any_append]

theorem verd_two (d : Da) (k a x y : Int) (n0 n1 : List ByteArray) (l : List Xl) : verdP d k a (⟨x, y, n0, []⟩ :: ⟨x, y, n1, []⟩ :: l) = verdP d k a (⟨x, y, n0 ++ n1, []⟩ :: l) := by
  unfold verdP
  split
  · simp only [verdF, meetB, named_app, List.all_nil, Bool.and_true]
    cases namedB d.n n0 <;> cases namedB d.n n1 <;> simp
  · rfl

theorem dec_two (d : Da) (x y : Int) (n0 n1 : List ByteArray) (l : List Xl) (h1 : decE 1 0 (⟨x, y, n0, []⟩ :: ⟨x, y, n1, []⟩ :: l) = 0) (h2 : decE 1 0 (⟨x, y, n0 ++ n1, []⟩ :: l) = 0) : decA d 1 0 (⟨x, y, n0, []⟩ :: ⟨x, y, n1, []⟩ :: l) = decA d 1 0 (⟨x, y, n0 ++ n1, []⟩ :: l) := by
  unfold decE at h1 h2
  unfold decA
  rw [h1, h2, verd_two]

theorem Try.sizeRl : (Try.prog.info? 38).map (·.size) = some 4 := by kernel_rfl

/-- what is there behind the joined names. -/
def CutB (B : Nat) (W0 : World) (k a : Int) (m : Nat) (l : List ByteArray) (v : Value) (wc : World) : Prop :=
  ∃ NA p c, v = .pointer (some ⟨NA, 0, none⟩) ∧ Blk wc NA 38 [.int .i64 k, .int .i64 a, .slice p m c, .slice none 0 0] ∧ StrR wc (.slice p m c) l ∧ Below B W0 wc ∧ B ≤ NA

theorem three_n (w : World) (C D : Array Value) (A : List Value) : Blk (((w.alloc (Obj.cells C 26)).alloc (Obj.cells D 28)).alloc (Obj.cells A.toArray 33)) w.heap.size 26 C.toList ∧ Blk (((w.alloc (Obj.cells C 26)).alloc (Obj.cells D 28)).alloc (Obj.cells A.toArray 33)) (w.heap.size + 1) 28 D.toList ∧ Blk (((w.alloc (Obj.cells C 26)).alloc (Obj.cells D 28)).alloc (Obj.cells A.toArray 33)) (w.heap.size + 1 + 1) 33 A ∧ Below w.heap.size w (((w.alloc (Obj.cells C 26)).alloc (Obj.cells D 28)).alloc (Obj.cells A.toArray 33)) := by
  refine ⟨((blk_new w C 26).alloc _).alloc _, (blk_new' w _ D 28).alloc _, ?_, (room_below w _ _).alloc (room_below w _ _).size _⟩
  have := blk_new' (w.alloc (Obj.cells C 26)) (Obj.cells D 28) A.toArray 33
  rw [size_alloc'] at this
  exact this

theorem switch_world {P : Program} {ops : Array Oper} {Q : Exit → Act → World → Prop} {l : List Oper} {a : Act} {w w' : World} (h : w = w') (k : wpList P ops Q l a w') : wpList P ops Q l a w := h ▸ k

/-- a row, and rules in a box behind it. -/
theorem two_nx {t sz B n : Nat} {a X : World} {v : Value} {xs : List Value} (h : Jn t sz B a X v n xs) (C : Array Value) : ∃ V, Hid (X.alloc (Obj.cells C 26) = V) ∧ Hid (Jn t sz B a V v n xs) ∧ Hid (Blk V X.heap.size 26 C.toList) :=
  ⟨_, rfl, h.over (below_new X _), blk_new X C 26⟩
theorem Try.sizeRs : (Try.prog.info? 26).map (·.size) = some 3 := by kernel_rfl

theorem nilC (W : World) : CdR W (.slice none 0 0) [] := ⟨none, 0, rfl, Nat.le_refl _, by decide, fun h => absurd h (by decide)⟩

theorem lt_small {l : List Xr} (h : Lt l) : ∀ x ∈ l, x.r.names.length ≤ 9000000 ∧ x.r.conds.length ≤ 9000000 := fun x hx => by
  obtain ⟨h1, h2, _⟩ := h.2 x hx
  omega

set_option maxRecDepth 20000 in
set_option maxHeartbeats 8000000 in
set_option linter.unusedSimpArgs false in
theorem two_walk (w : World) (k a : Int) (v : Value) (l : List Xr) (u0 u1 : Value) (n0 n1 : List ByteArray) (d : Da) (h : RlR w v l) (hv : okS v) (hn0 : StrR w u0 n0) (ho0 : okS u0) (hn1 : StrR w u1 n1) (ho1 : okS u1) (hd : d.ok) :
    Calls Try.prog 3 #[.agg #[.int .i64 k, .int .i64 a, v], .agg #[u0, u1], .agg d.cells.toArray] w fun e w' => e = .returned (.bool true) ∧ Below w.heap.size w w' := by
  obtain ⟨p1, c1, rfl⟩ : ∃ p c, v = .slice p l.length c := by obtain ⟨p, c, e, _⟩ := h; exact ⟨p, c, e⟩
  obtain ⟨q0, e0, rfl⟩ : ∃ p c, u0 = .slice p n0.length c := by obtain ⟨p, c, e, _⟩ := hn0; exact ⟨p, c, e⟩
  obtain ⟨q1, e1, rfl⟩ : ∃ p c, u1 = .slice p n1.length c := by obtain ⟨p, c, e, _⟩ := hn1; exact ⟨p, c, e⟩
  have hsz : (Try.prog.info? 33).map (·.size) = some d.cells.toArray.size := d.size hd
  have h3 := three_n w #[.int .i64 k, .int .i64 a, .slice p1 l.length c1] #[.slice q0 n0.length e0, .slice q1 n1.length e1] d.cells
  have HA : Hid (∀ W, Calls Try.prog 4 #[] W fun e w' => e = .returned (.bool true) ∧ Below W.heap.size W w') := awake_any
  have HL : Hid (∀ W, RlR W (.slice p1 l.length c1) l → Calls Try.prog 5 #[.agg #[.int .i64 k, .int .i64 a, .slice p1 l.length c1]] W fun e w' => LightR W l e w') := fun W h => light_any W k a _ l h
  have HD : Hid (∀ W v (m : List Xr), RlR W v m → m.length ≤ 1000 → (∀ x ∈ m, x.r.names.length ≤ 9000000 ∧ x.r.conds.length ≤ 9000000) → Calls Try.prog 6 #[.agg #[.int .i64 1, .int .i64 0, v], .agg d.cells.toArray] W fun e w' => e = .returned (decV (decA d 1 0 (m.map Xr.r)) (decE 1 0 (m.map Xr.r))) ∧ Below W.heap.size W w') := fun W v m h h1 h2 => decide_any W 1 0 v m d h h1 h2 hd
  have HT : Hid (∀ m : List Xl, decE 1 0 (⟨k, a, n0, []⟩ :: ⟨k, a, n1, []⟩ :: m) = 0 → decE 1 0 (⟨k, a, n0 ++ n1, []⟩ :: m) = 0 → decA d 1 0 (⟨k, a, n0, []⟩ :: ⟨k, a, n1, []⟩ :: m) = decA d 1 0 (⟨k, a, n0 ++ n1, []⟩ :: m)) := fun m => dec_two d k a n0 n1 m
  have HDY : Hid (∀ W v (m : List Xr), RlR W v m → m.map Xr.r = (⟨k, a, n0, []⟩ :: ⟨k, a, n1, []⟩ :: l.map Xr.r) → m.length ≤ 1000 → (∀ x ∈ m, x.r.names.length ≤ 9000000 ∧ x.r.conds.length ≤ 9000000) → Calls Try.prog 6 #[.agg #[.int .i64 1, .int .i64 0, v], .agg d.cells.toArray] W fun e w' => e = .returned (decV (decA d 1 0 (⟨k, a, n0, []⟩ :: ⟨k, a, n1, []⟩ :: l.map Xr.r)) (decE 1 0 (⟨k, a, n0, []⟩ :: ⟨k, a, n1, []⟩ :: l.map Xr.r))) ∧ Below W.heap.size W w') := fun W v m h e h1 h2 => by rw [← e]; exact HD.out W v m h h1 h2
  have HDZ : Hid (∀ W v (m : List Xr), RlR W v m → m.map Xr.r = (⟨k, a, n0 ++ n1, []⟩ :: l.map Xr.r) → m.length ≤ 1000 → (∀ x ∈ m, x.r.names.length ≤ 9000000 ∧ x.r.conds.length ≤ 9000000) → Calls Try.prog 6 #[.agg #[.int .i64 1, .int .i64 0, v], .agg d.cells.toArray] W fun e w' => e = .returned (decV (decA d 1 0 (⟨k, a, n0 ++ n1, []⟩ :: l.map Xr.r)) (decE 1 0 (⟨k, a, n0 ++ n1, []⟩ :: l.map Xr.r))) ∧ Below W.heap.size W w') := fun W v m h e h1 h2 => by rw [← e]; exact HD.out W v m h h1 h2
  have HTT : Hid (decE 1 0 (⟨k, a, n0, []⟩ :: ⟨k, a, n1, []⟩ :: l.map Xr.r) = 0 → decE 1 0 (⟨k, a, n0 ++ n1, []⟩ :: l.map Xr.r) = 0 → decA d 1 0 (⟨k, a, n0, []⟩ :: ⟨k, a, n1, []⟩ :: l.map Xr.r) = decA d 1 0 (⟨k, a, n0 ++ n1, []⟩ :: l.map Xr.r)) := HT.out _
  clear HD HT
  generalize decA d 1 0 (⟨k, a, n0, []⟩ :: ⟨k, a, n1, []⟩ :: l.map Xr.r) = YA at *
  generalize decE 1 0 (⟨k, a, n0, []⟩ :: ⟨k, a, n1, []⟩ :: l.map Xr.r) = ye at *
  generalize decA d 1 0 (⟨k, a, n0 ++ n1, []⟩ :: l.map Xr.r) = ZA at *
  generalize decE 1 0 (⟨k, a, n0 ++ n1, []⟩ :: l.map Xr.r) = ze at *
  obtain ⟨ya, yb⟩ := YA
  obtain ⟨za, zb⟩ := ZA
  unfold decV actV at HDY HDZ
  dsimp only at HDY HDZ
  generalize d.cells = A at *
  have BE : Hid (Below w.heap.size w (((w.alloc (Obj.cells #[.int .i64 k, .int .i64 a, .slice p1 l.length c1] 26)).alloc (Obj.cells #[.slice q0 n0.length e0, .slice q1 n1.length e1] 28)).alloc (Obj.cells A.toArray 33))) := h3.2.2.2
  have HK : Hid (Blk (((w.alloc (Obj.cells #[.int .i64 k, .int .i64 a, .slice p1 l.length c1] 26)).alloc (Obj.cells #[.slice q0 n0.length e0, .slice q1 n1.length e1] 28)).alloc (Obj.cells A.toArray 33)) w.heap.size 26 [.int .i64 k, .int .i64 a, .slice p1 l.length c1]) := h3.1
  have HN : Hid (Blk (((w.alloc (Obj.cells #[.int .i64 k, .int .i64 a, .slice p1 l.length c1] 26)).alloc (Obj.cells #[.slice q0 n0.length e0, .slice q1 n1.length e1] 28)).alloc (Obj.cells A.toArray 33)) (w.heap.size + 1) 28 [.slice q0 n0.length e0, .slice q1 n1.length e1]) := h3.2.1
  have KD : Hid (Blk (((w.alloc (Obj.cells #[.int .i64 k, .int .i64 a, .slice p1 l.length c1] 26)).alloc (Obj.cells #[.slice q0 n0.length e0, .slice q1 n1.length e1] 28)).alloc (Obj.cells A.toArray 33)) (w.heap.size + 1 + 1) 33 A) := h3.2.2.1
  have SN : Hid (RlR (((w.alloc (Obj.cells #[.int .i64 k, .int .i64 a, .slice p1 l.length c1] 26)).alloc (Obj.cells #[.slice q0 n0.length e0, .slice q1 n1.length e1] 28)).alloc (Obj.cells A.toArray 33)) (.slice p1 l.length c1) l) := h.below h3.2.2.2
  have SA : Hid (StrR (((w.alloc (Obj.cells #[.int .i64 k, .int .i64 a, .slice p1 l.length c1] 26)).alloc (Obj.cells #[.slice q0 n0.length e0, .slice q1 n1.length e1] 28)).alloc (Obj.cells A.toArray 33)) (.slice q0 n0.length e0) n0) := hn0.below h3.2.2.2
  have SB : Hid (StrR (((w.alloc (Obj.cells #[.int .i64 k, .int .i64 a, .slice p1 l.length c1] 26)).alloc (Obj.cells #[.slice q0 n0.length e0, .slice q1 n1.length e1] 28)).alloc (Obj.cells A.toArray 33)) (.slice q1 n1.length e1) n1) := hn1.below h3.2.2.2
  have HOV : Hid (okS (.slice p1 l.length c1)) := hv
  have HO0 : Hid (okS (.slice q0 n0.length e0)) := ho0
  have HO1 : Hid (okS (.slice q1 n1.length e1)) := ho1
  clear h hn0 hn1 hv ho0 ho1 h3 hd
  go_enter Try.func3, Try.ntmps3
  go_wp2_with fail
  generalize (((w.alloc (Obj.cells #[.int .i64 k, .int .i64 a, .slice p1 l.length c1] 26)).alloc (Obj.cells #[.slice q0 n0.length e0, .slice q1 n1.length e1] 28)).alloc (Obj.cells A.toArray 33)) = X at *
  refine (HA.out _).mono ?_
  rintro e w1 ⟨rfl, b1⟩
  have t0 : w1.cell? ⟨w.heap.size, 0, none⟩ = some (.int .i64 k) := (HK.out.over b1).cell 0
  have t1 : w1.cell? ⟨w.heap.size, 1, none⟩ = some (.int .i64 a) := (HK.out.over b1).cell 1
  have t2 : w1.cell? ⟨w.heap.size, 2, none⟩ = some (.slice p1 l.length c1) := (HK.out.over b1).cell 2
  have K1 : Hid (Blk w1 w.heap.size 26 [.int .i64 k, .int .i64 a, .slice p1 l.length c1]) := HK.out.over b1
  have S1 : Hid (RlR w1 (.slice p1 l.length c1) l) := SN.out.below b1
  have B1 : Hid (Below w.heap.size w w1) := BE.out.trans (b1.mono BE.out.size)
  have BX1 : Hid (Below X.heap.size X w1) := b1
  clear b1
  go_wp2_with fail
  clear t0 t1 t2
  refine (HL.out _ S1.out).mono ?_
  rintro e w2 ⟨bb, rfl, b2, hbb⟩
  have HBB : Hid (bb = true → Lt l) := hbb
  have BX2 : Hid (Below X.heap.size X w2) := BX1.out.trans (b2.mono BX1.out.size)
  have B2 : Hid (Below w.heap.size w w2) := BE.out.trans (BX2.out.mono BE.out.size)
  clear b2 hbb B1 BX1 K1 S1
  have t0 : w2.cell? ⟨w.heap.size, 0, none⟩ = some (.int .i64 k) := (HK.out.over BX2.out).cell 0
  have t1 : w2.cell? ⟨w.heap.size, 1, none⟩ = some (.int .i64 a) := (HK.out.over BX2.out).cell 1
  have t2 : w2.cell? ⟨w.heap.size, 2, none⟩ = some (.slice p1 l.length c1) := (HK.out.over BX2.out).cell 2
  have m0 : w2.cell? ⟨w.heap.size + 1, 0, none⟩ = some (.slice q0 n0.length e0) := (HN.out.over BX2.out).cell 0
  have m1 : w2.cell? ⟨w.heap.size + 1, 1, none⟩ = some (.slice q1 n1.length e1) := (HN.out.over BX2.out).cell 1
  cases bb with
  | false =>
    go_wp2_with fail
    go_ret
    exact ⟨rfl, B2.out⟩
  | true =>
    have HLt : Hid (Lt l) := HBB.out rfl
    by_cases g1 : 60 < l.length
    · have d1 : decide (60 < (l.length : Int)) = true := decide_eq_true (by omega)
      go_wp2_with fail
      go_ret
      exact ⟨rfl, B2.out⟩
    · have d1 : decide (60 < (l.length : Int)) = false := decide_eq_false (by omega)
      by_cases g2 : 30 < n0.length
      · have d2 : decide (30 < (n0.length : Int)) = true := decide_eq_true (by omega)
        go_wp2_with fail
        go_ret
        exact ⟨rfl, B2.out⟩
      · have d2 : decide (30 < (n0.length : Int)) = false := decide_eq_false (by omega)
        by_cases g3 : 30 < n1.length
        · have d3 : decide (30 < (n1.length : Int)) = true := decide_eq_true (by omega)
          go_wp2_with fail
          go_ret
          exact ⟨rfl, B2.out⟩
        · have d3 : decide (30 < (n1.length : Int)) = false := decide_eq_false (by omega)
          have hl60 : l.length ≤ 60 := by omega
          have hn30 : n0.length ≤ 30 := by omega
          have hn31 : n1.length ≤ 30 := by omega
          clear g1 g2 g3 HBB
          have a6 : Below w2.heap.size w2 (w2.alloc (Obj.cells #[.int .i64 k, .int .i64 a, .slice q0 n0.length e0, .slice none 0 0] 38)) := below_new w2 _
          have x0 : (w2.alloc (Obj.cells #[.int .i64 k, .int .i64 a, .slice q0 n0.length e0, .slice none 0 0] 38)).cell? ⟨w.heap.size, 0, none⟩ = some (.int .i64 k) := ((HK.out.over BX2.out).over a6).cell 0
          have x1 : (w2.alloc (Obj.cells #[.int .i64 k, .int .i64 a, .slice q0 n0.length e0, .slice none 0 0] 38)).cell? ⟨w.heap.size, 1, none⟩ = some (.int .i64 a) := ((HK.out.over BX2.out).over a6).cell 1
          have x2 : (w2.alloc (Obj.cells #[.int .i64 k, .int .i64 a, .slice q0 n0.length e0, .slice none 0 0] 38)).cell? ⟨w.heap.size + 1, 1, none⟩ = some (.slice q1 n1.length e1) := ((HN.out.over BX2.out).over a6).cell 1
          have b6 : Below w2.heap.size w2 ((w2.alloc (Obj.cells #[.int .i64 k, .int .i64 a, .slice q0 n0.length e0, .slice none 0 0] 38)).alloc (Obj.cells #[.int .i64 k, .int .i64 a, .slice q1 n1.length e1, .slice none 0 0] 38)) := room_below w2 _ _
          have BX6 : Hid (Below X.heap.size X ((w2.alloc (Obj.cells #[.int .i64 k, .int .i64 a, .slice q0 n0.length e0, .slice none 0 0] 38)).alloc (Obj.cells #[.int .i64 k, .int .i64 a, .slice q1 n1.length e1, .slice none 0 0] 38))) := BX2.out.trans (b6.mono BX2.out.size)
          have KA6 : Hid (Blk ((w2.alloc (Obj.cells #[.int .i64 k, .int .i64 a, .slice q0 n0.length e0, .slice none 0 0] 38)).alloc (Obj.cells #[.int .i64 k, .int .i64 a, .slice q1 n1.length e1, .slice none 0 0] 38)) w2.heap.size 38 [.int .i64 k, .int .i64 a, .slice q0 n0.length e0, .slice none 0 0]) := (blk_new w2 _ 38).alloc _
          have KB6 : Hid (Blk ((w2.alloc (Obj.cells #[.int .i64 k, .int .i64 a, .slice q0 n0.length e0, .slice none 0 0] 38)).alloc (Obj.cells #[.int .i64 k, .int .i64 a, .slice q1 n1.length e1, .slice none 0 0] 38)) (w2.heap.size + 1) 38 [.int .i64 k, .int .i64 a, .slice q1 n1.length e1, .slice none 0 0]) := blk_new' w2 _ _ 38
          clear a6 b6
          go_wp2_with fail
          clear x0 x1 x2 t0 t1 t2 m0 m1
          generalize ((w2.alloc (Obj.cells #[.int .i64 k, .int .i64 a, .slice q0 n0.length e0, .slice none 0 0] 38)).alloc (Obj.cells #[.int .i64 k, .int .i64 a, .slice q1 n1.length e1, .slice none 0 0] 38)) = W6 at *
          have B6 : Hid (Below w.heap.size w W6) := BE.out.trans (BX6.out.mono BE.out.size)
          have S0 : Hid (RlR W6 (.slice p1 l.length c1) l) := SN.out.below BX6.out
          have S6a : Hid (StrR W6 (.slice q0 n0.length e0) n0) := SA.out.below BX6.out
          have S6b : Hid (StrR W6 (.slice q1 n1.length e1) n1) := SB.out.below BX6.out
          have HK6 : Hid (Blk W6 w.heap.size 26 [.int .i64 k, .int .i64 a, .slice p1 l.length c1]) := HK.out.over BX6.out
          have HN6 : Hid (Blk W6 (w.heap.size + 1) 28 [.slice q0 n0.length e0, .slice q1 n1.length e1]) := HN.out.over BX6.out
          have KD6 : Hid (Blk W6 (w.heap.size + 1 + 1) 33 A) := KD.out.over BX6.out
          have HRX : Hid (∀ W, Below W6.heap.size W6 W → W.cell? ⟨w.heap.size, 0, none⟩ = some (.int .i64 k) ∧ W.cell? ⟨w.heap.size, 1, none⟩ = some (.int .i64 a) ∧ W.cell? ⟨w.heap.size, 2, none⟩ = some (.slice p1 l.length c1)) := fun W h => ⟨(HK6.out.over h).cell 0, (HK6.out.over h).cell 1, (HK6.out.over h).cell 2⟩
          have HNX : Hid (∀ W, Below W6.heap.size W6 W → W.cell? ⟨w.heap.size + 1, 0, none⟩ = some (.slice q0 n0.length e0) ∧ W.cell? ⟨w.heap.size + 1, 1, none⟩ = some (.slice q1 n1.length e1)) := fun W h => ⟨(HN6.out.over h).cell 0, (HN6.out.over h).cell 1⟩
          clear BX6 BX2 B2 HK HN KD SN SA SB BE
          generalize w2.heap.size = N6 at *
          go_cut [11] (fun v wc => CutB W6.heap.size W6 k a (n0.length + n1.length) (n0 ++ n1) v wc)
          case first =>
            refine wp_region_held_drew (S := (fun W => Below W6.heap.size W6 W)) (by kernel_rfl) ((Below.refl _ _).drew) (fun hHeld => ?_)
            simp only [List.size_toArray, List.length_cons, List.length_nil, Nat.reduceAdd]
            refine wpAnyH_take (i := 0) (v := ?_) rfl (by kernel_rfl) (by kernel_rfl) (by kernel_rfl) (fun _ _ _ h => h) (Or.inl ⟨by rfl, ?_⟩) hHeld ?_
            rotate_left
            · (intro w hSw; (try dsimp only at hSw); go_simp; try with_reducible rfl)
            try simp only [Act.put, List.setIfInBounds_toArray, List.set_cons_zero, List.set_cons_succ, List.getElem_toArray, List.getElem_cons_zero, List.getElem_cons_succ]
            refine wpAnyH_take (i := 1) (v := ?_) rfl (by kernel_rfl) (by kernel_rfl) (by kernel_rfl) (fun _ _ _ h => h) (Or.inl ⟨by rfl, ?_⟩) hHeld ?_
            rotate_left
            · (intro w hSw; (try dsimp only at hSw); obtain ⟨s0, s1, s2⟩ := HRX.out _ hSw; go_simp; try with_reducible rfl)
            try simp only [Act.put, List.setIfInBounds_toArray, List.set_cons_zero, List.set_cons_succ, List.getElem_toArray, List.getElem_cons_zero, List.getElem_cons_succ]
            refine wpAnyH_take (i := 3) (v := ?_) rfl (by kernel_rfl) (by kernel_rfl) (by kernel_rfl) (fun _ _ _ h => h) (Or.inl ⟨by rfl, ?_⟩) hHeld ?_
            rotate_left
            · (intro w hSw; (try dsimp only at hSw); go_simp; try with_reducible rfl)
            try simp only [Act.put, List.setIfInBounds_toArray, List.set_cons_zero, List.set_cons_succ, List.getElem_toArray, List.getElem_cons_zero, List.getElem_cons_succ]
            refine wpAnyH_take (i := 4) (v := ?_) rfl (by kernel_rfl) (by kernel_rfl) (by kernel_rfl) (fun _ _ _ h => h) (Or.inl ⟨by rfl, ?_⟩) hHeld ?_
            rotate_left
            · (intro w hSw; (try dsimp only at hSw); have s0 := (HNX.out _ hSw).1; go_simp; try with_reducible rfl)
            try simp only [Act.put, List.setIfInBounds_toArray, List.set_cons_zero, List.set_cons_succ, List.getElem_toArray, List.getElem_cons_zero, List.getElem_cons_succ]
            refine wpAnyH_take (i := 6) (v := ?_) rfl (by kernel_rfl) (by kernel_rfl) (by kernel_rfl) (fun _ _ _ h => h) (Or.inl ⟨by rfl, ?_⟩) hHeld ?_
            rotate_left
            · (intro w hSw; (try dsimp only at hSw); go_simp; try with_reducible rfl)
            try simp only [Act.put, List.setIfInBounds_toArray, List.set_cons_zero, List.set_cons_succ, List.getElem_toArray, List.getElem_cons_zero, List.getElem_cons_succ]
            refine wpAnyH_take (i := 7) (v := ?_) rfl (by kernel_rfl) (by kernel_rfl) (by kernel_rfl) (fun _ _ _ h => h) (Or.inl ⟨by rfl, ?_⟩) hHeld ?_
            rotate_left
            · (intro w hSw; (try dsimp only at hSw); have s0 := (HNX.out _ hSw).2; go_simp; try with_reducible rfl)
            try simp only [Act.put, List.setIfInBounds_toArray, List.set_cons_zero, List.set_cons_succ, List.getElem_toArray, List.getElem_cons_zero, List.getElem_cons_succ]
            have J0 : Hid (Jn 9 1 W6.heap.size W6 W6.drew (.slice none 0 0) 0 []) := Jn.nil hHeld hHeld.size
            generalize W6.drew = Y0 at *
            refine wpAnyH_ready (rs := [2, 10]) (by kernel_rfl) (by simp) ?_
            refine (AllReadyH.cons rfl (fun K hK => ?_) (AllReadyH.cons rfl (fun K hK => ?_) AllReadyH.nil))
            ·
              go_simp
              have J1 : Hid (Jn 9 1 W6.heap.size W6 (Y0.alloc (Obj.cells #[] 9)) (.slice (some ⟨Y0.heap.size, 0, none⟩) 0 0) (0) ([])) := Jn.empty J0.out.be J0.out.lB
              generalize (Y0.alloc (Obj.cells #[] 9)) = Y1 at *
              generalize Y0.heap.size = G1 at *
              refine hK.out _ _ (J1.out.be) (fun hHeld => ?_)
              clear hK K
              try simp only [Act.put, List.setIfInBounds_toArray, List.set_cons_zero, List.set_cons_succ, List.getElem_toArray, List.getElem_cons_zero, List.getElem_cons_succ]
              refine wpAnyH_ready (rs := [5, 10]) (by kernel_rfl) (by simp) ?_
              refine (AllReadyH.cons rfl (fun K hK => ?_) (AllReadyH.cons rfl (fun K hK => ?_) AllReadyH.nil))
              ·
                refine step_of_wp (by rfl) ?_
                refine wp_app_names (.tmp 54) (.tmp 56) (by rfl) W6.heap.size (.slice (some ⟨G1, 0, none⟩) 0 0) (0) ([]) (by rfl) J1.out.own (.slice q0 n0.length e0) (n0.length) (n0) (by rfl) (src_names (S6a.out.below hHeld) HO0.out) (rfl) (by omega) J1.out.lB ?_
                intro v2 Y2 hap
                rw [Nat.zero_add, List.nil_append] at hap
                have J2 : Hid (Jn 9 1 W6.heap.size W6 Y2 (v2) (n0.length) (cellsB n0)) := J1.out.app hap
                clear hap
                obtain ⟨pj2, cj2, hvj⟩ := J2.out.slice
                subst hvj
                refine hK.out _ _ (J2.out.be) (fun hHeld => ?_)
                clear hK K
                try simp only [Act.put, List.setIfInBounds_toArray, List.set_cons_zero, List.set_cons_succ, List.getElem_toArray, List.getElem_cons_zero, List.getElem_cons_succ]
                refine wpAnyH_ready (rs := [8, 10]) (by kernel_rfl) (by simp) ?_
                refine (AllReadyH.cons rfl (fun K hK => ?_) (AllReadyH.cons rfl (fun K hK => ?_) AllReadyH.nil))
                ·
                  refine step_of_wp (by rfl) ?_
                  refine wp_app_names (.tmp 57) (.tmp 59) (by rfl) W6.heap.size (.slice pj2 (n0.length) cj2) (n0.length) (cellsB n0) (by rfl) J2.out.own (.slice q1 n1.length e1) (n1.length) (n1) (by rfl) (src_names (S6b.out.below hHeld) HO1.out) (rfl) (by omega) J2.out.lB ?_
                  intro v3 Y3 hap
                  rw [← cellsB_app] at hap
                  have J3 : Hid (Jn 9 1 W6.heap.size W6 Y3 (v3) (n0.length + n1.length) (cellsB (n0 ++ n1))) := J2.out.app hap
                  clear hap
                  obtain ⟨pj3, cj3, hvj⟩ := J3.out.slice
                  subst hvj
                  refine hK.out _ _ (J3.out.be) (fun hHeld => ?_)
                  clear hK K
                  try simp only [Act.put, List.setIfInBounds_toArray, List.set_cons_zero, List.set_cons_succ, List.getElem_toArray, List.getElem_cons_zero, List.getElem_cons_succ]
                  refine wpAnyH_take (i := 9) (v := ?_) rfl (by kernel_rfl) (by kernel_rfl) (by kernel_rfl) (fun _ _ _ h => h) (Or.inl ⟨by rfl, ?_⟩) hHeld ?_
                  rotate_left
                  · (intro w hSw; (try dsimp only at hSw); go_simp; try with_reducible rfl)
                  try simp only [Act.put, List.setIfInBounds_toArray, List.set_cons_zero, List.set_cons_succ, List.getElem_toArray, List.getElem_cons_zero, List.getElem_cons_succ]
                  refine wpAnyH_ready (rs := [10]) (by kernel_rfl) (by simp) ?_
                  refine (AllReadyH.cons rfl (fun K hK => ?_) AllReadyH.nil)
                  go_simp
                  have J4 : Hid (Jn 9 1 W6.heap.size W6 (Y3.alloc (Obj.cells #[.int .i64 0, .int .i64 0, .slice none 0 0, .slice none 0 0] 38)) (.slice pj3 (n0.length + n1.length) cj3) (n0.length + n1.length) (cellsB (n0 ++ n1))) := J3.out.over (below_new Y3 _)
                  have F10_4 : Hid (Fr W6.heap.size (Y3.alloc (Obj.cells #[.int .i64 0, .int .i64 0, .slice none 0 0, .slice none 0 0] 38)) (.slice pj3 (n0.length + n1.length) cj3) Y3.heap.size 38 [.int .i64 0, .int .i64 0, .slice none 0 0, .slice none 0 0]) := Fr.new J3.out _
                  generalize (Y3.alloc (Obj.cells #[.int .i64 0, .int .i64 0, .slice none 0 0, .slice none 0 0] 38)) = Y4 at *
                  generalize Y3.heap.size = G4 at *
                  refine hK.out _ _ (J4.out.be) (fun hHeld => ?_)
                  clear hK K
                  try simp only [Act.put, List.setIfInBounds_toArray, List.set_cons_zero, List.set_cons_succ, List.getElem_toArray, List.getElem_cons_zero, List.getElem_cons_succ]
                  refine wpAnyH_ready (rs := [11]) (by kernel_rfl) (by simp) ?_
                  refine (AllReadyH.cons rfl (fun K hK => ?_) AllReadyH.nil)
                  refine step_of_wp (by rfl) ?_
                  refine wp_store_row 38 (.tmp 11) (.tmp 61) (by rfl) G4 #[.int .i64 k, .int .i64 a, .slice pj3 (n0.length + n1.length) cj3, .slice none 0 0] (by rfl) (by rfl) 38 _ F10_4.out.blk Try.sizeRl rfl (by simp [Value.oneCell']) ?_
                  have JZ : Hid (Jn 9 1 W6.heap.size W6 (Y4.setRow G4 #[.int .i64 k, .int .i64 a, .slice pj3 (n0.length + n1.length) cj3, .slice none 0 0]) (.slice pj3 (n0.length + n1.length) cj3) (n0.length + n1.length) (cellsB (n0 ++ n1))) := J4.out.setRow F10_4.out _
                  have KZ : Hid (Blk (Y4.setRow G4 #[.int .i64 k, .int .i64 a, .slice pj3 (n0.length + n1.length) cj3, .slice none 0 0]) G4 38 [.int .i64 k, .int .i64 a, .slice pj3 (n0.length + n1.length) cj3, .slice none 0 0]) := F10_4.out.blk.row _
                  generalize Y4.setRow G4 #[.int .i64 k, .int .i64 a, .slice pj3 (n0.length + n1.length) cj3, .slice none 0 0] = Z at *
                  refine hK.out _ _ (JZ.out.be) (fun hHeld => ?_)
                  clear hK K
                  try simp only [Act.put, List.setIfInBounds_toArray, List.set_cons_zero, List.set_cons_succ, List.getElem_toArray, List.getElem_cons_zero, List.getElem_cons_succ]
                  refine wpAnyH_done (by kernel_rfl) ?_ _
                  go_wp2_with fail
                  go_meet
                  exact ⟨G4, _, _, rfl, KZ.out, JZ.out.names' List.length_append.symm, JZ.out.be, F10_4.out.ge⟩
                ·
                  go_simp
                  have J5 : Hid (Jn 9 1 W6.heap.size W6 (Y2.alloc (Obj.cells #[.int .i64 0, .int .i64 0, .slice none 0 0, .slice none 0 0] 38)) (.slice pj2 (n0.length) cj2) (n0.length) (cellsB n0)) := J2.out.over (below_new Y2 _)
                  have F10_5 : Hid (Fr W6.heap.size (Y2.alloc (Obj.cells #[.int .i64 0, .int .i64 0, .slice none 0 0, .slice none 0 0] 38)) (.slice pj2 (n0.length) cj2) Y2.heap.size 38 [.int .i64 0, .int .i64 0, .slice none 0 0, .slice none 0 0]) := Fr.new J2.out _
                  generalize (Y2.alloc (Obj.cells #[.int .i64 0, .int .i64 0, .slice none 0 0, .slice none 0 0] 38)) = Y5 at *
                  generalize Y2.heap.size = G5 at *
                  refine hK.out _ _ (J5.out.be) (fun hHeld => ?_)
                  clear hK K
                  try simp only [Act.put, List.setIfInBounds_toArray, List.set_cons_zero, List.set_cons_succ, List.getElem_toArray, List.getElem_cons_zero, List.getElem_cons_succ]
                  refine wpAnyH_ready (rs := [8]) (by kernel_rfl) (by simp) ?_
                  refine (AllReadyH.cons rfl (fun K hK => ?_) AllReadyH.nil)
                  refine step_of_wp (by rfl) ?_
                  refine wp_app_names (.tmp 57) (.tmp 59) (by rfl) W6.heap.size (.slice pj2 (n0.length) cj2) (n0.length) (cellsB n0) (by rfl) J5.out.own (.slice q1 n1.length e1) (n1.length) (n1) (by rfl) (src_names (S6b.out.below hHeld) HO1.out) (rfl) (by omega) J5.out.lB ?_
                  intro v6 Y6 hap
                  rw [← cellsB_app] at hap
                  have J6 : Hid (Jn 9 1 W6.heap.size W6 Y6 (v6) (n0.length + n1.length) (cellsB (n0 ++ n1))) := J5.out.app hap
                  have F10_6 : Hid (Fr W6.heap.size Y6 (v6) G5 38 [.int .i64 0, .int .i64 0, .slice none 0 0, .slice none 0 0]) := F10_5.out.app hap
                  clear hap
                  obtain ⟨pj6, cj6, hvj⟩ := J6.out.slice
                  subst hvj
                  refine hK.out _ _ (J6.out.be) (fun hHeld => ?_)
                  clear hK K
                  try simp only [Act.put, List.setIfInBounds_toArray, List.set_cons_zero, List.set_cons_succ, List.getElem_toArray, List.getElem_cons_zero, List.getElem_cons_succ]
                  refine wpAnyH_take (i := 9) (v := ?_) rfl (by kernel_rfl) (by kernel_rfl) (by kernel_rfl) (fun _ _ _ h => h) (Or.inl ⟨by rfl, ?_⟩) hHeld ?_
                  rotate_left
                  · (intro w hSw; (try dsimp only at hSw); go_simp; try with_reducible rfl)
                  try simp only [Act.put, List.setIfInBounds_toArray, List.set_cons_zero, List.set_cons_succ, List.getElem_toArray, List.getElem_cons_zero, List.getElem_cons_succ]
                  refine wpAnyH_ready (rs := [11]) (by kernel_rfl) (by simp) ?_
                  refine (AllReadyH.cons rfl (fun K hK => ?_) AllReadyH.nil)
                  refine step_of_wp (by rfl) ?_
                  refine wp_store_row 38 (.tmp 11) (.tmp 61) (by rfl) G5 #[.int .i64 k, .int .i64 a, .slice pj6 (n0.length + n1.length) cj6, .slice none 0 0] (by rfl) (by rfl) 38 _ F10_6.out.blk Try.sizeRl rfl (by simp [Value.oneCell']) ?_
                  have JZ : Hid (Jn 9 1 W6.heap.size W6 (Y6.setRow G5 #[.int .i64 k, .int .i64 a, .slice pj6 (n0.length + n1.length) cj6, .slice none 0 0]) (.slice pj6 (n0.length + n1.length) cj6) (n0.length + n1.length) (cellsB (n0 ++ n1))) := J6.out.setRow F10_6.out _
                  have KZ : Hid (Blk (Y6.setRow G5 #[.int .i64 k, .int .i64 a, .slice pj6 (n0.length + n1.length) cj6, .slice none 0 0]) G5 38 [.int .i64 k, .int .i64 a, .slice pj6 (n0.length + n1.length) cj6, .slice none 0 0]) := F10_6.out.blk.row _
                  generalize Y6.setRow G5 #[.int .i64 k, .int .i64 a, .slice pj6 (n0.length + n1.length) cj6, .slice none 0 0] = Z at *
                  refine hK.out _ _ (JZ.out.be) (fun hHeld => ?_)
                  clear hK K
                  try simp only [Act.put, List.setIfInBounds_toArray, List.set_cons_zero, List.set_cons_succ, List.getElem_toArray, List.getElem_cons_zero, List.getElem_cons_succ]
                  refine wpAnyH_done (by kernel_rfl) ?_ _
                  go_wp2_with fail
                  go_meet
                  exact ⟨G5, _, _, rfl, KZ.out, JZ.out.names' List.length_append.symm, JZ.out.be, F10_6.out.ge⟩
              ·
                go_simp
                have J7 : Hid (Jn 9 1 W6.heap.size W6 (Y1.alloc (Obj.cells #[.int .i64 0, .int .i64 0, .slice none 0 0, .slice none 0 0] 38)) (.slice (some ⟨G1, 0, none⟩) 0 0) (0) ([])) := J1.out.over (below_new Y1 _)
                have F10_7 : Hid (Fr W6.heap.size (Y1.alloc (Obj.cells #[.int .i64 0, .int .i64 0, .slice none 0 0, .slice none 0 0] 38)) (.slice (some ⟨G1, 0, none⟩) 0 0) Y1.heap.size 38 [.int .i64 0, .int .i64 0, .slice none 0 0, .slice none 0 0]) := Fr.new J1.out _
                generalize (Y1.alloc (Obj.cells #[.int .i64 0, .int .i64 0, .slice none 0 0, .slice none 0 0] 38)) = Y7 at *
                generalize Y1.heap.size = G7 at *
                refine hK.out _ _ (J7.out.be) (fun hHeld => ?_)
                clear hK K
                try simp only [Act.put, List.setIfInBounds_toArray, List.set_cons_zero, List.set_cons_succ, List.getElem_toArray, List.getElem_cons_zero, List.getElem_cons_succ]
                refine wpAnyH_ready (rs := [5]) (by kernel_rfl) (by simp) ?_
                refine (AllReadyH.cons rfl (fun K hK => ?_) AllReadyH.nil)
                refine step_of_wp (by rfl) ?_
                refine wp_app_names (.tmp 54) (.tmp 56) (by rfl) W6.heap.size (.slice (some ⟨G1, 0, none⟩) 0 0) (0) ([]) (by rfl) J7.out.own (.slice q0 n0.length e0) (n0.length) (n0) (by rfl) (src_names (S6a.out.below hHeld) HO0.out) (rfl) (by omega) J7.out.lB ?_
                intro v8 Y8 hap
                rw [Nat.zero_add, List.nil_append] at hap
                have J8 : Hid (Jn 9 1 W6.heap.size W6 Y8 (v8) (n0.length) (cellsB n0)) := J7.out.app hap
                have F10_8 : Hid (Fr W6.heap.size Y8 (v8) G7 38 [.int .i64 0, .int .i64 0, .slice none 0 0, .slice none 0 0]) := F10_7.out.app hap
                clear hap
                obtain ⟨pj8, cj8, hvj⟩ := J8.out.slice
                subst hvj
                refine hK.out _ _ (J8.out.be) (fun hHeld => ?_)
                clear hK K
                try simp only [Act.put, List.setIfInBounds_toArray, List.set_cons_zero, List.set_cons_succ, List.getElem_toArray, List.getElem_cons_zero, List.getElem_cons_succ]
                refine wpAnyH_ready (rs := [8]) (by kernel_rfl) (by simp) ?_
                refine (AllReadyH.cons rfl (fun K hK => ?_) AllReadyH.nil)
                refine step_of_wp (by rfl) ?_
                refine wp_app_names (.tmp 57) (.tmp 59) (by rfl) W6.heap.size (.slice pj8 (n0.length) cj8) (n0.length) (cellsB n0) (by rfl) J8.out.own (.slice q1 n1.length e1) (n1.length) (n1) (by rfl) (src_names (S6b.out.below hHeld) HO1.out) (rfl) (by omega) J8.out.lB ?_
                intro v9 Y9 hap
                rw [← cellsB_app] at hap
                have J9 : Hid (Jn 9 1 W6.heap.size W6 Y9 (v9) (n0.length + n1.length) (cellsB (n0 ++ n1))) := J8.out.app hap
                have F10_9 : Hid (Fr W6.heap.size Y9 (v9) G7 38 [.int .i64 0, .int .i64 0, .slice none 0 0, .slice none 0 0]) := F10_8.out.app hap
                clear hap
                obtain ⟨pj9, cj9, hvj⟩ := J9.out.slice
                subst hvj
                refine hK.out _ _ (J9.out.be) (fun hHeld => ?_)
                clear hK K
                try simp only [Act.put, List.setIfInBounds_toArray, List.set_cons_zero, List.set_cons_succ, List.getElem_toArray, List.getElem_cons_zero, List.getElem_cons_succ]
                refine wpAnyH_take (i := 9) (v := ?_) rfl (by kernel_rfl) (by kernel_rfl) (by kernel_rfl) (fun _ _ _ h => h) (Or.inl ⟨by rfl, ?_⟩) hHeld ?_
                rotate_left
                · (intro w hSw; (try dsimp only at hSw); go_simp; try with_reducible rfl)
                try simp only [Act.put, List.setIfInBounds_toArray, List.set_cons_zero, List.set_cons_succ, List.getElem_toArray, List.getElem_cons_zero, List.getElem_cons_succ]
                refine wpAnyH_ready (rs := [11]) (by kernel_rfl) (by simp) ?_
                refine (AllReadyH.cons rfl (fun K hK => ?_) AllReadyH.nil)
                refine step_of_wp (by rfl) ?_
                refine wp_store_row 38 (.tmp 11) (.tmp 61) (by rfl) G7 #[.int .i64 k, .int .i64 a, .slice pj9 (n0.length + n1.length) cj9, .slice none 0 0] (by rfl) (by rfl) 38 _ F10_9.out.blk Try.sizeRl rfl (by simp [Value.oneCell']) ?_
                have JZ : Hid (Jn 9 1 W6.heap.size W6 (Y9.setRow G7 #[.int .i64 k, .int .i64 a, .slice pj9 (n0.length + n1.length) cj9, .slice none 0 0]) (.slice pj9 (n0.length + n1.length) cj9) (n0.length + n1.length) (cellsB (n0 ++ n1))) := J9.out.setRow F10_9.out _
                have KZ : Hid (Blk (Y9.setRow G7 #[.int .i64 k, .int .i64 a, .slice pj9 (n0.length + n1.length) cj9, .slice none 0 0]) G7 38 [.int .i64 k, .int .i64 a, .slice pj9 (n0.length + n1.length) cj9, .slice none 0 0]) := F10_9.out.blk.row _
                generalize Y9.setRow G7 #[.int .i64 k, .int .i64 a, .slice pj9 (n0.length + n1.length) cj9, .slice none 0 0] = Z at *
                refine hK.out _ _ (JZ.out.be) (fun hHeld => ?_)
                clear hK K
                try simp only [Act.put, List.setIfInBounds_toArray, List.set_cons_zero, List.set_cons_succ, List.getElem_toArray, List.getElem_cons_zero, List.getElem_cons_succ]
                refine wpAnyH_done (by kernel_rfl) ?_ _
                go_wp2_with fail
                go_meet
                exact ⟨G7, _, _, rfl, KZ.out, JZ.out.names' List.length_append.symm, JZ.out.be, F10_9.out.ge⟩
            ·
              go_simp
              have J10 : Hid (Jn 9 1 W6.heap.size W6 (Y0.alloc (Obj.cells #[.int .i64 0, .int .i64 0, .slice none 0 0, .slice none 0 0] 38)) (.slice none 0 0) (0) ([])) := J0.out.over (below_new Y0 _)
              have F10_10 : Hid (Fr W6.heap.size (Y0.alloc (Obj.cells #[.int .i64 0, .int .i64 0, .slice none 0 0, .slice none 0 0] 38)) (.slice none 0 0) Y0.heap.size 38 [.int .i64 0, .int .i64 0, .slice none 0 0, .slice none 0 0]) := Fr.new J0.out _
              generalize (Y0.alloc (Obj.cells #[.int .i64 0, .int .i64 0, .slice none 0 0, .slice none 0 0] 38)) = Y10 at *
              generalize Y0.heap.size = G10 at *
              refine hK.out _ _ (J10.out.be) (fun hHeld => ?_)
              clear hK K
              try simp only [Act.put, List.setIfInBounds_toArray, List.set_cons_zero, List.set_cons_succ, List.getElem_toArray, List.getElem_cons_zero, List.getElem_cons_succ]
              refine wpAnyH_ready (rs := [2]) (by kernel_rfl) (by simp) ?_
              refine (AllReadyH.cons rfl (fun K hK => ?_) AllReadyH.nil)
              go_simp
              have J11 : Hid (Jn 9 1 W6.heap.size W6 (Y10.alloc (Obj.cells #[] 9)) (.slice (some ⟨Y10.heap.size, 0, none⟩) 0 0) (0) ([])) := Jn.empty J10.out.be J10.out.lB
              have F10_11 : Hid (Fr W6.heap.size (Y10.alloc (Obj.cells #[] 9)) (.slice (some ⟨Y10.heap.size, 0, none⟩) 0 0) G10 38 [.int .i64 0, .int .i64 0, .slice none 0 0, .slice none 0 0]) := F10_10.out.row _ 0 0
              generalize (Y10.alloc (Obj.cells #[] 9)) = Y11 at *
              generalize Y10.heap.size = G11 at *
              refine hK.out _ _ (J11.out.be) (fun hHeld => ?_)
              clear hK K
              try simp only [Act.put, List.setIfInBounds_toArray, List.set_cons_zero, List.set_cons_succ, List.getElem_toArray, List.getElem_cons_zero, List.getElem_cons_succ]
              refine wpAnyH_ready (rs := [5]) (by kernel_rfl) (by simp) ?_
              refine (AllReadyH.cons rfl (fun K hK => ?_) AllReadyH.nil)
              refine step_of_wp (by rfl) ?_
              refine wp_app_names (.tmp 54) (.tmp 56) (by rfl) W6.heap.size (.slice (some ⟨G11, 0, none⟩) 0 0) (0) ([]) (by rfl) J11.out.own (.slice q0 n0.length e0) (n0.length) (n0) (by rfl) (src_names (S6a.out.below hHeld) HO0.out) (rfl) (by omega) J11.out.lB ?_
              intro v12 Y12 hap
              rw [Nat.zero_add, List.nil_append] at hap
              have J12 : Hid (Jn 9 1 W6.heap.size W6 Y12 (v12) (n0.length) (cellsB n0)) := J11.out.app hap
              have F10_12 : Hid (Fr W6.heap.size Y12 (v12) G10 38 [.int .i64 0, .int .i64 0, .slice none 0 0, .slice none 0 0]) := F10_11.out.app hap
              clear hap
              obtain ⟨pj12, cj12, hvj⟩ := J12.out.slice
              subst hvj
              refine hK.out _ _ (J12.out.be) (fun hHeld => ?_)
              clear hK K
              try simp only [Act.put, List.setIfInBounds_toArray, List.set_cons_zero, List.set_cons_succ, List.getElem_toArray, List.getElem_cons_zero, List.getElem_cons_succ]
              refine wpAnyH_ready (rs := [8]) (by kernel_rfl) (by simp) ?_
              refine (AllReadyH.cons rfl (fun K hK => ?_) AllReadyH.nil)
              refine step_of_wp (by rfl) ?_
              refine wp_app_names (.tmp 57) (.tmp 59) (by rfl) W6.heap.size (.slice pj12 (n0.length) cj12) (n0.length) (cellsB n0) (by rfl) J12.out.own (.slice q1 n1.length e1) (n1.length) (n1) (by rfl) (src_names (S6b.out.below hHeld) HO1.out) (rfl) (by omega) J12.out.lB ?_
              intro v13 Y13 hap
              rw [← cellsB_app] at hap
              have J13 : Hid (Jn 9 1 W6.heap.size W6 Y13 (v13) (n0.length + n1.length) (cellsB (n0 ++ n1))) := J12.out.app hap
              have F10_13 : Hid (Fr W6.heap.size Y13 (v13) G10 38 [.int .i64 0, .int .i64 0, .slice none 0 0, .slice none 0 0]) := F10_12.out.app hap
              clear hap
              obtain ⟨pj13, cj13, hvj⟩ := J13.out.slice
              subst hvj
              refine hK.out _ _ (J13.out.be) (fun hHeld => ?_)
              clear hK K
              try simp only [Act.put, List.setIfInBounds_toArray, List.set_cons_zero, List.set_cons_succ, List.getElem_toArray, List.getElem_cons_zero, List.getElem_cons_succ]
              refine wpAnyH_take (i := 9) (v := ?_) rfl (by kernel_rfl) (by kernel_rfl) (by kernel_rfl) (fun _ _ _ h => h) (Or.inl ⟨by rfl, ?_⟩) hHeld ?_
              rotate_left
              · (intro w hSw; (try dsimp only at hSw); go_simp; try with_reducible rfl)
              try simp only [Act.put, List.setIfInBounds_toArray, List.set_cons_zero, List.set_cons_succ, List.getElem_toArray, List.getElem_cons_zero, List.getElem_cons_succ]
              refine wpAnyH_ready (rs := [11]) (by kernel_rfl) (by simp) ?_
              refine (AllReadyH.cons rfl (fun K hK => ?_) AllReadyH.nil)
              refine step_of_wp (by rfl) ?_
              refine wp_store_row 38 (.tmp 11) (.tmp 61) (by rfl) G10 #[.int .i64 k, .int .i64 a, .slice pj13 (n0.length + n1.length) cj13, .slice none 0 0] (by rfl) (by rfl) 38 _ F10_13.out.blk Try.sizeRl rfl (by simp [Value.oneCell']) ?_
              have JZ : Hid (Jn 9 1 W6.heap.size W6 (Y13.setRow G10 #[.int .i64 k, .int .i64 a, .slice pj13 (n0.length + n1.length) cj13, .slice none 0 0]) (.slice pj13 (n0.length + n1.length) cj13) (n0.length + n1.length) (cellsB (n0 ++ n1))) := J13.out.setRow F10_13.out _
              have KZ : Hid (Blk (Y13.setRow G10 #[.int .i64 k, .int .i64 a, .slice pj13 (n0.length + n1.length) cj13, .slice none 0 0]) G10 38 [.int .i64 k, .int .i64 a, .slice pj13 (n0.length + n1.length) cj13, .slice none 0 0]) := F10_13.out.blk.row _
              generalize Y13.setRow G10 #[.int .i64 k, .int .i64 a, .slice pj13 (n0.length + n1.length) cj13, .slice none 0 0] = Z at *
              refine hK.out _ _ (JZ.out.be) (fun hHeld => ?_)
              clear hK K
              try simp only [Act.put, List.setIfInBounds_toArray, List.set_cons_zero, List.set_cons_succ, List.getElem_toArray, List.getElem_cons_zero, List.getElem_cons_succ]
              refine wpAnyH_done (by kernel_rfl) ?_ _
              go_wp2_with fail
              go_meet
              exact ⟨G10, _, _, rfl, KZ.out, JZ.out.names' List.length_append.symm, JZ.out.be, F10_13.out.ge⟩
          case rest =>
            obtain ⟨NA, pj, cj, rfl, hNA, hSj, hbc, hge⟩ := hcut
            have SJ : Hid (StrR wc (.slice pj (n0.length + n1.length) cj) (n0 ++ n1)) := hSj
            have KJ : Hid (Blk wc NA 38 [.int .i64 k, .int .i64 a, .slice pj (n0.length + n1.length) cj, .slice none 0 0]) := hNA
            have BC : Hid (Below W6.heap.size W6 wc) := hbc
            have KA7 : Hid (Blk wc N6 38 [.int .i64 k, .int .i64 a, .slice q0 n0.length e0, .slice none 0 0]) := KA6.out.over hbc
            have KB7 : Hid (Blk wc (N6 + 1) 38 [.int .i64 k, .int .i64 a, .slice q1 n1.length e1, .slice none 0 0]) := KB6.out.over hbc
            have SC : Hid (RlR wc (.slice p1 l.length c1) l) := S0.out.below hbc
            have SCa : Hid (StrR wc (.slice q0 n0.length e0) n0) := S6a.out.below hbc
            have SCb : Hid (StrR wc (.slice q1 n1.length e1) n1) := S6b.out.below hbc
            have HKc : Hid (Blk wc w.heap.size 26 [.int .i64 k, .int .i64 a, .slice p1 l.length c1]) := HK6.out.over hbc
            have KDc : Hid (Blk wc (w.heap.size + 1 + 1) 33 A) := KD6.out.over hbc
            have BCw : Hid (Below w.heap.size w wc) := B6.out.trans (hbc.mono B6.out.size)
            have y0 := KA7.out.cell 0
            have y1 := KA7.out.cell 1
            have y2 := KA7.out.cell 2
            have y3 := KA7.out.cell 3
            have z0 := KB7.out.cell 0
            have z1 := KB7.out.cell 1
            have z2 := KB7.out.cell 2
            have z3 := KB7.out.cell 3
            dsimp only [List.getElem?_cons_zero, List.getElem?_cons_succ] at y0 y1 y2 y3 z0 z1 z2 z3
            have al : Below wc.heap.size wc (wc.alloc (Obj.cells #[.int .i64 k, .int .i64 a, .slice q0 n0.length e0, .slice none 0 0, .int .i64 k, .int .i64 a, .slice q1 n1.length e1, .slice none 0 0] 38)) := below_new wc _
            have x2 : (wc.alloc (Obj.cells #[.int .i64 k, .int .i64 a, .slice q0 n0.length e0, .slice none 0 0, .int .i64 k, .int .i64 a, .slice q1 n1.length e1, .slice none 0 0] 38)).cell? ⟨w.heap.size, 2, none⟩ = some (.slice p1 l.length c1) := (HKc.out.over al).cell 2
            have J8 : Hid (Jn 38 4 wc.heap.size wc (wc.alloc (Obj.cells #[.int .i64 k, .int .i64 a, .slice q0 n0.length e0, .slice none 0 0, .int .i64 k, .int .i64 a, .slice q1 n1.length e1, .slice none 0 0] 38)) (.slice (some ⟨wc.heap.size, 0, none⟩) 2 2) 2 (cellsX [⟨⟨k, a, n0, []⟩, .slice q0 n0.length e0, .slice none 0 0⟩, ⟨⟨k, a, n1, []⟩, .slice q1 n1.length e1, .slice none 0 0⟩])) := Jn.new (n := 2) (Below.refl _ _) (Nat.le_refl _) (cellsX [⟨⟨k, a, n0, []⟩, .slice q0 n0.length e0, .slice none 0 0⟩, ⟨⟨k, a, n1, []⟩, .slice q1 n1.length e1, .slice none 0 0⟩]) rfl (by decide)
            have SR8 : Hid (Src (wc.alloc (Obj.cells #[.int .i64 k, .int .i64 a, .slice q0 n0.length e0, .slice none 0 0, .int .i64 k, .int .i64 a, .slice q1 n1.length e1, .slice none 0 0] 38)) (.slice p1 l.length c1) l.length (cellsX l)) := src_rules (SC.out.below al) HOV.out
            clear hNA hSj hbc al hge S0 S6a S6b HK6 HN6 KD6 KA6 KB6 HRX HNX B6 BC
            have ONE : Hid (∀ u ∈ cellsX l, u.oneCell' = true) := one_rules SC.out
            go_wp2_with (first | (refine at_op (.call { callee := .builtin .append, args := #[.tmp 65, .tmp 67], argTypes := #[24, 24] }) rfl ?_; refine wpList_app_rules rfl (.tmp 65) (.tmp 67) rfl wc.heap.size (.slice (some ⟨wc.heap.size, 0, none⟩) 2 2) 2 (cellsX [⟨⟨k, a, n0, []⟩, .slice q0 n0.length e0, .slice none 0 0⟩, ⟨⟨k, a, n1, []⟩, .slice q1 n1.length e1, .slice none 0 0⟩]) rfl J8.out.own (.slice p1 l.length c1) l.length l rfl SR8.out rfl ONE.out (by omega) J8.out.lB ?_; intro v8 w8 hap; have J9 : Hid (Jn 38 4 wc.heap.size wc w8 v8 (2 + l.length) (cellsX [⟨⟨k, a, n0, []⟩, .slice q0 n0.length e0, .slice none 0 0⟩, ⟨⟨k, a, n1, []⟩, .slice q1 n1.length e1, .slice none 0 0⟩] ++ cellsX l)) := J8.out.app hap; clear hap; obtain ⟨p8, c8, hv8⟩ := J9.out.slice; subst hv8; obtain ⟨V9, HV9, J9V, KV9⟩ := two_nx J9.out (#[.int .i64 1, .int .i64 0, .slice p8 (2 + l.length) c8])) | (refine at_op (.load 38 (.tmp 11)) rfl ?_; refine switch_world HV9.out ?_; refine wpList_load_row rfl 38 (.tmp 11) rfl NA rfl 38 #[.int .i64 k, .int .i64 a, .slice pj (n0.length + n1.length) cj, .slice none 0 0] (0, 0) _ (KJ.out.over J9V.out.be) Try.underlying38 rfl Try.sizeRl ?_; have x9 : (V9.alloc (Obj.cells #[.int .i64 k, .int .i64 a, .slice pj (n0.length + n1.length) cj, .slice none 0 0] 38)).cell? ⟨w.heap.size, 2, none⟩ = some (.slice p1 l.length c1) := ((HKc.out.over J9V.out.be).alloc _).cell 2; have J10 : Hid (Jn 38 4 V9.heap.size V9 (V9.alloc (Obj.cells #[.int .i64 k, .int .i64 a, .slice pj (n0.length + n1.length) cj, .slice none 0 0] 38)) (.slice (some ⟨V9.heap.size, 0, none⟩) 1 1) 1 (cellsX [⟨⟨k, a, n0 ++ n1, []⟩, .slice pj (n0.length + n1.length) cj, .slice none 0 0⟩])) := Jn.new (n := 1) (Below.refl _ _) (Nat.le_refl _) (cellsX [⟨⟨k, a, n0 ++ n1, []⟩, .slice pj (n0.length + n1.length) cj, .slice none 0 0⟩]) rfl (by decide); have SR10 : Hid (Src (V9.alloc (Obj.cells #[.int .i64 k, .int .i64 a, .slice pj (n0.length + n1.length) cj, .slice none 0 0] 38)) (.slice p1 l.length c1) l.length (cellsX l)) := src_rules ((SC.out.below J9V.out.be).below (below_new V9 _)) HOV.out) | (refine at_op (.call { callee := .builtin .append, args := #[.tmp 72, .tmp 74], argTypes := #[24, 24] }) rfl ?_; refine wpList_app_rules rfl (.tmp 72) (.tmp 74) rfl V9.heap.size (.slice (some ⟨V9.heap.size, 0, none⟩) 1 1) 1 (cellsX [⟨⟨k, a, n0 ++ n1, []⟩, .slice pj (n0.length + n1.length) cj, .slice none 0 0⟩]) rfl J10.out.own (.slice p1 l.length c1) l.length l rfl SR10.out rfl ONE.out (by omega) J10.out.lB ?_; intro v10 w10 hap; have J11 : Hid (Jn 38 4 V9.heap.size V9 w10 v10 (1 + l.length) (cellsX [⟨⟨k, a, n0 ++ n1, []⟩, .slice pj (n0.length + n1.length) cj, .slice none 0 0⟩] ++ cellsX l)) := J10.out.app hap; clear hap x9; obtain ⟨p10, c10, hv10⟩ := J11.out.slice; subst hv10; obtain ⟨V11, HV11, J11V, KV11⟩ := two_nx J11.out (#[.int .i64 1, .int .i64 0, .slice p10 (1 + l.length) c10])) | (refine at_op (.load 26 (.tmp 12)) rfl ?_; refine switch_world HV11.out ?_; refine wpList_load_row rfl 26 (.tmp 12) rfl w8.heap.size rfl 26 #[.int .i64 1, .int .i64 0, .slice p8 (2 + l.length) c8] (0, 0) _ (KV9.out.over J11V.out.be) Try.underlying26 rfl Try.sizeRs ?_) | (refine at_op (.load 33 (.tmp 5)) rfl ?_; refine wpList_load_row rfl 33 (.tmp 5) rfl (w.heap.size + 1 + 1) rfl 33 A.toArray (0, 0) _ ((KDc.out.over J9V.out.be).over J11V.out.be) Try.underlying33 rfl hsz ?_))
            have BV : Hid (Below wc.heap.size wc V11) := J9V.out.be.trans (J11V.out.be.mono J9V.out.be.size)
            have RY : Hid (RlR V11 (.slice p8 (2 + l.length) c8) ([⟨⟨k, a, n0, []⟩, .slice q0 n0.length e0, .slice none 0 0⟩, ⟨⟨k, a, n1, []⟩, .slice q1 n1.length e1, .slice none 0 0⟩] ++ l)) := by
              have h9 := J9V.out
              rw [← cellsX_app] at h9
              have hl := SC.out.below h9.be
              refine (h9.rules' (by simp; omega) fun x hx => ?_).below J11V.out.be
              rcases List.mem_append.1 hx with hx | hx
              · rcases List.mem_cons.1 hx with rfl | hx
                · exact ⟨SCa.out.below h9.be, nilC _⟩
                · obtain rfl := List.mem_singleton.1 hx
                  exact ⟨SCb.out.below h9.be, nilC _⟩
              · obtain ⟨_, _, _, _, _, _, hr⟩ := hl
                exact hr x hx
            have RZ : Hid (RlR V11 (.slice p10 (1 + l.length) c10) ([⟨⟨k, a, n0 ++ n1, []⟩, .slice pj (n0.length + n1.length) cj, .slice none 0 0⟩] ++ l)) := by
              have h9 := J11V.out
              rw [← cellsX_app] at h9
              have hl := SC.out.below BV.out
              refine h9.rules' (by simp; omega) fun x hx => ?_
              rcases List.mem_append.1 hx with hx | hx
              · obtain rfl := List.mem_singleton.1 hx
                exact ⟨SJ.out.below BV.out, nilC _⟩
              · obtain ⟨_, _, _, _, _, _, hr⟩ := hl
                exact hr x hx
            have HSL : Hid (∀ x ∈ l, x.r.names.length ≤ 9000000 ∧ x.r.conds.length ≤ 9000000) := lt_small HLt.out
            have KDV : Hid (Blk V11 (w.heap.size + 1 + 1) 33 A) := KDc.out.over BV.out
            have BVw : Hid (Below w.heap.size w V11) := BCw.out.trans (BV.out.mono BCw.out.size)
            refine (HDY.out V11 _ ([⟨⟨k, a, n0, []⟩, .slice q0 n0.length e0, .slice none 0 0⟩, ⟨⟨k, a, n1, []⟩, .slice q1 n1.length e1, .slice none 0 0⟩] ++ l) RY.out rfl (by simp; omega) (fun x hx => ?_)).mono ?_
            · rcases List.mem_append.1 hx with hx | hx
              · rcases List.mem_cons.1 hx with rfl | hx
                · exact ⟨by show n0.length ≤ 9000000; omega, by show ([] : List Xc).length ≤ 9000000; decide⟩
                · obtain rfl := List.mem_singleton.1 hx
                  exact ⟨by show n1.length ≤ 9000000; omega, by show ([] : List Xc).length ≤ 9000000; decide⟩
              · exact HSL.out x hx
            rintro e w12 ⟨rfl, b12⟩
            have BV12 : Hid (Below V11.heap.size V11 (w12.alloc (Obj.cells #[.int .i64 ya, .int .i64 yb] 23))) := b12.alloc b12.size _
            have KAY : Hid (Blk (w12.alloc (Obj.cells #[.int .i64 ya, .int .i64 yb] 23)) w12.heap.size 23 [.int .i64 ya, .int .i64 yb]) := blk_new w12 _ _
            clear b12 HDY J9 J10 J11 SR8 SR10
            go_wp2_with (first | (refine at_op (.load 26 (.tmp 13)) rfl ?_; refine wpList_load_row rfl 26 (.tmp 13) rfl w10.heap.size rfl 26 #[.int .i64 1, .int .i64 0, .slice p10 (1 + l.length) c10] (0, 0) _ (KV11.out.over BV12.out) Try.underlying26 rfl Try.sizeRs ?_) | (refine at_op (.load 33 (.tmp 5)) rfl ?_; refine wpList_load_row rfl 33 (.tmp 5) rfl (w.heap.size + 1 + 1) rfl 33 A.toArray (0, 0) _ (KDV.out.over BV12.out) Try.underlying33 rfl hsz ?_))
            have RZ2 : Hid (RlR (w12.alloc (Obj.cells #[.int .i64 ya, .int .i64 yb] 23)) (.slice p10 (1 + l.length) c10) ([⟨⟨k, a, n0 ++ n1, []⟩, .slice pj (n0.length + n1.length) cj, .slice none 0 0⟩] ++ l)) := RZ.out.below BV12.out
            have BW : Hid (Below w.heap.size w (w12.alloc (Obj.cells #[.int .i64 ya, .int .i64 yb] 23))) := BVw.out.trans (BV12.out.mono BVw.out.size)
            clear BV12
            generalize w12.alloc (Obj.cells #[.int .i64 ya, .int .i64 yb] 23) = V12 at *
            refine (HDZ.out V12 _ ([⟨⟨k, a, n0 ++ n1, []⟩, .slice pj (n0.length + n1.length) cj, .slice none 0 0⟩] ++ l) RZ2.out rfl (by simp; omega) (fun x hx => ?_)).mono ?_
            · rcases List.mem_append.1 hx with hx | hx
              · obtain rfl := List.mem_singleton.1 hx
                exact ⟨by show (n0 ++ n1).length ≤ 9000000; rw [List.length_append]; omega, by show ([] : List Xc).length ≤ 9000000; decide⟩
              · exact HSL.out x hx
            rintro e w13 ⟨rfl, b13⟩
            have K13 := (KAY.out.over b13).alloc (Obj.cells #[.int .i64 za, .int .i64 zb] 23)
            have s0 : (w13.alloc (Obj.cells #[.int .i64 za, .int .i64 zb] 23)).cell? ⟨w12.heap.size, 0, none⟩ = some (.int .i64 ya) := K13.cell 0
            have s1 : (w13.alloc (Obj.cells #[.int .i64 za, .int .i64 zb] 23)).cell? ⟨w12.heap.size, 1, none⟩ = some (.int .i64 yb) := K13.cell 1
            have b13' : Below V12.heap.size V12 (w13.alloc (Obj.cells #[.int .i64 za, .int .i64 zb] 23)) := b13.alloc b13.size _
            have BW2 : Hid (Below w.heap.size w (w13.alloc (Obj.cells #[.int .i64 za, .int .i64 zb] 23))) := BW.out.trans (b13'.mono BW.out.size)
            clear b13 b13' K13
            rcases Bool.eq_false_or_eq_true (ye == 0) with hy | hy
            · obtain rfl : ye = 0 := by simpa using hy
              rcases Bool.eq_false_or_eq_true (ze == 0) with hz | hz
              · obtain rfl : ze = 0 := by simpa using hz
                have he := HTT.out rfl rfl
                obtain ⟨rfl, rfl⟩ : ya = za ∧ yb = zb := by injection he with h1 h2; exact ⟨h1, h2⟩
                have hq : ∀ W : World, (Op.equalIn 10000 23 (.agg #[.int .i64 ya, .int .i64 yb]) (.agg #[.int .i64 ya, .int .i64 yb])).run Try.prog W = .ok true W := fun W => by rw [equalIn_act, sameA_self]
                clear hy hz he
                go_wp2_with fail
                go_ret
                exact ⟨rfl, BW2.out⟩
              · have hn : ¬ ze = 0 := by simpa using hz
                have hn' : (ze != 0) = true := by simpa using hn
                clear hy
                go_wp2_with fail
                go_ret
                exact ⟨rfl, BW2.out⟩
            · have hn : ¬ ye = 0 := by simpa using hy
              have hn' : (ye != 0) = true := by simpa using hn
              go_wp2_with fail
              go_ret
              exact ⟨rfl, BW2.out⟩

end Go.Proofs.Ytimclfdecdappab
