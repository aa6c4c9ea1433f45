/-
  Rules behind the one that decides do not matter, nor ones ahead that do not speak of the call: the law's walk, its first part.
-/
import Derived.Test.YtimclfdecdappaaMeanChecksWalk
import Derived.Test.YtimclfdecdappaaRDecide
import Derived.Test.YtimclfdecdappaaApp
import Derived.Deep.DeepCutAuto
namespace Go.Proofs.Ytimclfdecdappaa
open Go.RowKit

/-- rules behind and ahead, plainly. -/
theorem verdN_behind {d : Da} {k a : Int} {x : Xl} (h : meetN d x = false) : ∀ l : List Xl, verdN d k a (l ++ [x]) = verdN d k a l := by
  intro l
  induction l with
  | nil => show verdN d k a [x] = (k, a); unfold verdN; rw [h, if_neg (by decide)]; rfl
  | cons y l ih => show (if meetN d y = true then (y.k, y.a) else verdN d k a (l ++ [x])) = if meetN d y = true then (y.k, y.a) else verdN d k a l; rw [ih]
theorem verdN_ahead {d : Da} {k a : Int} {x : Xl} {l : List Xl} (h : meetN d x = false) : verdN d k a (x :: l) = verdN d k a l := by
  show (if meetN d x = true then (x.k, x.a) else verdN d k a l) = _
  rw [h, if_neg (by decide)]
theorem verdN_meets {d : Da} {k a : Int} {x : Xl} {l : List Xl} (h : meetN d x = true) : verdN d k a (x :: l) = (x.k, x.a) := by
  show (if meetN d x = true then (x.k, x.a) else verdN d k a l) = _
  rw [h, if_pos rfl]

theorem decA_ok {d : Da} {k a : Int} {l : List Xl} (h : decE k a l = 0) : decA d k a l = if d.a = 3221225534 then verdN d k a l else (1, 0) := by
  unfold decE at h
  unfold decA
  rw [if_pos h, verd_eq]

theorem first_meets {d : Da} {k a : Int} {x : Xl} {l : List Xl} (h : decE k a (x :: l) = 0) (hm : (d.a == 3221225534 && meetN d x) = true) : decA d k a (x :: l) = (x.k, x.a) := by
  rw [Bool.and_eq_true] at hm
  rw [decA_ok h, if_pos (by simpa using hm.1), verdN_meets hm.2]
theorem first_not {d : Da} {k a : Int} {x : Xl} {l : List Xl} (h : decE k a l = 0) (h1 : decE k a (x :: l) = 0) (h2 : decE k a (l ++ [x]) = 0) (hm : (d.a == 3221225534 && meetN d x) = false) : decA d k a (x :: l) = decA d k a l ∧ decA d k a (l ++ [x]) = decA d k a l := by
  rw [decA_ok h, decA_ok h1, decA_ok h2]
  by_cases ha : d.a = 3221225534
  · have hm' : meetN d x = false := by simpa [ha] using hm
    rw [if_pos ha, if_pos ha, if_pos ha]
    exact ⟨verdN_ahead hm', verdN_behind hm' l⟩
  · rw [if_neg ha, if_neg ha, if_neg ha]
    exact ⟨rfl, rfl⟩

theorem Try.sizeRs : (Try.prog.info? 33).map (·.size) = some 3 := by kernel_rfl

theorem src_one {B : Nat} {X : World} {v : Value} {b : Nat} {x : Xr} (h : Fr B X v b 52 x.cl) : Src X (.slice (some ⟨b, 0, none⟩) 1 1) 1 (cellsX [x]) := by
  refine .inl ⟨⟨b, 0, none⟩, 1, rfl, fun j u hu => ?_⟩
  have e : cellsX [x] = x.cl := by simp [cellsX]
  rw [e] at hu
  rw [add_none, Nat.zero_add]
  exact (h.blk.cell j).trans hu

/-- what is there behind the joined rules. -/
def CutR (B : Nat) (W0 : World) (k a : Int) (m : Nat) (l : List Xr) (v : Value) (wc : World) : Prop :=
  ∃ NA p c, v = .pointer (some ⟨NA, 0, none⟩) ∧ Blk wc NA 33 [.int .i64 k, .int .i64 a, .slice p m c] ∧ RlR wc (.slice p m c) l ∧ Below B W0 wc

theorem three_f (w : World) (C D E : Array Value) : Blk (((w.alloc (Obj.cells C 33)).alloc (Obj.cells D 52)).alloc (Obj.cells E 41)) w.heap.size 33 C.toList ∧ Blk (((w.alloc (Obj.cells C 33)).alloc (Obj.cells D 52)).alloc (Obj.cells E 41)) (w.heap.size + 1) 52 D.toList ∧ Blk (((w.alloc (Obj.cells C 33)).alloc (Obj.cells D 52)).alloc (Obj.cells E 41)) (w.heap.size + 1 + 1) 41 E.toList ∧ Below w.heap.size w (((w.alloc (Obj.cells C 33)).alloc (Obj.cells D 52)).alloc (Obj.cells E 41)) := by
  refine ⟨((blk_new w C 33).alloc _).alloc _, (blk_new' w _ D 52).alloc _, ?_, (room_below w _ _).alloc (room_below w _ _).size _⟩
  have := blk_new' (w.alloc (Obj.cells C 33)) (Obj.cells D 52) E 41
  rw [size_alloc'] at this
  exact this

theorem one_in {W : World} {x : Xr} (hn : StrR W x.vn x.r.names) (hc : CdR W x.vc x.r.conds) : RlR ((W.alloc (Obj.cells x.cl.toArray 52))) (.slice (some ⟨W.heap.size, 0, none⟩) 1 1) [x] := by
  have hb := below_new W (Obj.cells x.cl.toArray 52)
  have kb := blk_new W x.cl.toArray 52
  refine ⟨_, 1, rfl, Nat.le_refl _, by decide, fun _ => ⟨_, 0, rfl, fun i y hi => ?_⟩, fun y hy => ?_⟩
  · cases i with
    | zero =>
      have e : x = y := by simpa using hi
      subst e
      exact ⟨kb.cell 0, kb.cell 1, kb.cell 2, kb.cell 3⟩
    | succ i => simp at hi
  · obtain rfl := List.mem_singleton.1 hy
    exact ⟨hn.below hb, hc.below hb⟩

set_option maxRecDepth 20000 in
set_option maxHeartbeats 16000000 in
set_option linter.unusedSimpArgs false in
theorem first_walk (w : World) (k a : Int) (v : Value) (l : List Xr) (m : Xr) (d : Da) (h : RlR w v l) (hv : okS v) (hmn : StrR w m.vn m.r.names) (hmc : CdR w m.vc m.r.conds) (hd : d.ok) :
    Calls Try.prog 7 #[.agg #[.int .i64 k, .int .i64 a, v], .agg #[.int .i64 m.r.k, .int .i64 m.r.a, m.vn, m.vc], .agg d.cells.toArray] w fun e w' => e = .returned (.bool true) ∧ Below w.heap.size w w' := by
  obtain ⟨⟨xk, xa, ns, cs⟩, mvn, mvc⟩ := m
  dsimp only at hmn hmc ⊢
  obtain ⟨p1, c1, rfl⟩ : ∃ p c, v = .slice p l.length c := by obtain ⟨p, c, e, _⟩ := h; exact ⟨p, c, e⟩
  obtain ⟨p3, c3, rfl⟩ : ∃ p c, mvn = .slice p ns.length c := by obtain ⟨p, c, e, _⟩ := hmn; exact ⟨p, c, e⟩
  obtain ⟨p4, c4, rfl⟩ : ∃ p c, mvc = .slice p cs.length c := by obtain ⟨p, c, e, _⟩ := hmc; exact ⟨p, c, e⟩
  have HA : Hid (∀ W, Calls Try.prog 9 #[] W fun e w' => e = .returned (.bool true) ∧ Below W.heap.size W w') := awake_any
  have HL : Hid (∀ W, RlR W (.slice p1 l.length c1) l → Calls Try.prog 14 #[.agg #[.int .i64 k, .int .i64 a, .slice p1 l.length c1]] W fun e w' => LightR W l e w') := fun W h => light_any W k a _ l h
  have HR : Hid (∀ W v, RlR W v [⟨⟨xk, xa, ns, cs⟩, .slice p3 ns.length c3, .slice p4 cs.length c4⟩] → ns.length ≤ 9000000 → cs.length ≤ 9000000 → Calls Try.prog 24 #[.agg #[.int .i64 k, .int .i64 a, v]] W fun e w' => e = .returned (.bool (rulesB k a [⟨xk, xa, ns, cs⟩])) ∧ Below W.heap.size W w') := fun W v h h1 h2 => right_any W k a v [⟨⟨xk, xa, ns, cs⟩, .slice p3 ns.length c3, .slice p4 cs.length c4⟩] h (by simp) (fun x hx => by obtain rfl := List.mem_singleton.1 hx; exact ⟨h1, h2⟩)
  have HD : Hid (∀ W v (m : List Xr) (L : List Xl), RlR W v m → m.map Xr.r = L → m.length ≤ 1000 → (∀ x ∈ m, x.r.names.length ≤ 9000000 ∧ x.r.conds.length ≤ 9000000) → Calls Try.prog 17 #[.agg #[.int .i64 k, .int .i64 a, v], .agg d.cells.toArray] W fun e w' => e = .returned (decV (decA d k a L) (decE k a L)) ∧ Below W.heap.size W w') := fun W v m L h e h1 h2 => by rw [← e]; exact decide_any W k a v m d h h1 h2 hd
  have HHo : Hid (∀ (x : Xc) W, Calls Try.prog 25 #[.agg #[.int .i64 x.arg, .int .i64 x.op, .int .u64 x.mask, .int .u64 x.val], .agg d.cells.toArray] W fun e w' => e = .returned (.bool (hB d x)) ∧ Below W.heap.size W w') := fun x W => holdsX x d W hd
  have HDX : Hid (∀ W v (m : List Xr), RlR W v m → m.map Xr.r = (l.map Xr.r) → m.length ≤ 1000 → (∀ x ∈ m, x.r.names.length ≤ 9000000 ∧ x.r.conds.length ≤ 9000000) → Calls Try.prog 17 #[.agg #[.int .i64 k, .int .i64 a, v], .agg d.cells.toArray] W fun e w' => e = .returned (decV (decA d k a (l.map Xr.r)) (decE k a (l.map Xr.r))) ∧ Below W.heap.size W w') := fun W v m => HD.out W v m _
  have HDY : Hid (∀ W v (m : List Xr), RlR W v m → m.map Xr.r = (l.map Xr.r ++ [⟨xk, xa, ns, cs⟩]) → m.length ≤ 1000 → (∀ x ∈ m, x.r.names.length ≤ 9000000 ∧ x.r.conds.length ≤ 9000000) → Calls Try.prog 17 #[.agg #[.int .i64 k, .int .i64 a, v], .agg d.cells.toArray] W fun e w' => e = .returned (decV (decA d k a (l.map Xr.r ++ [⟨xk, xa, ns, cs⟩])) (decE k a (l.map Xr.r ++ [⟨xk, xa, ns, cs⟩]))) ∧ Below W.heap.size W w') := fun W v m => HD.out W v m _
  have HDZ : Hid (∀ W v (m : List Xr), RlR W v m → m.map Xr.r = (⟨xk, xa, ns, cs⟩ :: l.map Xr.r) → m.length ≤ 1000 → (∀ x ∈ m, x.r.names.length ≤ 9000000 ∧ x.r.conds.length ≤ 9000000) → Calls Try.prog 17 #[.agg #[.int .i64 k, .int .i64 a, v], .agg d.cells.toArray] W fun e w' => e = .returned (decV (decA d k a (⟨xk, xa, ns, cs⟩ :: l.map Xr.r)) (decE k a (⟨xk, xa, ns, cs⟩ :: l.map Xr.r))) ∧ Below W.heap.size W w') := fun W v m => HD.out W v m _
  have HM1 : Hid (decE k a (⟨xk, xa, ns, cs⟩ :: l.map Xr.r) = 0 → (d.a == 3221225534 && (namedN d.n ns && cs.all (hB d))) = true → decA d k a (⟨xk, xa, ns, cs⟩ :: l.map Xr.r) = (xk, xa)) := fun h1 h2 => first_meets h1 h2
  have HM2 : Hid (decE k a (l.map Xr.r) = 0 → decE k a (⟨xk, xa, ns, cs⟩ :: l.map Xr.r) = 0 → decE k a (l.map Xr.r ++ [⟨xk, xa, ns, cs⟩]) = 0 → (d.a == 3221225534 && (namedN d.n ns && cs.all (hB d))) = false → decA d k a (⟨xk, xa, ns, cs⟩ :: l.map Xr.r) = decA d k a (l.map Xr.r) ∧ decA d k a (l.map Xr.r ++ [⟨xk, xa, ns, cs⟩]) = decA d k a (l.map Xr.r)) := fun h1 h2 h3 h4 => first_not h1 h2 h3 h4
  clear HD
  generalize decA d k a (⟨xk, xa, ns, cs⟩ :: l.map Xr.r) = ZA at *
  generalize decE k a (⟨xk, xa, ns, cs⟩ :: l.map Xr.r) = ze at *
  generalize decA d k a (l.map Xr.r ++ [⟨xk, xa, ns, cs⟩]) = YA at *
  generalize decE k a (l.map Xr.r ++ [⟨xk, xa, ns, cs⟩]) = ye at *
  generalize decA d k a (l.map Xr.r) = VA at *
  generalize decE k a (l.map Xr.r) = ve at *
  generalize rulesB k a [⟨xk, xa, ns, cs⟩] = may at *
  obtain ⟨za, zb⟩ := ZA
  obtain ⟨ya, yb⟩ := YA
  obtain ⟨va, vb⟩ := VA
  unfold decV actV at HDX HDY HDZ
  dsimp only at HDX HDY HDZ
  have hA1 : d.cells[1]? = some (.int .u32 d.a) := rfl
  obtain ⟨d1v, d2v, d3v, d4v, d5v, d6v, d7v, d8v, hAA⟩ := nine_of d hd
  rw [hAA] at HDX HDY HDZ HHo hA1 ⊢
  obtain rfl : d1v = .int .u32 d.a := by simpa using hA1
  generalize hd1 : Value.int .u32 d.a = d1v at *
  have HD1 : Hid (Value.int .u32 d.a = d1v) := hd1
  generalize hd0 : Value.int .u32 d.n = d0v at *
  have HD0 : Hid (Value.int .u32 d.n = d0v) := hd0
  clear hd0 hd1 hAA hA1 hd
  have h3 := three_f w #[.int .i64 k, .int .i64 a, .slice p1 l.length c1] #[.int .i64 xk, .int .i64 xa, .slice p3 ns.length c3, .slice p4 cs.length c4] #[d0v, d1v, d2v, d3v, d4v, d5v, d6v, d7v, d8v]
  have BE : Hid (Below w.heap.size w (((w.alloc (Obj.cells #[.int .i64 k, .int .i64 a, .slice p1 l.length c1] 33)).alloc (Obj.cells #[.int .i64 xk, .int .i64 xa, .slice p3 ns.length c3, .slice p4 cs.length c4] 52)).alloc (Obj.cells #[d0v, d1v, d2v, d3v, d4v, d5v, d6v, d7v, d8v] 41))) := h3.2.2.2
  have HK : Hid (Blk (((w.alloc (Obj.cells #[.int .i64 k, .int .i64 a, .slice p1 l.length c1] 33)).alloc (Obj.cells #[.int .i64 xk, .int .i64 xa, .slice p3 ns.length c3, .slice p4 cs.length c4] 52)).alloc (Obj.cells #[d0v, d1v, d2v, d3v, d4v, d5v, d6v, d7v, d8v] 41)) w.heap.size 33 [.int .i64 k, .int .i64 a, .slice p1 l.length c1]) := h3.1
  have HMo : Hid (Blk (((w.alloc (Obj.cells #[.int .i64 k, .int .i64 a, .slice p1 l.length c1] 33)).alloc (Obj.cells #[.int .i64 xk, .int .i64 xa, .slice p3 ns.length c3, .slice p4 cs.length c4] 52)).alloc (Obj.cells #[d0v, d1v, d2v, d3v, d4v, d5v, d6v, d7v, d8v] 41)) (w.heap.size + 1) 52 [.int .i64 xk, .int .i64 xa, .slice p3 ns.length c3, .slice p4 cs.length c4]) := h3.2.1
  have KD : Hid (Blk (((w.alloc (Obj.cells #[.int .i64 k, .int .i64 a, .slice p1 l.length c1] 33)).alloc (Obj.cells #[.int .i64 xk, .int .i64 xa, .slice p3 ns.length c3, .slice p4 cs.length c4] 52)).alloc (Obj.cells #[d0v, d1v, d2v, d3v, d4v, d5v, d6v, d7v, d8v] 41)) (w.heap.size + 1 + 1) 41 [d0v, d1v, d2v, d3v, d4v, d5v, d6v, d7v, d8v]) := h3.2.2.1
  have SN : Hid (RlR (((w.alloc (Obj.cells #[.int .i64 k, .int .i64 a, .slice p1 l.length c1] 33)).alloc (Obj.cells #[.int .i64 xk, .int .i64 xa, .slice p3 ns.length c3, .slice p4 cs.length c4] 52)).alloc (Obj.cells #[d0v, d1v, d2v, d3v, d4v, d5v, d6v, d7v, d8v] 41)) (.slice p1 l.length c1) l) := h.below h3.2.2.2
  have SMn : Hid (StrR (((w.alloc (Obj.cells #[.int .i64 k, .int .i64 a, .slice p1 l.length c1] 33)).alloc (Obj.cells #[.int .i64 xk, .int .i64 xa, .slice p3 ns.length c3, .slice p4 cs.length c4] 52)).alloc (Obj.cells #[d0v, d1v, d2v, d3v, d4v, d5v, d6v, d7v, d8v] 41)) (.slice p3 ns.length c3) ns) := hmn.below h3.2.2.2
  have SMc : Hid (CdR (((w.alloc (Obj.cells #[.int .i64 k, .int .i64 a, .slice p1 l.length c1] 33)).alloc (Obj.cells #[.int .i64 xk, .int .i64 xa, .slice p3 ns.length c3, .slice p4 cs.length c4] 52)).alloc (Obj.cells #[d0v, d1v, d2v, d3v, d4v, d5v, d6v, d7v, d8v] 41)) (.slice p4 cs.length c4) cs) := hmc.below h3.2.2.2
  have HOV : Hid (okS (.slice p1 l.length c1)) := hv
  clear h hmn hmc hv h3
  go_enter Try.func7, Try.ntmps7
  go_wp2_with fail
  generalize (((w.alloc (Obj.cells #[.int .i64 k, .int .i64 a, .slice p1 l.length c1] 33)).alloc (Obj.cells #[.int .i64 xk, .int .i64 xa, .slice p3 ns.length c3, .slice p4 cs.length c4] 52)).alloc (Obj.cells #[d0v, d1v, d2v, d3v, d4v, d5v, d6v, d7v, d8v] 41)) = X at *
  refine (HA.out _).mono ?_
  rintro e w1 ⟨rfl, b1⟩
  have t0 : w1.cell? ⟨w.heap.size, 0, none⟩ = some (.int .i64 k) := (HK.out.over b1).cell 0
  have t1 : w1.cell? ⟨w.heap.size, 1, none⟩ = some (.int .i64 a) := (HK.out.over b1).cell 1
  have t2 : w1.cell? ⟨w.heap.size, 2, none⟩ = some (.slice p1 l.length c1) := (HK.out.over b1).cell 2
  have S1 : Hid (RlR w1 (.slice p1 l.length c1) l) := SN.out.below b1
  have BX1 : Hid (Below X.heap.size X w1) := b1
  clear b1
  go_wp2_with fail
  clear t0 t1 t2
  refine (HL.out _ S1.out).mono ?_
  rintro e w2 ⟨bb, rfl, b2, hbb⟩
  have HBB : Hid (bb = true → Lt l) := hbb
  have BX2 : Hid (Below X.heap.size X w2) := BX1.out.trans (b2.mono BX1.out.size)
  have B2 : Hid (Below w.heap.size w w2) := BE.out.trans (BX2.out.mono BE.out.size)
  clear b2 hbb BX1 S1 HA HL
  have t0 : w2.cell? ⟨w.heap.size, 0, none⟩ = some (.int .i64 k) := (HK.out.over BX2.out).cell 0
  have t1 : w2.cell? ⟨w.heap.size, 1, none⟩ = some (.int .i64 a) := (HK.out.over BX2.out).cell 1
  have t2 : w2.cell? ⟨w.heap.size, 2, none⟩ = some (.slice p1 l.length c1) := (HK.out.over BX2.out).cell 2
  have m0 : w2.cell? ⟨w.heap.size + 1, 0, none⟩ = some (.int .i64 xk) := (HMo.out.over BX2.out).cell 0
  have m1 : w2.cell? ⟨w.heap.size + 1, 1, none⟩ = some (.int .i64 xa) := (HMo.out.over BX2.out).cell 1
  have m2 : w2.cell? ⟨w.heap.size + 1, 2, none⟩ = some (.slice p3 ns.length c3) := (HMo.out.over BX2.out).cell 2
  have m3 : w2.cell? ⟨w.heap.size + 1, 3, none⟩ = some (.slice p4 cs.length c4) := (HMo.out.over BX2.out).cell 3
  cases bb with
  | false =>
    go_wp2_with fail
    go_ret
    exact ⟨rfl, B2.out⟩
  | true =>
    have HLt : Hid (Lt l) := HBB.out rfl
    by_cases g1 : 62 < l.length
    · have d1 : decide (62 < (l.length : Int)) = true := decide_eq_true (by omega)
      go_wp2_with fail
      go_ret
      exact ⟨rfl, B2.out⟩
    · have d1 : decide (62 < (l.length : Int)) = false := decide_eq_false (by omega)
      by_cases g2 : 40 < ns.length
      · have d2 : decide (40 < (ns.length : Int)) = true := decide_eq_true (by omega)
        go_wp2_with fail
        go_ret
        exact ⟨rfl, B2.out⟩
      · have d2 : decide (40 < (ns.length : Int)) = false := decide_eq_false (by omega)
        by_cases g3 : 40 < cs.length
        · have d3 : decide (40 < (cs.length : Int)) = true := decide_eq_true (by omega)
          go_wp2_with fail
          go_ret
          exact ⟨rfl, B2.out⟩
        · have d3 : decide (40 < (cs.length : Int)) = false := decide_eq_false (by omega)
          have hl62 : l.length ≤ 62 := by omega
          have hn40 : ns.length ≤ 40 := by omega
          have hc40 : cs.length ≤ 40 := by omega
          clear g1 g2 g3 HBB
          have R3 : Hid (RlR (w2.alloc (Obj.cells #[.int .i64 xk, .int .i64 xa, .slice p3 ns.length c3, .slice p4 cs.length c4] 52)) (.slice (some ⟨w2.heap.size, 0, none⟩) 1 1) [⟨⟨xk, xa, ns, cs⟩, .slice p3 ns.length c3, .slice p4 cs.length c4⟩]) := one_in (x := ⟨⟨xk, xa, ns, cs⟩, .slice p3 ns.length c3, .slice p4 cs.length c4⟩) (SMn.out.below BX2.out) (SMc.out.below BX2.out)
          have B3 : Hid (Below X.heap.size X (w2.alloc (Obj.cells #[.int .i64 xk, .int .i64 xa, .slice p3 ns.length c3, .slice p4 cs.length c4] 52))) := BX2.out.alloc BX2.out.size _
          go_wp2_with fail
          clear t0 t1 t2 m0 m1 m2 m3 d1 d2 d3
          generalize (w2.alloc (Obj.cells #[.int .i64 xk, .int .i64 xa, .slice p3 ns.length c3, .slice p4 cs.length c4] 52)) = W3 at *
          refine (HR.out W3 _ R3.out (by omega) (by omega)).mono ?_
          rintro e w4 ⟨rfl, b4⟩
          have BX4 : Hid (Below X.heap.size X w4) := B3.out.trans (b4.mono B3.out.size)
          clear b4 B3 R3 HR
          have t0 : w4.cell? ⟨w.heap.size, 0, none⟩ = some (.int .i64 k) := (HK.out.over BX4.out).cell 0
          have t1 : w4.cell? ⟨w.heap.size, 1, none⟩ = some (.int .i64 a) := (HK.out.over BX4.out).cell 1
          have t2 : w4.cell? ⟨w.heap.size, 2, none⟩ = some (.slice p1 l.length c1) := (HK.out.over BX4.out).cell 2
          have S4 : Hid (RlR w4 (.slice p1 l.length c1) l) := SN.out.below BX4.out
          have HSL : Hid (∀ x ∈ l, x.r.names.length ≤ 9000000 ∧ x.r.conds.length ≤ 9000000) := sml_small (lt_sml HLt.out)
          go_wp2_with (refine at_op (.load 41 (.tmp 5)) rfl ?_; refine wpList_load_row rfl 41 (.tmp 5) rfl (w.heap.size + 1 + 1) rfl 41 #[d0v, d1v, d2v, d3v, d4v, d5v, d6v, d7v, d8v] (0, 0) _ (KD.out.over BX4.out) Try.underlying41 rfl Try.sizeD ?_)
          clear t0 t1 t2
          refine (HDX.out w4 _ l S4.out rfl (by omega) HSL.out).mono ?_
          rintro e w5 ⟨rfl, b5⟩
          have b5' : Below w4.heap.size w4 (w5.alloc (Obj.cells #[.int .i64 va, .int .i64 vb] 30)) := b5.alloc b5.size _
          have BX5 : Hid (Below X.heap.size X (w5.alloc (Obj.cells #[.int .i64 va, .int .i64 vb] 30))) := BX4.out.trans (b5'.mono BX4.out.size)
          have KV5 : Hid (Blk (w5.alloc (Obj.cells #[.int .i64 va, .int .i64 vb] 30)) w5.heap.size 30 [.int .i64 va, .int .i64 vb]) := blk_new w5 _ _
          clear b5 b5' S4 BX4 BX2 B2
          go_wp2_with fail
          generalize (w5.alloc (Obj.cells #[.int .i64 va, .int .i64 vb] 30)) = W5 at *
          generalize w5.heap.size = N5 at *
          have S5 : Hid (RlR W5 (.slice p1 l.length c1) l) := SN.out.below BX5.out
          have HK5 : Hid (Blk W5 w.heap.size 33 [.int .i64 k, .int .i64 a, .slice p1 l.length c1]) := HK.out.over BX5.out
          have HM5 : Hid (Blk W5 (w.heap.size + 1) 52 [.int .i64 xk, .int .i64 xa, .slice p3 ns.length c3, .slice p4 cs.length c4]) := HMo.out.over BX5.out
          have SMn5 : Hid (StrR W5 (.slice p3 ns.length c3) ns) := SMn.out.below BX5.out
          have SMc5 : Hid (CdR W5 (.slice p4 cs.length c4) cs) := SMc.out.below BX5.out
          have HRX : Hid (∀ W, Below W5.heap.size W5 W → W.cell? ⟨w.heap.size, 0, none⟩ = some (.int .i64 k) ∧ W.cell? ⟨w.heap.size, 1, none⟩ = some (.int .i64 a) ∧ W.cell? ⟨w.heap.size, 2, none⟩ = some (.slice p1 l.length c1)) := fun W h => ⟨(HK5.out.over h).cell 0, (HK5.out.over h).cell 1, (HK5.out.over h).cell 2⟩
          have HMX : Hid (∀ W, Below W5.heap.size W5 W → W.cell? ⟨w.heap.size + 1, 0, none⟩ = some (.int .i64 xk) ∧ W.cell? ⟨w.heap.size + 1, 1, none⟩ = some (.int .i64 xa) ∧ W.cell? ⟨w.heap.size + 1, 2, none⟩ = some (.slice p3 ns.length c3) ∧ W.cell? ⟨w.heap.size + 1, 3, none⟩ = some (.slice p4 cs.length c4)) := fun W h => ⟨(HM5.out.over h).cell 0, (HM5.out.over h).cell 1, (HM5.out.over h).cell 2, (HM5.out.over h).cell 3⟩
          have ONE : Hid (∀ u ∈ cellsX l, u.oneCell' = true) := one_rules S5.out
          have ONEM : Hid (∀ u ∈ cellsX [⟨⟨xk, xa, ns, cs⟩, .slice p3 ns.length c3, .slice p4 cs.length c4⟩], u.oneCell' = true) := by
            intro u hu
            simp only [cellsX, Xr.cl, List.flatMap_cons, List.flatMap_nil, List.append_nil, List.mem_cons, List.not_mem_nil, or_false] at hu
            rcases hu with rfl | rfl | rfl | rfl <;> rfl
          have HAL : Hid (∀ W, Below W5.heap.size W5 W → ∀ x, x ∈ l ∨ x = ⟨⟨xk, xa, ns, cs⟩, .slice p3 ns.length c3, .slice p4 cs.length c4⟩ → StrR W x.vn x.r.names ∧ CdR W x.vc x.r.conds) := fun W hW x hx => by
            rcases hx with hx | rfl
            · obtain ⟨_, _, _, _, _, _, hr⟩ := S5.out.below hW
              exact hr x hx
            · exact ⟨SMn5.out.below hW, SMc5.out.below hW⟩
          have HY : Hid (∀ W, Below W5.heap.size W5 W → ∀ x ∈ l ++ [⟨⟨xk, xa, ns, cs⟩, .slice p3 ns.length c3, .slice p4 cs.length c4⟩], StrR W x.vn x.r.names ∧ CdR W x.vc x.r.conds) := fun W hW x hx => HAL.out W hW x (by rcases List.mem_append.1 hx with h | h; exact .inl h; exact .inr (List.mem_singleton.1 h))
          clear HK HMo SN SMn SMc HLt
          go_cut [12] (fun v wc => CutR W5.heap.size W5 k a (l.length + 1) (l ++ [⟨⟨xk, xa, ns, cs⟩, .slice p3 ns.length c3, .slice p4 cs.length c4⟩]) v wc)
          case first =>
            refine wp_region_held_drew (S := (fun W => Below W5.heap.size W5 W)) (by kernel_rfl) ((Below.refl _ _).drew) (fun hHeld => ?_)
            simp only [List.size_toArray, List.length_cons, List.length_nil, Nat.reduceAdd]
            refine wpAnyH_take (i := 0) (v := ?_) rfl (by kernel_rfl) (by kernel_rfl) (by kernel_rfl) (fun _ _ _ h => h) (Or.inl ⟨by rfl, ?_⟩) hHeld ?_
            rotate_left
            · (intro w hSw; (try dsimp only at hSw); go_simp; try with_reducible rfl)
            try simp only [Act.put, List.setIfInBounds_toArray, List.set_cons_zero, List.set_cons_succ, List.getElem_toArray, List.getElem_cons_zero, List.getElem_cons_succ]
            refine wpAnyH_take (i := 1) (v := ?_) rfl (by kernel_rfl) (by kernel_rfl) (by kernel_rfl) (fun _ _ _ h => h) (Or.inl ⟨by rfl, ?_⟩) hHeld ?_
            rotate_left
            · (intro w hSw; (try dsimp only at hSw); obtain ⟨s0, s1, s2⟩ := HRX.out _ hSw; go_simp; try with_reducible rfl)
            try simp only [Act.put, List.setIfInBounds_toArray, List.set_cons_zero, List.set_cons_succ, List.getElem_toArray, List.getElem_cons_zero, List.getElem_cons_succ]
            refine wpAnyH_take (i := 3) (v := ?_) rfl (by kernel_rfl) (by kernel_rfl) (by kernel_rfl) (fun _ _ _ h => h) (Or.inl ⟨by rfl, ?_⟩) hHeld ?_
            rotate_left
            · (intro w hSw; (try dsimp only at hSw); go_simp; try with_reducible rfl)
            try simp only [Act.put, List.setIfInBounds_toArray, List.set_cons_zero, List.set_cons_succ, List.getElem_toArray, List.getElem_cons_zero, List.getElem_cons_succ]
            refine wpAnyH_take (i := 4) (v := ?_) rfl (by kernel_rfl) (by kernel_rfl) (by kernel_rfl) (fun _ _ _ h => h) (Or.inl ⟨by rfl, ?_⟩) hHeld ?_
            rotate_left
            · (intro w hSw; (try dsimp only at hSw); have s2 := (HRX.out _ hSw).2.2; go_simp; try with_reducible rfl)
            try simp only [Act.put, List.setIfInBounds_toArray, List.set_cons_zero, List.set_cons_succ, List.getElem_toArray, List.getElem_cons_zero, List.getElem_cons_succ]
            refine wpAnyH_take (i := 6) (v := ?_) rfl (by kernel_rfl) (by kernel_rfl) (by kernel_rfl) (fun _ _ _ h => h) (Or.inl ⟨by rfl, ?_⟩) hHeld ?_
            rotate_left
            · (intro w hSw; (try dsimp only at hSw); obtain ⟨s0, s1, s2, s3⟩ := HMX.out _ hSw; go_simp; try with_reducible rfl)
            try simp only [Act.put, List.setIfInBounds_toArray, List.set_cons_zero, List.set_cons_succ, List.getElem_toArray, List.getElem_cons_zero, List.getElem_cons_succ]
            have J0 : Hid (Jn 52 4 W5.heap.size W5 W5.drew (.slice none 0 0) 0 []) := Jn.nil hHeld hHeld.size
            generalize W5.drew = Y0 at *
            refine wpAnyH_ready (rs := [2, 7, 10]) (by kernel_rfl) (by simp) ?_
            refine (AllReadyH.cons rfl (fun K hK => ?_) (AllReadyH.cons rfl (fun K hK => ?_) (AllReadyH.cons rfl (fun K hK => ?_) AllReadyH.nil)))
            ·
              go_simp
              have J1 : Hid (Jn 52 4 W5.heap.size W5 (Y0.alloc (Obj.cells #[] 52)) (.slice (some ⟨Y0.heap.size, 0, none⟩) 0 0) (0) ([])) := Jn.empty J0.out.be J0.out.lB
              generalize (Y0.alloc (Obj.cells #[] 52)) = Y1 at *
              generalize Y0.heap.size = G1 at *
              refine hK.out _ _ (J1.out.be) (fun hHeld => ?_)
              clear hK K
              try simp only [Act.put, List.setIfInBounds_toArray, List.set_cons_zero, List.set_cons_succ, List.getElem_toArray, List.getElem_cons_zero, List.getElem_cons_succ]
              refine wpAnyH_ready (rs := [5, 7, 10]) (by kernel_rfl) (by simp) ?_
              refine (AllReadyH.cons rfl (fun K hK => ?_) (AllReadyH.cons rfl (fun K hK => ?_) (AllReadyH.cons rfl (fun K hK => ?_) AllReadyH.nil)))
              ·
                refine step_of_wp (by rfl) ?_
                refine wp_app_rules (.tmp 63) (.tmp 65) (by rfl) W5.heap.size (.slice (some ⟨G1, 0, none⟩) 0 0) (0) ([]) (by rfl) J1.out.own (.slice p1 l.length c1) (l.length) (l) (by rfl) (src_rules (S5.out.below hHeld) HOV.out) (rfl) (ONE.out) (by omega) J1.out.lB ?_
                intro v2 Y2 hap
                rw [Nat.zero_add, List.nil_append] at hap
                have J2 : Hid (Jn 52 4 W5.heap.size W5 Y2 (v2) (l.length) (cellsX l)) := J1.out.app hap
                clear hap
                obtain ⟨pj2, cj2, hvj⟩ := J2.out.slice
                subst hvj
                refine hK.out _ _ (J2.out.be) (fun hHeld => ?_)
                clear hK K
                try simp only [Act.put, List.setIfInBounds_toArray, List.set_cons_zero, List.set_cons_succ, List.getElem_toArray, List.getElem_cons_zero, List.getElem_cons_succ]
                refine wpAnyH_ready (rs := [7, 10]) (by kernel_rfl) (by simp) ?_
                refine (AllReadyH.cons rfl (fun K hK => ?_) (AllReadyH.cons rfl (fun K hK => ?_) AllReadyH.nil))
                ·
                  go_simp
                  have J3 : Hid (Jn 52 4 W5.heap.size W5 (Y2.alloc (Obj.cells #[.int .i64 xk, .int .i64 xa, .slice p3 ns.length c3, .slice p4 cs.length c4] 52)) (.slice pj2 (l.length) cj2) (l.length) (cellsX l)) := J2.out.over (below_new Y2 _)
                  have F7_3 : Hid (Fr W5.heap.size (Y2.alloc (Obj.cells #[.int .i64 xk, .int .i64 xa, .slice p3 ns.length c3, .slice p4 cs.length c4] 52)) (.slice pj2 (l.length) cj2) Y2.heap.size 52 [.int .i64 xk, .int .i64 xa, .slice p3 ns.length c3, .slice p4 cs.length c4]) := Fr.new J2.out _
                  generalize (Y2.alloc (Obj.cells #[.int .i64 xk, .int .i64 xa, .slice p3 ns.length c3, .slice p4 cs.length c4] 52)) = Y3 at *
                  generalize Y2.heap.size = G3 at *
                  refine hK.out _ _ (J3.out.be) (fun hHeld => ?_)
                  clear hK K
                  try simp only [Act.put, List.setIfInBounds_toArray, List.set_cons_zero, List.set_cons_succ, List.getElem_toArray, List.getElem_cons_zero, List.getElem_cons_succ]
                  refine wpAnyH_ready (rs := [8, 10]) (by kernel_rfl) (by simp) ?_
                  refine (AllReadyH.cons rfl (fun K hK => ?_) (AllReadyH.cons rfl (fun K hK => ?_) AllReadyH.nil))
                  ·
                    refine step_of_wp (by rfl) ?_
                    refine wp_app_rules (.tmp 66) (.tmp 68) (by rfl) W5.heap.size (.slice pj2 (l.length) cj2) (l.length) (cellsX l) (by rfl) J3.out.own (.slice (some ⟨G3, 0, none⟩) 1 1) (1) ([⟨⟨xk, xa, ns, cs⟩, .slice p3 ns.length c3, .slice p4 cs.length c4⟩]) (by rfl) (src_one (x := ⟨⟨xk, xa, ns, cs⟩, .slice p3 ns.length c3, .slice p4 cs.length c4⟩) F7_3.out) (rfl) (ONEM.out) (by omega) J3.out.lB ?_
                    intro v4 Y4 hap
                    rw [← cellsX_app] at hap
                    have J4 : Hid (Jn 52 4 W5.heap.size W5 Y4 (v4) (l.length + 1) (cellsX (l ++ [⟨⟨xk, xa, ns, cs⟩, .slice p3 ns.length c3, .slice p4 cs.length c4⟩]))) := J3.out.app hap
                    have F7_4 : Hid (Fr W5.heap.size Y4 (v4) G3 52 [.int .i64 xk, .int .i64 xa, .slice p3 ns.length c3, .slice p4 cs.length c4]) := F7_3.out.app hap
                    clear hap
                    obtain ⟨pj4, cj4, hvj⟩ := J4.out.slice
                    subst hvj
                    refine hK.out _ _ (J4.out.be) (fun hHeld => ?_)
                    clear hK K
                    try simp only [Act.put, List.setIfInBounds_toArray, List.set_cons_zero, List.set_cons_succ, List.getElem_toArray, List.getElem_cons_zero, List.getElem_cons_succ]
                    refine wpAnyH_take (i := 9) (v := ?_) rfl (by kernel_rfl) (by kernel_rfl) (by kernel_rfl) (fun _ _ _ h => h) (Or.inl ⟨by rfl, ?_⟩) hHeld ?_
                    rotate_left
                    · (intro w hSw; (try dsimp only at hSw); go_simp; try with_reducible rfl)
                    try simp only [Act.put, List.setIfInBounds_toArray, List.set_cons_zero, List.set_cons_succ, List.getElem_toArray, List.getElem_cons_zero, List.getElem_cons_succ]
                    refine wpAnyH_ready (rs := [10]) (by kernel_rfl) (by simp) ?_
                    refine (AllReadyH.cons rfl (fun K hK => ?_) AllReadyH.nil)
                    go_simp
                    have J5 : Hid (Jn 52 4 W5.heap.size W5 (Y4.alloc (Obj.cells #[.int .i64 0, .int .i64 0, .slice none 0 0] 33)) (.slice pj4 (l.length + 1) cj4) (l.length + 1) (cellsX (l ++ [⟨⟨xk, xa, ns, cs⟩, .slice p3 ns.length c3, .slice p4 cs.length c4⟩]))) := J4.out.over (below_new Y4 _)
                    have F7_5 : Hid (Fr W5.heap.size (Y4.alloc (Obj.cells #[.int .i64 0, .int .i64 0, .slice none 0 0] 33)) (.slice pj4 (l.length + 1) cj4) G3 52 [.int .i64 xk, .int .i64 xa, .slice p3 ns.length c3, .slice p4 cs.length c4]) := F7_4.out.over (below_new Y4 _)
                    have F10_5 : Hid (Fr W5.heap.size (Y4.alloc (Obj.cells #[.int .i64 0, .int .i64 0, .slice none 0 0] 33)) (.slice pj4 (l.length + 1) cj4) Y4.heap.size 33 [.int .i64 0, .int .i64 0, .slice none 0 0]) := Fr.new J4.out _
                    generalize (Y4.alloc (Obj.cells #[.int .i64 0, .int .i64 0, .slice none 0 0] 33)) = Y5 at *
                    generalize Y4.heap.size = G5 at *
                    refine hK.out _ _ (J5.out.be) (fun hHeld => ?_)
                    clear hK K
                    try simp only [Act.put, List.setIfInBounds_toArray, List.set_cons_zero, List.set_cons_succ, List.getElem_toArray, List.getElem_cons_zero, List.getElem_cons_succ]
                    refine wpAnyH_ready (rs := [11]) (by kernel_rfl) (by simp) ?_
                    refine (AllReadyH.cons rfl (fun K hK => ?_) AllReadyH.nil)
                    refine step_of_wp (by rfl) ?_
                    refine wp_store_row 33 (.tmp 12) (.tmp 70) (by rfl) G5 #[.int .i64 k, .int .i64 a, .slice pj4 (l.length + 1) cj4] (by rfl) (by rfl) 33 _ F10_5.out.blk Try.sizeRs rfl (by simp [Value.oneCell']) ?_
                    have JZ : Hid (Jn 52 4 W5.heap.size W5 (Y5.setRow G5 #[.int .i64 k, .int .i64 a, .slice pj4 (l.length + 1) cj4]) (.slice pj4 (l.length + 1) cj4) (l.length + 1) (cellsX (l ++ [⟨⟨xk, xa, ns, cs⟩, .slice p3 ns.length c3, .slice p4 cs.length c4⟩]))) := J5.out.setRow F10_5.out _
                    have KZ : Hid (Blk (Y5.setRow G5 #[.int .i64 k, .int .i64 a, .slice pj4 (l.length + 1) cj4]) G5 33 [.int .i64 k, .int .i64 a, .slice pj4 (l.length + 1) cj4]) := F10_5.out.blk.row _
                    generalize Y5.setRow G5 #[.int .i64 k, .int .i64 a, .slice pj4 (l.length + 1) cj4] = Z at *
                    refine hK.out _ _ (JZ.out.be) (fun hHeld => ?_)
                    clear hK K
                    try simp only [Act.put, List.setIfInBounds_toArray, List.set_cons_zero, List.set_cons_succ, List.getElem_toArray, List.getElem_cons_zero, List.getElem_cons_succ]
                    refine wpAnyH_done (by kernel_rfl) ?_ _
                    go_wp2_with fail
                    go_meet
                    exact ⟨G5, _, _, rfl, KZ.out, JZ.out.rules' (by simp <;> omega) (fun x hx => HY.out _ JZ.out.be x hx), JZ.out.be⟩
                  ·
                    go_simp
                    have J6 : Hid (Jn 52 4 W5.heap.size W5 (Y3.alloc (Obj.cells #[.int .i64 0, .int .i64 0, .slice none 0 0] 33)) (.slice pj2 (l.length) cj2) (l.length) (cellsX l)) := J3.out.over (below_new Y3 _)
                    have F7_6 : Hid (Fr W5.heap.size (Y3.alloc (Obj.cells #[.int .i64 0, .int .i64 0, .slice none 0 0] 33)) (.slice pj2 (l.length) cj2) G3 52 [.int .i64 xk, .int .i64 xa, .slice p3 ns.length c3, .slice p4 cs.length c4]) := F7_3.out.over (below_new Y3 _)
                    have F10_6 : Hid (Fr W5.heap.size (Y3.alloc (Obj.cells #[.int .i64 0, .int .i64 0, .slice none 0 0] 33)) (.slice pj2 (l.length) cj2) Y3.heap.size 33 [.int .i64 0, .int .i64 0, .slice none 0 0]) := Fr.new J3.out _
                    generalize (Y3.alloc (Obj.cells #[.int .i64 0, .int .i64 0, .slice none 0 0] 33)) = Y6 at *
                    generalize Y3.heap.size = G6 at *
                    refine hK.out _ _ (J6.out.be) (fun hHeld => ?_)
                    clear hK K
                    try simp only [Act.put, List.setIfInBounds_toArray, List.set_cons_zero, List.set_cons_succ, List.getElem_toArray, List.getElem_cons_zero, List.getElem_cons_succ]
                    refine wpAnyH_ready (rs := [8]) (by kernel_rfl) (by simp) ?_
                    refine (AllReadyH.cons rfl (fun K hK => ?_) AllReadyH.nil)
                    refine step_of_wp (by rfl) ?_
                    refine wp_app_rules (.tmp 66) (.tmp 68) (by rfl) W5.heap.size (.slice pj2 (l.length) cj2) (l.length) (cellsX l) (by rfl) J6.out.own (.slice (some ⟨G3, 0, none⟩) 1 1) (1) ([⟨⟨xk, xa, ns, cs⟩, .slice p3 ns.length c3, .slice p4 cs.length c4⟩]) (by rfl) (src_one (x := ⟨⟨xk, xa, ns, cs⟩, .slice p3 ns.length c3, .slice p4 cs.length c4⟩) F7_6.out) (rfl) (ONEM.out) (by omega) J6.out.lB ?_
                    intro v7 Y7 hap
                    rw [← cellsX_app] at hap
                    have J7 : Hid (Jn 52 4 W5.heap.size W5 Y7 (v7) (l.length + 1) (cellsX (l ++ [⟨⟨xk, xa, ns, cs⟩, .slice p3 ns.length c3, .slice p4 cs.length c4⟩]))) := J6.out.app hap
                    have F7_7 : Hid (Fr W5.heap.size Y7 (v7) G3 52 [.int .i64 xk, .int .i64 xa, .slice p3 ns.length c3, .slice p4 cs.length c4]) := F7_6.out.app hap
                    have F10_7 : Hid (Fr W5.heap.size Y7 (v7) G6 33 [.int .i64 0, .int .i64 0, .slice none 0 0]) := F10_6.out.app hap
                    clear hap
                    obtain ⟨pj7, cj7, hvj⟩ := J7.out.slice
                    subst hvj
                    refine hK.out _ _ (J7.out.be) (fun hHeld => ?_)
                    clear hK K
                    try simp only [Act.put, List.setIfInBounds_toArray, List.set_cons_zero, List.set_cons_succ, List.getElem_toArray, List.getElem_cons_zero, List.getElem_cons_succ]
                    refine wpAnyH_take (i := 9) (v := ?_) rfl (by kernel_rfl) (by kernel_rfl) (by kernel_rfl) (fun _ _ _ h => h) (Or.inl ⟨by rfl, ?_⟩) hHeld ?_
                    rotate_left
                    · (intro w hSw; (try dsimp only at hSw); go_simp; try with_reducible rfl)
                    try simp only [Act.put, List.setIfInBounds_toArray, List.set_cons_zero, List.set_cons_succ, List.getElem_toArray, List.getElem_cons_zero, List.getElem_cons_succ]
                    refine wpAnyH_ready (rs := [11]) (by kernel_rfl) (by simp) ?_
                    refine (AllReadyH.cons rfl (fun K hK => ?_) AllReadyH.nil)
                    refine step_of_wp (by rfl) ?_
                    refine wp_store_row 33 (.tmp 12) (.tmp 70) (by rfl) G6 #[.int .i64 k, .int .i64 a, .slice pj7 (l.length + 1) cj7] (by rfl) (by rfl) 33 _ F10_7.out.blk Try.sizeRs rfl (by simp [Value.oneCell']) ?_
                    have JZ : Hid (Jn 52 4 W5.heap.size W5 (Y7.setRow G6 #[.int .i64 k, .int .i64 a, .slice pj7 (l.length + 1) cj7]) (.slice pj7 (l.length + 1) cj7) (l.length + 1) (cellsX (l ++ [⟨⟨xk, xa, ns, cs⟩, .slice p3 ns.length c3, .slice p4 cs.length c4⟩]))) := J7.out.setRow F10_7.out _
                    have KZ : Hid (Blk (Y7.setRow G6 #[.int .i64 k, .int .i64 a, .slice pj7 (l.length + 1) cj7]) G6 33 [.int .i64 k, .int .i64 a, .slice pj7 (l.length + 1) cj7]) := F10_7.out.blk.row _
                    generalize Y7.setRow G6 #[.int .i64 k, .int .i64 a, .slice pj7 (l.length + 1) cj7] = Z at *
                    refine hK.out _ _ (JZ.out.be) (fun hHeld => ?_)
                    clear hK K
                    try simp only [Act.put, List.setIfInBounds_toArray, List.set_cons_zero, List.set_cons_succ, List.getElem_toArray, List.getElem_cons_zero, List.getElem_cons_succ]
                    refine wpAnyH_done (by kernel_rfl) ?_ _
                    go_wp2_with fail
                    go_meet
                    exact ⟨G6, _, _, rfl, KZ.out, JZ.out.rules' (by simp <;> omega) (fun x hx => HY.out _ JZ.out.be x hx), JZ.out.be⟩
                ·
                  go_simp
                  have J8 : Hid (Jn 52 4 W5.heap.size W5 (Y2.alloc (Obj.cells #[.int .i64 0, .int .i64 0, .slice none 0 0] 33)) (.slice pj2 (l.length) cj2) (l.length) (cellsX l)) := J2.out.over (below_new Y2 _)
                  have F10_8 : Hid (Fr W5.heap.size (Y2.alloc (Obj.cells #[.int .i64 0, .int .i64 0, .slice none 0 0] 33)) (.slice pj2 (l.length) cj2) Y2.heap.size 33 [.int .i64 0, .int .i64 0, .slice none 0 0]) := Fr.new J2.out _
                  generalize (Y2.alloc (Obj.cells #[.int .i64 0, .int .i64 0, .slice none 0 0] 33)) = Y8 at *
                  generalize Y2.heap.size = G8 at *
                  refine hK.out _ _ (J8.out.be) (fun hHeld => ?_)
                  clear hK K
                  try simp only [Act.put, List.setIfInBounds_toArray, List.set_cons_zero, List.set_cons_succ, List.getElem_toArray, List.getElem_cons_zero, List.getElem_cons_succ]
                  refine wpAnyH_ready (rs := [7]) (by kernel_rfl) (by simp) ?_
                  refine (AllReadyH.cons rfl (fun K hK => ?_) AllReadyH.nil)
                  go_simp
                  have J9 : Hid (Jn 52 4 W5.heap.size W5 (Y8.alloc (Obj.cells #[.int .i64 xk, .int .i64 xa, .slice p3 ns.length c3, .slice p4 cs.length c4] 52)) (.slice pj2 (l.length) cj2) (l.length) (cellsX l)) := J8.out.over (below_new Y8 _)
                  have F10_9 : Hid (Fr W5.heap.size (Y8.alloc (Obj.cells #[.int .i64 xk, .int .i64 xa, .slice p3 ns.length c3, .slice p4 cs.length c4] 52)) (.slice pj2 (l.length) cj2) G8 33 [.int .i64 0, .int .i64 0, .slice none 0 0]) := F10_8.out.over (below_new Y8 _)
                  have F7_9 : Hid (Fr W5.heap.size (Y8.alloc (Obj.cells #[.int .i64 xk, .int .i64 xa, .slice p3 ns.length c3, .slice p4 cs.length c4] 52)) (.slice pj2 (l.length) cj2) Y8.heap.size 52 [.int .i64 xk, .int .i64 xa, .slice p3 ns.length c3, .slice p4 cs.length c4]) := Fr.new J8.out _
                  generalize (Y8.alloc (Obj.cells #[.int .i64 xk, .int .i64 xa, .slice p3 ns.length c3, .slice p4 cs.length c4] 52)) = Y9 at *
                  generalize Y8.heap.size = G9 at *
                  refine hK.out _ _ (J9.out.be) (fun hHeld => ?_)
                  clear hK K
                  try simp only [Act.put, List.setIfInBounds_toArray, List.set_cons_zero, List.set_cons_succ, List.getElem_toArray, List.getElem_cons_zero, List.getElem_cons_succ]
                  refine wpAnyH_ready (rs := [8]) (by kernel_rfl) (by simp) ?_
                  refine (AllReadyH.cons rfl (fun K hK => ?_) AllReadyH.nil)
                  refine step_of_wp (by rfl) ?_
                  refine wp_app_rules (.tmp 66) (.tmp 68) (by rfl) W5.heap.size (.slice pj2 (l.length) cj2) (l.length) (cellsX l) (by rfl) J9.out.own (.slice (some ⟨G9, 0, none⟩) 1 1) (1) ([⟨⟨xk, xa, ns, cs⟩, .slice p3 ns.length c3, .slice p4 cs.length c4⟩]) (by rfl) (src_one (x := ⟨⟨xk, xa, ns, cs⟩, .slice p3 ns.length c3, .slice p4 cs.length c4⟩) F7_9.out) (rfl) (ONEM.out) (by omega) J9.out.lB ?_
                  intro v10 Y10 hap
                  rw [← cellsX_app] at hap
                  have J10 : Hid (Jn 52 4 W5.heap.size W5 Y10 (v10) (l.length + 1) (cellsX (l ++ [⟨⟨xk, xa, ns, cs⟩, .slice p3 ns.length c3, .slice p4 cs.length c4⟩]))) := J9.out.app hap
                  have F10_10 : Hid (Fr W5.heap.size Y10 (v10) G8 33 [.int .i64 0, .int .i64 0, .slice none 0 0]) := F10_9.out.app hap
                  have F7_10 : Hid (Fr W5.heap.size Y10 (v10) G9 52 [.int .i64 xk, .int .i64 xa, .slice p3 ns.length c3, .slice p4 cs.length c4]) := F7_9.out.app hap
                  clear hap
                  obtain ⟨pj10, cj10, hvj⟩ := J10.out.slice
                  subst hvj
                  refine hK.out _ _ (J10.out.be) (fun hHeld => ?_)
                  clear hK K
                  try simp only [Act.put, List.setIfInBounds_toArray, List.set_cons_zero, List.set_cons_succ, List.getElem_toArray, List.getElem_cons_zero, List.getElem_cons_succ]
                  refine wpAnyH_take (i := 9) (v := ?_) rfl (by kernel_rfl) (by kernel_rfl) (by kernel_rfl) (fun _ _ _ h => h) (Or.inl ⟨by rfl, ?_⟩) hHeld ?_
                  rotate_left
                  · (intro w hSw; (try dsimp only at hSw); go_simp; try with_reducible rfl)
                  try simp only [Act.put, List.setIfInBounds_toArray, List.set_cons_zero, List.set_cons_succ, List.getElem_toArray, List.getElem_cons_zero, List.getElem_cons_succ]
                  refine wpAnyH_ready (rs := [11]) (by kernel_rfl) (by simp) ?_
                  refine (AllReadyH.cons rfl (fun K hK => ?_) AllReadyH.nil)
                  refine step_of_wp (by rfl) ?_
                  refine wp_store_row 33 (.tmp 12) (.tmp 70) (by rfl) G8 #[.int .i64 k, .int .i64 a, .slice pj10 (l.length + 1) cj10] (by rfl) (by rfl) 33 _ F10_10.out.blk Try.sizeRs rfl (by simp [Value.oneCell']) ?_
                  have JZ : Hid (Jn 52 4 W5.heap.size W5 (Y10.setRow G8 #[.int .i64 k, .int .i64 a, .slice pj10 (l.length + 1) cj10]) (.slice pj10 (l.length + 1) cj10) (l.length + 1) (cellsX (l ++ [⟨⟨xk, xa, ns, cs⟩, .slice p3 ns.length c3, .slice p4 cs.length c4⟩]))) := J10.out.setRow F10_10.out _
                  have KZ : Hid (Blk (Y10.setRow G8 #[.int .i64 k, .int .i64 a, .slice pj10 (l.length + 1) cj10]) G8 33 [.int .i64 k, .int .i64 a, .slice pj10 (l.length + 1) cj10]) := F10_10.out.blk.row _
                  generalize Y10.setRow G8 #[.int .i64 k, .int .i64 a, .slice pj10 (l.length + 1) cj10] = Z at *
                  refine hK.out _ _ (JZ.out.be) (fun hHeld => ?_)
                  clear hK K
                  try simp only [Act.put, List.setIfInBounds_toArray, List.set_cons_zero, List.set_cons_succ, List.getElem_toArray, List.getElem_cons_zero, List.getElem_cons_succ]
                  refine wpAnyH_done (by kernel_rfl) ?_ _
                  go_wp2_with fail
                  go_meet
                  exact ⟨G8, _, _, rfl, KZ.out, JZ.out.rules' (by simp <;> omega) (fun x hx => HY.out _ JZ.out.be x hx), JZ.out.be⟩
              ·
                go_simp
                have J11 : Hid (Jn 52 4 W5.heap.size W5 (Y1.alloc (Obj.cells #[.int .i64 xk, .int .i64 xa, .slice p3 ns.length c3, .slice p4 cs.length c4] 52)) (.slice (some ⟨G1, 0, none⟩) 0 0) (0) ([])) := J1.out.over (below_new Y1 _)
                have F7_11 : Hid (Fr W5.heap.size (Y1.alloc (Obj.cells #[.int .i64 xk, .int .i64 xa, .slice p3 ns.length c3, .slice p4 cs.length c4] 52)) (.slice (some ⟨G1, 0, none⟩) 0 0) Y1.heap.size 52 [.int .i64 xk, .int .i64 xa, .slice p3 ns.length c3, .slice p4 cs.length c4]) := Fr.new J1.out _
                generalize (Y1.alloc (Obj.cells #[.int .i64 xk, .int .i64 xa, .slice p3 ns.length c3, .slice p4 cs.length c4] 52)) = Y11 at *
                generalize Y1.heap.size = G11 at *
                refine hK.out _ _ (J11.out.be) (fun hHeld => ?_)
                clear hK K
                try simp only [Act.put, List.setIfInBounds_toArray, List.set_cons_zero, List.set_cons_succ, List.getElem_toArray, List.getElem_cons_zero, List.getElem_cons_succ]
                refine wpAnyH_ready (rs := [5, 10]) (by kernel_rfl) (by simp) ?_
                refine (AllReadyH.cons rfl (fun K hK => ?_) (AllReadyH.cons rfl (fun K hK => ?_) AllReadyH.nil))
                ·
                  refine step_of_wp (by rfl) ?_
                  refine wp_app_rules (.tmp 63) (.tmp 65) (by rfl) W5.heap.size (.slice (some ⟨G1, 0, none⟩) 0 0) (0) ([]) (by rfl) J11.out.own (.slice p1 l.length c1) (l.length) (l) (by rfl) (src_rules (S5.out.below hHeld) HOV.out) (rfl) (ONE.out) (by omega) J11.out.lB ?_
                  intro v12 Y12 hap
                  rw [Nat.zero_add, List.nil_append] at hap
                  have J12 : Hid (Jn 52 4 W5.heap.size W5 Y12 (v12) (l.length) (cellsX l)) := J11.out.app hap
                  have F7_12 : Hid (Fr W5.heap.size Y12 (v12) G11 52 [.int .i64 xk, .int .i64 xa, .slice p3 ns.length c3, .slice p4 cs.length c4]) := F7_11.out.app hap
                  clear hap
                  obtain ⟨pj12, cj12, hvj⟩ := J12.out.slice
                  subst hvj
                  refine hK.out _ _ (J12.out.be) (fun hHeld => ?_)
                  clear hK K
                  try simp only [Act.put, List.setIfInBounds_toArray, List.set_cons_zero, List.set_cons_succ, List.getElem_toArray, List.getElem_cons_zero, List.getElem_cons_succ]
                  refine wpAnyH_ready (rs := [8, 10]) (by kernel_rfl) (by simp) ?_
                  refine (AllReadyH.cons rfl (fun K hK => ?_) (AllReadyH.cons rfl (fun K hK => ?_) AllReadyH.nil))
                  ·
                    refine step_of_wp (by rfl) ?_
                    refine wp_app_rules (.tmp 66) (.tmp 68) (by rfl) W5.heap.size (.slice pj12 (l.length) cj12) (l.length) (cellsX l) (by rfl) J12.out.own (.slice (some ⟨G11, 0, none⟩) 1 1) (1) ([⟨⟨xk, xa, ns, cs⟩, .slice p3 ns.length c3, .slice p4 cs.length c4⟩]) (by rfl) (src_one (x := ⟨⟨xk, xa, ns, cs⟩, .slice p3 ns.length c3, .slice p4 cs.length c4⟩) F7_12.out) (rfl) (ONEM.out) (by omega) J12.out.lB ?_
                    intro v13 Y13 hap
                    rw [← cellsX_app] at hap
                    have J13 : Hid (Jn 52 4 W5.heap.size W5 Y13 (v13) (l.length + 1) (cellsX (l ++ [⟨⟨xk, xa, ns, cs⟩, .slice p3 ns.length c3, .slice p4 cs.length c4⟩]))) := J12.out.app hap
                    have F7_13 : Hid (Fr W5.heap.size Y13 (v13) G11 52 [.int .i64 xk, .int .i64 xa, .slice p3 ns.length c3, .slice p4 cs.length c4]) := F7_12.out.app hap
                    clear hap
                    obtain ⟨pj13, cj13, hvj⟩ := J13.out.slice
                    subst hvj
                    refine hK.out _ _ (J13.out.be) (fun hHeld => ?_)
                    clear hK K
                    try simp only [Act.put, List.setIfInBounds_toArray, List.set_cons_zero, List.set_cons_succ, List.getElem_toArray, List.getElem_cons_zero, List.getElem_cons_succ]
                    refine wpAnyH_take (i := 9) (v := ?_) rfl (by kernel_rfl) (by kernel_rfl) (by kernel_rfl) (fun _ _ _ h => h) (Or.inl ⟨by rfl, ?_⟩) hHeld ?_
                    rotate_left
                    · (intro w hSw; (try dsimp only at hSw); go_simp; try with_reducible rfl)
                    try simp only [Act.put, List.setIfInBounds_toArray, List.set_cons_zero, List.set_cons_succ, List.getElem_toArray, List.getElem_cons_zero, List.getElem_cons_succ]
                    refine wpAnyH_ready (rs := [10]) (by kernel_rfl) (by simp) ?_
                    refine (AllReadyH.cons rfl (fun K hK => ?_) AllReadyH.nil)
                    go_simp
                    have J14 : Hid (Jn 52 4 W5.heap.size W5 (Y13.alloc (Obj.cells #[.int .i64 0, .int .i64 0, .slice none 0 0] 33)) (.slice pj13 (l.length + 1) cj13) (l.length + 1) (cellsX (l ++ [⟨⟨xk, xa, ns, cs⟩, .slice p3 ns.length c3, .slice p4 cs.length c4⟩]))) := J13.out.over (below_new Y13 _)
                    have F7_14 : Hid (Fr W5.heap.size (Y13.alloc (Obj.cells #[.int .i64 0, .int .i64 0, .slice none 0 0] 33)) (.slice pj13 (l.length + 1) cj13) G11 52 [.int .i64 xk, .int .i64 xa, .slice p3 ns.length c3, .slice p4 cs.length c4]) := F7_13.out.over (below_new Y13 _)
                    have F10_14 : Hid (Fr W5.heap.size (Y13.alloc (Obj.cells #[.int .i64 0, .int .i64 0, .slice none 0 0] 33)) (.slice pj13 (l.length + 1) cj13) Y13.heap.size 33 [.int .i64 0, .int .i64 0, .slice none 0 0]) := Fr.new J13.out _
                    generalize (Y13.alloc (Obj.cells #[.int .i64 0, .int .i64 0, .slice none 0 0] 33)) = Y14 at *
                    generalize Y13.heap.size = G14 at *
                    refine hK.out _ _ (J14.out.be) (fun hHeld => ?_)
                    clear hK K
                    try simp only [Act.put, List.setIfInBounds_toArray, List.set_cons_zero, List.set_cons_succ, List.getElem_toArray, List.getElem_cons_zero, List.getElem_cons_succ]
                    refine wpAnyH_ready (rs := [11]) (by kernel_rfl) (by simp) ?_
                    refine (AllReadyH.cons rfl (fun K hK => ?_) AllReadyH.nil)
                    refine step_of_wp (by rfl) ?_
                    refine wp_store_row 33 (.tmp 12) (.tmp 70) (by rfl) G14 #[.int .i64 k, .int .i64 a, .slice pj13 (l.length + 1) cj13] (by rfl) (by rfl) 33 _ F10_14.out.blk Try.sizeRs rfl (by simp [Value.oneCell']) ?_
                    have JZ : Hid (Jn 52 4 W5.heap.size W5 (Y14.setRow G14 #[.int .i64 k, .int .i64 a, .slice pj13 (l.length + 1) cj13]) (.slice pj13 (l.length + 1) cj13) (l.length + 1) (cellsX (l ++ [⟨⟨xk, xa, ns, cs⟩, .slice p3 ns.length c3, .slice p4 cs.length c4⟩]))) := J14.out.setRow F10_14.out _
                    have KZ : Hid (Blk (Y14.setRow G14 #[.int .i64 k, .int .i64 a, .slice pj13 (l.length + 1) cj13]) G14 33 [.int .i64 k, .int .i64 a, .slice pj13 (l.length + 1) cj13]) := F10_14.out.blk.row _
                    generalize Y14.setRow G14 #[.int .i64 k, .int .i64 a, .slice pj13 (l.length + 1) cj13] = Z at *
                    refine hK.out _ _ (JZ.out.be) (fun hHeld => ?_)
                    clear hK K
                    try simp only [Act.put, List.setIfInBounds_toArray, List.set_cons_zero, List.set_cons_succ, List.getElem_toArray, List.getElem_cons_zero, List.getElem_cons_succ]
                    refine wpAnyH_done (by kernel_rfl) ?_ _
                    go_wp2_with fail
                    go_meet
                    exact ⟨G14, _, _, rfl, KZ.out, JZ.out.rules' (by simp <;> omega) (fun x hx => HY.out _ JZ.out.be x hx), JZ.out.be⟩
                  ·
                    go_simp
                    have J15 : Hid (Jn 52 4 W5.heap.size W5 (Y12.alloc (Obj.cells #[.int .i64 0, .int .i64 0, .slice none 0 0] 33)) (.slice pj12 (l.length) cj12) (l.length) (cellsX l)) := J12.out.over (below_new Y12 _)
                    have F7_15 : Hid (Fr W5.heap.size (Y12.alloc (Obj.cells #[.int .i64 0, .int .i64 0, .slice none 0 0] 33)) (.slice pj12 (l.length) cj12) G11 52 [.int .i64 xk, .int .i64 xa, .slice p3 ns.length c3, .slice p4 cs.length c4]) := F7_12.out.over (below_new Y12 _)
                    have F10_15 : Hid (Fr W5.heap.size (Y12.alloc (Obj.cells #[.int .i64 0, .int .i64 0, .slice none 0 0] 33)) (.slice pj12 (l.length) cj12) Y12.heap.size 33 [.int .i64 0, .int .i64 0, .slice none 0 0]) := Fr.new J12.out _
                    generalize (Y12.alloc (Obj.cells #[.int .i64 0, .int .i64 0, .slice none 0 0] 33)) = Y15 at *
                    generalize Y12.heap.size = G15 at *
                    refine hK.out _ _ (J15.out.be) (fun hHeld => ?_)
                    clear hK K
                    try simp only [Act.put, List.setIfInBounds_toArray, List.set_cons_zero, List.set_cons_succ, List.getElem_toArray, List.getElem_cons_zero, List.getElem_cons_succ]
                    refine wpAnyH_ready (rs := [8]) (by kernel_rfl) (by simp) ?_
                    refine (AllReadyH.cons rfl (fun K hK => ?_) AllReadyH.nil)
                    refine step_of_wp (by rfl) ?_
                    refine wp_app_rules (.tmp 66) (.tmp 68) (by rfl) W5.heap.size (.slice pj12 (l.length) cj12) (l.length) (cellsX l) (by rfl) J15.out.own (.slice (some ⟨G11, 0, none⟩) 1 1) (1) ([⟨⟨xk, xa, ns, cs⟩, .slice p3 ns.length c3, .slice p4 cs.length c4⟩]) (by rfl) (src_one (x := ⟨⟨xk, xa, ns, cs⟩, .slice p3 ns.length c3, .slice p4 cs.length c4⟩) F7_15.out) (rfl) (ONEM.out) (by omega) J15.out.lB ?_
                    intro v16 Y16 hap
                    rw [← cellsX_app] at hap
                    have J16 : Hid (Jn 52 4 W5.heap.size W5 Y16 (v16) (l.length + 1) (cellsX (l ++ [⟨⟨xk, xa, ns, cs⟩, .slice p3 ns.length c3, .slice p4 cs.length c4⟩]))) := J15.out.app hap
                    have F7_16 : Hid (Fr W5.heap.size Y16 (v16) G11 52 [.int .i64 xk, .int .i64 xa, .slice p3 ns.length c3, .slice p4 cs.length c4]) := F7_15.out.app hap
                    have F10_16 : Hid (Fr W5.heap.size Y16 (v16) G15 33 [.int .i64 0, .int .i64 0, .slice none 0 0]) := F10_15.out.app hap
                    clear hap
                    obtain ⟨pj16, cj16, hvj⟩ := J16.out.slice
                    subst hvj
                    refine hK.out _ _ (J16.out.be) (fun hHeld => ?_)
                    clear hK K
                    try simp only [Act.put, List.setIfInBounds_toArray, List.set_cons_zero, List.set_cons_succ, List.getElem_toArray, List.getElem_cons_zero, List.getElem_cons_succ]
                    refine wpAnyH_take (i := 9) (v := ?_) rfl (by kernel_rfl) (by kernel_rfl) (by kernel_rfl) (fun _ _ _ h => h) (Or.inl ⟨by rfl, ?_⟩) hHeld ?_
                    rotate_left
                    · (intro w hSw; (try dsimp only at hSw); go_simp; try with_reducible rfl)
                    try simp only [Act.put, List.setIfInBounds_toArray, List.set_cons_zero, List.set_cons_succ, List.getElem_toArray, List.getElem_cons_zero, List.getElem_cons_succ]
                    refine wpAnyH_ready (rs := [11]) (by kernel_rfl) (by simp) ?_
                    refine (AllReadyH.cons rfl (fun K hK => ?_) AllReadyH.nil)
                    refine step_of_wp (by rfl) ?_
                    refine wp_store_row 33 (.tmp 12) (.tmp 70) (by rfl) G15 #[.int .i64 k, .int .i64 a, .slice pj16 (l.length + 1) cj16] (by rfl) (by rfl) 33 _ F10_16.out.blk Try.sizeRs rfl (by simp [Value.oneCell']) ?_
                    have JZ : Hid (Jn 52 4 W5.heap.size W5 (Y16.setRow G15 #[.int .i64 k, .int .i64 a, .slice pj16 (l.length + 1) cj16]) (.slice pj16 (l.length + 1) cj16) (l.length + 1) (cellsX (l ++ [⟨⟨xk, xa, ns, cs⟩, .slice p3 ns.length c3, .slice p4 cs.length c4⟩]))) := J16.out.setRow F10_16.out _
                    have KZ : Hid (Blk (Y16.setRow G15 #[.int .i64 k, .int .i64 a, .slice pj16 (l.length + 1) cj16]) G15 33 [.int .i64 k, .int .i64 a, .slice pj16 (l.length + 1) cj16]) := F10_16.out.blk.row _
                    generalize Y16.setRow G15 #[.int .i64 k, .int .i64 a, .slice pj16 (l.length + 1) cj16] = Z at *
                    refine hK.out _ _ (JZ.out.be) (fun hHeld => ?_)
                    clear hK K
                    try simp only [Act.put, List.setIfInBounds_toArray, List.set_cons_zero, List.set_cons_succ, List.getElem_toArray, List.getElem_cons_zero, List.getElem_cons_succ]
                    refine wpAnyH_done (by kernel_rfl) ?_ _
                    go_wp2_with fail
                    go_meet
                    exact ⟨G15, _, _, rfl, KZ.out, JZ.out.rules' (by simp <;> omega) (fun x hx => HY.out _ JZ.out.be x hx), JZ.out.be⟩
                ·
                  go_simp
                  have J17 : Hid (Jn 52 4 W5.heap.size W5 (Y11.alloc (Obj.cells #[.int .i64 0, .int .i64 0, .slice none 0 0] 33)) (.slice (some ⟨G1, 0, none⟩) 0 0) (0) ([])) := J11.out.over (below_new Y11 _)
                  have F7_17 : Hid (Fr W5.heap.size (Y11.alloc (Obj.cells #[.int .i64 0, .int .i64 0, .slice none 0 0] 33)) (.slice (some ⟨G1, 0, none⟩) 0 0) G11 52 [.int .i64 xk, .int .i64 xa, .slice p3 ns.length c3, .slice p4 cs.length c4]) := F7_11.out.over (below_new Y11 _)
                  have F10_17 : Hid (Fr W5.heap.size (Y11.alloc (Obj.cells #[.int .i64 0, .int .i64 0, .slice none 0 0] 33)) (.slice (some ⟨G1, 0, none⟩) 0 0) Y11.heap.size 33 [.int .i64 0, .int .i64 0, .slice none 0 0]) := Fr.new J11.out _
                  generalize (Y11.alloc (Obj.cells #[.int .i64 0, .int .i64 0, .slice none 0 0] 33)) = Y17 at *
                  generalize Y11.heap.size = G17 at *
                  refine hK.out _ _ (J17.out.be) (fun hHeld => ?_)
                  clear hK K
                  try simp only [Act.put, List.setIfInBounds_toArray, List.set_cons_zero, List.set_cons_succ, List.getElem_toArray, List.getElem_cons_zero, List.getElem_cons_succ]
                  refine wpAnyH_ready (rs := [5]) (by kernel_rfl) (by simp) ?_
                  refine (AllReadyH.cons rfl (fun K hK => ?_) AllReadyH.nil)
                  refine step_of_wp (by rfl) ?_
                  refine wp_app_rules (.tmp 63) (.tmp 65) (by rfl) W5.heap.size (.slice (some ⟨G1, 0, none⟩) 0 0) (0) ([]) (by rfl) J17.out.own (.slice p1 l.length c1) (l.length) (l) (by rfl) (src_rules (S5.out.below hHeld) HOV.out) (rfl) (ONE.out) (by omega) J17.out.lB ?_
                  intro v18 Y18 hap
                  rw [Nat.zero_add, List.nil_append] at hap
                  have J18 : Hid (Jn 52 4 W5.heap.size W5 Y18 (v18) (l.length) (cellsX l)) := J17.out.app hap
                  have F7_18 : Hid (Fr W5.heap.size Y18 (v18) G11 52 [.int .i64 xk, .int .i64 xa, .slice p3 ns.length c3, .slice p4 cs.length c4]) := F7_17.out.app hap
                  have F10_18 : Hid (Fr W5.heap.size Y18 (v18) G17 33 [.int .i64 0, .int .i64 0, .slice none 0 0]) := F10_17.out.app hap
                  clear hap
                  obtain ⟨pj18, cj18, hvj⟩ := J18.out.slice
                  subst hvj
                  refine hK.out _ _ (J18.out.be) (fun hHeld => ?_)
                  clear hK K
                  try simp only [Act.put, List.setIfInBounds_toArray, List.set_cons_zero, List.set_cons_succ, List.getElem_toArray, List.getElem_cons_zero, List.getElem_cons_succ]
                  refine wpAnyH_ready (rs := [8]) (by kernel_rfl) (by simp) ?_
                  refine (AllReadyH.cons rfl (fun K hK => ?_) AllReadyH.nil)
                  refine step_of_wp (by rfl) ?_
                  refine wp_app_rules (.tmp 66) (.tmp 68) (by rfl) W5.heap.size (.slice pj18 (l.length) cj18) (l.length) (cellsX l) (by rfl) J18.out.own (.slice (some ⟨G11, 0, none⟩) 1 1) (1) ([⟨⟨xk, xa, ns, cs⟩, .slice p3 ns.length c3, .slice p4 cs.length c4⟩]) (by rfl) (src_one (x := ⟨⟨xk, xa, ns, cs⟩, .slice p3 ns.length c3, .slice p4 cs.length c4⟩) F7_18.out) (rfl) (ONEM.out) (by omega) J18.out.lB ?_
                  intro v19 Y19 hap
                  rw [← cellsX_app] at hap
                  have J19 : Hid (Jn 52 4 W5.heap.size W5 Y19 (v19) (l.length + 1) (cellsX (l ++ [⟨⟨xk, xa, ns, cs⟩, .slice p3 ns.length c3, .slice p4 cs.length c4⟩]))) := J18.out.app hap
                  have F7_19 : Hid (Fr W5.heap.size Y19 (v19) G11 52 [.int .i64 xk, .int .i64 xa, .slice p3 ns.length c3, .slice p4 cs.length c4]) := F7_18.out.app hap
                  have F10_19 : Hid (Fr W5.heap.size Y19 (v19) G17 33 [.int .i64 0, .int .i64 0, .slice none 0 0]) := F10_18.out.app hap
                  clear hap
                  obtain ⟨pj19, cj19, hvj⟩ := J19.out.slice
                  subst hvj
                  refine hK.out _ _ (J19.out.be) (fun hHeld => ?_)
                  clear hK K
                  try simp only [Act.put, List.setIfInBounds_toArray, List.set_cons_zero, List.set_cons_succ, List.getElem_toArray, List.getElem_cons_zero, List.getElem_cons_succ]
                  refine wpAnyH_take (i := 9) (v := ?_) rfl (by kernel_rfl) (by kernel_rfl) (by kernel_rfl) (fun _ _ _ h => h) (Or.inl ⟨by rfl, ?_⟩) hHeld ?_
                  rotate_left
                  · (intro w hSw; (try dsimp only at hSw); go_simp; try with_reducible rfl)
                  try simp only [Act.put, List.setIfInBounds_toArray, List.set_cons_zero, List.set_cons_succ, List.getElem_toArray, List.getElem_cons_zero, List.getElem_cons_succ]
                  refine wpAnyH_ready (rs := [11]) (by kernel_rfl) (by simp) ?_
                  refine (AllReadyH.cons rfl (fun K hK => ?_) AllReadyH.nil)
                  refine step_of_wp (by rfl) ?_
                  refine wp_store_row 33 (.tmp 12) (.tmp 70) (by rfl) G17 #[.int .i64 k, .int .i64 a, .slice pj19 (l.length + 1) cj19] (by rfl) (by rfl) 33 _ F10_19.out.blk Try.sizeRs rfl (by simp [Value.oneCell']) ?_
                  have JZ : Hid (Jn 52 4 W5.heap.size W5 (Y19.setRow G17 #[.int .i64 k, .int .i64 a, .slice pj19 (l.length + 1) cj19]) (.slice pj19 (l.length + 1) cj19) (l.length + 1) (cellsX (l ++ [⟨⟨xk, xa, ns, cs⟩, .slice p3 ns.length c3, .slice p4 cs.length c4⟩]))) := J19.out.setRow F10_19.out _
                  have KZ : Hid (Blk (Y19.setRow G17 #[.int .i64 k, .int .i64 a, .slice pj19 (l.length + 1) cj19]) G17 33 [.int .i64 k, .int .i64 a, .slice pj19 (l.length + 1) cj19]) := F10_19.out.blk.row _
                  generalize Y19.setRow G17 #[.int .i64 k, .int .i64 a, .slice pj19 (l.length + 1) cj19] = Z at *
                  refine hK.out _ _ (JZ.out.be) (fun hHeld => ?_)
                  clear hK K
                  try simp only [Act.put, List.setIfInBounds_toArray, List.set_cons_zero, List.set_cons_succ, List.getElem_toArray, List.getElem_cons_zero, List.getElem_cons_succ]
                  refine wpAnyH_done (by kernel_rfl) ?_ _
                  go_wp2_with fail
                  go_meet
                  exact ⟨G17, _, _, rfl, KZ.out, JZ.out.rules' (by simp <;> omega) (fun x hx => HY.out _ JZ.out.be x hx), JZ.out.be⟩
              ·
                go_simp
                have J20 : Hid (Jn 52 4 W5.heap.size W5 (Y1.alloc (Obj.cells #[.int .i64 0, .int .i64 0, .slice none 0 0] 33)) (.slice (some ⟨G1, 0, none⟩) 0 0) (0) ([])) := J1.out.over (below_new Y1 _)
                have F10_20 : Hid (Fr W5.heap.size (Y1.alloc (Obj.cells #[.int .i64 0, .int .i64 0, .slice none 0 0] 33)) (.slice (some ⟨G1, 0, none⟩) 0 0) Y1.heap.size 33 [.int .i64 0, .int .i64 0, .slice none 0 0]) := Fr.new J1.out _
                generalize (Y1.alloc (Obj.cells #[.int .i64 0, .int .i64 0, .slice none 0 0] 33)) = Y20 at *
                generalize Y1.heap.size = G20 at *
                refine hK.out _ _ (J20.out.be) (fun hHeld => ?_)
                clear hK K
                try simp only [Act.put, List.setIfInBounds_toArray, List.set_cons_zero, List.set_cons_succ, List.getElem_toArray, List.getElem_cons_zero, List.getElem_cons_succ]
                refine wpAnyH_ready (rs := [5, 7]) (by kernel_rfl) (by simp) ?_
                refine (AllReadyH.cons rfl (fun K hK => ?_) (AllReadyH.cons rfl (fun K hK => ?_) AllReadyH.nil))
                ·
                  refine step_of_wp (by rfl) ?_
                  refine wp_app_rules (.tmp 63) (.tmp 65) (by rfl) W5.heap.size (.slice (some ⟨G1, 0, none⟩) 0 0) (0) ([]) (by rfl) J20.out.own (.slice p1 l.length c1) (l.length) (l) (by rfl) (src_rules (S5.out.below hHeld) HOV.out) (rfl) (ONE.out) (by omega) J20.out.lB ?_
                  intro v21 Y21 hap
                  rw [Nat.zero_add, List.nil_append] at hap
                  have J21 : Hid (Jn 52 4 W5.heap.size W5 Y21 (v21) (l.length) (cellsX l)) := J20.out.app hap
                  have F10_21 : Hid (Fr W5.heap.size Y21 (v21) G20 33 [.int .i64 0, .int .i64 0, .slice none 0 0]) := F10_20.out.app hap
                  clear hap
                  obtain ⟨pj21, cj21, hvj⟩ := J21.out.slice
                  subst hvj
                  refine hK.out _ _ (J21.out.be) (fun hHeld => ?_)
                  clear hK K
                  try simp only [Act.put, List.setIfInBounds_toArray, List.set_cons_zero, List.set_cons_succ, List.getElem_toArray, List.getElem_cons_zero, List.getElem_cons_succ]
                  refine wpAnyH_ready (rs := [7]) (by kernel_rfl) (by simp) ?_
                  refine (AllReadyH.cons rfl (fun K hK => ?_) AllReadyH.nil)
                  go_simp
                  have J22 : Hid (Jn 52 4 W5.heap.size W5 (Y21.alloc (Obj.cells #[.int .i64 xk, .int .i64 xa, .slice p3 ns.length c3, .slice p4 cs.length c4] 52)) (.slice pj21 (l.length) cj21) (l.length) (cellsX l)) := J21.out.over (below_new Y21 _)
                  have F10_22 : Hid (Fr W5.heap.size (Y21.alloc (Obj.cells #[.int .i64 xk, .int .i64 xa, .slice p3 ns.length c3, .slice p4 cs.length c4] 52)) (.slice pj21 (l.length) cj21) G20 33 [.int .i64 0, .int .i64 0, .slice none 0 0]) := F10_21.out.over (below_new Y21 _)
                  have F7_22 : Hid (Fr W5.heap.size (Y21.alloc (Obj.cells #[.int .i64 xk, .int .i64 xa, .slice p3 ns.length c3, .slice p4 cs.length c4] 52)) (.slice pj21 (l.length) cj21) Y21.heap.size 52 [.int .i64 xk, .int .i64 xa, .slice p3 ns.length c3, .slice p4 cs.length c4]) := Fr.new J21.out _
                  generalize (Y21.alloc (Obj.cells #[.int .i64 xk, .int .i64 xa, .slice p3 ns.length c3, .slice p4 cs.length c4] 52)) = Y22 at *
                  generalize Y21.heap.size = G22 at *
                  refine hK.out _ _ (J22.out.be) (fun hHeld => ?_)
                  clear hK K
                  try simp only [Act.put, List.setIfInBounds_toArray, List.set_cons_zero, List.set_cons_succ, List.getElem_toArray, List.getElem_cons_zero, List.getElem_cons_succ]
                  refine wpAnyH_ready (rs := [8]) (by kernel_rfl) (by simp) ?_
                  refine (AllReadyH.cons rfl (fun K hK => ?_) AllReadyH.nil)
                  refine step_of_wp (by rfl) ?_
                  refine wp_app_rules (.tmp 66) (.tmp 68) (by rfl) W5.heap.size (.slice pj21 (l.length) cj21) (l.length) (cellsX l) (by rfl) J22.out.own (.slice (some ⟨G22, 0, none⟩) 1 1) (1) ([⟨⟨xk, xa, ns, cs⟩, .slice p3 ns.length c3, .slice p4 cs.length c4⟩]) (by rfl) (src_one (x := ⟨⟨xk, xa, ns, cs⟩, .slice p3 ns.length c3, .slice p4 cs.length c4⟩) F7_22.out) (rfl) (ONEM.out) (by omega) J22.out.lB ?_
                  intro v23 Y23 hap
                  rw [← cellsX_app] at hap
                  have J23 : Hid (Jn 52 4 W5.heap.size W5 Y23 (v23) (l.length + 1) (cellsX (l ++ [⟨⟨xk, xa, ns, cs⟩, .slice p3 ns.length c3, .slice p4 cs.length c4⟩]))) := J22.out.app hap
                  have F10_23 : Hid (Fr W5.heap.size Y23 (v23) G20 33 [.int .i64 0, .int .i64 0, .slice none 0 0]) := F10_22.out.app hap
                  have F7_23 : Hid (Fr W5.heap.size Y23 (v23) G22 52 [.int .i64 xk, .int .i64 xa, .slice p3 ns.length c3, .slice p4 cs.length c4]) := F7_22.out.app hap
                  clear hap
                  obtain ⟨pj23, cj23, hvj⟩ := J23.out.slice
                  subst hvj
                  refine hK.out _ _ (J23.out.be) (fun hHeld => ?_)
                  clear hK K
                  try simp only [Act.put, List.setIfInBounds_toArray, List.set_cons_zero, List.set_cons_succ, List.getElem_toArray, List.getElem_cons_zero, List.getElem_cons_succ]
                  refine wpAnyH_take (i := 9) (v := ?_) rfl (by kernel_rfl) (by kernel_rfl) (by kernel_rfl) (fun _ _ _ h => h) (Or.inl ⟨by rfl, ?_⟩) hHeld ?_
                  rotate_left
                  · (intro w hSw; (try dsimp only at hSw); go_simp; try with_reducible rfl)
                  try simp only [Act.put, List.setIfInBounds_toArray, List.set_cons_zero, List.set_cons_succ, List.getElem_toArray, List.getElem_cons_zero, List.getElem_cons_succ]
                  refine wpAnyH_ready (rs := [11]) (by kernel_rfl) (by simp) ?_
                  refine (AllReadyH.cons rfl (fun K hK => ?_) AllReadyH.nil)
                  refine step_of_wp (by rfl) ?_
                  refine wp_store_row 33 (.tmp 12) (.tmp 70) (by rfl) G20 #[.int .i64 k, .int .i64 a, .slice pj23 (l.length + 1) cj23] (by rfl) (by rfl) 33 _ F10_23.out.blk Try.sizeRs rfl (by simp [Value.oneCell']) ?_
                  have JZ : Hid (Jn 52 4 W5.heap.size W5 (Y23.setRow G20 #[.int .i64 k, .int .i64 a, .slice pj23 (l.length + 1) cj23]) (.slice pj23 (l.length + 1) cj23) (l.length + 1) (cellsX (l ++ [⟨⟨xk, xa, ns, cs⟩, .slice p3 ns.length c3, .slice p4 cs.length c4⟩]))) := J23.out.setRow F10_23.out _
                  have KZ : Hid (Blk (Y23.setRow G20 #[.int .i64 k, .int .i64 a, .slice pj23 (l.length + 1) cj23]) G20 33 [.int .i64 k, .int .i64 a, .slice pj23 (l.length + 1) cj23]) := F10_23.out.blk.row _
                  generalize Y23.setRow G20 #[.int .i64 k, .int .i64 a, .slice pj23 (l.length + 1) cj23] = Z at *
                  refine hK.out _ _ (JZ.out.be) (fun hHeld => ?_)
                  clear hK K
                  try simp only [Act.put, List.setIfInBounds_toArray, List.set_cons_zero, List.set_cons_succ, List.getElem_toArray, List.getElem_cons_zero, List.getElem_cons_succ]
                  refine wpAnyH_done (by kernel_rfl) ?_ _
                  go_wp2_with fail
                  go_meet
                  exact ⟨G20, _, _, rfl, KZ.out, JZ.out.rules' (by simp <;> omega) (fun x hx => HY.out _ JZ.out.be x hx), JZ.out.be⟩
                ·
                  go_simp
                  have J24 : Hid (Jn 52 4 W5.heap.size W5 (Y20.alloc (Obj.cells #[.int .i64 xk, .int .i64 xa, .slice p3 ns.length c3, .slice p4 cs.length c4] 52)) (.slice (some ⟨G1, 0, none⟩) 0 0) (0) ([])) := J20.out.over (below_new Y20 _)
                  have F10_24 : Hid (Fr W5.heap.size (Y20.alloc (Obj.cells #[.int .i64 xk, .int .i64 xa, .slice p3 ns.length c3, .slice p4 cs.length c4] 52)) (.slice (some ⟨G1, 0, none⟩) 0 0) G20 33 [.int .i64 0, .int .i64 0, .slice none 0 0]) := F10_20.out.over (below_new Y20 _)
                  have F7_24 : Hid (Fr W5.heap.size (Y20.alloc (Obj.cells #[.int .i64 xk, .int .i64 xa, .slice p3 ns.length c3, .slice p4 cs.length c4] 52)) (.slice (some ⟨G1, 0, none⟩) 0 0) Y20.heap.size 52 [.int .i64 xk, .int .i64 xa, .slice p3 ns.length c3, .slice p4 cs.length c4]) := Fr.new J20.out _
                  generalize (Y20.alloc (Obj.cells #[.int .i64 xk, .int .i64 xa, .slice p3 ns.length c3, .slice p4 cs.length c4] 52)) = Y24 at *
                  generalize Y20.heap.size = G24 at *
                  refine hK.out _ _ (J24.out.be) (fun hHeld => ?_)
                  clear hK K
                  try simp only [Act.put, List.setIfInBounds_toArray, List.set_cons_zero, List.set_cons_succ, List.getElem_toArray, List.getElem_cons_zero, List.getElem_cons_succ]
                  refine wpAnyH_ready (rs := [5]) (by kernel_rfl) (by simp) ?_
                  refine (AllReadyH.cons rfl (fun K hK => ?_) AllReadyH.nil)
                  refine step_of_wp (by rfl) ?_
                  refine wp_app_rules (.tmp 63) (.tmp 65) (by rfl) W5.heap.size (.slice (some ⟨G1, 0, none⟩) 0 0) (0) ([]) (by rfl) J24.out.own (.slice p1 l.length c1) (l.length) (l) (by rfl) (src_rules (S5.out.below hHeld) HOV.out) (rfl) (ONE.out) (by omega) J24.out.lB ?_
                  intro v25 Y25 hap
                  rw [Nat.zero_add, List.nil_append] at hap
                  have J25 : Hid (Jn 52 4 W5.heap.size W5 Y25 (v25) (l.length) (cellsX l)) := J24.out.app hap
                  have F10_25 : Hid (Fr W5.heap.size Y25 (v25) G20 33 [.int .i64 0, .int .i64 0, .slice none 0 0]) := F10_24.out.app hap
                  have F7_25 : Hid (Fr W5.heap.size Y25 (v25) G24 52 [.int .i64 xk, .int .i64 xa, .slice p3 ns.length c3, .slice p4 cs.length c4]) := F7_24.out.app hap
                  clear hap
                  obtain ⟨pj25, cj25, hvj⟩ := J25.out.slice
                  subst hvj
                  refine hK.out _ _ (J25.out.be) (fun hHeld => ?_)
                  clear hK K
                  try simp only [Act.put, List.setIfInBounds_toArray, List.set_cons_zero, List.set_cons_succ, List.getElem_toArray, List.getElem_cons_zero, List.getElem_cons_succ]
                  refine wpAnyH_ready (rs := [8]) (by kernel_rfl) (by simp) ?_
                  refine (AllReadyH.cons rfl (fun K hK => ?_) AllReadyH.nil)
                  refine step_of_wp (by rfl) ?_
                  refine wp_app_rules (.tmp 66) (.tmp 68) (by rfl) W5.heap.size (.slice pj25 (l.length) cj25) (l.length) (cellsX l) (by rfl) J25.out.own (.slice (some ⟨G24, 0, none⟩) 1 1) (1) ([⟨⟨xk, xa, ns, cs⟩, .slice p3 ns.length c3, .slice p4 cs.length c4⟩]) (by rfl) (src_one (x := ⟨⟨xk, xa, ns, cs⟩, .slice p3 ns.length c3, .slice p4 cs.length c4⟩) F7_25.out) (rfl) (ONEM.out) (by omega) J25.out.lB ?_
                  intro v26 Y26 hap
                  rw [← cellsX_app] at hap
                  have J26 : Hid (Jn 52 4 W5.heap.size W5 Y26 (v26) (l.length + 1) (cellsX (l ++ [⟨⟨xk, xa, ns, cs⟩, .slice p3 ns.length c3, .slice p4 cs.length c4⟩]))) := J25.out.app hap
                  have F10_26 : Hid (Fr W5.heap.size Y26 (v26) G20 33 [.int .i64 0, .int .i64 0, .slice none 0 0]) := F10_25.out.app hap
                  have F7_26 : Hid (Fr W5.heap.size Y26 (v26) G24 52 [.int .i64 xk, .int .i64 xa, .slice p3 ns.length c3, .slice p4 cs.length c4]) := F7_25.out.app hap
                  clear hap
                  obtain ⟨pj26, cj26, hvj⟩ := J26.out.slice
                  subst hvj
                  refine hK.out _ _ (J26.out.be) (fun hHeld => ?_)
                  clear hK K
                  try simp only [Act.put, List.setIfInBounds_toArray, List.set_cons_zero, List.set_cons_succ, List.getElem_toArray, List.getElem_cons_zero, List.getElem_cons_succ]
                  refine wpAnyH_take (i := 9) (v := ?_) rfl (by kernel_rfl) (by kernel_rfl) (by kernel_rfl) (fun _ _ _ h => h) (Or.inl ⟨by rfl, ?_⟩) hHeld ?_
                  rotate_left
                  · (intro w hSw; (try dsimp only at hSw); go_simp; try with_reducible rfl)
                  try simp only [Act.put, List.setIfInBounds_toArray, List.set_cons_zero, List.set_cons_succ, List.getElem_toArray, List.getElem_cons_zero, List.getElem_cons_succ]
                  refine wpAnyH_ready (rs := [11]) (by kernel_rfl) (by simp) ?_
                  refine (AllReadyH.cons rfl (fun K hK => ?_) AllReadyH.nil)
                  refine step_of_wp (by rfl) ?_
                  refine wp_store_row 33 (.tmp 12) (.tmp 70) (by rfl) G20 #[.int .i64 k, .int .i64 a, .slice pj26 (l.length + 1) cj26] (by rfl) (by rfl) 33 _ F10_26.out.blk Try.sizeRs rfl (by simp [Value.oneCell']) ?_
                  have JZ : Hid (Jn 52 4 W5.heap.size W5 (Y26.setRow G20 #[.int .i64 k, .int .i64 a, .slice pj26 (l.length + 1) cj26]) (.slice pj26 (l.length + 1) cj26) (l.length + 1) (cellsX (l ++ [⟨⟨xk, xa, ns, cs⟩, .slice p3 ns.length c3, .slice p4 cs.length c4⟩]))) := J26.out.setRow F10_26.out _
                  have KZ : Hid (Blk (Y26.setRow G20 #[.int .i64 k, .int .i64 a, .slice pj26 (l.length + 1) cj26]) G20 33 [.int .i64 k, .int .i64 a, .slice pj26 (l.length + 1) cj26]) := F10_26.out.blk.row _
                  generalize Y26.setRow G20 #[.int .i64 k, .int .i64 a, .slice pj26 (l.length + 1) cj26] = Z at *
                  refine hK.out _ _ (JZ.out.be) (fun hHeld => ?_)
                  clear hK K
                  try simp only [Act.put, List.setIfInBounds_toArray, List.set_cons_zero, List.set_cons_succ, List.getElem_toArray, List.getElem_cons_zero, List.getElem_cons_succ]
                  refine wpAnyH_done (by kernel_rfl) ?_ _
                  go_wp2_with fail
                  go_meet
                  exact ⟨G20, _, _, rfl, KZ.out, JZ.out.rules' (by simp <;> omega) (fun x hx => HY.out _ JZ.out.be x hx), JZ.out.be⟩
            ·
              go_simp
              have J27 : Hid (Jn 52 4 W5.heap.size W5 (Y0.alloc (Obj.cells #[.int .i64 xk, .int .i64 xa, .slice p3 ns.length c3, .slice p4 cs.length c4] 52)) (.slice none 0 0) (0) ([])) := J0.out.over (below_new Y0 _)
              have F7_27 : Hid (Fr W5.heap.size (Y0.alloc (Obj.cells #[.int .i64 xk, .int .i64 xa, .slice p3 ns.length c3, .slice p4 cs.length c4] 52)) (.slice none 0 0) Y0.heap.size 52 [.int .i64 xk, .int .i64 xa, .slice p3 ns.length c3, .slice p4 cs.length c4]) := Fr.new J0.out _
              generalize (Y0.alloc (Obj.cells #[.int .i64 xk, .int .i64 xa, .slice p3 ns.length c3, .slice p4 cs.length c4] 52)) = Y27 at *
              generalize Y0.heap.size = G27 at *
              refine hK.out _ _ (J27.out.be) (fun hHeld => ?_)
              clear hK K
              try simp only [Act.put, List.setIfInBounds_toArray, List.set_cons_zero, List.set_cons_succ, List.getElem_toArray, List.getElem_cons_zero, List.getElem_cons_succ]
              refine wpAnyH_ready (rs := [2, 10]) (by kernel_rfl) (by simp) ?_
              refine (AllReadyH.cons rfl (fun K hK => ?_) (AllReadyH.cons rfl (fun K hK => ?_) AllReadyH.nil))
              ·
                go_simp
                have J28 : Hid (Jn 52 4 W5.heap.size W5 (Y27.alloc (Obj.cells #[] 52)) (.slice (some ⟨Y27.heap.size, 0, none⟩) 0 0) (0) ([])) := Jn.empty J27.out.be J27.out.lB
                have F7_28 : Hid (Fr W5.heap.size (Y27.alloc (Obj.cells #[] 52)) (.slice (some ⟨Y27.heap.size, 0, none⟩) 0 0) G27 52 [.int .i64 xk, .int .i64 xa, .slice p3 ns.length c3, .slice p4 cs.length c4]) := F7_27.out.row _ 0 0
                generalize (Y27.alloc (Obj.cells #[] 52)) = Y28 at *
                generalize Y27.heap.size = G28 at *
                refine hK.out _ _ (J28.out.be) (fun hHeld => ?_)
                clear hK K
                try simp only [Act.put, List.setIfInBounds_toArray, List.set_cons_zero, List.set_cons_succ, List.getElem_toArray, List.getElem_cons_zero, List.getElem_cons_succ]
                refine wpAnyH_ready (rs := [5, 10]) (by kernel_rfl) (by simp) ?_
                refine (AllReadyH.cons rfl (fun K hK => ?_) (AllReadyH.cons rfl (fun K hK => ?_) AllReadyH.nil))
                ·
                  refine step_of_wp (by rfl) ?_
                  refine wp_app_rules (.tmp 63) (.tmp 65) (by rfl) W5.heap.size (.slice (some ⟨G28, 0, none⟩) 0 0) (0) ([]) (by rfl) J28.out.own (.slice p1 l.length c1) (l.length) (l) (by rfl) (src_rules (S5.out.below hHeld) HOV.out) (rfl) (ONE.out) (by omega) J28.out.lB ?_
                  intro v29 Y29 hap
                  rw [Nat.zero_add, List.nil_append] at hap
                  have J29 : Hid (Jn 52 4 W5.heap.size W5 Y29 (v29) (l.length) (cellsX l)) := J28.out.app hap
                  have F7_29 : Hid (Fr W5.heap.size Y29 (v29) G27 52 [.int .i64 xk, .int .i64 xa, .slice p3 ns.length c3, .slice p4 cs.length c4]) := F7_28.out.app hap
                  clear hap
                  obtain ⟨pj29, cj29, hvj⟩ := J29.out.slice
                  subst hvj
                  refine hK.out _ _ (J29.out.be) (fun hHeld => ?_)
                  clear hK K
                  try simp only [Act.put, List.setIfInBounds_toArray, List.set_cons_zero, List.set_cons_succ, List.getElem_toArray, List.getElem_cons_zero, List.getElem_cons_succ]
                  refine wpAnyH_ready (rs := [8, 10]) (by kernel_rfl) (by simp) ?_
                  refine (AllReadyH.cons rfl (fun K hK => ?_) (AllReadyH.cons rfl (fun K hK => ?_) AllReadyH.nil))
                  ·
                    refine step_of_wp (by rfl) ?_
                    refine wp_app_rules (.tmp 66) (.tmp 68) (by rfl) W5.heap.size (.slice pj29 (l.length) cj29) (l.length) (cellsX l) (by rfl) J29.out.own (.slice (some ⟨G27, 0, none⟩) 1 1) (1) ([⟨⟨xk, xa, ns, cs⟩, .slice p3 ns.length c3, .slice p4 cs.length c4⟩]) (by rfl) (src_one (x := ⟨⟨xk, xa, ns, cs⟩, .slice p3 ns.length c3, .slice p4 cs.length c4⟩) F7_29.out) (rfl) (ONEM.out) (by omega) J29.out.lB ?_
                    intro v30 Y30 hap
                    rw [← cellsX_app] at hap
                    have J30 : Hid (Jn 52 4 W5.heap.size W5 Y30 (v30) (l.length + 1) (cellsX (l ++ [⟨⟨xk, xa, ns, cs⟩, .slice p3 ns.length c3, .slice p4 cs.length c4⟩]))) := J29.out.app hap
                    have F7_30 : Hid (Fr W5.heap.size Y30 (v30) G27 52 [.int .i64 xk, .int .i64 xa, .slice p3 ns.length c3, .slice p4 cs.length c4]) := F7_29.out.app hap
                    clear hap
                    obtain ⟨pj30, cj30, hvj⟩ := J30.out.slice
                    subst hvj
                    refine hK.out _ _ (J30.out.be) (fun hHeld => ?_)
                    clear hK K
                    try simp only [Act.put, List.setIfInBounds_toArray, List.set_cons_zero, List.set_cons_succ, List.getElem_toArray, List.getElem_cons_zero, List.getElem_cons_succ]
                    refine wpAnyH_take (i := 9) (v := ?_) rfl (by kernel_rfl) (by kernel_rfl) (by kernel_rfl) (fun _ _ _ h => h) (Or.inl ⟨by rfl, ?_⟩) hHeld ?_
                    rotate_left
                    · (intro w hSw; (try dsimp only at hSw); go_simp; try with_reducible rfl)
                    try simp only [Act.put, List.setIfInBounds_toArray, List.set_cons_zero, List.set_cons_succ, List.getElem_toArray, List.getElem_cons_zero, List.getElem_cons_succ]
                    refine wpAnyH_ready (rs := [10]) (by kernel_rfl) (by simp) ?_
                    refine (AllReadyH.cons rfl (fun K hK => ?_) AllReadyH.nil)
                    go_simp
                    have J31 : Hid (Jn 52 4 W5.heap.size W5 (Y30.alloc (Obj.cells #[.int .i64 0, .int .i64 0, .slice none 0 0] 33)) (.slice pj30 (l.length + 1) cj30) (l.length + 1) (cellsX (l ++ [⟨⟨xk, xa, ns, cs⟩, .slice p3 ns.length c3, .slice p4 cs.length c4⟩]))) := J30.out.over (below_new Y30 _)
                    have F7_31 : Hid (Fr W5.heap.size (Y30.alloc (Obj.cells #[.int .i64 0, .int .i64 0, .slice none 0 0] 33)) (.slice pj30 (l.length + 1) cj30) G27 52 [.int .i64 xk, .int .i64 xa, .slice p3 ns.length c3, .slice p4 cs.length c4]) := F7_30.out.over (below_new Y30 _)
                    have F10_31 : Hid (Fr W5.heap.size (Y30.alloc (Obj.cells #[.int .i64 0, .int .i64 0, .slice none 0 0] 33)) (.slice pj30 (l.length + 1) cj30) Y30.heap.size 33 [.int .i64 0, .int .i64 0, .slice none 0 0]) := Fr.new J30.out _
                    generalize (Y30.alloc (Obj.cells #[.int .i64 0, .int .i64 0, .slice none 0 0] 33)) = Y31 at *
                    generalize Y30.heap.size = G31 at *
                    refine hK.out _ _ (J31.out.be) (fun hHeld => ?_)
                    clear hK K
                    try simp only [Act.put, List.setIfInBounds_toArray, List.set_cons_zero, List.set_cons_succ, List.getElem_toArray, List.getElem_cons_zero, List.getElem_cons_succ]
                    refine wpAnyH_ready (rs := [11]) (by kernel_rfl) (by simp) ?_
                    refine (AllReadyH.cons rfl (fun K hK => ?_) AllReadyH.nil)
                    refine step_of_wp (by rfl) ?_
                    refine wp_store_row 33 (.tmp 12) (.tmp 70) (by rfl) G31 #[.int .i64 k, .int .i64 a, .slice pj30 (l.length + 1) cj30] (by rfl) (by rfl) 33 _ F10_31.out.blk Try.sizeRs rfl (by simp [Value.oneCell']) ?_
                    have JZ : Hid (Jn 52 4 W5.heap.size W5 (Y31.setRow G31 #[.int .i64 k, .int .i64 a, .slice pj30 (l.length + 1) cj30]) (.slice pj30 (l.length + 1) cj30) (l.length + 1) (cellsX (l ++ [⟨⟨xk, xa, ns, cs⟩, .slice p3 ns.length c3, .slice p4 cs.length c4⟩]))) := J31.out.setRow F10_31.out _
                    have KZ : Hid (Blk (Y31.setRow G31 #[.int .i64 k, .int .i64 a, .slice pj30 (l.length + 1) cj30]) G31 33 [.int .i64 k, .int .i64 a, .slice pj30 (l.length + 1) cj30]) := F10_31.out.blk.row _
                    generalize Y31.setRow G31 #[.int .i64 k, .int .i64 a, .slice pj30 (l.length + 1) cj30] = Z at *
                    refine hK.out _ _ (JZ.out.be) (fun hHeld => ?_)
                    clear hK K
                    try simp only [Act.put, List.setIfInBounds_toArray, List.set_cons_zero, List.set_cons_succ, List.getElem_toArray, List.getElem_cons_zero, List.getElem_cons_succ]
                    refine wpAnyH_done (by kernel_rfl) ?_ _
                    go_wp2_with fail
                    go_meet
                    exact ⟨G31, _, _, rfl, KZ.out, JZ.out.rules' (by simp <;> omega) (fun x hx => HY.out _ JZ.out.be x hx), JZ.out.be⟩
                  ·
                    go_simp
                    have J32 : Hid (Jn 52 4 W5.heap.size W5 (Y29.alloc (Obj.cells #[.int .i64 0, .int .i64 0, .slice none 0 0] 33)) (.slice pj29 (l.length) cj29) (l.length) (cellsX l)) := J29.out.over (below_new Y29 _)
                    have F7_32 : Hid (Fr W5.heap.size (Y29.alloc (Obj.cells #[.int .i64 0, .int .i64 0, .slice none 0 0] 33)) (.slice pj29 (l.length) cj29) G27 52 [.int .i64 xk, .int .i64 xa, .slice p3 ns.length c3, .slice p4 cs.length c4]) := F7_29.out.over (below_new Y29 _)
                    have F10_32 : Hid (Fr W5.heap.size (Y29.alloc (Obj.cells #[.int .i64 0, .int .i64 0, .slice none 0 0] 33)) (.slice pj29 (l.length) cj29) Y29.heap.size 33 [.int .i64 0, .int .i64 0, .slice none 0 0]) := Fr.new J29.out _
                    generalize (Y29.alloc (Obj.cells #[.int .i64 0, .int .i64 0, .slice none 0 0] 33)) = Y32 at *
                    generalize Y29.heap.size = G32 at *
                    refine hK.out _ _ (J32.out.be) (fun hHeld => ?_)
                    clear hK K
                    try simp only [Act.put, List.setIfInBounds_toArray, List.set_cons_zero, List.set_cons_succ, List.getElem_toArray, List.getElem_cons_zero, List.getElem_cons_succ]
                    refine wpAnyH_ready (rs := [8]) (by kernel_rfl) (by simp) ?_
                    refine (AllReadyH.cons rfl (fun K hK => ?_) AllReadyH.nil)
                    refine step_of_wp (by rfl) ?_
                    refine wp_app_rules (.tmp 66) (.tmp 68) (by rfl) W5.heap.size (.slice pj29 (l.length) cj29) (l.length) (cellsX l) (by rfl) J32.out.own (.slice (some ⟨G27, 0, none⟩) 1 1) (1) ([⟨⟨xk, xa, ns, cs⟩, .slice p3 ns.length c3, .slice p4 cs.length c4⟩]) (by rfl) (src_one (x := ⟨⟨xk, xa, ns, cs⟩, .slice p3 ns.length c3, .slice p4 cs.length c4⟩) F7_32.out) (rfl) (ONEM.out) (by omega) J32.out.lB ?_
                    intro v33 Y33 hap
                    rw [← cellsX_app] at hap
                    have J33 : Hid (Jn 52 4 W5.heap.size W5 Y33 (v33) (l.length + 1) (cellsX (l ++ [⟨⟨xk, xa, ns, cs⟩, .slice p3 ns.length c3, .slice p4 cs.length c4⟩]))) := J32.out.app hap
                    have F7_33 : Hid (Fr W5.heap.size Y33 (v33) G27 52 [.int .i64 xk, .int .i64 xa, .slice p3 ns.length c3, .slice p4 cs.length c4]) := F7_32.out.app hap
                    have F10_33 : Hid (Fr W5.heap.size Y33 (v33) G32 33 [.int .i64 0, .int .i64 0, .slice none 0 0]) := F10_32.out.app hap
                    clear hap
                    obtain ⟨pj33, cj33, hvj⟩ := J33.out.slice
                    subst hvj
                    refine hK.out _ _ (J33.out.be) (fun hHeld => ?_)
                    clear hK K
                    try simp only [Act.put, List.setIfInBounds_toArray, List.set_cons_zero, List.set_cons_succ, List.getElem_toArray, List.getElem_cons_zero, List.getElem_cons_succ]
                    refine wpAnyH_take (i := 9) (v := ?_) rfl (by kernel_rfl) (by kernel_rfl) (by kernel_rfl) (fun _ _ _ h => h) (Or.inl ⟨by rfl, ?_⟩) hHeld ?_
                    rotate_left
                    · (intro w hSw; (try dsimp only at hSw); go_simp; try with_reducible rfl)
                    try simp only [Act.put, List.setIfInBounds_toArray, List.set_cons_zero, List.set_cons_succ, List.getElem_toArray, List.getElem_cons_zero, List.getElem_cons_succ]
                    refine wpAnyH_ready (rs := [11]) (by kernel_rfl) (by simp) ?_
                    refine (AllReadyH.cons rfl (fun K hK => ?_) AllReadyH.nil)
                    refine step_of_wp (by rfl) ?_
                    refine wp_store_row 33 (.tmp 12) (.tmp 70) (by rfl) G32 #[.int .i64 k, .int .i64 a, .slice pj33 (l.length + 1) cj33] (by rfl) (by rfl) 33 _ F10_33.out.blk Try.sizeRs rfl (by simp [Value.oneCell']) ?_
                    have JZ : Hid (Jn 52 4 W5.heap.size W5 (Y33.setRow G32 #[.int .i64 k, .int .i64 a, .slice pj33 (l.length + 1) cj33]) (.slice pj33 (l.length + 1) cj33) (l.length + 1) (cellsX (l ++ [⟨⟨xk, xa, ns, cs⟩, .slice p3 ns.length c3, .slice p4 cs.length c4⟩]))) := J33.out.setRow F10_33.out _
                    have KZ : Hid (Blk (Y33.setRow G32 #[.int .i64 k, .int .i64 a, .slice pj33 (l.length + 1) cj33]) G32 33 [.int .i64 k, .int .i64 a, .slice pj33 (l.length + 1) cj33]) := F10_33.out.blk.row _
                    generalize Y33.setRow G32 #[.int .i64 k, .int .i64 a, .slice pj33 (l.length + 1) cj33] = Z at *
                    refine hK.out _ _ (JZ.out.be) (fun hHeld => ?_)
                    clear hK K
                    try simp only [Act.put, List.setIfInBounds_toArray, List.set_cons_zero, List.set_cons_succ, List.getElem_toArray, List.getElem_cons_zero, List.getElem_cons_succ]
                    refine wpAnyH_done (by kernel_rfl) ?_ _
                    go_wp2_with fail
                    go_meet
                    exact ⟨G32, _, _, rfl, KZ.out, JZ.out.rules' (by simp <;> omega) (fun x hx => HY.out _ JZ.out.be x hx), JZ.out.be⟩
                ·
                  go_simp
                  have J34 : Hid (Jn 52 4 W5.heap.size W5 (Y28.alloc (Obj.cells #[.int .i64 0, .int .i64 0, .slice none 0 0] 33)) (.slice (some ⟨G28, 0, none⟩) 0 0) (0) ([])) := J28.out.over (below_new Y28 _)
                  have F7_34 : Hid (Fr W5.heap.size (Y28.alloc (Obj.cells #[.int .i64 0, .int .i64 0, .slice none 0 0] 33)) (.slice (some ⟨G28, 0, none⟩) 0 0) G27 52 [.int .i64 xk, .int .i64 xa, .slice p3 ns.length c3, .slice p4 cs.length c4]) := F7_28.out.over (below_new Y28 _)
                  have F10_34 : Hid (Fr W5.heap.size (Y28.alloc (Obj.cells #[.int .i64 0, .int .i64 0, .slice none 0 0] 33)) (.slice (some ⟨G28, 0, none⟩) 0 0) Y28.heap.size 33 [.int .i64 0, .int .i64 0, .slice none 0 0]) := Fr.new J28.out _
                  generalize (Y28.alloc (Obj.cells #[.int .i64 0, .int .i64 0, .slice none 0 0] 33)) = Y34 at *
                  generalize Y28.heap.size = G34 at *
                  refine hK.out _ _ (J34.out.be) (fun hHeld => ?_)
                  clear hK K
                  try simp only [Act.put, List.setIfInBounds_toArray, List.set_cons_zero, List.set_cons_succ, List.getElem_toArray, List.getElem_cons_zero, List.getElem_cons_succ]
                  refine wpAnyH_ready (rs := [5]) (by kernel_rfl) (by simp) ?_
                  refine (AllReadyH.cons rfl (fun K hK => ?_) AllReadyH.nil)
                  refine step_of_wp (by rfl) ?_
                  refine wp_app_rules (.tmp 63) (.tmp 65) (by rfl) W5.heap.size (.slice (some ⟨G28, 0, none⟩) 0 0) (0) ([]) (by rfl) J34.out.own (.slice p1 l.length c1) (l.length) (l) (by rfl) (src_rules (S5.out.below hHeld) HOV.out) (rfl) (ONE.out) (by omega) J34.out.lB ?_
                  intro v35 Y35 hap
                  rw [Nat.zero_add, List.nil_append] at hap
                  have J35 : Hid (Jn 52 4 W5.heap.size W5 Y35 (v35) (l.length) (cellsX l)) := J34.out.app hap
                  have F7_35 : Hid (Fr W5.heap.size Y35 (v35) G27 52 [.int .i64 xk, .int .i64 xa, .slice p3 ns.length c3, .slice p4 cs.length c4]) := F7_34.out.app hap
                  have F10_35 : Hid (Fr W5.heap.size Y35 (v35) G34 33 [.int .i64 0, .int .i64 0, .slice none 0 0]) := F10_34.out.app hap
                  clear hap
                  obtain ⟨pj35, cj35, hvj⟩ := J35.out.slice
                  subst hvj
                  refine hK.out _ _ (J35.out.be) (fun hHeld => ?_)
                  clear hK K
                  try simp only [Act.put, List.setIfInBounds_toArray, List.set_cons_zero, List.set_cons_succ, List.getElem_toArray, List.getElem_cons_zero, List.getElem_cons_succ]
                  refine wpAnyH_ready (rs := [8]) (by kernel_rfl) (by simp) ?_
                  refine (AllReadyH.cons rfl (fun K hK => ?_) AllReadyH.nil)
                  refine step_of_wp (by rfl) ?_
                  refine wp_app_rules (.tmp 66) (.tmp 68) (by rfl) W5.heap.size (.slice pj35 (l.length) cj35) (l.length) (cellsX l) (by rfl) J35.out.own (.slice (some ⟨G27, 0, none⟩) 1 1) (1) ([⟨⟨xk, xa, ns, cs⟩, .slice p3 ns.length c3, .slice p4 cs.length c4⟩]) (by rfl) (src_one (x := ⟨⟨xk, xa, ns, cs⟩, .slice p3 ns.length c3, .slice p4 cs.length c4⟩) F7_35.out) (rfl) (ONEM.out) (by omega) J35.out.lB ?_
                  intro v36 Y36 hap
                  rw [← cellsX_app] at hap
                  have J36 : Hid (Jn 52 4 W5.heap.size W5 Y36 (v36) (l.length + 1) (cellsX (l ++ [⟨⟨xk, xa, ns, cs⟩, .slice p3 ns.length c3, .slice p4 cs.length c4⟩]))) := J35.out.app hap
                  have F7_36 : Hid (Fr W5.heap.size Y36 (v36) G27 52 [.int .i64 xk, .int .i64 xa, .slice p3 ns.length c3, .slice p4 cs.length c4]) := F7_35.out.app hap
                  have F10_36 : Hid (Fr W5.heap.size Y36 (v36) G34 33 [.int .i64 0, .int .i64 0, .slice none 0 0]) := F10_35.out.app hap
                  clear hap
                  obtain ⟨pj36, cj36, hvj⟩ := J36.out.slice
                  subst hvj
                  refine hK.out _ _ (J36.out.be) (fun hHeld => ?_)
                  clear hK K
                  try simp only [Act.put, List.setIfInBounds_toArray, List.set_cons_zero, List.set_cons_succ, List.getElem_toArray, List.getElem_cons_zero, List.getElem_cons_succ]
                  refine wpAnyH_take (i := 9) (v := ?_) rfl (by kernel_rfl) (by kernel_rfl) (by kernel_rfl) (fun _ _ _ h => h) (Or.inl ⟨by rfl, ?_⟩) hHeld ?_
                  rotate_left
                  · (intro w hSw; (try dsimp only at hSw); go_simp; try with_reducible rfl)
                  try simp only [Act.put, List.setIfInBounds_toArray, List.set_cons_zero, List.set_cons_succ, List.getElem_toArray, List.getElem_cons_zero, List.getElem_cons_succ]
                  refine wpAnyH_ready (rs := [11]) (by kernel_rfl) (by simp) ?_
                  refine (AllReadyH.cons rfl (fun K hK => ?_) AllReadyH.nil)
                  refine step_of_wp (by rfl) ?_
                  refine wp_store_row 33 (.tmp 12) (.tmp 70) (by rfl) G34 #[.int .i64 k, .int .i64 a, .slice pj36 (l.length + 1) cj36] (by rfl) (by rfl) 33 _ F10_36.out.blk Try.sizeRs rfl (by simp [Value.oneCell']) ?_
                  have JZ : Hid (Jn 52 4 W5.heap.size W5 (Y36.setRow G34 #[.int .i64 k, .int .i64 a, .slice pj36 (l.length + 1) cj36]) (.slice pj36 (l.length + 1) cj36) (l.length + 1) (cellsX (l ++ [⟨⟨xk, xa, ns, cs⟩, .slice p3 ns.length c3, .slice p4 cs.length c4⟩]))) := J36.out.setRow F10_36.out _
                  have KZ : Hid (Blk (Y36.setRow G34 #[.int .i64 k, .int .i64 a, .slice pj36 (l.length + 1) cj36]) G34 33 [.int .i64 k, .int .i64 a, .slice pj36 (l.length + 1) cj36]) := F10_36.out.blk.row _
                  generalize Y36.setRow G34 #[.int .i64 k, .int .i64 a, .slice pj36 (l.length + 1) cj36] = Z at *
                  refine hK.out _ _ (JZ.out.be) (fun hHeld => ?_)
                  clear hK K
                  try simp only [Act.put, List.setIfInBounds_toArray, List.set_cons_zero, List.set_cons_succ, List.getElem_toArray, List.getElem_cons_zero, List.getElem_cons_succ]
                  refine wpAnyH_done (by kernel_rfl) ?_ _
                  go_wp2_with fail
                  go_meet
                  exact ⟨G34, _, _, rfl, KZ.out, JZ.out.rules' (by simp <;> omega) (fun x hx => HY.out _ JZ.out.be x hx), JZ.out.be⟩
              ·
                go_simp
                have J37 : Hid (Jn 52 4 W5.heap.size W5 (Y27.alloc (Obj.cells #[.int .i64 0, .int .i64 0, .slice none 0 0] 33)) (.slice none 0 0) (0) ([])) := J27.out.over (below_new Y27 _)
                have F7_37 : Hid (Fr W5.heap.size (Y27.alloc (Obj.cells #[.int .i64 0, .int .i64 0, .slice none 0 0] 33)) (.slice none 0 0) G27 52 [.int .i64 xk, .int .i64 xa, .slice p3 ns.length c3, .slice p4 cs.length c4]) := F7_27.out.over (below_new Y27 _)
                have F10_37 : Hid (Fr W5.heap.size (Y27.alloc (Obj.cells #[.int .i64 0, .int .i64 0, .slice none 0 0] 33)) (.slice none 0 0) Y27.heap.size 33 [.int .i64 0, .int .i64 0, .slice none 0 0]) := Fr.new J27.out _
                generalize (Y27.alloc (Obj.cells #[.int .i64 0, .int .i64 0, .slice none 0 0] 33)) = Y37 at *
                generalize Y27.heap.size = G37 at *
                refine hK.out _ _ (J37.out.be) (fun hHeld => ?_)
                clear hK K
                try simp only [Act.put, List.setIfInBounds_toArray, List.set_cons_zero, List.set_cons_succ, List.getElem_toArray, List.getElem_cons_zero, List.getElem_cons_succ]
                refine wpAnyH_ready (rs := [2]) (by kernel_rfl) (by simp) ?_
                refine (AllReadyH.cons rfl (fun K hK => ?_) AllReadyH.nil)
                go_simp
                have J38 : Hid (Jn 52 4 W5.heap.size W5 (Y37.alloc (Obj.cells #[] 52)) (.slice (some ⟨Y37.heap.size, 0, none⟩) 0 0) (0) ([])) := Jn.empty J37.out.be J37.out.lB
                have F7_38 : Hid (Fr W5.heap.size (Y37.alloc (Obj.cells #[] 52)) (.slice (some ⟨Y37.heap.size, 0, none⟩) 0 0) G27 52 [.int .i64 xk, .int .i64 xa, .slice p3 ns.length c3, .slice p4 cs.length c4]) := F7_37.out.row _ 0 0
                have F10_38 : Hid (Fr W5.heap.size (Y37.alloc (Obj.cells #[] 52)) (.slice (some ⟨Y37.heap.size, 0, none⟩) 0 0) G37 33 [.int .i64 0, .int .i64 0, .slice none 0 0]) := F10_37.out.row _ 0 0
                generalize (Y37.alloc (Obj.cells #[] 52)) = Y38 at *
                generalize Y37.heap.size = G38 at *
                refine hK.out _ _ (J38.out.be) (fun hHeld => ?_)
                clear hK K
                try simp only [Act.put, List.setIfInBounds_toArray, List.set_cons_zero, List.set_cons_succ, List.getElem_toArray, List.getElem_cons_zero, List.getElem_cons_succ]
                refine wpAnyH_ready (rs := [5]) (by kernel_rfl) (by simp) ?_
                refine (AllReadyH.cons rfl (fun K hK => ?_) AllReadyH.nil)
                refine step_of_wp (by rfl) ?_
                refine wp_app_rules (.tmp 63) (.tmp 65) (by rfl) W5.heap.size (.slice (some ⟨G38, 0, none⟩) 0 0) (0) ([]) (by rfl) J38.out.own (.slice p1 l.length c1) (l.length) (l) (by rfl) (src_rules (S5.out.below hHeld) HOV.out) (rfl) (ONE.out) (by omega) J38.out.lB ?_
                intro v39 Y39 hap
                rw [Nat.zero_add, List.nil_append] at hap
                have J39 : Hid (Jn 52 4 W5.heap.size W5 Y39 (v39) (l.length) (cellsX l)) := J38.out.app hap
                have F7_39 : Hid (Fr W5.heap.size Y39 (v39) G27 52 [.int .i64 xk, .int .i64 xa, .slice p3 ns.length c3, .slice p4 cs.length c4]) := F7_38.out.app hap
                have F10_39 : Hid (Fr W5.heap.size Y39 (v39) G37 33 [.int .i64 0, .int .i64 0, .slice none 0 0]) := F10_38.out.app hap
                clear hap
                obtain ⟨pj39, cj39, hvj⟩ := J39.out.slice
                subst hvj
                refine hK.out _ _ (J39.out.be) (fun hHeld => ?_)
                clear hK K
                try simp only [Act.put, List.setIfInBounds_toArray, List.set_cons_zero, List.set_cons_succ, List.getElem_toArray, List.getElem_cons_zero, List.getElem_cons_succ]
                refine wpAnyH_ready (rs := [8]) (by kernel_rfl) (by simp) ?_
                refine (AllReadyH.cons rfl (fun K hK => ?_) AllReadyH.nil)
                refine step_of_wp (by rfl) ?_
                refine wp_app_rules (.tmp 66) (.tmp 68) (by rfl) W5.heap.size (.slice pj39 (l.length) cj39) (l.length) (cellsX l) (by rfl) J39.out.own (.slice (some ⟨G27, 0, none⟩) 1 1) (1) ([⟨⟨xk, xa, ns, cs⟩, .slice p3 ns.length c3, .slice p4 cs.length c4⟩]) (by rfl) (src_one (x := ⟨⟨xk, xa, ns, cs⟩, .slice p3 ns.length c3, .slice p4 cs.length c4⟩) F7_39.out) (rfl) (ONEM.out) (by omega) J39.out.lB ?_
                intro v40 Y40 hap
                rw [← cellsX_app] at hap
                have J40 : Hid (Jn 52 4 W5.heap.size W5 Y40 (v40) (l.length + 1) (cellsX (l ++ [⟨⟨xk, xa, ns, cs⟩, .slice p3 ns.length c3, .slice p4 cs.length c4⟩]))) := J39.out.app hap
                have F7_40 : Hid (Fr W5.heap.size Y40 (v40) G27 52 [.int .i64 xk, .int .i64 xa, .slice p3 ns.length c3, .slice p4 cs.length c4]) := F7_39.out.app hap
                have F10_40 : Hid (Fr W5.heap.size Y40 (v40) G37 33 [.int .i64 0, .int .i64 0, .slice none 0 0]) := F10_39.out.app hap
                clear hap
                obtain ⟨pj40, cj40, hvj⟩ := J40.out.slice
                subst hvj
                refine hK.out _ _ (J40.out.be) (fun hHeld => ?_)
                clear hK K
                try simp only [Act.put, List.setIfInBounds_toArray, List.set_cons_zero, List.set_cons_succ, List.getElem_toArray, List.getElem_cons_zero, List.getElem_cons_succ]
                refine wpAnyH_take (i := 9) (v := ?_) rfl (by kernel_rfl) (by kernel_rfl) (by kernel_rfl) (fun _ _ _ h => h) (Or.inl ⟨by rfl, ?_⟩) hHeld ?_
                rotate_left
                · (intro w hSw; (try dsimp only at hSw); go_simp; try with_reducible rfl)
                try simp only [Act.put, List.setIfInBounds_toArray, List.set_cons_zero, List.set_cons_succ, List.getElem_toArray, List.getElem_cons_zero, List.getElem_cons_succ]
                refine wpAnyH_ready (rs := [11]) (by kernel_rfl) (by simp) ?_
                refine (AllReadyH.cons rfl (fun K hK => ?_) AllReadyH.nil)
                refine step_of_wp (by rfl) ?_
                refine wp_store_row 33 (.tmp 12) (.tmp 70) (by rfl) G37 #[.int .i64 k, .int .i64 a, .slice pj40 (l.length + 1) cj40] (by rfl) (by rfl) 33 _ F10_40.out.blk Try.sizeRs rfl (by simp [Value.oneCell']) ?_
                have JZ : Hid (Jn 52 4 W5.heap.size W5 (Y40.setRow G37 #[.int .i64 k, .int .i64 a, .slice pj40 (l.length + 1) cj40]) (.slice pj40 (l.length + 1) cj40) (l.length + 1) (cellsX (l ++ [⟨⟨xk, xa, ns, cs⟩, .slice p3 ns.length c3, .slice p4 cs.length c4⟩]))) := J40.out.setRow F10_40.out _
                have KZ : Hid (Blk (Y40.setRow G37 #[.int .i64 k, .int .i64 a, .slice pj40 (l.length + 1) cj40]) G37 33 [.int .i64 k, .int .i64 a, .slice pj40 (l.length + 1) cj40]) := F10_40.out.blk.row _
                generalize Y40.setRow G37 #[.int .i64 k, .int .i64 a, .slice pj40 (l.length + 1) cj40] = Z at *
                refine hK.out _ _ (JZ.out.be) (fun hHeld => ?_)
                clear hK K
                try simp only [Act.put, List.setIfInBounds_toArray, List.set_cons_zero, List.set_cons_succ, List.getElem_toArray, List.getElem_cons_zero, List.getElem_cons_succ]
                refine wpAnyH_done (by kernel_rfl) ?_ _
                go_wp2_with fail
                go_meet
                exact ⟨G37, _, _, rfl, KZ.out, JZ.out.rules' (by simp <;> omega) (fun x hx => HY.out _ JZ.out.be x hx), JZ.out.be⟩
            ·
              go_simp
              have J41 : Hid (Jn 52 4 W5.heap.size W5 (Y0.alloc (Obj.cells #[.int .i64 0, .int .i64 0, .slice none 0 0] 33)) (.slice none 0 0) (0) ([])) := J0.out.over (below_new Y0 _)
              have F10_41 : Hid (Fr W5.heap.size (Y0.alloc (Obj.cells #[.int .i64 0, .int .i64 0, .slice none 0 0] 33)) (.slice none 0 0) Y0.heap.size 33 [.int .i64 0, .int .i64 0, .slice none 0 0]) := Fr.new J0.out _
              generalize (Y0.alloc (Obj.cells #[.int .i64 0, .int .i64 0, .slice none 0 0] 33)) = Y41 at *
              generalize Y0.heap.size = G41 at *
              refine hK.out _ _ (J41.out.be) (fun hHeld => ?_)
              clear hK K
              try simp only [Act.put, List.setIfInBounds_toArray, List.set_cons_zero, List.set_cons_succ, List.getElem_toArray, List.getElem_cons_zero, List.getElem_cons_succ]
              refine wpAnyH_ready (rs := [2, 7]) (by kernel_rfl) (by simp) ?_
              refine (AllReadyH.cons rfl (fun K hK => ?_) (AllReadyH.cons rfl (fun K hK => ?_) AllReadyH.nil))
              ·
                go_simp
                have J42 : Hid (Jn 52 4 W5.heap.size W5 (Y41.alloc (Obj.cells #[] 52)) (.slice (some ⟨Y41.heap.size, 0, none⟩) 0 0) (0) ([])) := Jn.empty J41.out.be J41.out.lB
                have F10_42 : Hid (Fr W5.heap.size (Y41.alloc (Obj.cells #[] 52)) (.slice (some ⟨Y41.heap.size, 0, none⟩) 0 0) G41 33 [.int .i64 0, .int .i64 0, .slice none 0 0]) := F10_41.out.row _ 0 0
                generalize (Y41.alloc (Obj.cells #[] 52)) = Y42 at *
                generalize Y41.heap.size = G42 at *
                refine hK.out _ _ (J42.out.be) (fun hHeld => ?_)
                clear hK K
                try simp only [Act.put, List.setIfInBounds_toArray, List.set_cons_zero, List.set_cons_succ, List.getElem_toArray, List.getElem_cons_zero, List.getElem_cons_succ]
                refine wpAnyH_ready (rs := [5, 7]) (by kernel_rfl) (by simp) ?_
                refine (AllReadyH.cons rfl (fun K hK => ?_) (AllReadyH.cons rfl (fun K hK => ?_) AllReadyH.nil))
                ·
                  refine step_of_wp (by rfl) ?_
                  refine wp_app_rules (.tmp 63) (.tmp 65) (by rfl) W5.heap.size (.slice (some ⟨G42, 0, none⟩) 0 0) (0) ([]) (by rfl) J42.out.own (.slice p1 l.length c1) (l.length) (l) (by rfl) (src_rules (S5.out.below hHeld) HOV.out) (rfl) (ONE.out) (by omega) J42.out.lB ?_
                  intro v43 Y43 hap
                  rw [Nat.zero_add, List.nil_append] at hap
                  have J43 : Hid (Jn 52 4 W5.heap.size W5 Y43 (v43) (l.length) (cellsX l)) := J42.out.app hap
                  have F10_43 : Hid (Fr W5.heap.size Y43 (v43) G41 33 [.int .i64 0, .int .i64 0, .slice none 0 0]) := F10_42.out.app hap
                  clear hap
                  obtain ⟨pj43, cj43, hvj⟩ := J43.out.slice
                  subst hvj
                  refine hK.out _ _ (J43.out.be) (fun hHeld => ?_)
                  clear hK K
                  try simp only [Act.put, List.setIfInBounds_toArray, List.set_cons_zero, List.set_cons_succ, List.getElem_toArray, List.getElem_cons_zero, List.getElem_cons_succ]
                  refine wpAnyH_ready (rs := [7]) (by kernel_rfl) (by simp) ?_
                  refine (AllReadyH.cons rfl (fun K hK => ?_) AllReadyH.nil)
                  go_simp
                  have J44 : Hid (Jn 52 4 W5.heap.size W5 (Y43.alloc (Obj.cells #[.int .i64 xk, .int .i64 xa, .slice p3 ns.length c3, .slice p4 cs.length c4] 52)) (.slice pj43 (l.length) cj43) (l.length) (cellsX l)) := J43.out.over (below_new Y43 _)
                  have F10_44 : Hid (Fr W5.heap.size (Y43.alloc (Obj.cells #[.int .i64 xk, .int .i64 xa, .slice p3 ns.length c3, .slice p4 cs.length c4] 52)) (.slice pj43 (l.length) cj43) G41 33 [.int .i64 0, .int .i64 0, .slice none 0 0]) := F10_43.out.over (below_new Y43 _)
                  have F7_44 : Hid (Fr W5.heap.size (Y43.alloc (Obj.cells #[.int .i64 xk, .int .i64 xa, .slice p3 ns.length c3, .slice p4 cs.length c4] 52)) (.slice pj43 (l.length) cj43) Y43.heap.size 52 [.int .i64 xk, .int .i64 xa, .slice p3 ns.length c3, .slice p4 cs.length c4]) := Fr.new J43.out _
                  generalize (Y43.alloc (Obj.cells #[.int .i64 xk, .int .i64 xa, .slice p3 ns.length c3, .slice p4 cs.length c4] 52)) = Y44 at *
                  generalize Y43.heap.size = G44 at *
                  refine hK.out _ _ (J44.out.be) (fun hHeld => ?_)
                  clear hK K
                  try simp only [Act.put, List.setIfInBounds_toArray, List.set_cons_zero, List.set_cons_succ, List.getElem_toArray, List.getElem_cons_zero, List.getElem_cons_succ]
                  refine wpAnyH_ready (rs := [8]) (by kernel_rfl) (by simp) ?_
                  refine (AllReadyH.cons rfl (fun K hK => ?_) AllReadyH.nil)
                  refine step_of_wp (by rfl) ?_
                  refine wp_app_rules (.tmp 66) (.tmp 68) (by rfl) W5.heap.size (.slice pj43 (l.length) cj43) (l.length) (cellsX l) (by rfl) J44.out.own (.slice (some ⟨G44, 0, none⟩) 1 1) (1) ([⟨⟨xk, xa, ns, cs⟩, .slice p3 ns.length c3, .slice p4 cs.length c4⟩]) (by rfl) (src_one (x := ⟨⟨xk, xa, ns, cs⟩, .slice p3 ns.length c3, .slice p4 cs.length c4⟩) F7_44.out) (rfl) (ONEM.out) (by omega) J44.out.lB ?_
                  intro v45 Y45 hap
                  rw [← cellsX_app] at hap
                  have J45 : Hid (Jn 52 4 W5.heap.size W5 Y45 (v45) (l.length + 1) (cellsX (l ++ [⟨⟨xk, xa, ns, cs⟩, .slice p3 ns.length c3, .slice p4 cs.length c4⟩]))) := J44.out.app hap
                  have F10_45 : Hid (Fr W5.heap.size Y45 (v45) G41 33 [.int .i64 0, .int .i64 0, .slice none 0 0]) := F10_44.out.app hap
                  have F7_45 : Hid (Fr W5.heap.size Y45 (v45) G44 52 [.int .i64 xk, .int .i64 xa, .slice p3 ns.length c3, .slice p4 cs.length c4]) := F7_44.out.app hap
                  clear hap
                  obtain ⟨pj45, cj45, hvj⟩ := J45.out.slice
                  subst hvj
                  refine hK.out _ _ (J45.out.be) (fun hHeld => ?_)
                  clear hK K
                  try simp only [Act.put, List.setIfInBounds_toArray, List.set_cons_zero, List.set_cons_succ, List.getElem_toArray, List.getElem_cons_zero, List.getElem_cons_succ]
                  refine wpAnyH_take (i := 9) (v := ?_) rfl (by kernel_rfl) (by kernel_rfl) (by kernel_rfl) (fun _ _ _ h => h) (Or.inl ⟨by rfl, ?_⟩) hHeld ?_
                  rotate_left
                  · (intro w hSw; (try dsimp only at hSw); go_simp; try with_reducible rfl)
                  try simp only [Act.put, List.setIfInBounds_toArray, List.set_cons_zero, List.set_cons_succ, List.getElem_toArray, List.getElem_cons_zero, List.getElem_cons_succ]
                  refine wpAnyH_ready (rs := [11]) (by kernel_rfl) (by simp) ?_
                  refine (AllReadyH.cons rfl (fun K hK => ?_) AllReadyH.nil)
                  refine step_of_wp (by rfl) ?_
                  refine wp_store_row 33 (.tmp 12) (.tmp 70) (by rfl) G41 #[.int .i64 k, .int .i64 a, .slice pj45 (l.length + 1) cj45] (by rfl) (by rfl) 33 _ F10_45.out.blk Try.sizeRs rfl (by simp [Value.oneCell']) ?_
                  have JZ : Hid (Jn 52 4 W5.heap.size W5 (Y45.setRow G41 #[.int .i64 k, .int .i64 a, .slice pj45 (l.length + 1) cj45]) (.slice pj45 (l.length + 1) cj45) (l.length + 1) (cellsX (l ++ [⟨⟨xk, xa, ns, cs⟩, .slice p3 ns.length c3, .slice p4 cs.length c4⟩]))) := J45.out.setRow F10_45.out _
                  have KZ : Hid (Blk (Y45.setRow G41 #[.int .i64 k, .int .i64 a, .slice pj45 (l.length + 1) cj45]) G41 33 [.int .i64 k, .int .i64 a, .slice pj45 (l.length + 1) cj45]) := F10_45.out.blk.row _
                  generalize Y45.setRow G41 #[.int .i64 k, .int .i64 a, .slice pj45 (l.length + 1) cj45] = Z at *
                  refine hK.out _ _ (JZ.out.be) (fun hHeld => ?_)
                  clear hK K
                  try simp only [Act.put, List.setIfInBounds_toArray, List.set_cons_zero, List.set_cons_succ, List.getElem_toArray, List.getElem_cons_zero, List.getElem_cons_succ]
                  refine wpAnyH_done (by kernel_rfl) ?_ _
                  go_wp2_with fail
                  go_meet
                  exact ⟨G41, _, _, rfl, KZ.out, JZ.out.rules' (by simp <;> omega) (fun x hx => HY.out _ JZ.out.be x hx), JZ.out.be⟩
                ·
                  go_simp
                  have J46 : Hid (Jn 52 4 W5.heap.size W5 (Y42.alloc (Obj.cells #[.int .i64 xk, .int .i64 xa, .slice p3 ns.length c3, .slice p4 cs.length c4] 52)) (.slice (some ⟨G42, 0, none⟩) 0 0) (0) ([])) := J42.out.over (below_new Y42 _)
                  have F10_46 : Hid (Fr W5.heap.size (Y42.alloc (Obj.cells #[.int .i64 xk, .int .i64 xa, .slice p3 ns.length c3, .slice p4 cs.length c4] 52)) (.slice (some ⟨G42, 0, none⟩) 0 0) G41 33 [.int .i64 0, .int .i64 0, .slice none 0 0]) := F10_42.out.over (below_new Y42 _)
                  have F7_46 : Hid (Fr W5.heap.size (Y42.alloc (Obj.cells #[.int .i64 xk, .int .i64 xa, .slice p3 ns.length c3, .slice p4 cs.length c4] 52)) (.slice (some ⟨G42, 0, none⟩) 0 0) Y42.heap.size 52 [.int .i64 xk, .int .i64 xa, .slice p3 ns.length c3, .slice p4 cs.length c4]) := Fr.new J42.out _
                  generalize (Y42.alloc (Obj.cells #[.int .i64 xk, .int .i64 xa, .slice p3 ns.length c3, .slice p4 cs.length c4] 52)) = Y46 at *
                  generalize Y42.heap.size = G46 at *
                  refine hK.out _ _ (J46.out.be) (fun hHeld => ?_)
                  clear hK K
                  try simp only [Act.put, List.setIfInBounds_toArray, List.set_cons_zero, List.set_cons_succ, List.getElem_toArray, List.getElem_cons_zero, List.getElem_cons_succ]
                  refine wpAnyH_ready (rs := [5]) (by kernel_rfl) (by simp) ?_
                  refine (AllReadyH.cons rfl (fun K hK => ?_) AllReadyH.nil)
                  refine step_of_wp (by rfl) ?_
                  refine wp_app_rules (.tmp 63) (.tmp 65) (by rfl) W5.heap.size (.slice (some ⟨G42, 0, none⟩) 0 0) (0) ([]) (by rfl) J46.out.own (.slice p1 l.length c1) (l.length) (l) (by rfl) (src_rules (S5.out.below hHeld) HOV.out) (rfl) (ONE.out) (by omega) J46.out.lB ?_
                  intro v47 Y47 hap
                  rw [Nat.zero_add, List.nil_append] at hap
                  have J47 : Hid (Jn 52 4 W5.heap.size W5 Y47 (v47) (l.length) (cellsX l)) := J46.out.app hap
                  have F10_47 : Hid (Fr W5.heap.size Y47 (v47) G41 33 [.int .i64 0, .int .i64 0, .slice none 0 0]) := F10_46.out.app hap
                  have F7_47 : Hid (Fr W5.heap.size Y47 (v47) G46 52 [.int .i64 xk, .int .i64 xa, .slice p3 ns.length c3, .slice p4 cs.length c4]) := F7_46.out.app hap
                  clear hap
                  obtain ⟨pj47, cj47, hvj⟩ := J47.out.slice
                  subst hvj
                  refine hK.out _ _ (J47.out.be) (fun hHeld => ?_)
                  clear hK K
                  try simp only [Act.put, List.setIfInBounds_toArray, List.set_cons_zero, List.set_cons_succ, List.getElem_toArray, List.getElem_cons_zero, List.getElem_cons_succ]
                  refine wpAnyH_ready (rs := [8]) (by kernel_rfl) (by simp) ?_
                  refine (AllReadyH.cons rfl (fun K hK => ?_) AllReadyH.nil)
                  refine step_of_wp (by rfl) ?_
                  refine wp_app_rules (.tmp 66) (.tmp 68) (by rfl) W5.heap.size (.slice pj47 (l.length) cj47) (l.length) (cellsX l) (by rfl) J47.out.own (.slice (some ⟨G46, 0, none⟩) 1 1) (1) ([⟨⟨xk, xa, ns, cs⟩, .slice p3 ns.length c3, .slice p4 cs.length c4⟩]) (by rfl) (src_one (x := ⟨⟨xk, xa, ns, cs⟩, .slice p3 ns.length c3, .slice p4 cs.length c4⟩) F7_47.out) (rfl) (ONEM.out) (by omega) J47.out.lB ?_
                  intro v48 Y48 hap
                  rw [← cellsX_app] at hap
                  have J48 : Hid (Jn 52 4 W5.heap.size W5 Y48 (v48) (l.length + 1) (cellsX (l ++ [⟨⟨xk, xa, ns, cs⟩, .slice p3 ns.length c3, .slice p4 cs.length c4⟩]))) := J47.out.app hap
                  have F10_48 : Hid (Fr W5.heap.size Y48 (v48) G41 33 [.int .i64 0, .int .i64 0, .slice none 0 0]) := F10_47.out.app hap
                  have F7_48 : Hid (Fr W5.heap.size Y48 (v48) G46 52 [.int .i64 xk, .int .i64 xa, .slice p3 ns.length c3, .slice p4 cs.length c4]) := F7_47.out.app hap
                  clear hap
                  obtain ⟨pj48, cj48, hvj⟩ := J48.out.slice
                  subst hvj
                  refine hK.out _ _ (J48.out.be) (fun hHeld => ?_)
                  clear hK K
                  try simp only [Act.put, List.setIfInBounds_toArray, List.set_cons_zero, List.set_cons_succ, List.getElem_toArray, List.getElem_cons_zero, List.getElem_cons_succ]
                  refine wpAnyH_take (i := 9) (v := ?_) rfl (by kernel_rfl) (by kernel_rfl) (by kernel_rfl) (fun _ _ _ h => h) (Or.inl ⟨by rfl, ?_⟩) hHeld ?_
                  rotate_left
                  · (intro w hSw; (try dsimp only at hSw); go_simp; try with_reducible rfl)
                  try simp only [Act.put, List.setIfInBounds_toArray, List.set_cons_zero, List.set_cons_succ, List.getElem_toArray, List.getElem_cons_zero, List.getElem_cons_succ]
                  refine wpAnyH_ready (rs := [11]) (by kernel_rfl) (by simp) ?_
                  refine (AllReadyH.cons rfl (fun K hK => ?_) AllReadyH.nil)
                  refine step_of_wp (by rfl) ?_
                  refine wp_store_row 33 (.tmp 12) (.tmp 70) (by rfl) G41 #[.int .i64 k, .int .i64 a, .slice pj48 (l.length + 1) cj48] (by rfl) (by rfl) 33 _ F10_48.out.blk Try.sizeRs rfl (by simp [Value.oneCell']) ?_
                  have JZ : Hid (Jn 52 4 W5.heap.size W5 (Y48.setRow G41 #[.int .i64 k, .int .i64 a, .slice pj48 (l.length + 1) cj48]) (.slice pj48 (l.length + 1) cj48) (l.length + 1) (cellsX (l ++ [⟨⟨xk, xa, ns, cs⟩, .slice p3 ns.length c3, .slice p4 cs.length c4⟩]))) := J48.out.setRow F10_48.out _
                  have KZ : Hid (Blk (Y48.setRow G41 #[.int .i64 k, .int .i64 a, .slice pj48 (l.length + 1) cj48]) G41 33 [.int .i64 k, .int .i64 a, .slice pj48 (l.length + 1) cj48]) := F10_48.out.blk.row _
                  generalize Y48.setRow G41 #[.int .i64 k, .int .i64 a, .slice pj48 (l.length + 1) cj48] = Z at *
                  refine hK.out _ _ (JZ.out.be) (fun hHeld => ?_)
                  clear hK K
                  try simp only [Act.put, List.setIfInBounds_toArray, List.set_cons_zero, List.set_cons_succ, List.getElem_toArray, List.getElem_cons_zero, List.getElem_cons_succ]
                  refine wpAnyH_done (by kernel_rfl) ?_ _
                  go_wp2_with fail
                  go_meet
                  exact ⟨G41, _, _, rfl, KZ.out, JZ.out.rules' (by simp <;> omega) (fun x hx => HY.out _ JZ.out.be x hx), JZ.out.be⟩
              ·
                go_simp
                have J49 : Hid (Jn 52 4 W5.heap.size W5 (Y41.alloc (Obj.cells #[.int .i64 xk, .int .i64 xa, .slice p3 ns.length c3, .slice p4 cs.length c4] 52)) (.slice none 0 0) (0) ([])) := J41.out.over (below_new Y41 _)
                have F10_49 : Hid (Fr W5.heap.size (Y41.alloc (Obj.cells #[.int .i64 xk, .int .i64 xa, .slice p3 ns.length c3, .slice p4 cs.length c4] 52)) (.slice none 0 0) G41 33 [.int .i64 0, .int .i64 0, .slice none 0 0]) := F10_41.out.over (below_new Y41 _)
                have F7_49 : Hid (Fr W5.heap.size (Y41.alloc (Obj.cells #[.int .i64 xk, .int .i64 xa, .slice p3 ns.length c3, .slice p4 cs.length c4] 52)) (.slice none 0 0) Y41.heap.size 52 [.int .i64 xk, .int .i64 xa, .slice p3 ns.length c3, .slice p4 cs.length c4]) := Fr.new J41.out _
                generalize (Y41.alloc (Obj.cells #[.int .i64 xk, .int .i64 xa, .slice p3 ns.length c3, .slice p4 cs.length c4] 52)) = Y49 at *
                generalize Y41.heap.size = G49 at *
                refine hK.out _ _ (J49.out.be) (fun hHeld => ?_)
                clear hK K
                try simp only [Act.put, List.setIfInBounds_toArray, List.set_cons_zero, List.set_cons_succ, List.getElem_toArray, List.getElem_cons_zero, List.getElem_cons_succ]
                refine wpAnyH_ready (rs := [2]) (by kernel_rfl) (by simp) ?_
                refine (AllReadyH.cons rfl (fun K hK => ?_) AllReadyH.nil)
                go_simp
                have J50 : Hid (Jn 52 4 W5.heap.size W5 (Y49.alloc (Obj.cells #[] 52)) (.slice (some ⟨Y49.heap.size, 0, none⟩) 0 0) (0) ([])) := Jn.empty J49.out.be J49.out.lB
                have F10_50 : Hid (Fr W5.heap.size (Y49.alloc (Obj.cells #[] 52)) (.slice (some ⟨Y49.heap.size, 0, none⟩) 0 0) G41 33 [.int .i64 0, .int .i64 0, .slice none 0 0]) := F10_49.out.row _ 0 0
                have F7_50 : Hid (Fr W5.heap.size (Y49.alloc (Obj.cells #[] 52)) (.slice (some ⟨Y49.heap.size, 0, none⟩) 0 0) G49 52 [.int .i64 xk, .int .i64 xa, .slice p3 ns.length c3, .slice p4 cs.length c4]) := F7_49.out.row _ 0 0
                generalize (Y49.alloc (Obj.cells #[] 52)) = Y50 at *
                generalize Y49.heap.size = G50 at *
                refine hK.out _ _ (J50.out.be) (fun hHeld => ?_)
                clear hK K
                try simp only [Act.put, List.setIfInBounds_toArray, List.set_cons_zero, List.set_cons_succ, List.getElem_toArray, List.getElem_cons_zero, List.getElem_cons_succ]
                refine wpAnyH_ready (rs := [5]) (by kernel_rfl) (by simp) ?_
                refine (AllReadyH.cons rfl (fun K hK => ?_) AllReadyH.nil)
                refine step_of_wp (by rfl) ?_
                refine wp_app_rules (.tmp 63) (.tmp 65) (by rfl) W5.heap.size (.slice (some ⟨G50, 0, none⟩) 0 0) (0) ([]) (by rfl) J50.out.own (.slice p1 l.length c1) (l.length) (l) (by rfl) (src_rules (S5.out.below hHeld) HOV.out) (rfl) (ONE.out) (by omega) J50.out.lB ?_
                intro v51 Y51 hap
                rw [Nat.zero_add, List.nil_append] at hap
                have J51 : Hid (Jn 52 4 W5.heap.size W5 Y51 (v51) (l.length) (cellsX l)) := J50.out.app hap
                have F10_51 : Hid (Fr W5.heap.size Y51 (v51) G41 33 [.int .i64 0, .int .i64 0, .slice none 0 0]) := F10_50.out.app hap
                have F7_51 : Hid (Fr W5.heap.size Y51 (v51) G49 52 [.int .i64 xk, .int .i64 xa, .slice p3 ns.length c3, .slice p4 cs.length c4]) := F7_50.out.app hap
                clear hap
                obtain ⟨pj51, cj51, hvj⟩ := J51.out.slice
                subst hvj
                refine hK.out _ _ (J51.out.be) (fun hHeld => ?_)
                clear hK K
                try simp only [Act.put, List.setIfInBounds_toArray, List.set_cons_zero, List.set_cons_succ, List.getElem_toArray, List.getElem_cons_zero, List.getElem_cons_succ]
                refine wpAnyH_ready (rs := [8]) (by kernel_rfl) (by simp) ?_
                refine (AllReadyH.cons rfl (fun K hK => ?_) AllReadyH.nil)
                refine step_of_wp (by rfl) ?_
                refine wp_app_rules (.tmp 66) (.tmp 68) (by rfl) W5.heap.size (.slice pj51 (l.length) cj51) (l.length) (cellsX l) (by rfl) J51.out.own (.slice (some ⟨G49, 0, none⟩) 1 1) (1) ([⟨⟨xk, xa, ns, cs⟩, .slice p3 ns.length c3, .slice p4 cs.length c4⟩]) (by rfl) (src_one (x := ⟨⟨xk, xa, ns, cs⟩, .slice p3 ns.length c3, .slice p4 cs.length c4⟩) F7_51.out) (rfl) (ONEM.out) (by omega) J51.out.lB ?_
                intro v52 Y52 hap
                rw [← cellsX_app] at hap
                have J52 : Hid (Jn 52 4 W5.heap.size W5 Y52 (v52) (l.length + 1) (cellsX (l ++ [⟨⟨xk, xa, ns, cs⟩, .slice p3 ns.length c3, .slice p4 cs.length c4⟩]))) := J51.out.app hap
                have F10_52 : Hid (Fr W5.heap.size Y52 (v52) G41 33 [.int .i64 0, .int .i64 0, .slice none 0 0]) := F10_51.out.app hap
                have F7_52 : Hid (Fr W5.heap.size Y52 (v52) G49 52 [.int .i64 xk, .int .i64 xa, .slice p3 ns.length c3, .slice p4 cs.length c4]) := F7_51.out.app hap
                clear hap
                obtain ⟨pj52, cj52, hvj⟩ := J52.out.slice
                subst hvj
                refine hK.out _ _ (J52.out.be) (fun hHeld => ?_)
                clear hK K
                try simp only [Act.put, List.setIfInBounds_toArray, List.set_cons_zero, List.set_cons_succ, List.getElem_toArray, List.getElem_cons_zero, List.getElem_cons_succ]
                refine wpAnyH_take (i := 9) (v := ?_) rfl (by kernel_rfl) (by kernel_rfl) (by kernel_rfl) (fun _ _ _ h => h) (Or.inl ⟨by rfl, ?_⟩) hHeld ?_
                rotate_left
                · (intro w hSw; (try dsimp only at hSw); go_simp; try with_reducible rfl)
                try simp only [Act.put, List.setIfInBounds_toArray, List.set_cons_zero, List.set_cons_succ, List.getElem_toArray, List.getElem_cons_zero, List.getElem_cons_succ]
                refine wpAnyH_ready (rs := [11]) (by kernel_rfl) (by simp) ?_
                refine (AllReadyH.cons rfl (fun K hK => ?_) AllReadyH.nil)
                refine step_of_wp (by rfl) ?_
                refine wp_store_row 33 (.tmp 12) (.tmp 70) (by rfl) G41 #[.int .i64 k, .int .i64 a, .slice pj52 (l.length + 1) cj52] (by rfl) (by rfl) 33 _ F10_52.out.blk Try.sizeRs rfl (by simp [Value.oneCell']) ?_
                have JZ : Hid (Jn 52 4 W5.heap.size W5 (Y52.setRow G41 #[.int .i64 k, .int .i64 a, .slice pj52 (l.length + 1) cj52]) (.slice pj52 (l.length + 1) cj52) (l.length + 1) (cellsX (l ++ [⟨⟨xk, xa, ns, cs⟩, .slice p3 ns.length c3, .slice p4 cs.length c4⟩]))) := J52.out.setRow F10_52.out _
                have KZ : Hid (Blk (Y52.setRow G41 #[.int .i64 k, .int .i64 a, .slice pj52 (l.length + 1) cj52]) G41 33 [.int .i64 k, .int .i64 a, .slice pj52 (l.length + 1) cj52]) := F10_52.out.blk.row _
                generalize Y52.setRow G41 #[.int .i64 k, .int .i64 a, .slice pj52 (l.length + 1) cj52] = Z at *
                refine hK.out _ _ (JZ.out.be) (fun hHeld => ?_)
                clear hK K
                try simp only [Act.put, List.setIfInBounds_toArray, List.set_cons_zero, List.set_cons_succ, List.getElem_toArray, List.getElem_cons_zero, List.getElem_cons_succ]
                refine wpAnyH_done (by kernel_rfl) ?_ _
                go_wp2_with fail
                go_meet
                exact ⟨G41, _, _, rfl, KZ.out, JZ.out.rules' (by simp <;> omega) (fun x hx => HY.out _ JZ.out.be x hx), JZ.out.be⟩
          case rest =>
            obtain ⟨NY, py, cy, rfl, hKY, hRY, hbc⟩ := hcut
            generalize wc = W6 at *
            have BC : Hid (Below W5.heap.size W5 W6) := hbc
            have KY6 : Hid (Blk W6 NY 33 [.int .i64 k, .int .i64 a, .slice py (l.length + 1) cy]) := hKY
            have RY6 : Hid (RlR W6 (.slice py (l.length + 1) cy) (l ++ [⟨⟨xk, xa, ns, cs⟩, .slice p3 ns.length c3, .slice p4 cs.length c4⟩])) := hRY
            have S6 : Hid (RlR W6 (.slice p1 l.length c1) l) := S5.out.below hbc
            have HRX : Hid (∀ W, Below W6.heap.size W6 W → W.cell? ⟨w.heap.size, 0, none⟩ = some (.int .i64 k) ∧ W.cell? ⟨w.heap.size, 1, none⟩ = some (.int .i64 a) ∧ W.cell? ⟨w.heap.size, 2, none⟩ = some (.slice p1 l.length c1)) := fun W h => HRX.out W (BC.out.trans (h.mono BC.out.size))
            have HMX : Hid (∀ W, Below W6.heap.size W6 W → W.cell? ⟨w.heap.size + 1, 0, none⟩ = some (.int .i64 xk) ∧ W.cell? ⟨w.heap.size + 1, 1, none⟩ = some (.int .i64 xa) ∧ W.cell? ⟨w.heap.size + 1, 2, none⟩ = some (.slice p3 ns.length c3) ∧ W.cell? ⟨w.heap.size + 1, 3, none⟩ = some (.slice p4 cs.length c4)) := fun W h => HMX.out W (BC.out.trans (h.mono BC.out.size))
            have HZ : Hid (∀ W, Below W6.heap.size W6 W → ∀ x ∈ [⟨⟨xk, xa, ns, cs⟩, .slice p3 ns.length c3, .slice p4 cs.length c4⟩] ++ l, StrR W x.vn x.r.names ∧ CdR W x.vc x.r.conds) := fun W hW x hx => HAL.out W (BC.out.trans (hW.mono BC.out.size)) x (by rcases List.mem_append.1 hx with h | h; exact .inr (List.mem_singleton.1 h); exact .inl h)
            clear hbc hKY hRY HY
            go_wp2_with fail
            go_cut [13] (fun v wc => CutR W6.heap.size W6 k a (1 + l.length) ([⟨⟨xk, xa, ns, cs⟩, .slice p3 ns.length c3, .slice p4 cs.length c4⟩] ++ l) v wc)
            case first =>
              refine wp_region_held_drew (S := (fun W => Below W6.heap.size W6 W)) (by kernel_rfl) ((Below.refl _ _).drew) (fun hHeld => ?_)
              simp only [List.size_toArray, List.length_cons, List.length_nil, Nat.reduceAdd]
              refine wpAnyH_take (i := 0) (v := ?_) rfl (by kernel_rfl) (by kernel_rfl) (by kernel_rfl) (fun _ _ _ h => h) (Or.inl ⟨by rfl, ?_⟩) hHeld ?_
              rotate_left
              · (intro w hSw; (try dsimp only at hSw); go_simp; try with_reducible rfl)
              try simp only [Act.put, List.setIfInBounds_toArray, List.set_cons_zero, List.set_cons_succ, List.getElem_toArray, List.getElem_cons_zero, List.getElem_cons_succ]
              refine wpAnyH_take (i := 1) (v := ?_) rfl (by kernel_rfl) (by kernel_rfl) (by kernel_rfl) (fun _ _ _ h => h) (Or.inl ⟨by rfl, ?_⟩) hHeld ?_
              rotate_left
              · (intro w hSw; (try dsimp only at hSw); obtain ⟨s0, s1, s2⟩ := HRX.out _ hSw; go_simp; try with_reducible rfl)
              try simp only [Act.put, List.setIfInBounds_toArray, List.set_cons_zero, List.set_cons_succ, List.getElem_toArray, List.getElem_cons_zero, List.getElem_cons_succ]
              refine wpAnyH_take (i := 2) (v := ?_) rfl (by kernel_rfl) (by kernel_rfl) (by kernel_rfl) (fun _ _ _ h => h) (Or.inl ⟨by rfl, ?_⟩) hHeld ?_
              rotate_left
              · (intro w hSw; (try dsimp only at hSw); obtain ⟨s0, s1, s2, s3⟩ := HMX.out _ hSw; go_simp; try with_reducible rfl)
              try simp only [Act.put, List.setIfInBounds_toArray, List.set_cons_zero, List.set_cons_succ, List.getElem_toArray, List.getElem_cons_zero, List.getElem_cons_succ]
              refine wpAnyH_take (i := 4) (v := ?_) rfl (by kernel_rfl) (by kernel_rfl) (by kernel_rfl) (fun _ _ _ h => h) (Or.inl ⟨by rfl, ?_⟩) hHeld ?_
              rotate_left
              · (intro w hSw; (try dsimp only at hSw); go_simp; try with_reducible rfl)
              try simp only [Act.put, List.setIfInBounds_toArray, List.set_cons_zero, List.set_cons_succ, List.getElem_toArray, List.getElem_cons_zero, List.getElem_cons_succ]
              refine wpAnyH_take (i := 5) (v := ?_) rfl (by kernel_rfl) (by kernel_rfl) (by kernel_rfl) (fun _ _ _ h => h) (Or.inl ⟨by rfl, ?_⟩) hHeld ?_
              rotate_left
              · (intro w hSw; (try dsimp only at hSw); have s2 := (HRX.out _ hSw).2.2; go_simp; try with_reducible rfl)
              try simp only [Act.put, List.setIfInBounds_toArray, List.set_cons_zero, List.set_cons_succ, List.getElem_toArray, List.getElem_cons_zero, List.getElem_cons_succ]
              have J0 : Hid (Jn 52 4 W6.heap.size W6 W6.drew (.slice none 0 0) 0 []) := Jn.nil hHeld hHeld.size
              generalize W6.drew = Y0 at *
              refine wpAnyH_ready (rs := [3, 8]) (by kernel_rfl) (by simp) ?_
              refine (AllReadyH.cons rfl (fun K hK => ?_) (AllReadyH.cons rfl (fun K hK => ?_) AllReadyH.nil))
              ·
                go_simp
                have J1 : Hid (Jn 52 4 W6.heap.size W6 (Y0.alloc (Obj.cells #[.int .i64 xk, .int .i64 xa, .slice p3 ns.length c3, .slice p4 cs.length c4] 52)) (.slice (some ⟨Y0.heap.size, 0, none⟩) 1 1) (1) (cellsX [⟨⟨xk, xa, ns, cs⟩, .slice p3 ns.length c3, .slice p4 cs.length c4⟩])) := Jn.new (n := 1) J0.out.be J0.out.lB (cellsX [⟨⟨xk, xa, ns, cs⟩, .slice p3 ns.length c3, .slice p4 cs.length c4⟩]) rfl (by decide)
                generalize (Y0.alloc (Obj.cells #[.int .i64 xk, .int .i64 xa, .slice p3 ns.length c3, .slice p4 cs.length c4] 52)) = Y1 at *
                generalize Y0.heap.size = G1 at *
                refine hK.out _ _ (J1.out.be) (fun hHeld => ?_)
                clear hK K
                try simp only [Act.put, List.setIfInBounds_toArray, List.set_cons_zero, List.set_cons_succ, List.getElem_toArray, List.getElem_cons_zero, List.getElem_cons_succ]
                refine wpAnyH_ready (rs := [6, 8]) (by kernel_rfl) (by simp) ?_
                refine (AllReadyH.cons rfl (fun K hK => ?_) (AllReadyH.cons rfl (fun K hK => ?_) AllReadyH.nil))
                ·
                  refine step_of_wp (by rfl) ?_
                  refine wp_app_rules (.tmp 74) (.tmp 76) (by rfl) W6.heap.size (.slice (some ⟨G1, 0, none⟩) 1 1) (1) (cellsX [⟨⟨xk, xa, ns, cs⟩, .slice p3 ns.length c3, .slice p4 cs.length c4⟩]) (by rfl) J1.out.own (.slice p1 l.length c1) (l.length) (l) (by rfl) (src_rules (S6.out.below hHeld) HOV.out) (rfl) (ONE.out) (by omega) J1.out.lB ?_
                  intro v2 Y2 hap
                  rw [← cellsX_app] at hap
                  have J2 : Hid (Jn 52 4 W6.heap.size W6 Y2 (v2) (1 + l.length) (cellsX ([⟨⟨xk, xa, ns, cs⟩, .slice p3 ns.length c3, .slice p4 cs.length c4⟩] ++ l))) := J1.out.app hap
                  clear hap
                  obtain ⟨pj2, cj2, hvj⟩ := J2.out.slice
                  subst hvj
                  refine hK.out _ _ (J2.out.be) (fun hHeld => ?_)
                  clear hK K
                  try simp only [Act.put, List.setIfInBounds_toArray, List.set_cons_zero, List.set_cons_succ, List.getElem_toArray, List.getElem_cons_zero, List.getElem_cons_succ]
                  refine wpAnyH_take (i := 7) (v := ?_) rfl (by kernel_rfl) (by kernel_rfl) (by kernel_rfl) (fun _ _ _ h => h) (Or.inl ⟨by rfl, ?_⟩) hHeld ?_
                  rotate_left
                  · (intro w hSw; (try dsimp only at hSw); go_simp; try with_reducible rfl)
                  try simp only [Act.put, List.setIfInBounds_toArray, List.set_cons_zero, List.set_cons_succ, List.getElem_toArray, List.getElem_cons_zero, List.getElem_cons_succ]
                  refine wpAnyH_ready (rs := [8]) (by kernel_rfl) (by simp) ?_
                  refine (AllReadyH.cons rfl (fun K hK => ?_) AllReadyH.nil)
                  go_simp
                  have J3 : Hid (Jn 52 4 W6.heap.size W6 (Y2.alloc (Obj.cells #[.int .i64 0, .int .i64 0, .slice none 0 0] 33)) (.slice pj2 (1 + l.length) cj2) (1 + l.length) (cellsX ([⟨⟨xk, xa, ns, cs⟩, .slice p3 ns.length c3, .slice p4 cs.length c4⟩] ++ l))) := J2.out.over (below_new Y2 _)
                  have F8_3 : Hid (Fr W6.heap.size (Y2.alloc (Obj.cells #[.int .i64 0, .int .i64 0, .slice none 0 0] 33)) (.slice pj2 (1 + l.length) cj2) Y2.heap.size 33 [.int .i64 0, .int .i64 0, .slice none 0 0]) := Fr.new J2.out _
                  generalize (Y2.alloc (Obj.cells #[.int .i64 0, .int .i64 0, .slice none 0 0] 33)) = Y3 at *
                  generalize Y2.heap.size = G3 at *
                  refine hK.out _ _ (J3.out.be) (fun hHeld => ?_)
                  clear hK K
                  try simp only [Act.put, List.setIfInBounds_toArray, List.set_cons_zero, List.set_cons_succ, List.getElem_toArray, List.getElem_cons_zero, List.getElem_cons_succ]
                  refine wpAnyH_ready (rs := [9]) (by kernel_rfl) (by simp) ?_
                  refine (AllReadyH.cons rfl (fun K hK => ?_) AllReadyH.nil)
                  refine step_of_wp (by rfl) ?_
                  refine wp_store_row 33 (.tmp 13) (.tmp 78) (by rfl) G3 #[.int .i64 k, .int .i64 a, .slice pj2 (1 + l.length) cj2] (by rfl) (by rfl) 33 _ F8_3.out.blk Try.sizeRs rfl (by simp [Value.oneCell']) ?_
                  have JZ : Hid (Jn 52 4 W6.heap.size W6 (Y3.setRow G3 #[.int .i64 k, .int .i64 a, .slice pj2 (1 + l.length) cj2]) (.slice pj2 (1 + l.length) cj2) (1 + l.length) (cellsX ([⟨⟨xk, xa, ns, cs⟩, .slice p3 ns.length c3, .slice p4 cs.length c4⟩] ++ l))) := J3.out.setRow F8_3.out _
                  have KZ : Hid (Blk (Y3.setRow G3 #[.int .i64 k, .int .i64 a, .slice pj2 (1 + l.length) cj2]) G3 33 [.int .i64 k, .int .i64 a, .slice pj2 (1 + l.length) cj2]) := F8_3.out.blk.row _
                  generalize Y3.setRow G3 #[.int .i64 k, .int .i64 a, .slice pj2 (1 + l.length) cj2] = Z at *
                  refine hK.out _ _ (JZ.out.be) (fun hHeld => ?_)
                  clear hK K
                  try simp only [Act.put, List.setIfInBounds_toArray, List.set_cons_zero, List.set_cons_succ, List.getElem_toArray, List.getElem_cons_zero, List.getElem_cons_succ]
                  refine wpAnyH_done (by kernel_rfl) ?_ _
                  go_wp2_with fail
                  go_meet
                  exact ⟨G3, _, _, rfl, KZ.out, JZ.out.rules' (by simp <;> omega) (fun x hx => HZ.out _ JZ.out.be x hx), JZ.out.be⟩
                ·
                  go_simp
                  have J4 : Hid (Jn 52 4 W6.heap.size W6 (Y1.alloc (Obj.cells #[.int .i64 0, .int .i64 0, .slice none 0 0] 33)) (.slice (some ⟨G1, 0, none⟩) 1 1) (1) (cellsX [⟨⟨xk, xa, ns, cs⟩, .slice p3 ns.length c3, .slice p4 cs.length c4⟩])) := J1.out.over (below_new Y1 _)
                  have F8_4 : Hid (Fr W6.heap.size (Y1.alloc (Obj.cells #[.int .i64 0, .int .i64 0, .slice none 0 0] 33)) (.slice (some ⟨G1, 0, none⟩) 1 1) Y1.heap.size 33 [.int .i64 0, .int .i64 0, .slice none 0 0]) := Fr.new J1.out _
                  generalize (Y1.alloc (Obj.cells #[.int .i64 0, .int .i64 0, .slice none 0 0] 33)) = Y4 at *
                  generalize Y1.heap.size = G4 at *
                  refine hK.out _ _ (J4.out.be) (fun hHeld => ?_)
                  clear hK K
                  try simp only [Act.put, List.setIfInBounds_toArray, List.set_cons_zero, List.set_cons_succ, List.getElem_toArray, List.getElem_cons_zero, List.getElem_cons_succ]
                  refine wpAnyH_ready (rs := [6]) (by kernel_rfl) (by simp) ?_
                  refine (AllReadyH.cons rfl (fun K hK => ?_) AllReadyH.nil)
                  refine step_of_wp (by rfl) ?_
                  refine wp_app_rules (.tmp 74) (.tmp 76) (by rfl) W6.heap.size (.slice (some ⟨G1, 0, none⟩) 1 1) (1) (cellsX [⟨⟨xk, xa, ns, cs⟩, .slice p3 ns.length c3, .slice p4 cs.length c4⟩]) (by rfl) J4.out.own (.slice p1 l.length c1) (l.length) (l) (by rfl) (src_rules (S6.out.below hHeld) HOV.out) (rfl) (ONE.out) (by omega) J4.out.lB ?_
                  intro v5 Y5 hap
                  rw [← cellsX_app] at hap
                  have J5 : Hid (Jn 52 4 W6.heap.size W6 Y5 (v5) (1 + l.length) (cellsX ([⟨⟨xk, xa, ns, cs⟩, .slice p3 ns.length c3, .slice p4 cs.length c4⟩] ++ l))) := J4.out.app hap
                  have F8_5 : Hid (Fr W6.heap.size Y5 (v5) G4 33 [.int .i64 0, .int .i64 0, .slice none 0 0]) := F8_4.out.app hap
                  clear hap
                  obtain ⟨pj5, cj5, hvj⟩ := J5.out.slice
                  subst hvj
                  refine hK.out _ _ (J5.out.be) (fun hHeld => ?_)
                  clear hK K
                  try simp only [Act.put, List.setIfInBounds_toArray, List.set_cons_zero, List.set_cons_succ, List.getElem_toArray, List.getElem_cons_zero, List.getElem_cons_succ]
                  refine wpAnyH_take (i := 7) (v := ?_) rfl (by kernel_rfl) (by kernel_rfl) (by kernel_rfl) (fun _ _ _ h => h) (Or.inl ⟨by rfl, ?_⟩) hHeld ?_
                  rotate_left
                  · (intro w hSw; (try dsimp only at hSw); go_simp; try with_reducible rfl)
                  try simp only [Act.put, List.setIfInBounds_toArray, List.set_cons_zero, List.set_cons_succ, List.getElem_toArray, List.getElem_cons_zero, List.getElem_cons_succ]
                  refine wpAnyH_ready (rs := [9]) (by kernel_rfl) (by simp) ?_
                  refine (AllReadyH.cons rfl (fun K hK => ?_) AllReadyH.nil)
                  refine step_of_wp (by rfl) ?_
                  refine wp_store_row 33 (.tmp 13) (.tmp 78) (by rfl) G4 #[.int .i64 k, .int .i64 a, .slice pj5 (1 + l.length) cj5] (by rfl) (by rfl) 33 _ F8_5.out.blk Try.sizeRs rfl (by simp [Value.oneCell']) ?_
                  have JZ : Hid (Jn 52 4 W6.heap.size W6 (Y5.setRow G4 #[.int .i64 k, .int .i64 a, .slice pj5 (1 + l.length) cj5]) (.slice pj5 (1 + l.length) cj5) (1 + l.length) (cellsX ([⟨⟨xk, xa, ns, cs⟩, .slice p3 ns.length c3, .slice p4 cs.length c4⟩] ++ l))) := J5.out.setRow F8_5.out _
                  have KZ : Hid (Blk (Y5.setRow G4 #[.int .i64 k, .int .i64 a, .slice pj5 (1 + l.length) cj5]) G4 33 [.int .i64 k, .int .i64 a, .slice pj5 (1 + l.length) cj5]) := F8_5.out.blk.row _
                  generalize Y5.setRow G4 #[.int .i64 k, .int .i64 a, .slice pj5 (1 + l.length) cj5] = Z at *
                  refine hK.out _ _ (JZ.out.be) (fun hHeld => ?_)
                  clear hK K
                  try simp only [Act.put, List.setIfInBounds_toArray, List.set_cons_zero, List.set_cons_succ, List.getElem_toArray, List.getElem_cons_zero, List.getElem_cons_succ]
                  refine wpAnyH_done (by kernel_rfl) ?_ _
                  go_wp2_with fail
                  go_meet
                  exact ⟨G4, _, _, rfl, KZ.out, JZ.out.rules' (by simp <;> omega) (fun x hx => HZ.out _ JZ.out.be x hx), JZ.out.be⟩
              ·
                go_simp
                have J6 : Hid (Jn 52 4 W6.heap.size W6 (Y0.alloc (Obj.cells #[.int .i64 0, .int .i64 0, .slice none 0 0] 33)) (.slice none 0 0) (0) ([])) := J0.out.over (below_new Y0 _)
                have F8_6 : Hid (Fr W6.heap.size (Y0.alloc (Obj.cells #[.int .i64 0, .int .i64 0, .slice none 0 0] 33)) (.slice none 0 0) Y0.heap.size 33 [.int .i64 0, .int .i64 0, .slice none 0 0]) := Fr.new J0.out _
                generalize (Y0.alloc (Obj.cells #[.int .i64 0, .int .i64 0, .slice none 0 0] 33)) = Y6 at *
                generalize Y0.heap.size = G6 at *
                refine hK.out _ _ (J6.out.be) (fun hHeld => ?_)
                clear hK K
                try simp only [Act.put, List.setIfInBounds_toArray, List.set_cons_zero, List.set_cons_succ, List.getElem_toArray, List.getElem_cons_zero, List.getElem_cons_succ]
                refine wpAnyH_ready (rs := [3]) (by kernel_rfl) (by simp) ?_
                refine (AllReadyH.cons rfl (fun K hK => ?_) AllReadyH.nil)
                go_simp
                have J7 : Hid (Jn 52 4 W6.heap.size W6 (Y6.alloc (Obj.cells #[.int .i64 xk, .int .i64 xa, .slice p3 ns.length c3, .slice p4 cs.length c4] 52)) (.slice (some ⟨Y6.heap.size, 0, none⟩) 1 1) (1) (cellsX [⟨⟨xk, xa, ns, cs⟩, .slice p3 ns.length c3, .slice p4 cs.length c4⟩])) := Jn.new (n := 1) J6.out.be J6.out.lB (cellsX [⟨⟨xk, xa, ns, cs⟩, .slice p3 ns.length c3, .slice p4 cs.length c4⟩]) rfl (by decide)
                have F8_7 : Hid (Fr W6.heap.size (Y6.alloc (Obj.cells #[.int .i64 xk, .int .i64 xa, .slice p3 ns.length c3, .slice p4 cs.length c4] 52)) (.slice (some ⟨Y6.heap.size, 0, none⟩) 1 1) G6 33 [.int .i64 0, .int .i64 0, .slice none 0 0]) := F8_6.out.row _ 1 1
                generalize (Y6.alloc (Obj.cells #[.int .i64 xk, .int .i64 xa, .slice p3 ns.length c3, .slice p4 cs.length c4] 52)) = Y7 at *
                generalize Y6.heap.size = G7 at *
                refine hK.out _ _ (J7.out.be) (fun hHeld => ?_)
                clear hK K
                try simp only [Act.put, List.setIfInBounds_toArray, List.set_cons_zero, List.set_cons_succ, List.getElem_toArray, List.getElem_cons_zero, List.getElem_cons_succ]
                refine wpAnyH_ready (rs := [6]) (by kernel_rfl) (by simp) ?_
                refine (AllReadyH.cons rfl (fun K hK => ?_) AllReadyH.nil)
                refine step_of_wp (by rfl) ?_
                refine wp_app_rules (.tmp 74) (.tmp 76) (by rfl) W6.heap.size (.slice (some ⟨G7, 0, none⟩) 1 1) (1) (cellsX [⟨⟨xk, xa, ns, cs⟩, .slice p3 ns.length c3, .slice p4 cs.length c4⟩]) (by rfl) J7.out.own (.slice p1 l.length c1) (l.length) (l) (by rfl) (src_rules (S6.out.below hHeld) HOV.out) (rfl) (ONE.out) (by omega) J7.out.lB ?_
                intro v8 Y8 hap
                rw [← cellsX_app] at hap
                have J8 : Hid (Jn 52 4 W6.heap.size W6 Y8 (v8) (1 + l.length) (cellsX ([⟨⟨xk, xa, ns, cs⟩, .slice p3 ns.length c3, .slice p4 cs.length c4⟩] ++ l))) := J7.out.app hap
                have F8_8 : Hid (Fr W6.heap.size Y8 (v8) G6 33 [.int .i64 0, .int .i64 0, .slice none 0 0]) := F8_7.out.app hap
                clear hap
                obtain ⟨pj8, cj8, hvj⟩ := J8.out.slice
                subst hvj
                refine hK.out _ _ (J8.out.be) (fun hHeld => ?_)
                clear hK K
                try simp only [Act.put, List.setIfInBounds_toArray, List.set_cons_zero, List.set_cons_succ, List.getElem_toArray, List.getElem_cons_zero, List.getElem_cons_succ]
                refine wpAnyH_take (i := 7) (v := ?_) rfl (by kernel_rfl) (by kernel_rfl) (by kernel_rfl) (fun _ _ _ h => h) (Or.inl ⟨by rfl, ?_⟩) hHeld ?_
                rotate_left
                · (intro w hSw; (try dsimp only at hSw); go_simp; try with_reducible rfl)
                try simp only [Act.put, List.setIfInBounds_toArray, List.set_cons_zero, List.set_cons_succ, List.getElem_toArray, List.getElem_cons_zero, List.getElem_cons_succ]
                refine wpAnyH_ready (rs := [9]) (by kernel_rfl) (by simp) ?_
                refine (AllReadyH.cons rfl (fun K hK => ?_) AllReadyH.nil)
                refine step_of_wp (by rfl) ?_
                refine wp_store_row 33 (.tmp 13) (.tmp 78) (by rfl) G6 #[.int .i64 k, .int .i64 a, .slice pj8 (1 + l.length) cj8] (by rfl) (by rfl) 33 _ F8_8.out.blk Try.sizeRs rfl (by simp [Value.oneCell']) ?_
                have JZ : Hid (Jn 52 4 W6.heap.size W6 (Y8.setRow G6 #[.int .i64 k, .int .i64 a, .slice pj8 (1 + l.length) cj8]) (.slice pj8 (1 + l.length) cj8) (1 + l.length) (cellsX ([⟨⟨xk, xa, ns, cs⟩, .slice p3 ns.length c3, .slice p4 cs.length c4⟩] ++ l))) := J8.out.setRow F8_8.out _
                have KZ : Hid (Blk (Y8.setRow G6 #[.int .i64 k, .int .i64 a, .slice pj8 (1 + l.length) cj8]) G6 33 [.int .i64 k, .int .i64 a, .slice pj8 (1 + l.length) cj8]) := F8_8.out.blk.row _
                generalize Y8.setRow G6 #[.int .i64 k, .int .i64 a, .slice pj8 (1 + l.length) cj8] = Z at *
                refine hK.out _ _ (JZ.out.be) (fun hHeld => ?_)
                clear hK K
                try simp only [Act.put, List.setIfInBounds_toArray, List.set_cons_zero, List.set_cons_succ, List.getElem_toArray, List.getElem_cons_zero, List.getElem_cons_succ]
                refine wpAnyH_done (by kernel_rfl) ?_ _
                go_wp2_with fail
                go_meet
                exact ⟨G6, _, _, rfl, KZ.out, JZ.out.rules' (by simp <;> omega) (fun x hx => HZ.out _ JZ.out.be x hx), JZ.out.be⟩
            case rest =>
              obtain ⟨NZ, pz, cz, rfl, hKZ, hRZ, hbz⟩ := hcut
              generalize wc = W7 at *
              have KZ7 : Hid (Blk W7 NZ 33 [.int .i64 k, .int .i64 a, .slice pz (1 + l.length) cz]) := hKZ
              have RZ7 : Hid (RlR W7 (.slice pz (1 + l.length) cz) ([⟨⟨xk, xa, ns, cs⟩, .slice p3 ns.length c3, .slice p4 cs.length c4⟩] ++ l)) := hRZ
              have KY7 : Hid (Blk W7 NY 33 [.int .i64 k, .int .i64 a, .slice py (l.length + 1) cy]) := KY6.out.over hbz
              have RY7 : Hid (RlR W7 (.slice py (l.length + 1) cy) (l ++ [⟨⟨xk, xa, ns, cs⟩, .slice p3 ns.length c3, .slice p4 cs.length c4⟩])) := RY6.out.below hbz
              have B57 : Hid (Below W5.heap.size W5 W7) := BC.out.trans (hbz.mono BC.out.size)
              have KD7 : Hid (Blk W7 (w.heap.size + 1 + 1) 41 [d0v, d1v, d2v, d3v, d4v, d5v, d6v, d7v, d8v]) := (KD.out.over BX5.out).over B57.out
              have HM7 : Hid (Blk W7 (w.heap.size + 1) 52 [.int .i64 xk, .int .i64 xa, .slice p3 ns.length c3, .slice p4 cs.length c4]) := HM5.out.over B57.out
              have KV7 : Hid (Blk W7 N5 30 [.int .i64 va, .int .i64 vb]) := KV5.out.over B57.out
              have SMn7 : Hid (StrR W7 (.slice p3 ns.length c3) ns) := SMn5.out.below B57.out
              have SMc7 : Hid (CdR W7 (.slice p4 cs.length c4) cs) := SMc5.out.below B57.out
              have B7 : Hid (Below w.heap.size w W7) := (BE.out.trans (BX5.out.mono BE.out.size)).trans (B57.out.mono (BE.out.trans (BX5.out.mono BE.out.size)).size)
              have HSA : Hid (∀ x, x ∈ l ∨ x = ⟨⟨xk, xa, ns, cs⟩, .slice p3 ns.length c3, .slice p4 cs.length c4⟩ → x.r.names.length ≤ 9000000 ∧ x.r.conds.length ≤ 9000000) := fun x hx => by
                rcases hx with hx | rfl
                · exact HSL.out x hx
                · exact ⟨by show ns.length ≤ 9000000; omega, by show cs.length ≤ 9000000; omega⟩
              clear hKZ hRZ hbz KY6 RY6 S6 HRX HMX HZ HAL S5 HK5 HM5 SMn5 SMc5 KD BC BX5 KV5 BE HSL HDX ONE ONEM HOV B57
              go_wp2_with (first | (refine at_op (.load 33 (.tmp 12)) rfl ?_; refine wpList_load_row rfl 33 (.tmp 12) rfl NY rfl 33 #[.int .i64 k, .int .i64 a, .slice py (l.length + 1) cy] (0, 0) _ KY7.out Try.underlying33 rfl Try.sizeRs ?_) | (refine at_op (.load 41 (.tmp 5)) rfl ?_; refine wpList_load_row rfl 41 (.tmp 5) rfl (w.heap.size + 1 + 1) rfl 41 #[d0v, d1v, d2v, d3v, d4v, d5v, d6v, d7v, d8v] (0, 0) _ (KD7.out) Try.underlying41 rfl Try.sizeD ?_))
              refine (HDY.out W7 _ (l ++ [⟨⟨xk, xa, ns, cs⟩, .slice p3 ns.length c3, .slice p4 cs.length c4⟩]) RY7.out (by simp) (by simp; omega) (fun x hx => HSA.out x (by rcases List.mem_append.1 hx with h | h; exact .inl h; exact .inr (List.mem_singleton.1 h)))).mono ?_
              rintro e w8 ⟨rfl, b8⟩
              have b8' : Below W7.heap.size W7 (w8.alloc (Obj.cells #[.int .i64 ya, .int .i64 yb] 30)) := b8.alloc b8.size _
              have B78 : Hid (Below W7.heap.size W7 (w8.alloc (Obj.cells #[.int .i64 ya, .int .i64 yb] 30))) := b8'
              have KY8 : Hid (Blk (w8.alloc (Obj.cells #[.int .i64 ya, .int .i64 yb] 30)) w8.heap.size 30 [.int .i64 ya, .int .i64 yb]) := blk_new w8 _ _
              clear b8 b8' HDY RY7
              go_wp2_with (first | (refine at_op (.load 33 (.tmp 13)) rfl ?_; refine wpList_load_row rfl 33 (.tmp 13) rfl NZ rfl 33 #[.int .i64 k, .int .i64 a, .slice pz (1 + l.length) cz] (0, 0) _ (KZ7.out.over B78.out) Try.underlying33 rfl Try.sizeRs ?_) | (refine at_op (.load 41 (.tmp 5)) rfl ?_; refine wpList_load_row rfl 41 (.tmp 5) rfl (w.heap.size + 1 + 1) rfl 41 #[d0v, d1v, d2v, d3v, d4v, d5v, d6v, d7v, d8v] (0, 0) _ (KD7.out.over B78.out) Try.underlying41 rfl Try.sizeD ?_))
              generalize (w8.alloc (Obj.cells #[.int .i64 ya, .int .i64 yb] 30)) = W8 at *
              generalize w8.heap.size = N8 at *
              refine (HDZ.out W8 _ ([⟨⟨xk, xa, ns, cs⟩, .slice p3 ns.length c3, .slice p4 cs.length c4⟩] ++ l) (RZ7.out.below B78.out) rfl (by simp; omega) (fun x hx => HSA.out x (by rcases List.mem_append.1 hx with h | h; exact .inr (List.mem_singleton.1 h); exact .inl h))).mono ?_
              rintro e w9 ⟨rfl, b9⟩
              have b9' : Below W8.heap.size W8 (w9.alloc (Obj.cells #[.int .i64 za, .int .i64 zb] 30)) := b9.alloc b9.size _
              have B79 : Hid (Below W7.heap.size W7 (w9.alloc (Obj.cells #[.int .i64 za, .int .i64 zb] 30))) := B78.out.trans (b9'.mono B78.out.size)
              have KY9 : Hid (Blk (w9.alloc (Obj.cells #[.int .i64 za, .int .i64 zb] 30)) N8 30 [.int .i64 ya, .int .i64 yb]) := KY8.out.over b9'
              have KZ9 : Hid (Blk (w9.alloc (Obj.cells #[.int .i64 za, .int .i64 zb] 30)) w9.heap.size 30 [.int .i64 za, .int .i64 zb]) := blk_new w9 _ _

              have B9 : Hid (Below w.heap.size w (w9.alloc (Obj.cells #[.int .i64 za, .int .i64 zb] 30))) := B7.out.trans (B79.out.mono B7.out.size)
              have KD9 : Hid (Blk (w9.alloc (Obj.cells #[.int .i64 za, .int .i64 zb] 30)) (w.heap.size + 1 + 1) 41 [d0v, d1v, d2v, d3v, d4v, d5v, d6v, d7v, d8v]) := KD7.out.over B79.out
              generalize hdn : d.n = dn at *
              generalize hda : d.a = da at *
              clear hdn hda
              have t3 : (w9.alloc (Obj.cells #[.int .i64 za, .int .i64 zb] 30)).cell? ⟨w.heap.size + 1 + 1, 1, none⟩ = some (.int .u32 da) := (KD9.out.cell 1).trans (by rw [← HD1.out]; rfl)
              clear b9 b9' HDZ RZ7 KY8 B78 KZ7 KY7 HSA
              rcases Bool.eq_false_or_eq_true (ve == 0) with hve | hve
              case inr =>
                have hn : ¬ ve = 0 := by simpa using hve
                have hn' : (ve != 0) = true := by simpa using hn
                go_wp2_with fail
                go_ret
                exact ⟨rfl, B9.out⟩
              obtain rfl : ve = 0 := by simpa using hve
              clear hve
              rcases Bool.eq_false_or_eq_true (ye == 0) with hye | hye
              case inr =>
                have hn : ¬ ye = 0 := by simpa using hye
                have hn' : (ye != 0) = true := by simpa using hn
                go_wp2_with fail
                go_ret
                exact ⟨rfl, B9.out⟩
              obtain rfl : ye = 0 := by simpa using hye
              clear hye
              rcases Bool.eq_false_or_eq_true (ze == 0) with hze | hze
              case inr =>
                have hn : ¬ ze = 0 := by simpa using hze
                have hn' : (ze != 0) = true := by simpa using hn
                go_wp2_with fail
                go_ret
                exact ⟨rfl, B9.out⟩
              obtain rfl : ze = 0 := by simpa using hze
              clear hze
              cases may with
              | false =>
                go_wp2_with fail
                go_ret
                exact ⟨rfl, B9.out⟩
              | true =>
                have HM1b : Hid ((da == 3221225534 && (namedN dn ns && cs.all (hB d))) = true → (za, zb) = (xk, xa)) := HM1.out rfl
                have HM2b : Hid ((da == 3221225534 && (namedN dn ns && cs.all (hB d))) = false → (za, zb) = (va, vb) ∧ (ya, yb) = (va, vb)) := HM2.out rfl rfl rfl
                clear HM1 HM2
                generalize hqa : (da == 3221225534) = qa at *
                go_wp2_with fail
                clear t3 hqa
                generalize (w9.alloc (Obj.cells #[.int .i64 za, .int .i64 zb] 30)) = V9 at *
                generalize w9.heap.size = N9 at *
                have HM9 : Hid (Blk V9 (w.heap.size + 1) 52 [.int .i64 xk, .int .i64 xa, .slice p3 ns.length c3, .slice p4 cs.length c4]) := HM7.out.over B79.out
                have KV9 : Hid (Blk V9 N5 30 [.int .i64 va, .int .i64 vb]) := KV7.out.over B79.out
                have SMn9 : Hid (StrR V9 (.slice p3 ns.length c3) ns) := SMn7.out.below B79.out
                have SMc9 : Hid (CdR V9 (.slice p4 cs.length c4) cs) := SMc7.out.below B79.out
                clear B79 HM7 KV7 SMn7 SMc7 KD7 B7
                go_loopw [19, 20] (fun vb vi wr => ∃ i : Nat, vi = .int .i64 i ∧ i ≤ ns.length ∧ vb = .bool (namedN dn (ns.take i)) ∧ Below V9.heap.size V9 wr) (fun _ vi _ => ns.length - (intOf vi).toNat)
                case atStart => exact ⟨0, rfl, Nat.zero_le _, rfl, Below.refl _ _⟩
                case round =>
                  obtain ⟨i, rfl, hi, rfl, hb⟩ := hrel
                  have HB : Hid (Below V9.heap.size V9 wr) := hb
                  have m2 : wr.cell? ⟨w.heap.size + 1, 2, none⟩ = some (.slice p3 ns.length c3) := (HM9.out.over hb).cell 2
                  by_cases hlt : i < ns.length
                  · have hi1 : (i : Int) < (ns.length : Int) := by omega
                    obtain ⟨b1, o1, rfl, e1⟩ := strR_at (SMn9.out.below hb) hlt
                    have HI : Hid (∀ W, Calls Try.prog 10 #[.string ns[i]] W fun e w' => e = .returned (.tuple #[.int .u32 (nrI ns[i]), .bool (knB ns[i])]) ∧ Below W.heap.size W w') := nr_any _
                    have HS : Hid (namedN dn (ns.take (i + 1)) = (namedN dn (ns.take i) || (knB ns[i] && (nrI ns[i] == dn)))) := anyN_step hlt
                    have HDn : Hid (∀ W, Below V9.heap.size V9 W → W.cell? ⟨w.heap.size + 1 + 1, 0, none⟩ = some (.int .u32 dn)) := fun W h => ((KD9.out.over h).cell 0).trans (by rw [← HD0.out]; rfl)
                    clear hb HM1b HM2b
                    generalize namedN dn (ns.take i) = q0 at *
                    generalize knB ns[i] = q at *
                    generalize nrI ns[i] = z at *
                    generalize ns[i] = s at *
                    cases q0 with
                    | true =>
                      have HS2 : Hid (namedN dn (ns.take (i + 1)) = true) := by show _ = _; rw [HS.out]; simp
                      go_wp2_with (go_at_call 10; refine (HI.out _).mono ?_; rintro e w10 ⟨rfl, b10⟩)
                      go_roundw
                      case rel => exact ⟨i + 1, by go_num, hlt, by rw [HS2.out], HB.out.trans (b10.mono HB.out.size)⟩
                      case measure => simp [intOf]; omega
                    | false =>
                      cases q with
                      | false =>
                        have HS2 : Hid (namedN dn (ns.take (i + 1)) = false) := by show _ = _; rw [HS.out]; simp
                        go_wp2_with (go_at_call 10; refine (HI.out _).mono ?_; rintro e w10 ⟨rfl, b10⟩)
                        go_roundw
                        case rel => exact ⟨i + 1, by go_num, hlt, by rw [HS2.out], HB.out.trans (b10.mono HB.out.size)⟩
                        case measure => simp [intOf]; omega
                      | true =>
                        rcases Bool.eq_false_or_eq_true (z == dn) with hz | hz
                        · have HS2 : Hid (namedN dn (ns.take (i + 1)) = true) := by show _ = _; rw [HS.out, hz]; simp
                          go_wp2_with (go_at_call 10; refine (HI.out _).mono ?_; rintro e w10 ⟨rfl, b10⟩; have t4 := HDn.out _ (HB.out.trans (b10.mono HB.out.size)))
                          go_roundw
                          case rel => exact ⟨i + 1, by go_num, hlt, by rw [HS2.out], HB.out.trans (b10.mono HB.out.size)⟩
                          case measure => simp [intOf]; omega
                        · have HS2 : Hid (namedN dn (ns.take (i + 1)) = false) := by show _ = _; rw [HS.out, hz]; simp
                          go_wp2_with (go_at_call 10; refine (HI.out _).mono ?_; rintro e w10 ⟨rfl, b10⟩; have t4 := HDn.out _ (HB.out.trans (b10.mono HB.out.size)))
                          go_roundw
                          case rel => exact ⟨i + 1, by go_num, hlt, by rw [HS2.out], HB.out.trans (b10.mono HB.out.size)⟩
                          case measure => simp [intOf]; omega
                  · have hge : ¬ (i : Int) < (ns.length : Int) := by omega
                    have HN : Hid (namedN dn (ns.take i) = namedN dn ns) := by show _ = _; rw [List.take_of_length_le (by omega)]
                    rw [HN.out]
                    have HBa : Hid (Below V9.heap.size V9 wr) := HB.out
                    clear hb HN HB
                    generalize namedN dn ns = qn at *
                    go_upto_region 20 with (fail)
                    go_cut [18] (fun v wc => v = .bool (qa && qn) ∧ Below V9.heap.size V9 wc)
                    case first =>
                      cases qa with
                      | true =>
                        go_wp2_with fail
                        go_meet
                        exact ⟨rfl, HBa.out⟩
                      | false =>
                        go_wp2_with fail
                        go_meet
                        exact ⟨rfl, HBa.out⟩
                    case rest =>
                      obtain ⟨rfl, hbw⟩ := hcut
                      have HBb : Hid (Below V9.heap.size V9 wc) := hbw
                      clear hbw HBa m2
                      generalize hM0 : (qa && qn) = M0 at *
                      have HM1c : Hid ((M0 && cs.all (hB d)) = true → (za, zb) = (xk, xa)) := fun h => HM1b.out (by rw [← Bool.and_assoc, hM0]; exact h)
                      have HM2c : Hid ((M0 && cs.all (hB d)) = false → (za, zb) = (va, vb) ∧ (ya, yb) = (va, vb)) := fun h => HM2b.out (by rw [← Bool.and_assoc, hM0]; exact h)
                      clear hM0 HM1b HM2b
                      go_wp2_with fail
                      go_loopw [18, 23] (fun vb vj wz => ∃ j : Nat, vj = .int .i64 j ∧ j ≤ cs.length ∧ vb = .bool (M0 && (cs.take j).all (hB d)) ∧ Below V9.heap.size V9 wz) (fun _ vj _ => cs.length - (intOf vj).toNat)
                      case atStart => exact ⟨0, rfl, Nat.zero_le _, by simp, HBb.out⟩
                      case round =>
                        obtain ⟨j, rfl, hj, rfl, hb⟩ := hrel
                        have HB : Hid (Below V9.heap.size V9 wr) := hb
                        have m2 : wr.cell? ⟨w.heap.size + 1, 3, none⟩ = some (.slice p4 cs.length c4) := (HM9.out.over hb).cell 3
                        by_cases hlt2 : j < cs.length
                        · have hj1 : (j : Int) < (cs.length : Int) := by omega
                          obtain ⟨b3, o3, rfl, e3⟩ := cdR_at (SMc9.out.below hb) hlt2
                          have HX : Hid (∀ W, Calls Try.prog 25 #[.agg #[.int .i64 cs[j].arg, .int .i64 cs[j].op, .int .u64 cs[j].mask, .int .u64 cs[j].val], .agg #[d0v, d1v, d2v, d3v, d4v, d5v, d6v, d7v, d8v]] W fun e w' => e = .returned (.bool (hB d cs[j])) ∧ Below W.heap.size W w') := HHo.out cs[j]
                          have HS : Hid ((M0 && (cs.take (j + 1)).all (hB d)) = ((M0 && (cs.take j).all (hB d)) && hB d cs[j])) := by show _ = _; rw [allH_step hlt2, Bool.and_assoc]
                          have HCX : Hid (∀ W, Below V9.heap.size V9 W → cs[j].at W b3 (o3 + j * 4)) := fun W hW => by
                            obtain ⟨b5, o5, e5, e6⟩ := cdR_at (SMc9.out.below hW) hlt2
                            cases e5
                            exact e6
                          have HRX : Hid (∀ W, Below V9.heap.size V9 W → W.cell? ⟨w.heap.size + 1, 3, none⟩ = some (.slice (some ⟨b3, o3, none⟩) cs.length c4)) := fun W h => (HM9.out.over h).cell 3
                          have HDX9 : Hid (∀ W, Below V9.heap.size V9 W → W.cell? ⟨w.heap.size + 1 + 1, 0, none⟩ = some d0v ∧ W.cell? ⟨w.heap.size + 1 + 1, 1, none⟩ = some d1v ∧ W.cell? ⟨w.heap.size + 1 + 1, 2, none⟩ = some d2v ∧ W.cell? ⟨w.heap.size + 1 + 1, 3, none⟩ = some d3v ∧ W.cell? ⟨w.heap.size + 1 + 1, 4, none⟩ = some d4v ∧ W.cell? ⟨w.heap.size + 1 + 1, 5, none⟩ = some d5v ∧ W.cell? ⟨w.heap.size + 1 + 1, 6, none⟩ = some d6v ∧ W.cell? ⟨w.heap.size + 1 + 1, 7, none⟩ = some d7v ∧ W.cell? ⟨w.heap.size + 1 + 1, 8, none⟩ = some d8v) := fun W h => ⟨(KD9.out.over h).cell 0, (KD9.out.over h).cell 1, (KD9.out.over h).cell 2, (KD9.out.over h).cell 3, (KD9.out.over h).cell 4, (KD9.out.over h).cell 5, (KD9.out.over h).cell 6, (KD9.out.over h).cell 7, (KD9.out.over h).cell 8⟩
                          clear hb HHo e3 HM1c HM2c
                          generalize hg0 : (M0 && (cs.take j).all (hB d)) = g0 at *
                          clear hg0
                          generalize hB d cs[j] = q at *
                          generalize cs[j] = y at *
                          obtain ⟨ya1, yo, ym, yv⟩ := y
                          have HCX : Hid (∀ W, Below V9.heap.size V9 W → W.cell? ⟨b3, o3 + j * 4, none⟩ = some (.int .i64 ya1) ∧ W.cell? ⟨b3, o3 + j * 4 + 1, none⟩ = some (.int .i64 yo) ∧ W.cell? ⟨b3, o3 + j * 4 + 2, none⟩ = some (.int .u64 ym) ∧ W.cell? ⟨b3, o3 + j * 4 + 3, none⟩ = some (.int .u64 yv)) := HCX.out
                          dsimp only at HX
                          go_wp2_with fail
                          clear m2
                          refine wp_region_held_drew (S := (fun W => Below V9.heap.size V9 W)) (by kernel_rfl) (HB.out.drew) (fun hHeld => ?_)
                          simp only [List.size_toArray, List.length_cons, List.length_nil, Nat.reduceAdd]
                          refine wpAnyH_take (i := 0) (v := ?_) rfl (by kernel_rfl) (by kernel_rfl) (by kernel_rfl) (fun _ _ _ h => h) (Or.inl ⟨by rfl, ?_⟩) hHeld ?_
                          rotate_left
                          · (intro w hSw; (try dsimp only at hSw); go_simp; try with_reducible rfl)
                          try simp only [Act.put, List.setIfInBounds_toArray, List.set_cons_zero, List.set_cons_succ, List.getElem_toArray, List.getElem_cons_zero, List.getElem_cons_succ]
                          refine wpAnyH_take (i := 1) (v := ?_) rfl (by kernel_rfl) (by kernel_rfl) (by kernel_rfl) (fun _ _ _ h => h) (Or.inl ⟨by rfl, ?_⟩) hHeld ?_
                          rotate_left
                          · (intro w hSw; (try dsimp only at hSw); have s0 := HRX.out _ hSw; go_simp; try with_reducible rfl)
                          try simp only [Act.put, List.setIfInBounds_toArray, List.set_cons_zero, List.set_cons_succ, List.getElem_toArray, List.getElem_cons_zero, List.getElem_cons_succ]
                          refine wpAnyH_take (i := 2) (v := ?_) rfl (by kernel_rfl) (by kernel_rfl) (by kernel_rfl) (fun _ _ _ h => h) (Or.inl ⟨by rfl, ?_⟩) hHeld ?_
                          rotate_left
                          · (intro w hSw; (try dsimp only at hSw); go_simp; try with_reducible rfl)
                          try simp only [Act.put, List.setIfInBounds_toArray, List.set_cons_zero, List.set_cons_succ, List.getElem_toArray, List.getElem_cons_zero, List.getElem_cons_succ]
                          refine wpAnyH_take (i := 3) (v := ?_) rfl (by kernel_rfl) (by kernel_rfl) (by kernel_rfl) (fun _ _ _ h => h) (Or.inl ⟨by rfl, ?_⟩) hHeld ?_
                          rotate_left
                          · (intro w hSw; (try dsimp only at hSw); go_simp; try with_reducible rfl)
                          try simp only [Act.put, List.setIfInBounds_toArray, List.set_cons_zero, List.set_cons_succ, List.getElem_toArray, List.getElem_cons_zero, List.getElem_cons_succ]
                          refine wpAnyH_take (i := 4) (v := ?_) rfl (by kernel_rfl) (by kernel_rfl) (by kernel_rfl) (fun _ _ _ h => h) (Or.inl ⟨by rfl, ?_⟩) hHeld ?_
                          rotate_left
                          · (intro w hSw; (try dsimp only at hSw); obtain ⟨s0, s1, s2, s3⟩ := (HCX.out _ hSw); go_simp; try with_reducible rfl)
                          try simp only [Act.put, List.setIfInBounds_toArray, List.set_cons_zero, List.set_cons_succ, List.getElem_toArray, List.getElem_cons_zero, List.getElem_cons_succ]
                          refine wpAnyH_take (i := 5) (v := ?_) rfl (by kernel_rfl) (by kernel_rfl) (by kernel_rfl) (fun _ _ _ h => h) (Or.inl ⟨by rfl, ?_⟩) hHeld ?_
                          rotate_left
                          · (intro w hSw; (try dsimp only at hSw); obtain ⟨s0, s1, s2, s3, s4, s5, s6, s7, s8⟩ := HDX9.out _ hSw; go_simp; try with_reducible rfl)
                          try simp only [Act.put, List.setIfInBounds_toArray, List.set_cons_zero, List.set_cons_succ, List.getElem_toArray, List.getElem_cons_zero, List.getElem_cons_succ]
                          refine wpAnyH_ready (rs := [6]) (by kernel_rfl) (by simp) ?_
                          refine AllReadyH.cons rfl (fun K hK => ?_) AllReadyH.nil
                          go_simp
                          refine (HX.out _).mono ?_
                          rintro e w5 ⟨rfl, b5⟩
                          go_wp2_with fail
                          refine hK.out _ _ (hHeld.trans (b5.mono hHeld.size)) (fun hHeld => ?_)
                          clear hK K
                          try simp only [Act.put, List.setIfInBounds_toArray, List.set_cons_zero, List.set_cons_succ, List.getElem_toArray, List.getElem_cons_zero, List.getElem_cons_succ]
                          refine wpAnyH_take (i := 7) (v := ?_) rfl (by kernel_rfl) (by kernel_rfl) (by kernel_rfl) (fun _ _ _ h => h) (Or.inl ⟨by rfl, ?_⟩) hHeld ?_
                          rotate_left
                          · (intro w hSw; (try dsimp only at hSw); go_simp; try with_reducible rfl)
                          try simp only [Act.put, List.setIfInBounds_toArray, List.set_cons_zero, List.set_cons_succ, List.getElem_toArray, List.getElem_cons_zero, List.getElem_cons_succ]
                          refine wpAnyH_done (by kernel_rfl) ?_ _
                          cases g0 with
                          | true =>
                            have HS2 : Hid (q = (M0 && (cs.take (j + 1)).all (hB d))) := by show _ = _; rw [HS.out]; simp
                            go_wp2_with fail
                            go_roundw
                            case rel => exact ⟨j + 1, by go_num, hlt2, by rw [HS2.out], hHeld⟩
                            case measure => simp [intOf]; omega
                          | false =>
                            have HS2 : Hid ((M0 && (cs.take (j + 1)).all (hB d)) = false) := by show _ = _; rw [HS.out]; simp
                            go_wp2_with fail
                            go_roundw
                            case rel => exact ⟨j + 1, by go_num, hlt2, by rw [HS2.out], hHeld⟩
                            case measure => simp [intOf]; omega
                        · have hge2 : ¬ (j : Int) < (cs.length : Int) := by omega
                          have HR : Hid ((M0 && (cs.take j).all (hB d)) = (M0 && cs.all (hB d))) := by show _ = _; rw [List.take_of_length_le (by omega)]
                          rw [HR.out]
                          clear HR
                          have t16a : wr.cell? ⟨N9, 0, none⟩ = some (.int .i64 za) := (KZ9.out.over hb).cell 0
                          have t16b : wr.cell? ⟨N9, 1, none⟩ = some (.int .i64 zb) := (KZ9.out.over hb).cell 1
                          have t14a : wr.cell? ⟨N8, 0, none⟩ = some (.int .i64 ya) := (KY9.out.over hb).cell 0
                          have t14b : wr.cell? ⟨N8, 1, none⟩ = some (.int .i64 yb) := (KY9.out.over hb).cell 1
                          have t10a : wr.cell? ⟨N5, 0, none⟩ = some (.int .i64 va) := (KV9.out.over hb).cell 0
                          have t10b : wr.cell? ⟨N5, 1, none⟩ = some (.int .i64 vb) := (KV9.out.over hb).cell 1
                          have m0 : wr.cell? ⟨w.heap.size + 1, 0, none⟩ = some (.int .i64 xk) := (HM9.out.over hb).cell 0
                          have m1 : wr.cell? ⟨w.heap.size + 1, 1, none⟩ = some (.int .i64 xa) := (HM9.out.over hb).cell 1
                          clear hb
                          generalize (M0 && cs.all (hB d)) = g0 at *
                          cases g0 with
                          | true =>
                            have he := HM1c.out rfl
                            obtain ⟨rfl, rfl⟩ : za = xk ∧ zb = xa := by injection he with h1 h2; exact ⟨h1, h2⟩
                            have hq : ∀ W : World, (Op.equalIn 10000 30 (.agg #[.int .i64 za, .int .i64 zb]) (.agg #[.int .i64 za, .int .i64 zb])).run Try.prog W = .ok true W := fun W => by rw [equalIn_act, sameA_self]
                            clear he HM1c HM2c
                            go_wp2_with fail
                            go_ret
                            exact ⟨rfl, B9.out.trans (HB.out.mono B9.out.size)⟩
                          | false =>
                            obtain ⟨he, he2⟩ := HM2c.out rfl
                            obtain ⟨rfl, rfl⟩ : za = va ∧ zb = vb := by injection he with h1 h2; exact ⟨h1, h2⟩
                            obtain ⟨rfl, rfl⟩ : ya = za ∧ yb = zb := by injection he2 with h1 h2; exact ⟨h1, h2⟩
                            have hq : ∀ W : World, (Op.equalIn 10000 30 (.agg #[.int .i64 ya, .int .i64 yb]) (.agg #[.int .i64 ya, .int .i64 yb])).run Try.prog W = .ok true W := fun W => by rw [equalIn_act, sameA_self]
                            clear he he2 HM1c HM2c
                            go_wp2_with fail
                            go_ret
                            exact ⟨rfl, B9.out.trans (HB.out.mono B9.out.size)⟩

end Go.Proofs.Ytimclfdecdappaa
