/-
  What rules say of a call, by the document.
-/
import Derived.Test.YtimclfdecdappaaRCheck
import Derived.Test.YtimclfdecdappaaDecide
import Derived.Test.YtimclfdecdappaaCRef
namespace Go.Proofs.Ytimclfdecdappaa
open Go.RowKit

/-- does a rule speak of a call, by numbers? -/
def namedN (z : Int) (l : List ByteArray) : Bool := l.any fun s => knB s && (nrI s == z)

theorem named_eq (z : Int) (l : List ByteArray) : (isNr z && namedB z l) = namedN z l := by
  unfold namedB namedN
  induction l with
  | nil => simp
  | cons x l ih =>
    rw [List.any_cons, List.any_cons, ← ih, ← spk]
    cases isNr z <;> simp

def meetN (d : Da) (x : Xl) : Bool := namedN d.n x.names && x.conds.all (hB d)

/-- the act of the first rule that does, by numbers. -/
def verdN (d : Da) (k a : Int) : List Xl → Int × Int
  | [] => (k, a)
  | x :: r => if meetN d x = true then (x.k, x.a) else verdN d k a r

theorem verd_eq (d : Da) (k a : Int) (l : List Xl) : verdP d k a l = verdN d k a l := by
  unfold verdP
  cases h : isNr d.n with
  | true =>
    rw [if_pos rfl]
    induction l with
    | nil => rfl
    | cons x l ih =>
      have : meetB d x = meetN d x := by
        unfold meetB meetN
        rw [← named_eq, h, Bool.true_and]
      unfold verdF verdN
      rw [this, ih]
  | false =>
    rw [if_neg (by decide)]
    induction l with
    | nil => rfl
    | cons x l ih =>
      have : meetN d x = false := by
        unfold meetN
        rw [← named_eq, h, Bool.false_and, Bool.false_and]
      unfold verdN
      rw [this, if_neg (by decide)]
      exact ih

theorem verdN_step {d : Da} {k a : Int} {l : List Xr} {i : Nat} (h : i < l.length) : verdN d k a ((l.drop i).map Xr.r) = if meetN d l[i].r = true then (l[i].r.k, l[i].r.a) else verdN d k a ((l.drop (i + 1)).map Xr.r) := by
  rw [List.drop_eq_getElem_cons h]
  rfl
theorem verdN_end {d : Da} {k a : Int} {l : List Xr} {i : Nat} (h : ¬ i < l.length) : verdN d k a ((l.drop i).map Xr.r) = (k, a) := by
  rw [List.drop_eq_nil_of_le (by omega)]
  rfl

theorem rholdsX (x : Xc) (d : Da) (w : World) (hd : d.ok) : Calls Try.prog 47 #[.agg #[.int .i64 x.arg, .int .i64 x.op, .int .u64 x.mask, .int .u64 x.val], .agg d.cells.toArray] w fun e w' => e = .returned (.bool (hB d x)) ∧ Below w.heap.size w w' :=
  refHolds_any x.arg x.op x.mask x.val d w hd

theorem anyN_step {z : Int} {l : List ByteArray} {i : Nat} (h : i < l.length) : namedN z (l.take (i + 1)) = (namedN z (l.take i) || (knB l[i] && (nrI l[i] == z))) := by
  unfold namedN
  rw [List.take_succ_eq_append_getElem h, List.any_append]
  simp
theorem allH_step {d : Da} {l : List Xc} {i : Nat} (h : i < l.length) : (l.take (i + 1)).all (hB d) = ((l.take i).all (hB d) && hB d l[i]) := by
  rw [List.take_succ_eq_append_getElem h, List.all_append]
  simp

theorem nine_of (d : Da) (h : d.ok) : ∃ d1 d2 d3 d4 d5 d6 d7 d8, d.cells = [.int .u32 d.n, d1, d2, d3, d4, d5, d6, d7, d8] := by
  obtain ⟨n, a, p, g⟩ := d
  obtain ⟨_, _, _, h6, _⟩ := h
  match g, h6 with
  | [g0, g1, g2, g3, g4, g5], _ => exact ⟨_, _, _, _, _, _, _, _, rfl⟩

/-- a rule that is walked through, and a call, in blocks of their own. -/
theorem two_rd (w : World) (C : Array Value) (A : List Value) : Blk ((w.alloc (Obj.cells C 52)).alloc (Obj.cells A.toArray 41)) w.heap.size 52 C.toList ∧ Blk ((w.alloc (Obj.cells C 52)).alloc (Obj.cells A.toArray 41)) (w.heap.size + 1) 41 A ∧ Below w.heap.size w ((w.alloc (Obj.cells C 52)).alloc (Obj.cells A.toArray 41)) :=
  ⟨(blk_new w _ 52).alloc _, blk_new' w _ _ 41, room_below w _ _⟩

set_option maxRecDepth 8000 in
set_option maxHeartbeats 4000000 in
set_option linter.unusedSimpArgs false in
theorem rmeets_any (w : World) (x : Xr) (d : Da) (hn : StrR w x.vn x.r.names) (hc : CdR w x.vc x.r.conds) (h1 : x.r.names.length ≤ 9000000) (h2 : x.r.conds.length ≤ 9000000) (hd : d.ok) :
    Calls Try.prog 32 #[.agg #[.int .i64 x.r.k, .int .i64 x.r.a, x.vn, x.vc], .agg d.cells.toArray] w fun e w' => e = .returned (.bool (meetN d x.r)) ∧ Below w.heap.size w w' := by
  obtain ⟨⟨k, a, ns, cs⟩, vn, vc⟩ := x
  dsimp only at hn hc h1 h2 ⊢
  obtain ⟨p1, c1, rfl⟩ : ∃ p c, vn = .slice p ns.length c := by obtain ⟨p, c, e, _⟩ := hn; exact ⟨p, c, e⟩
  obtain ⟨p2, c2, rfl⟩ : ∃ p c, vc = .slice p cs.length c := by obtain ⟨p, c, e, _⟩ := hc; exact ⟨p, c, e⟩
  have hsz : (Try.prog.info? 41).map (·.size) = some d.cells.toArray.size := d.size hd
  have HH : Hid (∀ (x : Xc) W, Calls Try.prog 47 #[.agg #[.int .i64 x.arg, .int .i64 x.op, .int .u64 x.mask, .int .u64 x.val], .agg d.cells.toArray] W fun e w' => e = .returned (.bool (hB d x)) ∧ Below W.heap.size W w') := fun x W => rholdsX x d W hd
  have HE : Hid (meetN d ⟨k, a, ns, cs⟩ = (namedN d.n ns && cs.all (hB d))) := rfl
  have h3 := two_rd w #[.int .i64 k, .int .i64 a, .slice p1 ns.length c1, .slice p2 cs.length c2] d.cells
  obtain ⟨d1v, d2v, d3v, d4v, d5v, d6v, d7v, d8v, hAA⟩ := nine_of d hd
  rw [hAA] at hsz HH h3 ⊢
  generalize hd0 : Value.int .u32 d.n = d0v at *
  have HD0 : Hid (Value.int .u32 d.n = d0v) := hd0
  clear hd0 hAA
  have BE : Hid (Below w.heap.size w ((w.alloc (Obj.cells #[.int .i64 k, .int .i64 a, .slice p1 ns.length c1, .slice p2 cs.length c2] 52)).alloc (Obj.cells #[d0v, d1v, d2v, d3v, d4v, d5v, d6v, d7v, d8v] 41))) := h3.2.2
  have KD : Hid (Blk ((w.alloc (Obj.cells #[.int .i64 k, .int .i64 a, .slice p1 ns.length c1, .slice p2 cs.length c2] 52)).alloc (Obj.cells #[d0v, d1v, d2v, d3v, d4v, d5v, d6v, d7v, d8v] 41)) (w.heap.size + 1) 41 [d0v, d1v, d2v, d3v, d4v, d5v, d6v, d7v, d8v]) := h3.2.1
  have KR : Hid (Blk ((w.alloc (Obj.cells #[.int .i64 k, .int .i64 a, .slice p1 ns.length c1, .slice p2 cs.length c2] 52)).alloc (Obj.cells #[d0v, d1v, d2v, d3v, d4v, d5v, d6v, d7v, d8v] 41)) w.heap.size 52 [.int .i64 k, .int .i64 a, .slice p1 ns.length c1, .slice p2 cs.length c2]) := h3.1
  have SN : Hid (StrR ((w.alloc (Obj.cells #[.int .i64 k, .int .i64 a, .slice p1 ns.length c1, .slice p2 cs.length c2] 52)).alloc (Obj.cells #[d0v, d1v, d2v, d3v, d4v, d5v, d6v, d7v, d8v] 41)) (.slice p1 ns.length c1) ns) := hn.below h3.2.2
  have SC : Hid (CdR ((w.alloc (Obj.cells #[.int .i64 k, .int .i64 a, .slice p1 ns.length c1, .slice p2 cs.length c2] 52)).alloc (Obj.cells #[d0v, d1v, d2v, d3v, d4v, d5v, d6v, d7v, d8v] 41)) (.slice p2 cs.length c2) cs) := hc.below h3.2.2
  clear hn hc hd h3
  generalize meetN d ⟨k, a, ns, cs⟩ = R at *
  go_enter Try.func32, Try.ntmps32
  go_wp2_with fail
  generalize ((w.alloc (Obj.cells #[.int .i64 k, .int .i64 a, .slice p1 ns.length c1, .slice p2 cs.length c2] 52)).alloc (Obj.cells #[d0v, d1v, d2v, d3v, d4v, d5v, d6v, d7v, d8v] 41)) = X at *
  go_loopw [5, 6] (fun vb vi wr => ∃ i : Nat, vi = .int .i64 i ∧ i ≤ ns.length ∧ vb = .bool (namedN d.n (ns.take i)) ∧ Below X.heap.size X wr) (fun _ vi _ => ns.length - (intOf vi).toNat)
  case atStart => exact ⟨0, rfl, Nat.zero_le _, rfl, Below.refl _ _⟩
  case round =>
    obtain ⟨i, rfl, hi, rfl, hb⟩ := hrel
    have HB : Hid (Below X.heap.size X wr) := hb
    have t2 : wr.cell? ⟨w.heap.size, 2, none⟩ = some (.slice p1 ns.length c1) := (KR.out.over hb).cell 2
    by_cases hlt : i < ns.length
    · have hi1 : (i : Int) < (ns.length : Int) := by omega
      obtain ⟨b1, o1, rfl, e1⟩ := strR_at (SN.out.below hb) hlt
      have HI : Hid (∀ W, Calls Try.prog 11 #[.string ns[i]] W fun e w' => e = .returned (.tuple #[.int .u32 (nrI ns[i]), .bool (knB ns[i])]) ∧ Below W.heap.size W w') := refNr_any _
      have HS : Hid (namedN d.n (ns.take (i + 1)) = (namedN d.n (ns.take i) || (knB ns[i] && (nrI ns[i] == d.n)))) := anyN_step hlt
      clear hb
      generalize namedN d.n (ns.take i) = q0 at *
      generalize knB ns[i] = q at *
      generalize nrI ns[i] = z at *
      generalize ns[i] = s at *
      generalize d.n = dn at *
      cases q with
      | false =>
        have HS2 : Hid (q0 = namedN dn (ns.take (i + 1))) := by show _ = _; rw [HS.out]; simp
        go_wp2_with (go_at_call 11; refine (HI.out _).mono ?_; rintro e w1 ⟨rfl, b1⟩)
        go_roundw
        case rel => exact ⟨i + 1, by go_num, hlt, by rw [HS2.out], HB.out.trans (b1.mono HB.out.size)⟩
        case measure => simp [intOf]; omega
      | true =>
        rcases Bool.eq_false_or_eq_true (z == dn) with hz | hz
        · have HS2 : Hid (namedN dn (ns.take (i + 1)) = true) := by show _ = _; rw [HS.out, hz]; simp
          go_wp2_with (go_at_call 11; refine (HI.out _).mono ?_; rintro e w1 ⟨rfl, b1⟩; have t3 : w1.cell? ⟨w.heap.size + 1, 0, none⟩ = some (.int .u32 dn) := ((KD.out.over (HB.out.trans (b1.mono HB.out.size))).cell 0).trans (by rw [← HD0.out]; rfl))
          go_roundw
          case rel => exact ⟨i + 1, by go_num, hlt, by rw [HS2.out], HB.out.trans (b1.mono HB.out.size)⟩
          case measure => simp [intOf]; omega
        · have HS2 : Hid (q0 = namedN dn (ns.take (i + 1))) := by show _ = _; rw [HS.out, hz]; simp
          go_wp2_with (go_at_call 11; refine (HI.out _).mono ?_; rintro e w1 ⟨rfl, b1⟩; have t3 : w1.cell? ⟨w.heap.size + 1, 0, none⟩ = some (.int .u32 dn) := ((KD.out.over (HB.out.trans (b1.mono HB.out.size))).cell 0).trans (by rw [← HD0.out]; rfl))
          go_roundw
          case rel => exact ⟨i + 1, by go_num, hlt, by rw [HS2.out], HB.out.trans (b1.mono HB.out.size)⟩
          case measure => simp [intOf]; omega
    · have hge : ¬ (i : Int) < (ns.length : Int) := by omega
      have HN : Hid (namedN d.n (ns.take i) = namedN d.n ns) := by show _ = _; rw [List.take_of_length_le (by omega)]
      rw [HN.out]
      have HE3 : Hid (∀ b, b = namedN d.n ns → b = (namedN d.n ns && (cs.take 0).all (hB d))) := fun b h => by rw [h]; simp
      clear hb HN
      generalize hq0 : namedN d.n ns = q0 at *
      clear hq0
      go_wp2_with fail
      clear t2
      have HBa : Hid (Below X.heap.size X wr) := HB.out
      clear HB
      go_loopw [5, 9] (fun vb vj wz => ∃ j : Nat, vj = .int .i64 j ∧ j ≤ cs.length ∧ vb = .bool (q0 && (cs.take j).all (hB d)) ∧ Below X.heap.size X wz) (fun _ vj _ => cs.length - (intOf vj).toNat)
      case atStart => exact ⟨0, rfl, Nat.zero_le _, by simp, HBa.out⟩
      case round =>
        obtain ⟨j, rfl, hj, rfl, hb⟩ := hrel
        have HB : Hid (Below X.heap.size X wr) := hb
        have t2 : wr.cell? ⟨w.heap.size, 3, none⟩ = some (.slice p2 cs.length c2) := (KR.out.over hb).cell 3
        by_cases hlt2 : j < cs.length
        · have hj1 : (j : Int) < (cs.length : Int) := by omega
          obtain ⟨b3, o3, rfl, e3⟩ := cdR_at (SC.out.below hb) hlt2
          have HX : Hid (∀ W, Calls Try.prog 47 #[.agg #[.int .i64 cs[j].arg, .int .i64 cs[j].op, .int .u64 cs[j].mask, .int .u64 cs[j].val], .agg #[d0v, d1v, d2v, d3v, d4v, d5v, d6v, d7v, d8v]] W fun e w' => e = .returned (.bool (hB d cs[j])) ∧ Below W.heap.size W w') := HH.out cs[j]
          have HS : Hid ((q0 && (cs.take (j + 1)).all (hB d)) = ((q0 && (cs.take j).all (hB d)) && hB d cs[j])) := by show _ = _; rw [allH_step hlt2, Bool.and_assoc]
          have HCX : Hid (∀ W, Below X.heap.size X W → cs[j].at W b3 (o3 + j * 4)) := fun W hW => by
            obtain ⟨b5, o5, e5, e6⟩ := cdR_at (SC.out.below hW) hlt2
            cases e5
            exact e6
          clear hb HH e3
          generalize hg0 : (q0 && (cs.take j).all (hB d)) = g0 at *
          generalize hB d cs[j] = q at *
          generalize cs[j] = y at *
          obtain ⟨ya, yo, ym, yv⟩ := y
          have HCX : Hid (∀ W, Below X.heap.size X W → W.cell? ⟨b3, o3 + j * 4, none⟩ = some (.int .i64 ya) ∧ W.cell? ⟨b3, o3 + j * 4 + 1, none⟩ = some (.int .i64 yo) ∧ W.cell? ⟨b3, o3 + j * 4 + 2, none⟩ = some (.int .u64 ym) ∧ W.cell? ⟨b3, o3 + j * 4 + 3, none⟩ = some (.int .u64 yv)) := HCX.out
          dsimp only at HX
          go_wp2_with fail
          have HRX : Hid (∀ W, Below X.heap.size X W → W.cell? ⟨w.heap.size, 3, none⟩ = some (.slice (some ⟨b3, o3, none⟩) cs.length c2)) := fun W h => (KR.out.over h).cell 3
          have HDX : Hid (∀ W, Below X.heap.size X W → W.cell? ⟨w.heap.size + 1, 0, none⟩ = some d0v ∧ W.cell? ⟨w.heap.size + 1, 1, none⟩ = some d1v ∧ W.cell? ⟨w.heap.size + 1, 2, none⟩ = some d2v ∧ W.cell? ⟨w.heap.size + 1, 3, none⟩ = some d3v ∧ W.cell? ⟨w.heap.size + 1, 4, none⟩ = some d4v ∧ W.cell? ⟨w.heap.size + 1, 5, none⟩ = some d5v ∧ W.cell? ⟨w.heap.size + 1, 6, none⟩ = some d6v ∧ W.cell? ⟨w.heap.size + 1, 7, none⟩ = some d7v ∧ W.cell? ⟨w.heap.size + 1, 8, none⟩ = some d8v) := fun W h => ⟨(KD.out.over h).cell 0, (KD.out.over h).cell 1, (KD.out.over h).cell 2, (KD.out.over h).cell 3, (KD.out.over h).cell 4, (KD.out.over h).cell 5, (KD.out.over h).cell 6, (KD.out.over h).cell 7, (KD.out.over h).cell 8⟩
          clear t2
          refine wp_region_held_drew (S := (fun W => Below X.heap.size X W)) (by kernel_rfl) (HB.out.drew) (fun hHeld => ?_)
          simp only [List.size_toArray, List.length_cons, List.length_nil, Nat.reduceAdd]
          refine wpAnyH_take (i := 0) (v := ?_) rfl (by kernel_rfl) (by kernel_rfl) (by kernel_rfl) (fun _ _ _ h => h) (Or.inl ⟨by rfl, ?_⟩) hHeld ?_
          rotate_left
          · (intro w hSw; (try dsimp only at hSw); go_simp; try with_reducible rfl)
          try simp only [Act.put, List.setIfInBounds_toArray, List.set_cons_zero, List.set_cons_succ, List.getElem_toArray, List.getElem_cons_zero, List.getElem_cons_succ]
          refine wpAnyH_take (i := 1) (v := ?_) rfl (by kernel_rfl) (by kernel_rfl) (by kernel_rfl) (fun _ _ _ h => h) (Or.inl ⟨by rfl, ?_⟩) hHeld ?_
          rotate_left
          · (intro w hSw; (try dsimp only at hSw); have s0 := HRX.out _ hSw; go_simp; try with_reducible rfl)
          try simp only [Act.put, List.setIfInBounds_toArray, List.set_cons_zero, List.set_cons_succ, List.getElem_toArray, List.getElem_cons_zero, List.getElem_cons_succ]
          refine wpAnyH_take (i := 2) (v := ?_) rfl (by kernel_rfl) (by kernel_rfl) (by kernel_rfl) (fun _ _ _ h => h) (Or.inl ⟨by rfl, ?_⟩) hHeld ?_
          rotate_left
          · (intro w hSw; (try dsimp only at hSw); go_simp; try with_reducible rfl)
          try simp only [Act.put, List.setIfInBounds_toArray, List.set_cons_zero, List.set_cons_succ, List.getElem_toArray, List.getElem_cons_zero, List.getElem_cons_succ]
          refine wpAnyH_take (i := 3) (v := ?_) rfl (by kernel_rfl) (by kernel_rfl) (by kernel_rfl) (fun _ _ _ h => h) (Or.inl ⟨by rfl, ?_⟩) hHeld ?_
          rotate_left
          · (intro w hSw; (try dsimp only at hSw); go_simp; try with_reducible rfl)
          try simp only [Act.put, List.setIfInBounds_toArray, List.set_cons_zero, List.set_cons_succ, List.getElem_toArray, List.getElem_cons_zero, List.getElem_cons_succ]
          refine wpAnyH_take (i := 4) (v := ?_) rfl (by kernel_rfl) (by kernel_rfl) (by kernel_rfl) (fun _ _ _ h => h) (Or.inl ⟨by rfl, ?_⟩) hHeld ?_
          rotate_left
          · (intro w hSw; (try dsimp only at hSw); obtain ⟨s0, s1, s2, s3⟩ := (HCX.out _ hSw); go_simp; try with_reducible rfl)
          try simp only [Act.put, List.setIfInBounds_toArray, List.set_cons_zero, List.set_cons_succ, List.getElem_toArray, List.getElem_cons_zero, List.getElem_cons_succ]
          refine wpAnyH_take (i := 5) (v := ?_) rfl (by kernel_rfl) (by kernel_rfl) (by kernel_rfl) (fun _ _ _ h => h) (Or.inl ⟨by rfl, ?_⟩) hHeld ?_
          rotate_left
          · (intro w hSw; (try dsimp only at hSw); obtain ⟨s0, s1, s2, s3, s4, s5, s6, s7, s8⟩ := HDX.out _ hSw; go_simp; try with_reducible rfl)
          try simp only [Act.put, List.setIfInBounds_toArray, List.set_cons_zero, List.set_cons_succ, List.getElem_toArray, List.getElem_cons_zero, List.getElem_cons_succ]
          refine wpAnyH_ready (rs := [6]) (by kernel_rfl) (by simp) ?_
          refine AllReadyH.cons rfl (fun K hK => ?_) AllReadyH.nil
          go_simp
          refine (HX.out _).mono ?_
          rintro e w5 ⟨rfl, b5⟩
          go_wp2_with fail
          refine hK.out _ _ (hHeld.trans (b5.mono hHeld.size)) (fun hHeld => ?_)
          clear hK K
          try simp only [Act.put, List.setIfInBounds_toArray, List.set_cons_zero, List.set_cons_succ, List.getElem_toArray, List.getElem_cons_zero, List.getElem_cons_succ]
          refine wpAnyH_take (i := 7) (v := ?_) rfl (by kernel_rfl) (by kernel_rfl) (by kernel_rfl) (fun _ _ _ h => h) (Or.inl ⟨by rfl, ?_⟩) hHeld ?_
          rotate_left
          · (intro w hSw; (try dsimp only at hSw); go_simp; try with_reducible rfl)
          try simp only [Act.put, List.setIfInBounds_toArray, List.set_cons_zero, List.set_cons_succ, List.getElem_toArray, List.getElem_cons_zero, List.getElem_cons_succ]
          refine wpAnyH_done (by kernel_rfl) ?_ _
          cases q with
          | true =>
            have HS2 : Hid (g0 = (q0 && (cs.take (j + 1)).all (hB d))) := by show _ = _; rw [HS.out]; simp
            go_wp2_with fail
            go_roundw
            case rel => exact ⟨j + 1, by go_num, hlt2, by rw [HS2.out], hHeld⟩
            case measure => simp [intOf]; omega
          | false =>
            have HS2 : Hid ((q0 && (cs.take (j + 1)).all (hB d)) = false) := by show _ = _; rw [HS.out]; simp
            go_wp2_with fail
            go_roundw
            case rel => exact ⟨j + 1, by go_num, hlt2, by rw [HS2.out], hHeld⟩
            case measure => simp [intOf]; omega
        · have hge2 : ¬ (j : Int) < (cs.length : Int) := by omega
          have HR : Hid ((q0 && (cs.take j).all (hB d)) = R) := by show _ = _; rw [HE.out, List.take_of_length_le (by omega)]
          clear hb
          generalize (q0 && (cs.take j).all (hB d)) = g0 at *
          go_wp2_with fail
          go_ret
          exact ⟨ret_bool HR.out, BE.out.trans (HB.out.mono BE.out.size)⟩

end Go.Proofs.Ytimclfdecdappaa
