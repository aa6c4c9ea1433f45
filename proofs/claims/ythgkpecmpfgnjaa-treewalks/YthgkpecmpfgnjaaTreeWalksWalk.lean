/-
  The law TreeWalks, walked: true for every size and every number of parts that is asked for.
-/
import Derived.Test.YthgkpecmpfgnjaaTreeHalvesWalk
import Derived.Test.YthgkpecmpfgnjaaParts
import Derived.Laws.StructEq
namespace Go.Proofs.Ythgkpecmpfgnjaa
open Go.RowKit Go.Shelf

attribute [local go_sem] Oper.semAt_some

theorem all_range_same (xs ys : List Int) (h : xs.length = ys.length) : (List.range xs.length).all (fun i => xs.getD i 0 == ys.getD i 0) = (xs == ys) := by
  rw [Bool.eq_iff_iff, List.all_eq_true, beq_iff_eq]
  constructor
  · intro hh
    apply List.ext_getElem h
    intro i h1 h2
    have := hh i (List.mem_range.2 h1)
    simpa [List.getElem?_eq_getElem h1, List.getElem?_eq_getElem h2] using this
  · rintro rfl i _
    simp

/-- two arrays of numbers, compared. -/
theorem equalIn_row (w : World) (d : Nat) (t e : TypeId) (n : Nat) (k : IntKind) (ht : Try.prog.underlying t = some (.array n e)) (he : Try.prog.underlying e = some (.int k)) (hsz : ∀ w, (sizeOf e).run Try.prog w = .ok 1 w)
    (xs ys : List Int) (hx : xs.length = n) (hy : ys.length = n) :
    (Op.equalIn (d + 2) t (.agg (xs.map (Value.int k)).toArray) (.agg (ys.map (Value.int k)).toArray)).run Try.prog w = .ok (xs == ys) w := by
  rw [← all_range_same xs ys (hx.trans hy.symm), hx, List.range_eq_range', Op.equalIn]
  simp only [Sem.run_bind, run_underlying ht, Result.andThen_ok, hsz, Std.Legacy.Range.forIn_eq_forIn_range', Std.Legacy.Range.size, Nat.sub_zero, Nat.add_sub_cancel, Nat.div_one]
  have hl : ∀ i ∈ List.range' 0 n 1, i < n := fun i hi => by simpa using (List.mem_range'_1.1 hi).2
  generalize List.range' 0 n 1 = l at hl ⊢
  induction l with
  | nil => simp
  | cons i l ih =>
    have hi : i < n := hl i (by simp)
    have px : (part e (xs.map (Value.int k)).toArray (i * 1)).run Try.prog w = .ok (.int k (xs.getD i 0)) w := by
      simp [part, isAgg, run_underlying he, List.getElem?_eq_getElem (show i < xs.length by omega)]
    have py : (part e (ys.map (Value.int k)).toArray (i * 1)).run Try.prog w = .ok (.int k (ys.getD i 0)) w := by
      simp [part, isAgg, run_underlying he, List.getElem?_eq_getElem (show i < ys.length by omega)]
    have pe : (Op.equalIn (d + 1) e (.int k (xs.getD i 0)) (.int k (ys.getD i 0))).run Try.prog w = .ok (xs.getD i 0 == ys.getD i 0) w := run_equalIn_int w d e k k _ _ he
    simp only [List.forIn_cons, Sem.run_bind, px, py, pe, Result.andThen_ok, List.all_cons]
    cases hb : (xs.getD i 0 == ys.getD i 0)
    · simp
    · simp only [Bool.not_true, Bool.false_eq_true, if_false, Sem.run_pure, Result.andThen_ok, Bool.true_and]
      exact ih fun j hj => hl j (by simp [hj])
theorem equalIn_pair (w : World) (p q r s : Int) : (Op.equalIn 10000 39 (.agg #[.int .i64 p, .int .i64 q]) (.agg #[.int .i64 r, .int .i64 s])).run Try.prog w = .ok (([p, q] : List Int) == [r, s]) w :=
  equalIn_row w 9998 39 3 2 .i64 Try.underlying39 Try.underlying3 Try.sizeOf3 [p, q] [r, s] rfl rfl
theorem neq_pair (w : World) (p q r s : Int) : (binOp .neq 39 (.agg #[.int .i64 p, .int .i64 q]) (.agg #[.int .i64 r, .int .i64 s])).run Try.prog w = .ok (.bool (!(([p, q] : List Int) == [r, s]))) w := by
  have := equalIn_pair w p q r s
  rw [run_neq_struct, this]
  rfl

theorem parts_int (s : Int) (hs : s ≤ 3000) (W : World) : Calls Try.prog 17 #[.int .i64 0, .int .i64 s] W fun e w' => PTold W w' e (parts 0 s.toNat) := by
  by_cases h : s ≤ 0
  · rw [parts_none (by omega)]
    exact parts_no 0 s W h
  · obtain ⟨z, rfl⟩ : ∃ z : Nat, s = z := ⟨s.toNat, by omega⟩
    rw [show (z : Int).toNat = z from by omega]
    exact parts_any z 0 z W (by omega) (by omega)

theorem walks_far (s m : Int) (w : World) (h : 3000 < s ∨ m < 0) :
    Calls Try.prog 5 #[.int .i64 s, .int .i64 m] w fun e w' => e = .returned (.bool true) ∧ Below w.heap.size w w' := by
  have k0 := Boxed.new (w.alloc (.cells #[.int .i64 m] 3)) 4 (.bool false)
  have k1 := (Boxed.new w 3 (.int .i64 m)).alloc (.cells #[.bool false] 4)
  rw [World.size_alloc] at k0
  have hb0 : Below w.heap.size w ((w.alloc (.cells #[.int .i64 m] 3)).alloc (.cells #[.bool false] 4)) := (below_new w _).alloc (below_new w _).size _
  by_cases hs : 3000 < s
  · clear h
    go_enter Try.func5, Try.ntmps5
    go_wp2_with (go_at_call 9; refine (awake_any _).mono ?_; rintro e w1 ⟨rfl, hb1⟩; have c0 := (boxed_over k0 hb1).cell; have f0 := (boxed_over k0 hb1).frozen; have c1 := (boxed_over k1 hb1).cell)
    refine bodyPost_ret (v := .bool true) (by simp [results, Try.results5, go_sem, c0]) rfl ⟨rfl, (hb0.trans (hb1.mono hb0.size)).setCell (p := ⟨w.heap.size + 1, 0, none⟩) (Nat.le_succ _) _⟩
  · have hm : m < 0 := by omega
    have hs' : s ≤ 3000 := by omega
    clear h hs
    go_enter Try.func5, Try.ntmps5
    go_wp2_with (go_at_call 9; refine (awake_any _).mono ?_; rintro e w1 ⟨rfl, hb1⟩; have c0 := (boxed_over k0 hb1).cell; have f0 := (boxed_over k0 hb1).frozen; have c1 := (boxed_over k1 hb1).cell)
    refine bodyPost_ret (v := .bool true) (by simp [results, Try.results5, go_sem, c0]) rfl ⟨rfl, (hb0.trans (hb1.mono hb0.size)).setCell (p := ⟨w.heap.size + 1, 0, none⟩) (Nat.le_succ _) _⟩

/-- between two rounds. -/
def TwI (pl : List (Nat × Nat)) (m : Int) (b : Nat) (w3 : World) (pre : List Pt) (W : World) : Prop :=
  Boxed W b 3 (.int .i64 (pre.length : Nat)) ∧ prs pre <+: pl ∧ (pre.length : Int) ≤ m ∧ Below w3.heap.size w3 W
/-- behind a round that was the last. -/
def TwX (pl : List (Nat × Nat)) (m : Int) (b : Nat) (w3 : World) (c : Code) (pre : List Pt) (W : World) : Prop :=
  (¬ prs pre <+: pl) ∨ (c = .exit 0 ∧ ∃ q x, pre = q ++ [x] ∧ (q.length : Int) = m ∧ Boxed W b 3 (.int .i64 (q.length : Nat)) ∧ Below w3.heap.size w3 W)
theorem TwI.own (pl : List (Nat × Nat)) (m : Int) (b : Nat) (w3 : World) (B : Nat) (hB : w3.heap.size ≤ B) (hb : b < B) : OwnFrom B (TwI pl m b w3) := by
  rintro pre W W' row ⟨h1, h2, h3, h4⟩ hg hr
  exact ⟨h1.kept hg (fun e => by have := (hr _ e.symm).1; omega), h2, h3, h4.grown hg h4.size (fun j e => by have := (hr j e).1; omega)⟩
theorem TwX.own (pl : List (Nat × Nat)) (m : Int) (b : Nat) (w3 : World) (c : Code) (B : Nat) (hB : w3.heap.size ≤ B) (hb : b < B) : OwnFrom B (TwX pl m b w3 c) := by
  rintro pre W W' row (h | ⟨e0, q, x, h1, h2, h3, h4⟩) hg hr
  · exact .inl h
  · exact .inr ⟨e0, q, x, h1, h2, h3.kept hg (fun e => by have := (hr _ e.symm).1; omega), h4.grown hg h4.size (fun j e => by have := (hr j e).1; omega)⟩

/-- a beginning, with one more behind it. -/
theorem pre_snoc {q pl : List (Nat × Nat)} {p : Nat × Nat} (h : q <+: pl) (hl : q.length < pl.length) : q ++ [p] <+: pl ↔ pl[q.length]? = some p := by
  obtain ⟨r, rfl⟩ := h
  cases r with
  | nil => simp at hl
  | cons y r =>
    rw [List.getElem?_append_right (Nat.le_refl _), Nat.sub_self, List.getElem?_cons_zero]
    constructor
    · rintro ⟨z, hz⟩
      rw [List.append_assoc, List.append_cancel_left_eq] at hz
      injection hz with e _
      rw [e]
    · intro e
      injection e with e
      subst e
      exact ⟨r, by simp⟩

set_option maxRecDepth 100000 in
set_option maxHeartbeats 4000000 in
theorem walks_near (s m : Int) (w : World) (h : s ≤ 3000) (hm : 0 ≤ m) :
    CallsIn Fence.wide 3 Try.prog 5 #[.int .i64 s, .int .i64 m] w fun e w' => e = .returned (.bool true) ∧ Below w.heap.size w w' := by
  have k0 := Boxed.new (w.alloc (.cells #[.int .i64 m] 3)) 4 (.bool false)
  have k1 := (Boxed.new w 3 (.int .i64 m)).alloc (.cells #[.bool false] 4)
  rw [World.size_alloc] at k0
  have hb0 : Below w.heap.size w ((w.alloc (.cells #[.int .i64 m] 3)).alloc (.cells #[.bool false] 4)) := (below_new w _).alloc (below_new w _).size _
  have hnil := walk_nil
  have HP : Hid (∀ W : World, CallsIn Fence.wide 2 Try.prog 17 #[.int .i64 0, .int .i64 s] W fun e w' => PTold W w' e (parts 0 s.toNat)) := fun W => callsIn_wide.2 (parts_int s h W)
  have hd : decide ((3000 : Int) < s) = false := decide_eq_false (by omega)
  have hd2 : decide (m < (0 : Int)) = false := decide_eq_false (by omega)
  refine callsIn_of_wp_marks Try.func5 rfl trivial ?_ rfl
  simp only [Try.ntmps5, List.size_toArray, List.length_cons, List.length_nil, Nat.reduceAdd, Nat.reduceSub, Array.replicate_succ, Array.replicate_zero, List.push_toArray, List.append_toArray, List.nil_append, List.cons_append]
  gi_wp2_with (first
    | (refine ⟨trivial, ?_⟩; gi_at_call 9; refine (callsIn_wide.2 (awake_any _)).mono ?_; rintro e w1 ⟨rfl, hb1⟩; have K0 := boxed_over k0 hb1; have K1 := boxed_over k1 hb1; have c1 := K1.cell)
    | (refine ⟨trivial, ?_⟩; gi_at_call 17; refine (HP.out _).mono ?_; rintro e w2 ⟨hb2, v2, rfl, ho2⟩; obtain ⟨a2, c2, rfl, hps⟩ := owns_ps ho2)
    | (refine ⟨trivial, ?_⟩; gi_at_call 18; refine (walk_in Fence.wide 2 trivial rfl _ _).mono ?_; rintro e w3 ⟨rfl, rfl⟩))
  have hs1 := hb1.size
  rw [World.size_alloc, World.size_alloc] at hs1
  have hs2 := hb2.size
  have hB1 := hb0.trans (hb1.mono hb0.size)
  have hB2 := hB1.trans (hb2.mono hB1.size)
  have K0' := boxed_over K0 hb2
  have K1' := boxed_over K1 hb2
  have KW := Boxed.new w2 34 (.slice a2 (parts 0 s.toNat).length c2)
  have hw3 := below_new w2 (.cells #[.slice a2 (parts 0 s.toNat).length c2] 34)
  have K0'' := boxed_over K0' hw3
  have K1'' := boxed_over K1' hw3
  have hps' := hps.below hw3
  have hB3 := hB2.trans (hw3.mono hB2.size)
  have z3 : (w2.alloc (.cells #[.slice a2 (parts 0 s.toNat).length c2] 34)).heap.size = w2.heap.size + 1 := World.size_alloc _ _
  have bI := (Boxed.new (w2.alloc (.cells #[.slice a2 (parts 0 s.toNat).length c2] 34)) 3 (.int .i64 0)).alloc (.cells #[.int .i64 s] 3)
  rw [z3] at bI
  have bS := Boxed.new ((w2.alloc (.cells #[.slice a2 (parts 0 s.toNat).length c2] 34)).alloc (.cells #[.int .i64 0] 3)) 3 (.int .i64 s)
  rw [World.size_alloc, z3] at bS
  have hb4 : Below (w2.alloc (.cells #[.slice a2 (parts 0 s.toNat).length c2] 34)).heap.size (w2.alloc (.cells #[.slice a2 (parts 0 s.toNat).length c2] 34)) (((w2.alloc (.cells #[.slice a2 (parts 0 s.toNat).length c2] 34)).alloc (.cells #[.int .i64 0] 3)).alloc (.cells #[.int .i64 s] 3)) := (below_new _ _).alloc (below_new _ _).size _
  have hpl : (parts 0 s.toNat).length ≤ 6000 := by have := parts_le 0 s.toNat; omega
  refine wpIn_rangeFunc_ownG (F := Fence.wide) rfl (by decide) (gf := 24) (lb := #[.pointer (some ⟨w2.heap.size + 1 + 1, 0, none⟩)]) rfl trivial (enters_of Try.func24 (by kernel_rfl) rfl)
    (walk_stops Fence.wide rfl 2 trivial trivial trivial trivial rfl (w2.heap.size + 1 + 1) s (by omega) _ bS.cell) KeepF.trans hKb (Below.refl _ _) (fun _ => rfl)
    (TwI (parts 0 s.toNat) m (w2.heap.size + 1) (w2.alloc (.cells #[.slice a2 (parts 0 s.toNat).length c2] 34)))
    (TwX (parts 0 s.toNat) m (w2.heap.size + 1) (w2.alloc (.cells #[.slice a2 (parts 0 s.toNat).length c2] 34)))
    (TwI.own _ _ _ _ _ (by simp) (by simp)) (fun c => TwX.own _ _ _ _ c _ (by simp) (by simp))
    ⟨bI, ⟨_, rfl⟩, hm, hb4⟩
    (fun x => { tmps := #[.int .i64 s, .int .i64 m, undef, .pointer (some ⟨w.heap.size, 0, none⟩), .pointer (some ⟨w.heap.size + 1, 0, none⟩), .bool true, .pointer (some ⟨w2.heap.size, 0, none⟩), .pointer (some ⟨w2.heap.size + 1, 0, none⟩), .func (.func 24) #[] #[.pointer (some ⟨w2.heap.size + 1 + 1, 0, none⟩)], .int .i64 x.a, .int .i64 x.b, .bool true, .int .i64 s, .bool false, .bool false, .int .i64 m, .bool false, .bool false, undef, .int .i64 s, .slice a2 (parts 0 s.toNat).length c2, .int .i64 s, .func (.func 24) #[] #[.pointer (some ⟨w2.heap.size + 1 + 1, 0, none⟩)], .func (.func 24) #[] #[.pointer (some ⟨w2.heap.size + 1 + 1, 0, none⟩)], .bool false, .func (.func 24) #[] #[.pointer (some ⟨w2.heap.size + 1 + 1, 0, none⟩)], .int .i64 x.a, .int .i64 x.b, undef, undef, undef, undef, undef, undef, undef, undef, undef, undef, undef, undef, undef, undef, undef, undef, undef, undef, undef, undef, undef, undef, undef, undef, undef, undef, undef, undef], defers := [] }) ?assign ?body ?done ?stop
  case assign =>
    intro l' x W K hK
    simp only [Pt.encs]
    gi_wp2
    exact hK
  case body =>
    rintro l' pre ⟨xa, xb, hxa, hxb⟩ W ⟨bi, hpre, hpm, hbw⟩ hlt
    have hl6 : (pre.length : Int) ≤ 6000 := by omega
    have bm : Boxed W w.heap.size 3 (.int .i64 m) := boxed_over K1'' hbw
    have br : Boxed W (w.heap.size + 1) 4 (.bool false) := boxed_over K0'' hbw
    have bw : Boxed W w2.heap.size 34 (.slice a2 (parts 0 s.toNat).length c2) := boxed_over KW hbw
    have hpw := hps'.below hbw
    have ci := bi.cell
    have fi := bi.frozen
    have cm := bm.cell
    have cr := br.cell
    have frr := br.frozen
    have cw := bw.cell
    dsimp only
    by_cases hfull : m ≤ (pre.length : Int)
    · gi_wp2
      exact ⟨KeepsFrom.refl _ _, .inr ⟨rfl, pre, _, rfl, by omega, bi, hbw⟩⟩
    · have hfull' : (pre.length : Int) < m := by omega
      obtain ⟨g, rfl, hc⟩ := hpw.2 (by omega)
      obtain ⟨⟨c, d⟩, hcd⟩ : ∃ p, (parts 0 s.toNat)[pre.length]? = some p := ⟨_, List.getElem?_eq_getElem hlt⟩
      obtain ⟨q0, q1⟩ := hc _ _ hcd
      have hsn := pre_snoc (p := (xa, xb)) hpre (by simpa [prs] using hlt)
      rw [show (prs pre).length = pre.length from by simp [prs], hcd] at hsn
      dsimp only at q0 q1
      have hi1 : (pre.length : Int) < ((parts 0 s.toNat).length : Int) := by omega
      have HL : Hid ((parts 0 s.toNat).length ≤ 6000) := hpl
      clear hc hcd hpw hps hps' hpl hlt ho2
      by_cases he : c = xa ∧ d = xb
      · obtain ⟨rfl, rfl⟩ := he
        have hE : ∀ W : World, (binOp .neq 39 (.agg #[.int .i64 (c : Int), .int .i64 (d : Int)]) (.agg #[.int .i64 (c : Int), .int .i64 (d : Int)])).run Try.prog W = .ok (.bool false) W := fun W => by rw [neq_pair]; simp
        have HX : Hid (prs (pre ++ [⟨c, d, hxa, hxb⟩]) <+: parts 0 s.toNat) := by unfold Hid; rw [prs_one]; exact hsn.2 rfl
        clear hsn hfull
        gi_wp2
        exact ⟨(KeepsOthers.setCell _ _ _).from _, KeepF.set bi (by decide) _, by rw [List.length_append]; exact bi.set _, HX.out, by rw [List.length_append]; simp; omega, hbw.setCell (p := ⟨w2.heap.size + 1, 0, none⟩) (by rw [z3]; exact Nat.le_refl _) _⟩
      · have hE : ∀ W : World, (binOp .neq 39 (.agg #[.int .i64 (c : Int), .int .i64 (d : Int)]) (.agg #[.int .i64 (xa : Int), .int .i64 (xb : Int)])).run Try.prog W = .ok (.bool true) W := fun W => by
          rw [neq_pair]
          have : (([(c : Int), (d : Int)] : List Int) == [(xa : Int), (xb : Int)]) = false := by
            simp
            omega
          rw [this]
          rfl
        have HX : Hid (¬ prs (pre ++ [⟨xa, xb, hxa, hxb⟩]) <+: parts 0 s.toNat) := by
          intro hp
          rw [prs_one] at hp
          have := hsn.1 hp
          injection this with this
          injection this with e1 e2
          exact he ⟨e1, e2⟩
        clear hsn hfull he
        gi_wp2
        exact ⟨(KeepsOthers.setCell _ _ _).from _, .inl HX.out⟩
  case done =>
    rintro D ys W hD hS ⟨bi, hpre, hpm, hbw⟩ hK
    have hl : ys.length = (parts 0 s.toNat).length := by rw [← hS]; simp [prs]
    rw [hl] at bi hpm
    have bm : Boxed W w.heap.size 3 (.int .i64 m) := boxed_over K1'' hbw
    have br : Boxed W (w.heap.size + 1) 4 (.bool false) := boxed_over K0'' hbw
    have bw : Boxed W w2.heap.size 34 (.slice a2 (parts 0 s.toNat).length c2) := boxed_over KW hbw
    have ci := bi.cell
    have cm := bm.cell
    have cw := bw.cell
    have cr := br.cell
    have frr := br.frozen
    have br2 := br.set (.bool true)
    have hK2 := (KeepsOthers.setCell W ⟨w.heap.size + 1, 0, none⟩ (.bool true)).same D _ hK rfl
    have hfin : Below w.heap.size w (W.setCell ⟨w.heap.size + 1, 0, none⟩ (.bool true)) := (hB3.trans (hbw.mono hB3.size)).setCell (p := ⟨w.heap.size + 1, 0, none⟩) (Nat.le_succ _) _
    have hDD : w.heap.size ≤ D := by simp at hD; omega
    have hce := cell_kept br2.cell (grownBy_putObj' _ D (.deferred none)) (fun r e => by cases e; exact ⟨_, hK2, rfl⟩)
    have hend := hfin.trans (belowK_b (w := w) (Nat.le_refl _) _ D _ (.deferred none) hDD hK2 rfl rfl)
    clear hS hl hpre hps hps' ho2
    generalize (parts 0 s.toNat).length = n at *
    gi_wp2
    · exact ⟨by simp, .inl ⟨_, _, rfl, run_takeDeferred hK2, _, by simp [results, Try.results5, go_sem, hce], rfl, hend⟩⟩
    · rw [show ((n : Int) == m) = true from by simp; omega]
      exact ⟨by simp, .inl ⟨_, _, rfl, run_takeDeferred hK2, _, by simp [results, Try.results5, go_sem, hce], rfl, hend⟩⟩
  case stop =>
    rintro D c pre W hD hS (hx | ⟨rfl, q, x, rfl, hqm, bi, hbw⟩) hK
    · exact absurd hS hx
    · have hl : q.length + 1 ≤ (parts 0 s.toNat).length := by have := hS.length_le; rw [prs_one, List.length_append] at this; simpa [prs] using this
      have bm : Boxed W w.heap.size 3 (.int .i64 m) := boxed_over K1'' hbw
      have br : Boxed W (w.heap.size + 1) 4 (.bool false) := boxed_over K0'' hbw
      have bw : Boxed W w2.heap.size 34 (.slice a2 (parts 0 s.toNat).length c2) := boxed_over KW hbw
      have ci := bi.cell
      have cm := bm.cell
      have cw := bw.cell
      have cr := br.cell
      have frr := br.frozen
      have br2 := br.set (.bool true)
      have hK2 := (KeepsOthers.setCell W ⟨w.heap.size + 1, 0, none⟩ (.bool true)).same D _ hK rfl
      have hfin : Below w.heap.size w (W.setCell ⟨w.heap.size + 1, 0, none⟩ (.bool true)) := (hB3.trans (hbw.mono hB3.size)).setCell (p := ⟨w.heap.size + 1, 0, none⟩) (Nat.le_succ _) _
      have hDD : w.heap.size ≤ D := by simp at hD; omega
      have hce := cell_kept br2.cell (grownBy_putObj' _ D (.deferred none)) (fun r e => by cases e; exact ⟨_, hK2, rfl⟩)
      have hend := hfin.trans (belowK_b (w := w) (Nat.le_refl _) _ D _ (.deferred none) hDD hK2 rfl rfl)
      have hq1 : ¬ (((parts 0 s.toNat).length : Nat) : Int) ≤ m := by omega
      have hq2 : ((q.length : Int) == m) = true := by simp; exact hqm
      clear hS hps hps' ho2
      generalize (parts 0 s.toNat).length = n at *
      gi_wp2
      exact ⟨by simp, .inl ⟨_, _, rfl, run_takeDeferred hK2, _, by simp [results, Try.results5, go_sem, hce], rfl, hend⟩⟩

theorem treeWalks_walk (s m : Int) (w : World) :
    Calls Try.prog 5 #[.int .i64 s, .int .i64 m] w fun e w' => e = .returned (.bool true) ∧ Below w.heap.size w w' := by
  by_cases h : 3000 < s ∨ m < 0
  · exact walks_far s m w h
  · exact callsIn_wide.1 (walks_near s m w (by omega) (by omega))

end Go.Proofs.Ythgkpecmpfgnjaa
