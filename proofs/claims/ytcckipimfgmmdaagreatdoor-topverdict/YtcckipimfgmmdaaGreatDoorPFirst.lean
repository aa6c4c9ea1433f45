/-
  The token at a text's front, by package lex.
-/
import Derived.Test.YtcckipimfgmmdaaGreatDoorPWorth
import Derived.Test.YtcckipimfgmmdaaGreatDoorPSize
namespace Go.Proofs.YtcckipimfgmmdaaGreatDoor.P
open Go.RowKit

theorem at_op {P : Program} {ops : Array Oper} {Q : Exit → Act → World → Prop} {rest : List Oper} {o : Oper} {a : Act} {w : World} (op : Op) (_ho : o.op = op) (h : wpList P ops Q (o :: rest) a w) : wpList P ops Q (o :: rest) a w := h

theorem below_setRow {B : Nat} {a w : World} (h : Below B a w) {g : Nat} (hg : B ≤ g) (cs : Array Value) : Below B a (w.setRow g cs) :=
  h.trans ⟨rfl, rfl, rfl, by simp, fun k hk => setRow_other _ _ _ _ (by omega)⟩

theorem results_row2 {fn : Func} {p u : Tmp} (h : fn.results = #[.cell p 108, .tmp u]) (tmps : Array Value) (w : World) (g : Nat) (l : List Value) (y : Value)
    (hp : tmps.getD p undef = .pointer (some ⟨g, 0, none⟩)) (hg : Blk w g 108 l) (hl : (Tryz.prog.info? 108).map (·.size) = some l.toArray.size) (hy : tmps.getD u undef = y) :
    (results fn tmps).run Tryz.prog w = .ok (.tuple #[.agg l.toArray, y]) w := by
  rw [results_cell_tmp h, hp, hy]
  simp [asAddr, run_loadVar_row w g 108 108 l.toArray (0, 0) _ hg Tryz.underlying108 rfl hl]

/-- a token's cells. -/
def tc (k p : Int) (s : ByteArray) (n : Int) : List Value := [.int .i64 k, .int .i64 p, .string s, .int .u64 n]
def tz : List Value := tc 0 0 ⟨#[]⟩ 0

theorem tc_size (k p : Int) (s : ByteArray) (n : Int) : (Tryz.prog.info? 108).map (·.size) = some (tc k p s n).toArray.size := Tryz.size108
theorem tc_one (k p : Int) (s : ByteArray) (n : Int) : (tc k p s n).toArray.all (·.oneCell') = true := by simp [tc, Value.oneCell']

/-- a block for a token, and all that was there stands. -/
def Kt (w : World) (l : List Value) (X : World) : Prop := Blk X w.heap.size 108 l ∧ Below w.heap.size w X

theorem kt_new (w : World) : Kt w tz (w.alloc (Obj.cells #[.int .i64 0, .int .i64 0, .string ⟨#[]⟩, .int .u64 0] 108)) := ⟨blk_new w _ 108, (Below.refl _ _).alloc (Nat.le_refl _) _⟩
theorem Kt.over {w X Y : World} {l : List Value} (h : Kt w l X) (hb : Below X.heap.size X Y) : Kt w l Y := ⟨h.1.over hb, h.2.trans (hb.mono h.2.size)⟩
theorem Kt.row {w X : World} {l : List Value} (h : Kt w l X) (m : List Value) : Kt w m (X.setRow w.heap.size m.toArray) := ⟨h.1.row _, below_setRow h.2 (Nat.le_refl _) _⟩

/-- what is told of a token. -/
def One (r : Except Nat (Nat × (List UInt8) × Nat)) (p : Int) (e : Ending) : Prop :=
  match r with
  | .ok (k, t, n) => e = .returned (.tuple #[.agg (tc k p (bar t) n).toArray, .int .i64 0])
  | .error c => e = .returned (.tuple #[.agg tz.toArray, .int .i64 c])

set_option maxHeartbeats 800000 in
theorem number_any (s : ByteArray) (w : World) (h0 : 0 < s.size) (hw : ∀ c ∈ lst s, wN c.toNat = true) (hs : s.size ≤ 100000000) (hv : Vars w) :
    Calls Tryz.prog 73 #[.string s] w fun e w' => Below w.heap.size w w' ∧ One (numR (lst s)) 0 e := by
  have K0 : Hid (Kt w tz _) := kt_new w
  have HQ := worth_any s _ h0 hw hs (hv.below K0.out.2)
  unfold numR
  generalize numV (lst s) = r at *
  cases r with
  | none =>
    go_enter Tryz.func73, Tryz.ntmps73
    go_wp2_with (first | (go_at_call 118; refine HQ.mono ?_; rintro e w1 ⟨hb, m, rfl⟩; have K1 : Hid (Kt w tz w1) := K0.out.over hb) | (refine at_op (.store 108 (.tmp 2) (.tmp 13)) rfl ?_; refine wpList_store_row rfl 108 (.tmp 2) (.tmp 13) rfl w.heap.size tz.toArray rfl rfl 108 _ K1.out.1 (tc_size _ _ _ _) rfl (tc_one _ _ _ _) ?_))
    refine bodyPost_ret (v := .tuple #[.agg tz.toArray, .int .i64 6]) ?_ rfl ⟨(K1.out.row tz).2, rfl⟩
    exact results_row2 Tryz.results73 _ _ w.heap.size tz _ rfl (K1.out.row tz).1 (tc_size _ _ _ _) rfl
  | some n =>
    go_enter Tryz.func73, Tryz.ntmps73
    go_wp2_with (first | (go_at_call 118; refine HQ.mono ?_; rintro e w1 ⟨hb, rfl⟩; have K1 : Hid (Kt w tz w1) := K0.out.over hb) | (refine at_op (.store 108 (.tmp 2) (.tmp 16)) rfl ?_; refine wpList_store_row rfl 108 (.tmp 2) (.tmp 16) rfl w.heap.size (tc 2 0 s n).toArray rfl rfl 108 _ K1.out.1 (tc_size _ _ _ _) rfl (tc_one _ _ _ _) ?_))
    refine bodyPost_ret (v := .tuple #[.agg (tc 2 0 s n).toArray, .int .i64 0]) ?_ rfl ⟨(K1.out.row (tc 2 0 s n)).2, ?_⟩
    · exact results_row2 Tryz.results73 _ _ w.heap.size (tc 2 0 s n) _ rfl (K1.out.row _).1 (tc_size _ _ _ _) rfl
    · show _ = _
      rw [bar_lst]
      rfl

theorem find_at {q : (List UInt8) → Bool} : ∀ (L : List (List UInt8)) (k : Nat) (p : (List UInt8)), (∀ (i : Nat) x, i < k → L[i]? = some x → q x = false) → L[k]? = some p → q p = true → L.find? q = some p := by
  intro L
  induction L with
  | nil => intro k p _ h; simp at h
  | cons y L ih =>
    intro k p h hk hp
    cases k with
    | zero =>
      simp at hk
      subst hk
      rw [List.find?_cons, hp]
    | succ k =>
      rw [List.find?_cons, h 0 y (by omega) rfl]
      exact ih k p (fun i x hi hx => h (i + 1) x (by omega) (by simpa using hx)) (by simpa using hk) hp

theorem find_none {q : (List UInt8) → Bool} (L : List (List UInt8)) (h : ∀ (i : Nat) x, L[i]? = some x → q x = false) : L.find? q = none := by
  rw [List.find?_eq_none]
  intro x hx
  obtain ⟨i, hi, rfl⟩ := List.mem_iff_getElem.1 hx
  rw [h i L[i] (List.getElem?_eq_getElem hi)]
  decide

/-- the signs, as they lie in memory. -/
def Sg (w : World) (b : Nat) : Prop := ∀ i p, signs[i]? = some p → w.cell? ⟨b, i, none⟩ = some (.string (bar p))

set_option maxHeartbeats 800000 in
theorem signs_any (w : World) : Calls Tryz.prog 74 #[] w fun e w' => (∃ b, e = .returned (.slice (some ⟨b, 0, none⟩) 9 9) ∧ Sg w' b) ∧ Below w.heap.size w w' := by
  go_enter Tryz.func74, Tryz.ntmps74
  go_wp2
  go_ret
  refine ⟨⟨_, rfl, fun i p h => ?_⟩, (Below.refl _ _).alloc (Nat.le_refl _) _⟩
  match i, h with
  | 0, h => cases h; simp; rfl
  | 1, h => cases h; simp; rfl
  | 2, h => cases h; simp; rfl
  | 3, h => cases h; simp; rfl
  | 4, h => cases h; simp; rfl
  | 5, h => cases h; simp; rfl
  | 6, h => cases h; simp; rfl
  | 7, h => cases h; simp; rfl
  | 8, h => cases h; simp; rfl

theorem Sg.below {w w' : World} {b : Nat} (h : Sg w b) (hb : Below w.heap.size w w') : Sg w' b := by
  intro i p hp
  rw [hb.cell (p := ⟨b, i, none⟩) (World.block_lt_of_cell? w _ (h i p hp))]
  exact h i p hp

theorem one_lo {c : UInt8} {r : (List UInt8)} (h : loN c.toNat = true) : one (c :: r) = .ok (1, (c :: r).takeWhile ofW, 0) := by
  unfold one
  simp only
  rw [if_pos h]
theorem one_dg {c : UInt8} {r : (List UInt8)} (h : loN c.toNat = false) (h2 : dgN c.toNat = true) : one (c :: r) = numR ((c :: r).takeWhile ofW) := by
  unfold one
  simp only
  rw [if_neg (by rw [h]; decide), if_pos h2]
theorem one_sg {c : UInt8} {r : (List UInt8)} (h : loN c.toNat = false) (h2 : dgN c.toNat = false) : one (c :: r) = sgR (sign (c :: r)) := by
  unfold one
  simp only
  rw [if_neg (by rw [h]; decide), if_neg (by rw [h2]; decide)]

theorem extract_while (s : ByteArray) (p : UInt8 → Bool) : s.extract 0 ((lst s).takeWhile p).length = bar ((lst s).takeWhile p) := by
  rw [extract_bar, List.drop_zero, Nat.sub_zero, take_while_take]

theorem kindLo : Kind loN false := ⟨fun n h => by have : ¬ n ≤ 122 := by omega
                                                  simp [loN, this]⟩
theorem kindDg : Kind dgN false := ⟨fun n h => by have : ¬ n ≤ 57 := by omega
                                                  simp [dgN, this]⟩

set_option maxHeartbeats 2000000 in
theorem first_any (s : ByteArray) (n : Nat) (w : World) (h0 : 0 < s.size) (h1 : loN n = loN (s[0]'h0).toNat) (h2 : dgN n = dgN (s[0]'h0).toNat) (hs : s.size ≤ 100000000) (hv : Vars w) :
    Calls Tryz.prog 43 #[.string s, .int .i32 n] w fun e w' => Below w.heap.size w w' ∧ One (one (lst s)) 0 e := by
  have K0 : Hid (Kt w tz _) := kt_new w
  have HV0 : Hid (Vars _) := hv.below K0.out.2
  have hc := drop_cons s 0 h0
  rw [List.drop_zero] at hc
  have hle : ((lst s).takeWhile ofW).length ≤ s.size := by have := take_while_le ofW (lst s); rw [lst_length] at this; exact this
  have hex := extract_while s ofW
  have hsz : (bar ((lst s).takeWhile ofW)).size ≤ 100000000 := by rw [bar_size]; omega
  rcases Bool.eq_false_or_eq_true (loN n) with hl | hl
  · have HO : Hid (∀ e, e = .returned (.tuple #[.agg (tc 1 0 (bar ((lst s).takeWhile ofW)) 0).toArray, .int .i64 0]) → One (one (lst s)) 0 e) := by
      rw [hc, one_lo (by rw [← h1]; exact hl), ← hc]
      intro e he
      exact he
    have HW : Hid (∀ W : World, Calls Tryz.prog 41 #[.string s, .func (.func 71) #[] #[]] W fun e w' => e = .returned (.int .i64 ((lst s).takeWhile ofW).length) ∧ Below W.heap.size W w') := sizeW_any s
    generalize ((lst s).takeWhile ofW).length = L at *
    generalize bar ((lst s).takeWhile ofW) = t at *
    clear hc h1 h2 hv
    go_enter Tryz.func43, Tryz.ntmps43
    go_wp2_with (first | (go_at_call 69; refine (lo_any n _).mono ?_; rintro e w1 ⟨rfl, rfl⟩; rw [hl]) | (go_at_call 41; refine (HW.out _).mono ?_; rintro e w1 ⟨rfl, b1⟩; have K1 : Hid (Kt w tz w1) := K0.out.over b1) | (go_at_call 70; refine (clone_any t _ hsz).mono ?_; rintro e w2 ⟨rfl, b2⟩; have K2 : Hid (Kt w tz w2) := K1.out.over b2) | (refine at_op (.store 108 (.tmp 4) (.tmp 16)) rfl ?_; refine wpList_store_row rfl 108 (.tmp 4) (.tmp 16) rfl w.heap.size (tc 1 0 t 0).toArray rfl rfl 108 _ K2.out.1 (tc_size _ _ _ _) rfl (tc_one _ _ _ _) ?_))
    refine bodyPost_ret (v := .tuple #[.agg (tc 1 0 t 0).toArray, .int .i64 0]) ?_ rfl ⟨(K2.out.row (tc 1 0 t 0)).2, HO.out _ rfl⟩
    exact results_row2 Tryz.results43 _ _ w.heap.size (tc 1 0 t 0) _ rfl (K2.out.row _).1 (tc_size _ _ _ _) rfl
  · rcases Bool.eq_false_or_eq_true (dgN n) with hd | hd
    · have hwd : wN (s[0]'h0).toNat = true := by unfold wN; rw [← h1, hl, ← h2, hd]; rfl
      have hpos : 0 < (bar ((lst s).takeWhile ofW)).size := by
        rw [bar_size, hc, List.takeWhile_cons, if_pos (show ofW _ = true from hwd)]
        simp
      have HN : Hid (∀ W, Vars W → Calls Tryz.prog 73 #[.string (bar ((lst s).takeWhile ofW))] W fun e w' => Below W.heap.size W w' ∧ One (one (lst s)) 0 e) := by
        intro W hW
        have := number_any (bar ((lst s).takeWhile ofW)) W hpos (by rw [lst_bar]; exact take_while_all ofW (lst s)) hsz hW
        rw [lst_bar] at this
        rw [hc] at this ⊢
        rw [one_dg (by rw [← h1]; exact hl) (by rw [← h2]; exact hd)]
        exact this
      have HW : Hid (∀ W : World, Calls Tryz.prog 41 #[.string s, .func (.func 71) #[] #[]] W fun e w' => e = .returned (.int .i64 ((lst s).takeWhile ofW).length) ∧ Below W.heap.size W w') := sizeW_any s
      generalize ((lst s).takeWhile ofW).length = L at *
      generalize bar ((lst s).takeWhile ofW) = t at *
      clear hc h1 h2 hv hwd hpos
      generalize one (lst s) = R at *
      obtain c | ⟨k, t', m⟩ := R
      · go_enter Tryz.func43, Tryz.ntmps43
        go_wp2_with (first | (go_at_call 69; refine (lo_any n _).mono ?_; rintro e w1 ⟨rfl, rfl⟩; rw [hl]) | (go_at_call 72; refine (dg_any n _).mono ?_; rintro e w1 ⟨rfl, rfl⟩; rw [hd]) | (go_at_call 41; refine (HW.out _).mono ?_; rintro e w1 ⟨rfl, b1⟩; have K1 : Hid (Kt w tz w1) := K0.out.over b1; have V1 : Hid (Vars w1) := HV0.out.below b1) | (go_at_call 70; refine (clone_any t _ hsz).mono ?_; rintro e w2 ⟨rfl, b2⟩; have K2 : Hid (Kt w tz w2) := K1.out.over b2; have V2 : Hid (Vars w2) := V1.out.below b2) | (go_at_call 73; refine (HN.out _ V2.out).mono ?_; rintro e w3 ⟨b3, rfl⟩; have K3 : Hid (Kt w tz w3) := K2.out.over b3) | (refine at_op (.store 108 (.tmp 4) (.tmp 26)) rfl ?_; refine wpList_store_row rfl 108 (.tmp 4) (.tmp 26) rfl w.heap.size tz.toArray rfl rfl 108 _ K3.out.1 (tc_size _ _ _ _) rfl (tc_one _ _ _ _) ?_))
        refine bodyPost_ret (v := .tuple #[.agg tz.toArray, .int .i64 c]) ?_ rfl ⟨(K3.out.row tz).2, rfl⟩
        exact results_row2 Tryz.results43 _ _ w.heap.size tz _ rfl (K3.out.row _).1 (tc_size _ _ _ _) rfl
      · go_enter Tryz.func43, Tryz.ntmps43
        go_wp2_with (first | (go_at_call 69; refine (lo_any n _).mono ?_; rintro e w1 ⟨rfl, rfl⟩; rw [hl]) | (go_at_call 72; refine (dg_any n _).mono ?_; rintro e w1 ⟨rfl, rfl⟩; rw [hd]) | (go_at_call 41; refine (HW.out _).mono ?_; rintro e w1 ⟨rfl, b1⟩; have K1 : Hid (Kt w tz w1) := K0.out.over b1; have V1 : Hid (Vars w1) := HV0.out.below b1) | (go_at_call 70; refine (clone_any t _ hsz).mono ?_; rintro e w2 ⟨rfl, b2⟩; have K2 : Hid (Kt w tz w2) := K1.out.over b2; have V2 : Hid (Vars w2) := V1.out.below b2) | (go_at_call 73; refine (HN.out _ V2.out).mono ?_; rintro e w3 ⟨b3, rfl⟩; have K3 : Hid (Kt w tz w3) := K2.out.over b3) | (refine at_op (.store 108 (.tmp 4) (.tmp 26)) rfl ?_; refine wpList_store_row rfl 108 (.tmp 4) (.tmp 26) rfl w.heap.size (tc k 0 (bar t') m).toArray rfl rfl 108 _ K3.out.1 (tc_size _ _ _ _) rfl (tc_one _ _ _ _) ?_))
        refine bodyPost_ret (v := .tuple #[.agg (tc k 0 (bar t') m).toArray, .int .i64 0]) ?_ rfl ⟨(K3.out.row (tc k 0 (bar t') m)).2, rfl⟩
        exact results_row2 Tryz.results43 _ _ w.heap.size (tc k 0 (bar t') m) _ rfl (K3.out.row _).1 (tc_size _ _ _ _) rfl
    · have HO : Hid (one (lst s) = sgR (sign (lst s))) := by
        show _ = _
        rw [hc, one_sg (by rw [← h1]; exact hl) (by rw [← h2]; exact hd)]
      clear hc h1 h2 hv hle hex hsz
      go_enter Tryz.func43, Tryz.ntmps43
      go_wp2_with (first | (go_at_call 69; refine (lo_any n _).mono ?_; rintro e w1 ⟨rfl, rfl⟩; rw [hl]) | (go_at_call 72; refine (dg_any n _).mono ?_; rintro e w1 ⟨rfl, rfl⟩; rw [hd]) | (go_at_call 74; refine (signs_any _).mono ?_; rintro e w1 ⟨⟨sb, rfl, hsg⟩, b1⟩; have K1 : Hid (Kt w tz w1) := K0.out.over b1; have SG : Hid (Sg w1 sb) := hsg; clear hsg b1))
      go_loop [30] (fun i => ∃ k : Nat, k ≤ 9 ∧ i = .int .i64 k ∧ Hid (∀ i x, i < k → signs[i]? = some x → x.isPrefixOf (lst s) = false)) (fun i => 9 - (intOf i).toNat)
      case atStart => exact ⟨0, by omega, rfl, fun i x h => by omega⟩
      case round =>
        obtain ⟨k, hk, rfl, HF⟩ := hrel
        by_cases hk9 : k < 9
        · obtain ⟨p, hp⟩ : ∃ p, signs[k]? = some p := ⟨_, List.getElem?_eq_getElem (show k < signs.length from hk9)⟩
          have hcell := SG.out k p hp
          have HP : Hid (signs[k]? = some p) := hp
          have HQ : Hid (∀ W, Calls Tryz.prog 75 #[.string s, .string (bar p)] W fun e w' => e = .returned (.bool (p.isPrefixOf (lst s))) ∧ w' = W) := by
            intro W
            have := hasPrefix_any s (bar p) W
            unfold pre at this
            rw [lst_bar] at this
            exact this
          clear hp
          rcases Bool.eq_false_or_eq_true (p.isPrefixOf (lst s)) with hq | hq
          · have HE : Hid (one (lst s) = .ok (3, p, 0)) := by
              have : sign (lst s) = some p := find_at signs k p HF.out HP.out hq
              show _ = _
              rw [HO.out, this]
              rfl
            go_wp2_with (first | (go_at_call 75; refine (HQ.out _).mono ?_; rintro e w3 ⟨rfl, rfl⟩; rw [hq]) | (refine at_op (.store 108 (.tmp 4) (.tmp 38)) rfl ?_; refine wpList_store_row rfl 108 (.tmp 4) (.tmp 38) rfl w.heap.size (tc 3 0 (bar p) 0).toArray rfl rfl 108 _ K1.out.1 (tc_size _ _ _ _) rfl (tc_one _ _ _ _) ?_))
            refine bodyPost_ret (v := .tuple #[.agg (tc 3 0 (bar p) 0).toArray, .int .i64 0]) ?_ rfl ⟨(K1.out.row (tc 3 0 (bar p) 0)).2, by rw [HE.out]; rfl⟩
            exact results_row2 Tryz.results43 _ _ w.heap.size (tc 3 0 (bar p) 0) _ rfl (K1.out.row _).1 (tc_size _ _ _ _) rfl
          · go_wp2_with (first | (go_at_call 75; refine (HQ.out _).mono ?_; rintro e w3 ⟨rfl, rfl⟩; rw [hq]))
            go_round
            case rel =>
              refine ⟨k + 1, by omega, by go_num, fun i x hi hx => ?_⟩
              rcases Nat.lt_or_ge i k with h | h
              · exact HF.out i x h hx
              · obtain rfl : i = k := by omega
                rw [HP.out] at hx
                cases hx
                exact hq
            case measure => simp [intOf]; omega
        · have hk10 : ¬ (k : Int) < 9 := by omega
          have HE : Hid (one (lst s) = .error 5) := by
            have : sign (lst s) = none := find_none signs (fun i x hx => HF.out i x (by have := (List.getElem?_eq_some_iff.1 hx).1; have : signs.length = 9 := rfl; omega) hx)
            show _ = _
            rw [HO.out, this]
            rfl
          go_wp2_with (refine at_op (.store 108 (.tmp 4) (.tmp 40)) rfl ?_; refine wpList_store_row rfl 108 (.tmp 4) (.tmp 40) rfl w.heap.size tz.toArray rfl rfl 108 _ K1.out.1 (tc_size _ _ _ _) rfl (tc_one _ _ _ _) ?_)
          refine bodyPost_ret (v := .tuple #[.agg tz.toArray, .int .i64 5]) ?_ rfl ⟨(K1.out.row tz).2, by rw [HE.out]; rfl⟩
          exact results_row2 Tryz.results43 _ _ w.heap.size tz _ rfl (K1.out.row _).1 (tc_size _ _ _ _) rfl

end Go.Proofs.YtcckipimfgmmdaaGreatDoor.P
