/-
  The law VmGoes, walked: true for every program and call.
-/
import Derived.Test.YtinjlneeafopoaaGoesMath
import Derived.Test.YtinjlneeafopoaaAwake
import Derived.Test.YtinjlneeafopoaaSOpen
import Derived.Test.YtinjlneeafopoaaNext
import Derived.WalkSmall
import Derived.Deep.QuietTactic
import Derived.BigQuiet
namespace Go.Proofs.Ytinjlneeafopoaa
open Go.RowKit

theorem goes_facts (ins : List In) (d : Da) (he : errV ins = 0) (ho : ∀ x ∈ ins, x.ok) : ∃ l : List Nat, plV ins d = l.map (fun q : Nat => (q : Int)) ∧ Ch ins l (ansV ins d) ∧ l[0]? = some 0 ∧ 0 < l.length ∧ l.length ≤ ins.length ∧ ins.length ≤ 4096 := by
  obtain ⟨h1, h2, h3, _⟩ := chk_ok ins he
  have hf : ∀ (p : Nat) (x : In), ins[p]? = some x → fault x (ins.length - 1 - p) = 0 := by
    intro p x hx
    have hp : p < ins.length := (List.getElem?_eq_some_iff.1 hx).1
    have := ff_all ins 0 h3 p hp
    rw [List.getElem?_eq_getElem hp] at hx
    cases hx
    exact this
  obtain ⟨r, hr, hch⟩ := ch_run ins d ho hf ins.length 0 St.zero (by omega) h1
  have hl := runV_len ins d (ins.length - 0) 0 St.zero
  refine ⟨(allV ins d).1, by unfold plV; rw [if_pos he], ?_, ?_, ?_, ?_, h2⟩
  · have e1 : (allV ins d).1 = 0 :: r := hr
    have e2 : ansV ins d = (allV ins d).2.ans := by unfold ansV; rw [if_pos he]
    rw [e1, e2]
    exact hch
  · have e1 : (allV ins d).1 = 0 :: r := hr
    rw [e1]; rfl
  · have e1 : (allV ins d).1 = 0 :: r := hr
    rw [e1]; simp
  · exact hl

theorem goes_get (l : List Nat) (i : Nat) (hi : i < l.length) : (l.map (fun q : Nat => (q : Int))).getD i 0 = ((l.getD i 0 : Nat) : Int) ∧ l[i]? = some (l.getD i 0) := by
  simp [hi]

theorem isIn_of_mem (l : List Int) (c : Int) (h : c ∈ l) : isIn l c = true := by
  unfold isIn
  simpa using h

set_option maxRecDepth 8000 in
set_option maxHeartbeats 4000000 in
theorem vmGoes_walk (a : Option Addr) (len cap : Nat) (ins : List In) (d : Da) (w : World) (hlen : len ≤ maxLen) (h : Ins w a len ins) (hd : d.ok) :
    Calls Try.prog 5 #[.slice a len cap, d.val] w fun e w' => e = .returned (.bool true) ∧ Below w.heap.size w w' := by
  have hll := h.1
  have HI : Hid (Ins w a len ins) := h
  have HW : Hid (∀ W : World, Calls Try.prog 9 #[] W fun e w' => e = .returned (.bool true) ∧ Below W.heap.size W w') := awake_any
  have H1 : Hid (∀ X, Below w.heap.size w X → Calls Try.prog 10 #[.slice a len cap, .agg d.cells.toArray] X fun e w' => RunTold X w' e ins d) := fun X hX => run_any a len cap ins d X hlen (h.below hX) hd
  have H2 : Hid (∀ X, Below w.heap.size w X → Calls Try.prog 12 #[.slice a len cap, .agg d.cells.toArray] X fun e w' => TraceTold X w' e ins d) := fun X hX => trace_any a len cap ins d X hlen (h.below hX) hd
  have HSD : Hid ((Try.prog.info? 27).map (·.size) = some d.cells.toArray.size) := by unfold Hid; rw [Try.size27]; simp [d.cells_len hd]
  have HB : Hid (Blk (w.alloc (Obj.cells d.cells.toArray 27)) w.heap.size 27 d.cells) := blk_new w _ 27
  unfold RunTold at H1
  unfold TraceTold at H2
  by_cases he : errV ins = 0
  · obtain ⟨l, hpl, hch, hl0, hpos, hle, h4⟩ := goes_facts ins d he h.2.1
    obtain ⟨nn, hnn⟩ : ∃ nn, l.length = nn + 1 := ⟨l.length - 1, by omega⟩
    obtain ⟨pl, xl, hp1, hp2, hp3⟩ := hch.end
    have hlast : l[nn]? = some pl := by rw [hnn] at hp1; exact hp1
    obtain ⟨ib, off, ha, -⟩ := h.2.2 (by omega)
    subst ha
    have HG : Hid (∀ i, i < nn + 1 → (l.map (fun q : Nat => (q : Int))).getD i 0 = ((l.getD i 0 : Nat) : Int) ∧ l[i]? = some (l.getD i 0)) := fun i hi => goes_get l i (by omega)
    have HCh : Hid (Ch ins l (ansV ins d)) := hch
    have HL : Hid ((l.map (fun q : Nat => (q : Int))).length = nn + 1) := by unfold Hid; rw [List.length_map, hnn]
    have HE : Hid (EndsSo xl (ansV ins d)) := hp3
    have hn5 : nn + 1 ≤ len := by omega
    rw [hpl, he] at H1 H2
    rw [HL.out] at H1 H2
    have HZ : Hid (l.getD 0 0 = 0) := by unfold Hid; rw [List.getD_eq_getElem?_getD, hl0]; rfl
    have HLs : Hid (l.getD nn 0 = pl) := by unfold Hid; rw [List.getD_eq_getElem?_getD, hlast]; rfl
    have HXl : Hid (ins[pl]? = some xl) := hp2
    have HP : Hid (∀ i, i < nn + 1 → l.getD i 0 < len) := fun i hi => by have := hch.at i _ (HG.out i hi).2; omega
    have HNx : Hid (∀ j, j + 1 < nn + 1 → l.getD j 0 < l.getD (j + 1) 0 ∧ ∃ x, ins[l.getD j 0]? = some x ∧ ((l.getD (j + 1) 0 : Nat) : Int) ∈ goOn (l.getD j 0) (len - 1 - l.getD j 0) (skipsL x)) := by
      intro j hj
      have := hch.next j _ _ (HG.out j (by omega)).2 (HG.out (j + 1) hj).2
      rw [hll] at this
      exact this
    clear hch hp1 hp2 hp3 hpl hl0 hpos hle hnn hlast h hd he
    generalize ansV ins d = an at *
    generalize (l.map (fun q : Nat => (q : Int))) = li at *
    unfold Da.val
    have hq1 : decide (((nn + 1 : Nat) : Int) < 1) = false := by simp; omega
    have hq2 : decide ((len : Int) < ((nn + 1 : Nat) : Int)) = false := by simp; omega
    go_enter Try.func5, Try.ntmps5
    go_wp2_with (first | (go_at_call 9; refine (HW.out _).mono ?_; rintro e w1 ⟨rfl, b1⟩; have B1 : Hid (Below w.heap.size w w1) := (below_new w _).trans (b1.mono (below_new w _).size); have D1 : Hid (Blk w1 w.heap.size 27 d.cells) := HB.out.over b1) | (refine at_op (.load 27 (.tmp 3)) rfl ?_; first | (refine wpList_load_row rfl 27 (.tmp 3) rfl w.heap.size rfl 27 d.cells.toArray (0, 0) _ D2.out Try.underlying27 rfl HSD.out ?_) | (refine wpList_load_row rfl 27 (.tmp 3) rfl w.heap.size rfl 27 d.cells.toArray (0, 0) _ D1.out Try.underlying27 rfl HSD.out ?_)) | (go_at_call 10; refine (H1.out _ B1.out).mono ?_; rintro e w2 ⟨rfl, b2⟩; have B2 : Hid (Below w.heap.size w w2) := B1.out.trans (b2.mono B1.out.size); have D2 : Hid (Blk w2 w.heap.size 27 d.cells) := D1.out.over b2) | (go_at_call 12; refine (H2.out _ B2.out).mono ?_; rintro e w3 ⟨b3, v3, rfl, o3⟩; obtain ⟨a3, c3, rfl, n3⟩ := owns_ns o3; have B3 : Hid (Below w.heap.size w w3) := B2.out.trans (b3.mono B2.out.size); obtain ⟨pb, po, rfl, hc3⟩ := n3.2 (by omega); have HN : Hid (∀ X, Below w3.heap.size w3 X → ∀ i, i < nn + 1 → X.cell? ⟨pb, po + i, none⟩ = some (.int .i64 ((l.getD i 0 : Nat) : Int))) := (fun X hX i hi => by rw [hX.cell (p := ⟨pb, po + i, none⟩) (World.block_lt_of_cell? w3 _ (hc3 i hi)), hc3 i hi, (HG.out i hi).1]); have p0 : w3.cell? ⟨pb, po, none⟩ = some (.int .i64 0) := (by have := HN.out w3 (Below.refl _ _) 0 (by omega); rw [HZ.out] at this; exact this); clear n3 o3 hc3))
    clear hq1 hq2 p0 b1 b2
    go_loopw [13] (fun v wr => ∃ j : Nat, j + 1 ≤ nn + 1 ∧ v = .int .i64 ((j : Int) + 1) ∧ Below w3.heap.size w3 wr) (fun v _ => nn + 1 - (intOf v).toNat)
    case atStart => exact ⟨0, by omega, rfl, Below.refl _ _⟩
    case round =>
      obtain ⟨j, hj, rfl, hbr⟩ := hrel
      have hwr : Hid (Below w.heap.size w wr) := B3.out.trans (hbr.mono B3.out.size)
      by_cases hlt : j + 1 < nn + 1
      · obtain ⟨hPQ, x, hx, hin⟩ := HNx.out j hlt
        have dj := HN.out wr hbr j (by omega)
        have hPl := HP.out j (by omega)
        obtain ⟨_, _, eq, hc⟩ := (HI.out.below hwr.out).2.2 (by omega)
        cases eq
        have hat := hc _ x hx
        have hxo := HI.out.2.1 x (List.mem_of_getElem? hx)
        have HQ : Hid (Calls Try.prog 16 #[.slice (some ⟨ib, off, none⟩) len cap, .int .i64 ((l.getD j 0 : Nat) : Int)] wr fun e w' => NextTold wr w' e (goOn (l.getD j 0) (len - 1 - l.getD j 0) (skipsL x))) := next_in ib off len cap (l.getD j 0) x wr (by omega) hPl hxo hat
        have HM : Hid (isIn (goOn (l.getD j 0) (len - 1 - l.getD j 0) (skipsL x)) ((l.getD (j + 1) 0 : Nat) : Int) = true) := isIn_of_mem _ _ hin
        have hls : (goOn (l.getD j 0) (len - 1 - l.getD j 0) (skipsL x)).length ≤ 2 := Nat.le_trans (goOn_len _ _ _) (skips_bd x hxo).1
        have HPQ : Hid (l.getD j 0 < l.getD (j + 1) 0) := hPQ
        clear hc hat hx hxo hin hPQ
        generalize goOn (l.getD j 0) (len - 1 - l.getD j 0) (skipsL x) = ls at *
        have HD0 : Hid (∀ X, Below w3.heap.size w3 X → X.cell? ⟨pb, po + j, none⟩ = some (.int .i64 ((l.getD j 0 : Nat) : Int)) ∧ X.cell? ⟨pb, po + (j + 1), none⟩ = some (.int .i64 ((l.getD (j + 1) 0 : Nat) : Int))) := fun X hX => ⟨HN.out X hX j (by omega), HN.out X hX (j + 1) hlt⟩
        generalize l.getD j 0 = P at *
        generalize l.getD (j + 1) 0 = Q at *
        have g1 : decide ((P : Int) < 0) = false := decide_eq_false (by omega)
        have g2 : decide ((len : Int) ≤ (P : Int)) = false := decide_eq_false (by omega)
        have hj1 : (j : Int) + 1 < ((nn + 1 : Nat) : Int) := by omega
        go_wp2_with (first | (go_at_call 16; refine HQ.out.mono ?_; rintro e w4 ⟨b4, v4, rfl, o4⟩; obtain ⟨a4, c4, rfl, n4⟩ := owns_ns o4; have B4 : Hid (Below w3.heap.size w3 w4) := hbr.trans (b4.mono hbr.size); have N4 : Hid (Ns .i64 w4 a4 ls.length ls) := n4; clear n4 o4))
        clear g1 g2 hj1 dj hPl
        go_loopw [15, 16] (fun u v wr2 => ∃ k : Nat, k ≤ ls.length ∧ u = .bool (isIn (ls.take k) (Q : Int)) ∧ v = .int .i64 k ∧ Below w4.heap.size w4 wr2) (fun _ v _ => ls.length - (intOf v).toNat)
        case atStart => exact ⟨0, Nat.zero_le _, rfl, rfl, Below.refl _ _⟩
        case round =>
          obtain ⟨k, hk, rfl, rfl, hbr2⟩ := hrel
          have B5 : Hid (Below w3.heap.size w3 _) := B4.out.trans (hbr2.mono B4.out.size)
          obtain ⟨dj, dj1⟩ := HD0.out _ B5.out
          by_cases hk2 : k < ls.length
          · have hk3 : (k : Int) < (ls.length : Int) := by omega
            have HT : Hid (isIn (ls.take (k + 1)) (Q : Int) = (isIn (ls.take k) (Q : Int) || ls.getD k 0 == (Q : Int))) := isIn_take ls _ k hk2
            obtain ⟨tb, tf, rfl, hct⟩ := (N4.out.below hbr2).2 (by omega)
            have dk := hct k hk2
            have hj0 : (0 : Int) ≤ (j : Int) + 1 := by omega
            have hj1 : (j : Int) + 1 < ((nn + 1 : Nat) : Int) := by omega
            have hj2 : ((j : Int) + 1).toNat = j + 1 := by omega
            clear hct
            generalize ls.getD k 0 = z at *
            generalize isIn (ls.take k) (Q : Int) = th at *
            cases th with
            | true =>
              go_wp2_with fail
              go_quiet (fail)
              go_wp2
              go_roundw
              case rel => exact ⟨k + 1, by omega, by rw [HT.out]; rfl, by go_num, below_drewN hbr2 _⟩
              case measure => simp [intOf] <;> omega
            | false =>
              go_wp2_with fail
              go_quiet (fail)
              go_wp2
              go_roundw
              case rel => exact ⟨k + 1, by omega, by rw [HT.out]; rfl, by go_num, below_drewN hbr2 _⟩
              case measure => simp [intOf] <;> omega
          · have hk3 : ¬ (k : Int) < (ls.length : Int) := by omega
            have hth : isIn (ls.take k) (Q : Int) = true := by rw [List.take_of_length_le (by omega)]; exact HM.out
            rw [hth]
            have g3 : decide ((Q : Int) ≤ (P : Int)) = false := decide_eq_false (by have := HPQ.out; omega)
            have g4 : decide (Q ≤ P) = false := decide_eq_false (by have := HPQ.out; omega)
            have hj0 : (0 : Int) ≤ (j : Int) + 1 := by omega
            have hj1 : (j : Int) + 1 < ((nn + 1 : Nat) : Int) := by omega
            have hj2 : ((j : Int) + 1).toNat = j + 1 := by omega
            clear hth
            go_wp2_with fail
            go_quiet (fail)
            go_wp2
            go_roundw
            case rel => exact ⟨j + 1, by omega, by go_num, below_drewN B5.out _⟩
            case measure => simp [intOf] <;> omega
      · obtain rfl : j = nn := by omega
        have dl := HN.out wr hbr j (by omega)
        have hPl := HP.out j (by omega)
        rw [HLs.out] at dl hPl
        obtain ⟨_, _, eq, hc⟩ := (HI.out.below hwr.out).2.2 (by omega)
        cases eq
        obtain ⟨x1, -, -, x4⟩ := hc _ xl HXl.out
        have hn2 : ¬ (j : Int) + 1 < ((j + 1 : Nat) : Int) := by omega
        have g1 : decide ((pl : Int) < 0) = false := decide_eq_false (by omega)
        have g2 : decide ((len : Int) ≤ (pl : Int)) = false := decide_eq_false (by omega)
        have g3 : decide (len ≤ pl) = false := decide_eq_false (by omega)
        have g4 : (pl : Int) < (len : Int) := by omega
        clear hc HNx
        obtain ⟨c, t, f, k⟩ := xl
        have hE := HE.out
        unfold EndsSo at hE
        dsimp only at x1 x4 hE
        clear HE HXl HCh
        rcases hE with ⟨rfl, rfl⟩ | rfl | ⟨rfl, rfl⟩
        · go_wp2
          go_ret
          exact ⟨rfl, hwr.out⟩
        · by_cases hak : an = k
          · subst hak
            go_wp2
            go_ret
            exact ⟨rfl, hwr.out⟩
          · go_wp2
            go_ret
            exact ⟨rfl, hwr.out⟩
        · go_wp2
          go_ret
          exact ⟨rfl, hwr.out⟩
  · have HA : ansV ins d = 0 := by unfold ansV; rw [if_neg he]
    have HP : plV ins d = [] := by unfold plV; rw [if_neg he]
    have HC : Hid (∀ X, Below w.heap.size w X → Calls Try.prog 15 #[.slice a len cap] X fun e w' => Told X w' e (chk ins)) := fun X hX => check_any a len cap ins X hlen (h.below hX)
    have hce : Hid (errV ins = (chk ins).1) := rfl
    rw [HA, HP] at H1
    rw [HP] at H2
    rw [hce.out] at he H1 H2
    clear HA HP hce h hd
    generalize chk ins = ck at *
    obtain ⟨c1, c2⟩ := ck
    dsimp only at he H1 H2
    unfold Told at HC
    unfold Da.val
    go_enter Try.func5, Try.ntmps5
    go_wp2_with (first | (go_at_call 9; refine (HW.out _).mono ?_; rintro e w1 ⟨rfl, b1⟩; have B1 : Hid (Below w.heap.size w w1) := (below_new w _).trans (b1.mono (below_new w _).size); have D1 : Hid (Blk w1 w.heap.size 27 d.cells) := HB.out.over b1) | (refine at_op (.load 27 (.tmp 3)) rfl ?_; first | (refine wpList_load_row rfl 27 (.tmp 3) rfl w.heap.size rfl 27 d.cells.toArray (0, 0) _ D2.out Try.underlying27 rfl HSD.out ?_) | (refine wpList_load_row rfl 27 (.tmp 3) rfl w.heap.size rfl 27 d.cells.toArray (0, 0) _ D1.out Try.underlying27 rfl HSD.out ?_)) | (go_at_call 10; refine (H1.out _ B1.out).mono ?_; rintro e w2 ⟨rfl, b2⟩; have B2 : Hid (Below w.heap.size w w2) := B1.out.trans (b2.mono B1.out.size); have D2 : Hid (Blk w2 w.heap.size 27 d.cells) := D1.out.over b2) | (go_at_call 12; refine (H2.out _ B2.out).mono ?_; rintro e w3 ⟨b3, v3, rfl, o3⟩; obtain ⟨a3, c3, rfl, -⟩ := owns_ns o3; have B3 : Hid (Below w.heap.size w w3) := B2.out.trans (b3.mono B2.out.size)) | (go_at_call 15; refine (HC.out _ B3.out).mono ?_; rintro e w4 ⟨rfl, b4⟩))
    go_ret
    exact ⟨rfl, B3.out.trans (b4.mono B3.out.size)⟩

end Go.Proofs.Ytinjlneeafopoaa
