/-
  The document's own Trace: proved of every program and call.
-/
import Derived.Test.YtinjlneeafopoaaSRun
namespace Go.Proofs.Ytinjlneeafopoaa
open Go.RowKit

/-- a row stays where another block is written whole. -/
theorem owns_setRow {w : World} {base sz : Nat} {t : TypeId} {v : Value} {n : Nat} {xs : List Value} (h : w.ownsRow base t sz v n xs) (b : Nat) (cs : Array Value) (hb : b < base) : (w.setRow b cs).ownsRow base t sz v n xs := by
  refine ⟨h.1, ?_⟩
  rcases h.2 with hn | ⟨g, cap, cur, hv, hg, hh, r⟩
  · exact .inl hn
  · exact .inr ⟨g, cap, cur, hv, hg, by rw [setRow_other w b g cs (by omega)]; exact hh, r⟩

set_option maxHeartbeats 4000000 in
theorem refTrace_any (a : Option Addr) (len cap : Nat) (ins : List In) (d : Da) (w : World) (hlen : len ≤ maxLen) (h : Ins w a len ins) (hd : d.ok) :
    Calls Try.prog 13 #[.slice a len cap, d.val] w fun e w' => TraceTold w w' e ins d := by
  have hll := h.1
  have HI : Hid (Ins w a len ins) := h
  have HC : Hid (∀ X, Below w.heap.size w X → Calls Try.prog 18 #[.slice a len cap] X fun e w' => Told X w' e (chk ins)) := fun X hX => refCheck_any a len cap ins X hlen (h.below hX)
  have HD : Hid d.ok := hd
  by_cases he : errV ins = 0
  · have hF : Fit ins := fit_of ins he h.2.1
    have HF : Hid (Fit ins) := hF
    have h4 : len ≤ 4096 := by have := hF.le; omega
    have hpos : 0 < len := by have := hF.pos; omega
    have HP : Hid (plV ins d = ((allV ins d).1.map (fun q : Nat => (q : Int)), (allV ins d).2).1) := by unfold Hid plV; rw [if_pos he]
    have HE : Hid (errV ins = 0) := he
    have hc0 : (chk ins).1 = 0 := he
    have HS : Hid (Rr ins d ((allV ins d).1.map (fun q : Nat => (q : Int)), (allV ins d).2) 0 [] 0 St.zero false) := Rr.start ins d hF
    have HSD : Hid ((Try.prog.info? 27).map (·.size) = some d.cells.toArray.size) := by unfold Hid; rw [Try.size27]; simp [d.cells_len hd]
    clear he hd h hF
    generalize ((allV ins d).1.map (fun q : Nat => (q : Int)), (allV ins d).2) = Z at *
    generalize chk ins = ck at *
    obtain ⟨c1, c2⟩ := ck
    dsimp only at hc0
    subst hc0
    unfold Da.val
    have HBn : Hid (∀ X, Below (w.alloc (Obj.cells d.cells.toArray 27)).heap.size (w.alloc (Obj.cells d.cells.toArray 27)) X → Blk X w.heap.size 27 d.cells ∧ Below w.heap.size w X) := fun X hX => ⟨(blk_new w d.cells.toArray 27).over hX, (below_new w _).trans (hX.mono (below_new w _).size)⟩
    go_enter Try.func13, Try.ntmps13
    go_wp2_with (first | (go_at_call 18; refine (HC.out _ (below_new _ _)).mono ?_; rintro e w1 ⟨rfl, b1⟩; obtain ⟨X, HX, hX, bX⟩ := srun_open w1; have HXX : Hid (RB X w1.heap.size 0 0 St.zero false ∧ Below w1.heap.size w1 X) := ⟨hX, bX⟩; clear hX bX) | (refine at_op (.store 55 (.tmp 9) (.tmp 19)) rfl ?_; refine wpList_store_row rfl 55 (.tmp 9) (.tmp 19) rfl w1.heap.size (rcells 0 0 St.zero false).toArray rfl rfl 55 _ (blk_new w1 #[.int .i64 0, .int .i64 0, .int .u32 0, .int .u32 0, .int .u32 0, .int .u32 0, .int .u32 0, .int .u32 0, .int .u32 0, .int .u32 0, .int .u32 0, .int .u32 0, .int .u32 0, .int .u32 0, .int .u32 0, .int .u32 0, .int .u32 0, .int .u32 0, .int .u32 0, .int .u32 0, .bool false, .int .u32 0] 55) r55 rfl (rcells_one _ _ _ _) ?_))
    have HB1 := HBn.out w1 b1
    have hg : w.heap.size < w1.heap.size := HB1.1.lt
    go_loopw [8, 10] (fun u v wr => ∃ (i : Nat) (ps : List Int) (p : Nat) (s : St) (ov : Bool), v = .int .i64 i ∧ Rr ins d Z i ps p s ov ∧ RB wr w1.heap.size p i s ov ∧ Blk wr w.heap.size 27 d.cells ∧ Below w.heap.size w wr ∧ wr.ownsRow (w1.heap.size + 1) 3 1 u ps.length (cellsN ps)) (fun _ v _ => len + 1 - (intOf v).toNat)
    case atStart =>
      have hX2 := HX.out
      subst hX2
      exact ⟨0, [], 0, St.zero, false, rfl, HS.out, HXX.out.1, HB1.1.over HXX.out.2, HB1.2.trans (HXX.out.2.mono (by omega)), rfl, .inl ⟨rfl, rfl⟩⟩
    case round =>
      obtain ⟨i, ps, p, s, ov, rfl, hR, hB, hDd, hbr, ho⟩ := hrel
      have c20 : wr.cell? ⟨w1.heap.size, 20, none⟩ = some (.bool ov) := Blk.cell hB 20
      have hil : (i : Int) ≤ (len : Int) := by have := hR.il; omega
      cases ov with
      | false =>
        obtain ⟨hp, hip, hs, h0, -⟩ := hR.on rfl
        obtain ⟨x, hx⟩ : ∃ x, ins[p]? = some x := ⟨ins[p], List.getElem?_eq_getElem hp⟩
        obtain ⟨ib, off, ha, -⟩ := HI.out.2.2 (by omega)
        subst ha
        have HQ : Hid (∀ X, Below w.heap.size w X → Calls Try.prog 19 #[.slice (some ⟨ib, off, none⟩) len cap, .agg d.cells.toArray, .agg (rcells p i s false).toArray] X fun e w' => StepTold X w' e i (stepP d x p s)) := by
          intro X hX
          obtain ⟨ib', off', ha', hc⟩ := (HI.out.below hX).2.2 (by omega)
          cases ha'
          exact refStep_any x p i len cap ib off _ s d X HD.out (by omega) h4 (by omega) (HF.out.ok x (List.mem_of_getElem? hx)) hs h0 (HF.out.ff p x hx) (hc p x hx)
        obtain ⟨p2, hp2, hR2⟩ := hR.step HF.out HD.out x hx
        have HR2 : Hid (Rr ins d Z (i + 1) (ps ++ [(p : Int)]) p2 (stepP d x p s).2.1 (stepP d x p s).2.2) := hR2
        have HDd : Hid (Blk wr w.heap.size 27 d.cells) := hDd
        have HB : Hid (RB wr w1.heap.size p i s false) := hB
        have c0 : wr.cell? ⟨w1.heap.size, 0, none⟩ = some (.int .i64 p) := Blk.cell hB 0
        have HO : Hid (wr.ownsRow (w1.heap.size + 1) 3 1 _ ps.length (cellsN ps)) := ho
        have hpl : Hid (ps.length ≤ 4096) := by have := hR.pl; unfold Hid; omega
        have hws := hB.lt
        have HN1 := not_own ho w1.heap.size (by omega)
        have HN2 := not_own ho w.heap.size (by omega)
        unfold StepTold at HQ
        clear hR hR2 hx hs h0 hDd hB
        generalize stepP d x p s = r at *
        obtain ⟨r1, r2, r3⟩ := r
        dsimp only at *
        subst hp2
        go_wp2_with (first | (at_builtin; refine append_int rfl (.tmp 31) (.tmp 34) rfl (w1.heap.size + 1) _ ps.length ps rfl (HO.out.alloc _) (p : Int) _ rfl (new_int _ _) (by have := hpl.out; omega) (by rw [size_alloc']; omega) ?_; intro v4 w4 ho4 hg4; have HO4 : Hid (w4.ownsRow (w1.heap.size + 1) 3 1 v4 (ps.length + 1) (cellsN (ps ++ [(p : Int)]))) := ho4; have B4 : Hid (Below w.heap.size w w4) := (hbr.alloc hbr.size _).grown hg4 (hbr.alloc hbr.size _).size (fun j hj => by have := owns_block HO.out j hj; omega); have HB4 : Hid (RB w4 w1.heap.size p i s false) := Blk.grown (Blk.alloc HB.out _) hg4 HN1; have HD4 : Hid (Blk w4 w.heap.size 27 d.cells) := (HDd.out.alloc _).grown hg4 HN2; clear ho4) | (refine at_op (.load 27 (.tmp 3)) rfl ?_; refine wpList_load_row rfl 27 (.tmp 3) rfl w.heap.size rfl 27 d.cells.toArray (0, 0) _ HD4.out Try.underlying27 rfl HSD.out ?_) | (refine at_op (.load 55 (.tmp 9)) rfl ?_; refine wpList_load_row rfl 55 (.tmp 9) rfl w1.heap.size rfl 55 (rcells p i s false).toArray (0, 0) _ HB4.out Try.underlying55 rfl r55 ?_) | (go_at_call 19; refine (HQ.out _ B4.out).mono ?_; rintro e w2 ⟨rfl, b2⟩; have HB2 : Hid (RB w2 w1.heap.size p i s false) := Blk.over HB4.out b2; have HD2 : Hid (Blk w2 w.heap.size 27 d.cells) := HD4.out.over b2; have HW2 : Hid (Below w.heap.size w w2) := B4.out.trans (b2.mono B4.out.size); have HO2 : Hid (w2.ownsRow (w1.heap.size + 1) 3 1 v4 (ps.length + 1) (cellsN (ps ++ [(p : Int)]))) := owns_below HO4.out b2 (Nat.le_refl _)) | (refine at_op (.store 55 (.tmp 9) (.tmp 39)) rfl ?_; refine wpList_store_row rfl 55 (.tmp 9) (.tmp 39) rfl w1.heap.size (rcells p2 (i + 1) r2 r3).toArray rfl rfl 55 _ HB2.out r55 rfl (rcells_one _ _ _ _) ?_; generalize hX2 : w2.setRow w1.heap.size (rcells p2 (i + 1) r2 r3).toArray = X2))
        go_roundw
        case rel =>
          subst hX2
          refine ⟨i + 1, ps ++ [(p : Int)], p2, r2, r3, by go_num, HR2.out, Blk.row HB2.out _, HD2.out.row_other _ _ (by omega), below_setRow HW2.out (by omega) _, ?_⟩
          rw [List.length_append]
          exact owns_setRow HO2.out _ _ (by omega)
        case measure =>
          have := HR2.out.il
          simp [intOf]
          omega
      | true =>
        obtain ⟨hz1, -⟩ := hR.over rfl
        have HZ1 : Hid (ps = Z.1) := hz1
        have HO : Hid (wr.ownsRow (w1.heap.size + 1) 3 1 _ ps.length (cellsN ps)) := ho
        clear hR hB hDd hz1 ho
        go_wp2
        go_ret2
        unfold TraceTold
        rw [HP.out, HE.out, ← HZ1.out]
        exact ⟨hbr, _, rfl, owns_lower HO.out (by omega)⟩
  · have HP : Hid (plV ins d = []) := by unfold Hid plV; rw [if_neg he]
    have HE : Hid (errV ins = (chk ins).1) := rfl
    have hc0 : ¬ (chk ins).1 = 0 := he
    clear he hd h HI
    unfold Da.val
    generalize chk ins = ck at *
    obtain ⟨c1, c2⟩ := ck
    dsimp only at hc0
    generalize d.cells.toArray = A at *
    have hb : ∀ o, Below w.heap.size w (w.alloc o) := fun o => below_new w o
    go_enter Try.func13, Try.ntmps13
    go_wp2_with (first | (go_at_call 18; refine (HC.out _ (hb _)).mono ?_; rintro e w1 ⟨rfl, b1⟩))
    go_ret2
    unfold TraceTold
    rw [HE.out, HP.out]
    exact ⟨(below_new w _).trans (b1.mono (by rw [size_alloc']; omega)), _, rfl, rfl, .inl ⟨rfl, rfl⟩⟩

end Go.Proofs.Ytinjlneeafopoaa
