/-
  The law VmElse, walked: true for every program, call, place and instruction.
-/
import Derived.Test.YtinjlneeafopoaaElse
import Derived.Test.YtinjlneeafopoaaAwake
import Derived.Test.YtinjlneeafopoaaSOpen
import Derived.WalkSmall
namespace Go.Proofs.Ytinjlneeafopoaa
open Go.RowKit

/-- the two boxes that the law makes first. -/
structure Tw (w : World) (d : Da) (n : Int) (x : In) (X : World) : Prop where
  bw : Below w.heap.size w X
  rd : Blk X w.heap.size 27 d.cells
  ro : Blk X (w.heap.size + 1) 44 (otCells n x)

theorem tw_new (w : World) (d : Da) (n : Int) (x : In) : Tw w d n x ((w.alloc (Obj.cells d.cells.toArray 27)).alloc (Obj.cells (otCells n x).toArray 44)) :=
  ⟨(below_new w _).alloc (below_new w _).size _, (blk_new w _ 27).alloc _, blk_new' w _ _ 44⟩

theorem Tw.over {w : World} {d : Da} {n : Int} {x : In} {X Y : World} (h : Tw w d n x X) (hb : Below X.heap.size X Y) : Tw w d n x Y :=
  ⟨h.bw.trans (hb.mono h.bw.size), h.rd.over hb, h.ro.over hb⟩

set_option maxRecDepth 4000 in
set_option maxHeartbeats 4000000 in
theorem vmElse_walk (a : Option Addr) (len cap : Nat) (ins : List In) (d : Da) (n : Int) (x : In) (w : World) (hlen : len ≤ maxLen) (hao : a = none → cap = 0) (h : Ins w a len ins) (hd : d.ok) (hx : x.ok) :
    Calls Try.prog 6 #[.slice a len cap, d.val, .agg (otCells n x).toArray] w fun e w' => e = .returned (.bool true) ∧ Below w.heap.size w w' := by
  have hll := h.1
  have HI : Hid (Ins w a len ins) := h
  have HW : Hid (∀ W : World, Calls Try.prog 9 #[] W fun e w' => e = .returned (.bool true) ∧ Below W.heap.size W w') := awake_any
  have H1 : Hid (∀ X, Below w.heap.size w X → Calls Try.prog 10 #[.slice a len cap, .agg d.cells.toArray] X fun e w' => RunTold X w' e ins d) := fun X hX => run_any a len cap ins d X hlen (h.below hX) hd
  have H2 : Hid (∀ X, Below w.heap.size w X → Calls Try.prog 12 #[.slice a len cap, .agg d.cells.toArray] X fun e w' => TraceTold X w' e ins d) := fun X hX => trace_any a len cap ins d X hlen (h.below hX) hd
  have HSD : Hid ((Try.prog.info? 27).map (·.size) = some d.cells.toArray.size) := by unfold Hid; rw [Try.size27]; simp [d.cells_len hd]
  have HT0 : Hid (Tw w d n x ((w.alloc (Obj.cells d.cells.toArray 27)).alloc (Obj.cells (otCells n x).toArray 44))) := tw_new w d n x
  have HD : Hid d.ok := hd
  have HXo : Hid x.ok := hx
  have HPl : Hid ((plV ins d).length ≤ 4096 ∧ True) := ⟨by
    unfold plV
    by_cases hz : errV ins = 0
    · rw [if_pos hz, List.length_map]
      have h1 := runV_len ins d ins.length 0 St.zero
      have h2 := (chk_ok ins hz).2.1
      unfold allV
      omega
    · rw [if_neg hz]
      exact Nat.zero_le _, trivial⟩
  unfold RunTold at H1
  unfold TraceTold at H2
  by_cases he : errV ins = 0
  · have hok := chk_ok ins he
    have h4 : len ≤ 4096 := by omega
    have hpos : 0 < len := by omega
    by_cases hn : n < 0
    · rw [he] at H1 H2
      clear hok h hd he hx
      generalize ansV ins d = an at *
      generalize plV ins d = li at *
      unfold Da.val
      go_enter Try.func6, Try.ntmps6
      go_wp2_with (first | (go_at_call 9; refine (HW.out _).mono ?_; rintro e w1 ⟨rfl, b1⟩; have T1 : Hid (Tw w d n x w1) := HT0.out.over b1) | (refine at_op (.load 27 (.tmp 4)) rfl ?_; first | (refine wpList_load_row rfl 27 (.tmp 4) rfl w.heap.size rfl 27 d.cells.toArray (0, 0) _ T2.out.rd Try.underlying27 rfl HSD.out ?_) | (refine wpList_load_row rfl 27 (.tmp 4) rfl w.heap.size rfl 27 d.cells.toArray (0, 0) _ T1.out.rd Try.underlying27 rfl HSD.out ?_)) | (go_at_call 10; refine (H1.out _ T1.out.bw).mono ?_; rintro e w2 ⟨rfl, b2⟩; have T2 : Hid (Tw w d n x w2) := T1.out.over b2) | (go_at_call 12; refine (H2.out _ T2.out.bw).mono ?_; rintro e w3 ⟨b3, v3, rfl, o3⟩; have T3 : Hid (Tw w d n x w3) := T2.out.over b3; have q0 : w3.cell? ⟨w.heap.size + 1, 0, none⟩ = some (.int .i64 n) := T3.out.ro.cell 0))
      go_ret
      exact ⟨rfl, T3.out.bw⟩
    · obtain ⟨n0, rfl⟩ := Int.eq_ofNat_of_zero_le (show 0 ≤ n by omega)
      have hr : Int.tmod (n0 : Int) (len : Int) = ((n0 % len : Nat) : Int) := by rw [Int.tmod_eq_emod_of_nonneg (by omega)]; rfl
      have hm : n0 % len < len := Nat.mod_lt _ hpos
      have hd0 : decide ((n0 : Int) < 0) = false := decide_eq_false (by omega)
      have hz1 : ((len : Int) == 0) = false := by rw [beq_eq_false_iff_ne]; omega
      have hz2 : ¬ (len : Int) = 0 := by omega
      have HE : Hid (∀ j, errV (ins.set j x) = 0 → (∀ z ∈ plV ins d, z ≠ (j : Int)) → ansV (ins.set j x) d = ansV ins d ∧ plV (ins.set j x) d = plV ins d) := fun j h2 hj => else_same ins d j x he h2 hj
      have hok2 : Hid (∀ j, ∀ y ∈ ins.set j x, y.ok) := by
        intro j y hy
        rcases List.mem_or_eq_of_mem_set hy with hy | rfl
        · exact h.2.1 y hy
        · exact hx
      have HCk : Hid (∀ (X : World) (j : Nat) (a' : Option Addr) (c : Nat), Ins X a' len (ins.set j x) → Calls Try.prog 15 #[.slice a' len c] X fun e w' => Told X w' e (chk (ins.set j x))) := fun X j a' c hX => check_any a' len c _ X hlen hX
      have HRn : Hid (∀ (X : World) (j : Nat) (a' : Option Addr) (c : Nat), Ins X a' len (ins.set j x) → Calls Try.prog 10 #[.slice a' len c, .agg d.cells.toArray] X fun e w' => RunTold X w' e (ins.set j x) d) := fun X j a' c hX => run_any a' len c _ d X hlen hX hd
      obtain ⟨ib, off, ha, -⟩ := h.2.2 hpos
      subst ha
      rw [he] at H1 H2
      have HL : Hid (len ≤ 4096) := h4
      clear hok h hd he hx hn hao
      generalize n0 % len = m at *
      generalize hAn : ansV ins d = an at *
      generalize hLi : plV ins d = li at *
      clear hAn hLi
      unfold Da.val
      go_enter Try.func6, Try.ntmps6
      go_wp2_with (first | (go_at_call 9; refine (HW.out _).mono ?_; rintro e w1 ⟨rfl, b1⟩; have T1 : Hid (Tw w d (n0 : Int) x w1) := HT0.out.over b1) | (refine at_op (.load 27 (.tmp 4)) rfl ?_; first | (refine wpList_load_row rfl 27 (.tmp 4) rfl w.heap.size rfl 27 d.cells.toArray (0, 0) _ T2.out.rd Try.underlying27 rfl HSD.out ?_) | (refine wpList_load_row rfl 27 (.tmp 4) rfl w.heap.size rfl 27 d.cells.toArray (0, 0) _ T1.out.rd Try.underlying27 rfl HSD.out ?_)) | (go_at_call 10; refine (H1.out _ T1.out.bw).mono ?_; rintro e w2 ⟨rfl, b2⟩; have T2 : Hid (Tw w d (n0 : Int) x w2) := T1.out.over b2) | (go_at_call 12; refine (H2.out _ T2.out.bw).mono ?_; rintro e w3 ⟨b3, v3, rfl, o3⟩; obtain ⟨a3, c3, rfl, n3⟩ := owns_ns o3; have N3 : Hid (Ns .i64 w3 a3 li.length li) := n3; clear n3 o3; have T3 : Hid (Tw w d (n0 : Int) x w3) := T2.out.over b3; have q0 : w3.cell? ⟨w.heap.size + 1, 0, none⟩ = some (.int .i64 (n0 : Int)) := T3.out.ro.cell 0))
      go_loopw [14] (fun v wr => ∃ i : Nat, i ≤ li.length ∧ v = .int .i64 i ∧ (∀ z ∈ li.take i, z ≠ (m : Int)) ∧ Below w3.heap.size w3 wr) (fun v _ => li.length - (intOf v).toNat)
      case atStart => exact ⟨0, Nat.zero_le _, rfl, (by intro z hz; cases hz), Below.refl _ _⟩
      case round =>
        obtain ⟨i, hi, rfl, hno, hbr⟩ := hrel
        have T4 : Hid (Tw w d (n0 : Int) x wr) := T3.out.over hbr
        have HNo : Hid (∀ z ∈ li.take i, z ≠ (m : Int)) := hno
        clear hno q0
        have hpl : li.length ≤ 4096 := HPl.out.1
        by_cases hlt : i < li.length
        · obtain ⟨pb, po, rfl, hc⟩ := (N3.out.below hbr).2 (by omega)
          have di := hc i hlt
          have hi1 : (i : Int) < (li.length : Int) := by omega
          have HTk : Hid (li.take (i + 1) = li.take i ++ [li.getD i 0]) := by
            unfold Hid
            rw [List.take_add_one, List.getElem?_eq_getElem hlt]
            simp [hlt]
          clear hc
          generalize li.getD i 0 = z at *
          by_cases hz : z = (m : Int)
          · subst hz
            go_wp2
            go_ret
            exact ⟨rfl, T4.out.bw⟩
          · have hzb : (z == (m : Int)) = false := beq_eq_false_iff_ne.2 hz
            go_wp2
            go_roundw
            case rel =>
              refine ⟨i + 1, by omega, by go_num, ?_, hbr⟩
              rw [HTk.out]
              intro y hy
              rcases List.mem_append.1 hy with hy | hy
              · exact HNo.out y hy
              · simp at hy
                subst hy
                exact hz
            case measure => simp [intOf] <;> omega
        · have hi1 : ¬ (i : Int) < (li.length : Int) := by omega
          have HAll : Hid (∀ z ∈ li, z ≠ (m : Int)) := by
            have := HNo.out
            rw [List.take_of_length_le (by omega)] at this
            exact this
          have hown : (wr.alloc (.cells #[] 42)).ownsRow wr.heap.size 42 4 (.slice (some ⟨wr.heap.size, 0, none⟩) 0 0) 0 (cellsI []) := World.ownsRow_lit wr _ 0 (Nat.le_refl _) (by unfold maxLen; decide) rfl
          have hB := (Below.refl wr.heap.size wr).alloc (Nat.le_refl _) (Obj.cells #[] 42)
          have h2 := (HI.out.below T4.out.bw).below hB
          go_wp2_with (first | (at_builtin; refine append_ins rfl (.tmp 61) (.tmp 62) rfl wr.heap.size _ 0 [] rfl hown _ len cap ins rfl (fun h => by cases h) h2 (by have := HL.out; omega) (by rw [size_alloc']; omega) ?_; intro v4 w4 ho4 hg4; rw [List.nil_append, Nat.zero_add] at ho4; have B4 : Hid (Below wr.heap.size wr w4) := hB.grown hg4 hB.size (owns_block hown); obtain ⟨g, cap4, rfl, hgb, o4⟩ := owns_some ho4 (by omega); obtain ⟨f0, f1, f2, f3⟩ := owns_frozen o4 m; obtain ⟨k0, k1, k2, k3⟩ := owns_cells o4 m (by omega); have T5 : Hid (Tw w d (n0 : Int) x w4) := T4.out.over B4.out; have y1 : w4.cell? ⟨w.heap.size + 1, 1, none⟩ = some (.int .u16 x.c) := T5.out.ro.cell 1; have y2 : w4.cell? ⟨w.heap.size + 1, 2, none⟩ = some (.int .u8 x.t) := T5.out.ro.cell 2; have y3 : w4.cell? ⟨w.heap.size + 1, 3, none⟩ = some (.int .u8 x.f) := T5.out.ro.cell 3; have y4 : w4.cell? ⟨w.heap.size + 1, 4, none⟩ = some (.int .u32 x.k) := T5.out.ro.cell 4; have HO4 : Hid (w4.ownsRow wr.heap.size 42 4 (.slice (some ⟨g, 0, none⟩) len cap4) len (cellsI ins)) := o4; clear o4 ho4 hg4))
          have o5 := owns_set HO4.out m x (by omega)
          have B5 : Hid (Below wr.heap.size wr ((((w4.setCell ⟨g, m * 4, none⟩ (.int .u16 x.c)).setCell ⟨g, m * 4 + 1, none⟩ (.int .u8 x.t)).setCell ⟨g, m * 4 + 2, none⟩ (.int .u8 x.f)).setCell ⟨g, m * 4 + 3, none⟩ (.int .u32 x.k))) := (((B4.out.setCell (p := ⟨g, m * 4, none⟩) hgb (.int .u16 x.c)).setCell (p := ⟨g, m * 4 + 1, none⟩) hgb (.int .u8 x.t)).setCell (p := ⟨g, m * 4 + 2, none⟩) hgb (.int .u8 x.f)).setCell (p := ⟨g, m * 4 + 3, none⟩) hgb (.int .u32 x.k)
          obtain ⟨a5, c5, e5, i5⟩ := owns_ins o5 (hok2.out m)
          cases e5
          have T6 : Hid (Tw w d (n0 : Int) x ((((w4.setCell ⟨g, m * 4, none⟩ (.int .u16 x.c)).setCell ⟨g, m * 4 + 1, none⟩ (.int .u8 x.t)).setCell ⟨g, m * 4 + 2, none⟩ (.int .u8 x.f)).setCell ⟨g, m * 4 + 3, none⟩ (.int .u32 x.k))) := T4.out.over B5.out
          have HI5 : Hid (Ins ((((w4.setCell ⟨g, m * 4, none⟩ (.int .u16 x.c)).setCell ⟨g, m * 4 + 1, none⟩ (.int .u8 x.t)).setCell ⟨g, m * 4 + 2, none⟩ (.int .u8 x.f)).setCell ⟨g, m * 4 + 3, none⟩ (.int .u32 x.k)) (some ⟨g, 0, none⟩) len (ins.set m x)) := i5
          clear o5 i5 k0 k1 k2 k3 f0 f1 f2 f3 y1 y2 y3 y4
          refine (HCk.out _ m _ _ HI5.out).mono ?_
          generalize ((((w4.setCell ⟨g, m * 4, none⟩ (.int .u16 x.c)).setCell ⟨g, m * 4 + 1, none⟩ (.int .u8 x.t)).setCell ⟨g, m * 4 + 2, none⟩ (.int .u8 x.f)).setCell ⟨g, m * 4 + 3, none⟩ (.int .u32 x.k)) = X5 at *
          rintro e w6 ⟨rfl, b6⟩
          have T7 : Hid (Tw w d (n0 : Int) x w6) := T6.out.over b6
          have HI6 : Hid (Ins w6 (some ⟨g, 0, none⟩) len (ins.set m x)) := HI5.out.below b6
          by_cases hc : errV (ins.set m x) = 0
          · obtain ⟨s1, s2⟩ := HE.out m hc HAll.out
            have HR7 : Hid (Calls Try.prog 10 #[.slice (some ⟨g, 0, none⟩) len cap4, .agg d.cells.toArray] w6 fun e w' => e = .returned (.tuple #[.int .u32 an, .int .i64 (li.length : Nat), .int .i64 0]) ∧ Below w6.heap.size w6 w') := by
              refine (HRn.out w6 m _ cap4 HI6.out).mono ?_
              rintro e w' ⟨rfl, hb⟩
              rw [s1, s2, hc]
              exact ⟨rfl, hb⟩
            have hck : (chk (ins.set m x)).1 = 0 := hc
            clear HE HCk HRn s1 s2 hc
            generalize chk (ins.set m x) = ck at *
            obtain ⟨c1, c2⟩ := ck
            dsimp only at hck
            subst hck
            go_wp2_with (first | (refine at_op (.load 27 (.tmp 4)) rfl ?_; refine wpList_load_row rfl 27 (.tmp 4) rfl w.heap.size rfl 27 d.cells.toArray (0, 0) _ T7.out.rd Try.underlying27 rfl HSD.out ?_) | (go_at_call 10; refine HR7.out.mono ?_; rintro e w8 ⟨rfl, b8⟩))
            go_ret
            exact ⟨rfl, (T7.out.over b8).bw⟩
          · have hck : ¬ (chk (ins.set m x)).1 = 0 := hc
            clear HE HCk HRn hc
            generalize chk (ins.set m x) = ck at *
            obtain ⟨c1, c2⟩ := ck
            dsimp only at hck
            go_wp2
            go_ret
            exact ⟨rfl, T7.out.bw⟩
  · clear h hd hx
    generalize ansV ins d = an at *
    generalize plV ins d = li at *
    generalize errV ins = er at *
    unfold Da.val
    go_enter Try.func6, Try.ntmps6
    go_wp2_with (first | (go_at_call 9; refine (HW.out _).mono ?_; rintro e w1 ⟨rfl, b1⟩; have T1 : Hid (Tw w d n x w1) := HT0.out.over b1) | (refine at_op (.load 27 (.tmp 4)) rfl ?_; first | (refine wpList_load_row rfl 27 (.tmp 4) rfl w.heap.size rfl 27 d.cells.toArray (0, 0) _ T2.out.rd Try.underlying27 rfl HSD.out ?_) | (refine wpList_load_row rfl 27 (.tmp 4) rfl w.heap.size rfl 27 d.cells.toArray (0, 0) _ T1.out.rd Try.underlying27 rfl HSD.out ?_)) | (go_at_call 10; refine (H1.out _ T1.out.bw).mono ?_; rintro e w2 ⟨rfl, b2⟩; have T2 : Hid (Tw w d n x w2) := T1.out.over b2) | (go_at_call 12; refine (H2.out _ T2.out.bw).mono ?_; rintro e w3 ⟨b3, v3, rfl, o3⟩; have T3 : Hid (Tw w d n x w3) := T2.out.over b3; have q0 : w3.cell? ⟨w.heap.size + 1, 0, none⟩ = some (.int .i64 n) := T3.out.ro.cell 0))
    go_ret
    exact ⟨rfl, T3.out.bw⟩

end Go.Proofs.Ytinjlneeafopoaa
