/-
  The middles of all parts: the document's Build.
-/
import Derived.Test.YthgkpecmpfgnjaaParts
import Derived.Test.YthgkpecmpfgnjaaBuild
import Derived.Deep.RegionHeld3
namespace Go.Proofs.Ythgkpecmpfgnjaa
open Go.RowKit

theorem cell_al {w : World} {p : Addr} {v : Value} (h : w.cell? p = some v) (o : Obj) : (w.alloc o).cell? p = some v := by
  rw [(below_new w o).cell (p := p) (World.block_lt_of_cell? w _ h)]
  exact h

theorem midsOf_take (l : List (Nat × Nat)) (k : Nat) (p : Nat × Nat) (h : l[k]? = some p) : midsOf (l.take (k + 1)) = midsOf (l.take k) ++ (if 2 ≤ p.2 - p.1 then [mid p.1 p.2] else []) := by
  obtain ⟨hk, rfl⟩ := List.getElem?_eq_some_iff.1 h
  rw [← midsOf_snoc, List.take_succ_eq_append_getElem hk]

theorem bErr_long {l : List Int} (h : 4096 < l.length) : bErr l = 4 ∧ bMids l = [] := by
  unfold bErr bMids
  rw [if_pos h, if_pos h]
  exact ⟨rfl, rfl⟩
theorem bErr_no {l : List Int} (h : ¬ 4096 < l.length) (hr : rises l = false) : bErr l = 1 ∧ bMids l = [] := by
  unfold bErr bMids
  rw [if_neg h, if_neg h, hr]
  exact ⟨rfl, rfl⟩
theorem bErr_yes {l : List Int} (h : ¬ 4096 < l.length) (hr : rises l = true) : bErr l = 0 ∧ bMids l = mids 0 l.length := by
  unfold bErr bMids
  rw [if_neg h, if_neg h, hr]
  exact ⟨rfl, rfl⟩

/-- an append at a step of a drawn region. -/
theorem step_append {w : World} {ops : Array Oper} {o : Oper} {a : Act} {K : Act → World → Prop} {Q : Exit → Act → World → Prop} {E : Prop} (hgd : o.guard = none) (s x : Operand)
    (ho : o.op = .call { callee := .builtin .append, args := #[s, x], argTypes := #[24, 24] })
    (base : Nat) (v : Value) (n : Nat) (l : List Nat) (hs : a.eval s = v) (hown : w.ownsRow base 3 1 v n (cellsN l))
    (z : Nat) (ad : Addr) (hx : a.eval x = .slice (some ad) 1 1) (hnew : w.cell? ad = some (.int .i64 z))
    (hn : n ≤ 1000000) (hbase : base ≤ w.heap.size)
    (h : ∀ v' w', w'.ownsRow base 3 1 v' (n + 1) (cellsN (l ++ [z])) → w.grownBy w' v.ownBlock → K (a.put o.dst v') w') :
    if Region.wanted o (yielded ops a.tmps) = true then Oper.wp Try.prog o a w K Q else E := by
  rw [if_pos (by simp [Region.wanted, hgd])]
  obtain ⟨i0, hi, hz0, hz1, hz2⟩ := info_parts Try.info3
  obtain ⟨v', w', hrun, r1, r2, r3⟩ := run_append_own (P := Try.prog) w base 24 o.type 3 i0 _ 1 8 Try.underlying24 hi hz0 hz1 hz2 rfl (by decide) v n (cellsN l) hown ad 1 1 (cellsN [z]) rfl (by
    intro j u hu
    match j, hu with
    | 0, hu => cases hu; exact hnew) (by intro u hu; simp [cellsN] at hu; subst hu; rfl) (by unfold maxLen; omega) (by omega) hbase
  unfold Oper.wp execOp
  simp only [ho, resolve, invoke, builtin, Sem.run_bind, Sem.run_pure, Result.andThen_ok, List.map_toArray, List.map_cons, List.map_nil, hs, hx, hrun]
  exact h _ _ (by rw [cellsN_app]; exact r1) r2

set_option linter.unusedSimpArgs false in
set_option maxHeartbeats 2000000 in
theorem refBuild_any (a : Option Addr) (len cap : Nat) (l : List Int) (w : World) (h : Ns .u32 w a len l) :
    Calls Try.prog 11 #[.slice a len cap] w fun e w' => Bld w w' e (bMids l) (bErr l) := by
  have hll := h.1
  by_cases h4 : 4096 < len
  · rw [(bErr_long (l := l) (by omega)).1, (bErr_long (l := l) (by omega)).2]
    have h4' : (4096 : Int) < (len : Int) := by omega
    clear h hll h4
    go_enter Try.func11, Try.ntmps11
    go_wp2
    go_ret2
    exact ⟨Below.refl _ _, _, rfl, owns_nil _ _ _ _⟩
  · have HW : Hid (∀ W : World, Below w.heap.size w W → Calls Try.prog 22 #[.slice a len cap] W fun e w' => e = .returned (.bool (rises l)) ∧ Below w.heap.size w w') := fun W hb => (rises_any a len cap l W (h.below hb) (by omega)).mono fun e w' ⟨h1, h2⟩ => ⟨h1, hb.trans (h2.mono hb.size)⟩
    have h4' : (len : Int) ≤ 4096 := by omega
    by_cases hB : rises l = true
    · rw [(bErr_yes (l := l) (by omega) hB).1, (bErr_yes (l := l) (by omega) hB).2, hll]
      rw [hB] at HW
      have HP : Hid (∀ W : World, Calls Try.prog 17 #[.int .i64 0, .int .i64 (len : Int)] W fun e w' => PTold W w' e (parts 0 len)) := fun W => parts_any len 0 len W (by omega) (by omega)
      have hpl : Hid ((parts 0 len).length ≤ 8192) := by have := parts_le 0 len; unfold Hid; omega
      have HE : Hid (mids 0 len = midsOf (parts 0 len)) := rfl
      have HI : Hid (∀ p ∈ parts 0 len, p.1 < p.2 ∧ p.2 ≤ 4096) := fun p hp => by have := parts_in hp; omega
      generalize mids 0 len = ms at *
      generalize parts 0 len = pl at *
      clear hB h hll h4 l
      go_enter Try.func11, Try.ntmps11
      go_wp2_with (first | (go_at_call 22; refine (HW.out _ (Below.refl _ _)).mono ?_; rintro e w1 ⟨rfl, hb1⟩) | (go_at_call 17; refine (HP.out _).mono ?_; rintro e w2 ⟨hb2, v2, rfl, ho2⟩; obtain ⟨a2, c2, rfl, hps⟩ := owns_ps ho2))
      have hB2 := hb1.trans (hb2.mono hb1.size)
      have hlp := hpl.out
      go_loopw [4, 6] (fun v i wr => ∃ k : Nat, k ≤ pl.length ∧ i = .int .i64 k ∧ wr.ownsRow w2.heap.size 3 1 v (midsOf (pl.take k)).length (cellsN (midsOf (pl.take k))) ∧ Below w2.heap.size w2 wr) (fun _ i _ => pl.length - (intOf i).toNat)
      case atStart => exact ⟨0, Nat.zero_le _, rfl, owns_nil _ _ _ _, Below.refl _ _⟩
      case round =>
        obtain ⟨k, hk, rfl, ho, hbr⟩ := hrel
        by_cases hlt : k < pl.length
        · obtain ⟨g, rfl, hc⟩ := (hps.below hbr).2 (by omega)
          obtain ⟨⟨x, y⟩, hxy⟩ : ∃ p, pl[k]? = some p := ⟨pl[k], List.getElem?_eq_getElem hlt⟩
          obtain ⟨q0, q1⟩ := hc k _ hxy
          have hT := midsOf_take pl k _ hxy
          have hin := HI.out _ (List.mem_of_getElem? hxy)
          clear hc hxy
          dsimp only at q0 q1 hT hin
          have HT : Hid (midsOf (pl.take (k + 1)) = midsOf (pl.take k) ++ (if 2 ≤ y - x then [mid x y] else [])) := hT
          have hx1 : (x : Int) < (y : Int) := by omega
          have hy1 : (y : Int) ≤ 4096 := by omega
          have hml : (midsOf (pl.take k)).length ≤ 1000000 := by have := midsOf_le (pl.take k); have := List.length_take_le k pl; omega
          have HX : Hid (x < y) := hin.1
          have hi1 : (k : Int) < (pl.length : Int) := by omega
          clear hT hin
          by_cases h2 : 2 ≤ y - x
          · have h2' : (1 : Int) < (y : Int) - (x : Int) := by omega
            go_wp2_with fail
            go_quiet (fail)
            go_wp2_with fail
            have hoX : (wr.drewN nq).drew.ownsRow w2.heap.size 3 1 u4 (midsOf (pl.take k)).length (cellsN (midsOf (pl.take k))) := owns_below ho (below_drewN (Below.refl _ _) nq).drew (Nat.le_refl _)
            have hbX : Below w2.heap.size w2 (wr.drewN nq).drew := (below_drewN hbr nq).drew
            have q0X : (wr.drewN nq).drew.cell? ⟨g, k * 2, none⟩ = some (.int .i64 (x : Nat)) := ((below_drewN (Below.refl (g + 1) wr) nq).drew.cell (p := ⟨g, k * 2, none⟩) (Nat.lt_succ_self g)).trans q0
            have q1X : (wr.drewN nq).drew.cell? ⟨g, k * 2 + 1, none⟩ = some (.int .i64 (y : Nat)) := ((below_drewN (Below.refl (g + 1) wr) nq).drew.cell (p := ⟨g, k * 2 + 1, none⟩) (Nat.lt_succ_self g)).trans q1
            have hgw : g < w2.heap.size := by
              rcases ho2.2 with ⟨e, _⟩ | ⟨g', cap', cur', e, _, hg', _⟩
              · cases e
              · cases e; exact lt_of_block hg'
            obtain ⟨dd, e1⟩ : ∃ dd : Int, IntKind.i64.wrap ((y : Int) - (x : Int)) = dd := ⟨_, rfl⟩
            obtain ⟨hh, e2⟩ : ∃ hh : Int, IntKind.i64.wrap (dd.tdiv 2) = hh := ⟨_, rfl⟩
            have e3 : IntKind.i64.wrap ((x : Int) + hh) = ((mid x y : Nat) : Int) := by
              rw [← e2, ← e1, show IntKind.i64.wrap ((y : Int) - (x : Int)) = (y : Int) - (x : Int) from by rw [IntKind.wrap_i64]; omega, Int.tdiv_eq_ediv_of_nonneg (by omega)]
              simp only [IntKind.wrap_i64]
              unfold mid
              omega
            have HT2 : Hid (midsOf (pl.take (k + 1)) = midsOf (pl.take k) ++ [mid x y]) := by unfold Hid; rw [HT.out, if_pos h2]
            clear HT h2 q0 q1
            generalize mid x y = m at *
            generalize wr.drewN nq = X at *
            refine wp_region_held_drew (S := (fun w' => w'.cell? ⟨g, k * 2, none⟩ = some (.int .i64 (x : Nat)) ∧ w'.cell? ⟨g, k * 2 + 1, none⟩ = some (.int .i64 (y : Nat)))) (by kernel_rfl) (⟨q0X, q1X⟩) (fun hHeld => ?_)
            simp only [List.size_toArray, List.length_cons, List.length_nil, Nat.reduceAdd]
            generalize X.drew = Z at *
            refine wpAnyH_take (i := 0) (v := ?_) rfl (by kernel_rfl) (by kernel_rfl) (by kernel_rfl) (fun _ _ _ h => h) (Or.inl ⟨by rfl, ?_⟩) hHeld ?_
            rotate_left
            · (intro w hSw; (try dsimp only at hSw); have s0 := hSw.1; have s1 := hSw.2; go_simp; try with_reducible rfl)
            try simp only [Act.put, List.setIfInBounds_toArray, List.set_cons_zero, List.set_cons_succ, List.getElem_toArray, List.getElem_cons_zero, List.getElem_cons_succ]
            refine wpAnyH_take (i := 1) (v := ?_) rfl (by kernel_rfl) (by kernel_rfl) (by kernel_rfl) (fun _ _ _ h => h) (Or.inl ⟨by rfl, ?_⟩) hHeld ?_
            rotate_left
            · (intro w hSw; (try dsimp only at hSw); have s0 := hSw.1; have s1 := hSw.2; go_simp; try with_reducible rfl)
            try simp only [Act.put, List.setIfInBounds_toArray, List.set_cons_zero, List.set_cons_succ, List.getElem_toArray, List.getElem_cons_zero, List.getElem_cons_succ]
            refine wpAnyH_take (i := 2) (v := ?_) rfl (by kernel_rfl) (by kernel_rfl) (by kernel_rfl) (fun _ _ _ h => h) (Or.inl ⟨by rfl, ?_⟩) hHeld ?_
            rotate_left
            · (intro w hSw; (try dsimp only at hSw); have s0 := hSw.1; have s1 := hSw.2; go_simp; try with_reducible rfl)
            try simp only [Act.put, List.setIfInBounds_toArray, List.set_cons_zero, List.set_cons_succ, List.getElem_toArray, List.getElem_cons_zero, List.getElem_cons_succ]
            refine wpAnyH_take (i := 3) (v := ?_) rfl (by kernel_rfl) (by kernel_rfl) (by kernel_rfl) (fun _ _ _ h => h) (Or.inl ⟨by rfl, ?_⟩) hHeld ?_
            rotate_left
            · (intro w hSw; (try dsimp only at hSw); have s0 := hSw.1; have s1 := hSw.2; go_simp; try with_reducible rfl)
            try simp only [Act.put, List.setIfInBounds_toArray, List.set_cons_zero, List.set_cons_succ, List.getElem_toArray, List.getElem_cons_zero, List.getElem_cons_succ]
            refine wpAnyH_take (i := 4) (v := ?_) rfl (by kernel_rfl) (by kernel_rfl) (by kernel_rfl) (fun _ _ _ h => h) (Or.inl ⟨by rfl, ?_⟩) hHeld ?_
            rotate_left
            · (intro w hSw; (try dsimp only at hSw); have s0 := hSw.1; have s1 := hSw.2; go_simp; try with_reducible rfl)
            try simp only [Act.put, List.setIfInBounds_toArray, List.set_cons_zero, List.set_cons_succ, List.getElem_toArray, List.getElem_cons_zero, List.getElem_cons_succ]
            refine wpAnyH_take (i := 5) (v := ?_) rfl (by kernel_rfl) (by kernel_rfl) (by kernel_rfl) (fun _ _ _ h => h) (Or.inl ⟨by rfl, ?_⟩) hHeld ?_
            rotate_left
            · (intro w hSw; (try dsimp only at hSw); have s0 := hSw.1; have s1 := hSw.2; go_simp; try with_reducible rfl)
            try simp only [Act.put, List.setIfInBounds_toArray, List.set_cons_zero, List.set_cons_succ, List.getElem_toArray, List.getElem_cons_zero, List.getElem_cons_succ]
            refine wpAnyH_take (i := 6) (v := ?_) rfl (by kernel_rfl) (by kernel_rfl) (by kernel_rfl) (fun _ _ _ h => h) (Or.inl ⟨by rfl, ?_⟩) hHeld ?_
            rotate_left
            · (intro w hSw; (try dsimp only at hSw); have s0 := hSw.1; have s1 := hSw.2; go_simp; try with_reducible rfl)
            try simp only [Act.put, List.setIfInBounds_toArray, List.set_cons_zero, List.set_cons_succ, List.getElem_toArray, List.getElem_cons_zero, List.getElem_cons_succ]
            refine wpAnyH_take (i := 7) (v := ?_) rfl (by kernel_rfl) (by kernel_rfl) (by kernel_rfl) (fun _ _ _ h => h) (Or.inl ⟨by rfl, ?_⟩) hHeld ?_
            rotate_left
            · (intro w hSw; (try dsimp only at hSw); have s0 := hSw.1; have s1 := hSw.2; go_simp; try with_reducible rfl)
            try simp only [Act.put, List.setIfInBounds_toArray, List.set_cons_zero, List.set_cons_succ, List.getElem_toArray, List.getElem_cons_zero, List.getElem_cons_succ]
            refine wpAnyH_take (i := 8) (v := ?_) rfl (by kernel_rfl) (by kernel_rfl) (by kernel_rfl) (fun _ _ _ h => h) (Or.inl ⟨by rfl, ?_⟩) hHeld ?_
            rotate_left
            · (intro w hSw; (try dsimp only at hSw); have s0 := hSw.1; have s1 := hSw.2; go_simp; try with_reducible rfl)
            try simp only [Act.put, List.setIfInBounds_toArray, List.set_cons_zero, List.set_cons_succ, List.getElem_toArray, List.getElem_cons_zero, List.getElem_cons_succ]
            refine wpAnyH_take (i := 9) (v := ?_) rfl (by kernel_rfl) (by kernel_rfl) (by kernel_rfl) (fun _ _ _ h => h) (Or.inl ⟨by rfl, ?_⟩) hHeld ?_
            rotate_left
            · (intro w hSw; (try dsimp only at hSw); have s0 := hSw.1; have s1 := hSw.2; go_simp; try with_reducible rfl)
            try simp only [Act.put, List.setIfInBounds_toArray, List.set_cons_zero, List.set_cons_succ, List.getElem_toArray, List.getElem_cons_zero, List.getElem_cons_succ]
            refine wpAnyH_take (i := 10) (v := ?_) rfl (by kernel_rfl) (by kernel_rfl) (by kernel_rfl) (fun _ _ _ h => h) (Or.inl ⟨by rfl, ?_⟩) hHeld ?_
            rotate_left
            · (intro w hSw; (try dsimp only at hSw); have s0 := hSw.1; have s1 := hSw.2; go_simp; try with_reducible rfl)
            try simp only [Act.put, List.setIfInBounds_toArray, List.set_cons_zero, List.set_cons_succ, List.getElem_toArray, List.getElem_cons_zero, List.getElem_cons_succ]
            refine wpAnyH_take (i := 11) (v := ?_) rfl (by kernel_rfl) (by kernel_rfl) (by kernel_rfl) (fun _ _ _ h => h) (Or.inl ⟨by rfl, ?_⟩) hHeld ?_
            rotate_left
            · (intro w hSw; (try dsimp only at hSw); have s0 := hSw.1; have s1 := hSw.2; go_simp; try with_reducible rfl)
            try simp only [Act.put, List.setIfInBounds_toArray, List.set_cons_zero, List.set_cons_succ, List.getElem_toArray, List.getElem_cons_zero, List.getElem_cons_succ]
            refine wpAnyH_take (i := 12) (v := ?_) rfl (by kernel_rfl) (by kernel_rfl) (by kernel_rfl) (fun _ _ _ h => h) (Or.inl ⟨by rfl, ?_⟩) hHeld ?_
            rotate_left
            · (intro w hSw; (try dsimp only at hSw); have s0 := hSw.1; have s1 := hSw.2; go_simp; try with_reducible rfl)
            try simp only [Act.put, List.setIfInBounds_toArray, List.set_cons_zero, List.set_cons_succ, List.getElem_toArray, List.getElem_cons_zero, List.getElem_cons_succ]
            refine wpAnyH_take (i := 13) (v := ?_) rfl (by kernel_rfl) (by kernel_rfl) (by kernel_rfl) (fun _ _ _ h => h) (Or.inl ⟨by rfl, ?_⟩) hHeld ?_
            rotate_left
            · (intro w hSw; (try dsimp only at hSw); have s0 := hSw.1; have s1 := hSw.2; go_simp; try with_reducible rfl)
            try simp only [Act.put, List.setIfInBounds_toArray, List.set_cons_zero, List.set_cons_succ, List.getElem_toArray, List.getElem_cons_zero, List.getElem_cons_succ]
            refine wpAnyH_take (i := 14) (v := ?_) rfl (by kernel_rfl) (by kernel_rfl) (by kernel_rfl) (fun _ _ _ h => h) (Or.inl ⟨by rfl, ?_⟩) hHeld ?_
            rotate_left
            · (intro w hSw; (try dsimp only at hSw); have s0 := hSw.1; have s1 := hSw.2; go_simp; try with_reducible rfl)
            try simp only [Act.put, List.setIfInBounds_toArray, List.set_cons_zero, List.set_cons_succ, List.getElem_toArray, List.getElem_cons_zero, List.getElem_cons_succ]
            refine wpAnyH_take (i := 15) (v := ?_) rfl (by kernel_rfl) (by kernel_rfl) (by kernel_rfl) (fun _ _ _ h => h) (Or.inl ⟨by rfl, ?_⟩) hHeld ?_
            rotate_left
            · (intro w hSw; (try dsimp only at hSw); have s0 := hSw.1; have s1 := hSw.2; go_simp; try with_reducible rfl)
            try simp only [Act.put, List.setIfInBounds_toArray, List.set_cons_zero, List.set_cons_succ, List.getElem_toArray, List.getElem_cons_zero, List.getElem_cons_succ]
            refine wpAnyH_take (i := 16) (v := ?_) rfl (by kernel_rfl) (by kernel_rfl) (by kernel_rfl) (fun _ _ _ h => h) (Or.inl ⟨by rfl, ?_⟩) hHeld ?_
            rotate_left
            · (intro w hSw; (try dsimp only at hSw); have s0 := hSw.1; have s1 := hSw.2; go_simp; try with_reducible rfl)
            try simp only [Act.put, List.setIfInBounds_toArray, List.set_cons_zero, List.set_cons_succ, List.getElem_toArray, List.getElem_cons_zero, List.getElem_cons_succ]
            refine wpAnyH_take (i := 17) (v := ?_) rfl (by kernel_rfl) (by kernel_rfl) (by kernel_rfl) (fun _ _ _ h => h) (Or.inl ⟨by rfl, ?_⟩) hHeld ?_
            rotate_left
            · (intro w hSw; (try dsimp only at hSw); have s0 := hSw.1; have s1 := hSw.2; go_simp; try with_reducible rfl)
            try simp only [Act.put, List.setIfInBounds_toArray, List.set_cons_zero, List.set_cons_succ, List.getElem_toArray, List.getElem_cons_zero, List.getElem_cons_succ]
            refine wpAnyH_take (i := 18) (v := ?_) rfl (by kernel_rfl) (by kernel_rfl) (by kernel_rfl) (fun _ _ _ h => h) (Or.inl ⟨by rfl, ?_⟩) hHeld ?_
            rotate_left
            · (intro w hSw; (try dsimp only at hSw); have s0 := hSw.1; have s1 := hSw.2; go_simp; try with_reducible rfl)
            try simp only [Act.put, List.setIfInBounds_toArray, List.set_cons_zero, List.set_cons_succ, List.getElem_toArray, List.getElem_cons_zero, List.getElem_cons_succ]
            refine wpAnyH_ready (rs := [19]) (by kernel_rfl) (by simp) ?_
            refine AllReadyH.cons rfl (fun K hK => ?_) AllReadyH.nil
            go_simp
            skip
            refine hK.out _ _ (⟨(cell_al hHeld.1 _), (cell_al hHeld.2 _)⟩) (fun hHeld => ?_)
            clear hK K
            try simp only [Act.put, List.setIfInBounds_toArray, List.set_cons_zero, List.set_cons_succ, List.getElem_toArray, List.getElem_cons_zero, List.getElem_cons_succ]
            refine wpAnyH_ready (rs := [20]) (by kernel_rfl) (by simp) ?_
            refine AllReadyH.cons rfl (fun K hK => ?_) AllReadyH.nil
            refine step_append rfl (.tmp 34) (.tmp 53) rfl w2.heap.size u4 _ (midsOf (pl.take k)) rfl (hoX.alloc _) m _ rfl (new_int _ _) hml (by rw [size_alloc']; exact Nat.le_succ_of_le hbX.size) ?_
            intro v4 w4 ho4 hg4
            have hb3 := hbX.alloc hbX.size (Obj.cells #[.int .i64 (m : Nat)] 3)
            have hb4 := hb3.grown hg4 hb3.size (owns_block hoX)
            have hb5 := (Below.refl w2.heap.size _).grown hg4 hb3.size (owns_block hoX)
            refine hK.out _ _ (⟨(hb5.cell (p := ⟨g, k * 2, none⟩) hgw).trans hHeld.1, (hb5.cell (p := ⟨g, k * 2 + 1, none⟩) hgw).trans hHeld.2⟩) (fun hHeld => ?_)
            clear hK K
            try simp only [Act.put, List.setIfInBounds_toArray, List.set_cons_zero, List.set_cons_succ, List.getElem_toArray, List.getElem_cons_zero, List.getElem_cons_succ]
            refine wpAnyH_take (i := 21) (v := ?_) rfl (by kernel_rfl) (by kernel_rfl) (by kernel_rfl) (fun _ _ _ h => h) (Or.inl ⟨by rfl, ?_⟩) hHeld ?_
            rotate_left
            · (intro w hSw; (try dsimp only at hSw); have s0 := hSw.1; have s1 := hSw.2; go_simp; try with_reducible rfl)
            try simp only [Act.put, List.setIfInBounds_toArray, List.set_cons_zero, List.set_cons_succ, List.getElem_toArray, List.getElem_cons_zero, List.getElem_cons_succ]
            refine wpAnyH_done (by kernel_rfl) ?_ _
            go_wp2_with fail
            go_roundw
            case rel => exact ⟨k + 1, by omega, by go_num, by rw [HT2.out, List.length_append]; exact ho4, hb4⟩
            case measure => simp [intOf]; omega
          · have h2' : (y : Int) - (x : Int) ≤ 1 := by omega
            have HT2 : Hid (midsOf (pl.take (k + 1)) = midsOf (pl.take k)) := by unfold Hid; rw [HT.out, if_neg h2, List.append_nil]
            clear HT h2
            go_wp2_with fail
            go_quiet (fail)
            go_wp2_with fail
            go_roundw
            case rel => exact ⟨k + 1, by omega, by go_num, by rw [HT2.out]; exact owns_below ho (below_drewN (Below.refl _ _) _) (Nat.le_refl _), below_drewN hbr _⟩
            case measure => simp [intOf]; omega
        · have hk2 : pl.take k = pl := List.take_of_length_le (by omega)
          rw [hk2] at ho
          clear hk2
          go_wp2_with fail
          go_ret2
          exact ⟨hB2.trans (hbr.mono hB2.size), _, rfl, by rw [HE.out]; exact owns_lower ho hB2.size⟩
    · have hB' : rises l = false := by simpa using hB
      rw [(bErr_no (l := l) (by omega) hB').1, (bErr_no (l := l) (by omega) hB').2]
      rw [hB'] at HW
      clear hB hB' h h4
      go_enter Try.func11, Try.ntmps11
      go_wp2_with (go_at_call 22; refine (HW.out _ (Below.refl _ _)).mono ?_; rintro e w1 ⟨rfl, hb1⟩)
      go_ret2
      exact ⟨hb1, _, rfl, owns_nil _ _ _ _⟩

end Go.Proofs.Ythgkpecmpfgnjaa
