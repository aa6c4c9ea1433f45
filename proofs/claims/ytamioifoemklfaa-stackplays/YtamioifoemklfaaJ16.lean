/-
  Texts of this seat, joined: StRat, VSMath, VVRefSmall, VRefCalls.
-/
import Derived.Test.YtamioifoemklfaaJ12
import Derived.Test.YtamioifoemklfaaJ15
import Derived.Test.YtamioifoemklfaaJ8
import Derived.Test.YtamioifoemklfaaJ3
import Derived.Deep.AppendLies
import Derived.Laws.OwnMore
import Derived.Deep.RegionHeld3
import Derived.Deep.DeepCutAuto

namespace Go.Proofs.Ytamioifoemklfaa
open Go.RowKit

/-- the document's stack: its filters, each in a row of its own. -/
structure RStk (B : Nat) (W : World) (b : Nat) (vL : Value) (ls : List (List V.In)) : Prop where
  blk : V.Blk W b 37 [vL]
  row : ∃ us, W.ownsRow B 31 1 vL ls.length us ∧ ∀ (i : Nat) (l : List V.In), ls[i]? = some l → ∃ u, us[i]? = some u ∧ W.ownsRow 0 56 4 u l.length (V.cellsI l) ∧ ∀ x ∈ l, x.ok
theorem RStk.over {B : Nat} {W W' : World} {b : Nat} {vL : Value} {ls : List (List V.In)} (h : RStk B W b vL ls) (hb : Below W.heap.size W W') : RStk B W' b vL ls := by
  obtain ⟨us, h1, h2⟩ := h.row
  exact ⟨h.blk.over hb, us, own_over h1 hb, fun i l hi => by obtain ⟨u, q1, q2, q3⟩ := h2 i l hi; exact ⟨u, q1, own_over q2 hb, q3⟩⟩
theorem RStk.flR {B : Nat} {W : World} {b : Nat} {vL : Value} {ls : List (List V.In)} (h : RStk B W b vL ls) : FlR W vL ls := by
  obtain ⟨us, h1, h2⟩ := h.row
  refine FlO.flR (X := W) (B := B) ⟨us, h1, fun i l hi => ?_⟩ (Below.refl _ _)
  obtain ⟨u, q1, q2, q3⟩ := h2 i l hi
  exact ⟨u, q1, fl_of_own q2 q3⟩
/-- a stack's block was turned. -/
theorem RStk.other {B : Nat} {X Y : World} {b j : Nat} {vL : Value} {ls : List (List V.In)} {cs : List Value} (h : RStk B X b vL ls) (hj : V.Blk X j 34 cs) (hg : X.grownBy Y (some j)) : RStk B Y b vL ls := by
  obtain ⟨us, h1, h2⟩ := h.row
  exact ⟨blk_grown h.blk hg (fun e => blk_ne (by decide) h.blk hj (by simpa using e)), us, h1.kept hg (row_ne (by decide) h1 hj), fun i l hi => by obtain ⟨u, q1, q2, q3⟩ := h2 i l hi; exact ⟨u, q1, q2.kept hg (row_ne (by decide) q2 hj), q3⟩⟩
/-- a filter more in the row. -/
theorem RStk.app {B : Nat} {X Y : World} {b n : Nat} {vL v' u : Value} {ls : List (List V.In)} {l : List V.In} {us : List Value} (h : RStk B X b vL ls) (hus : X.ownsRow B 31 1 vL n us) (h2 : ∀ (i : Nat) (l : List V.In), ls[i]? = some l → ∃ u, us[i]? = some u ∧ X.ownsRow 0 56 4 u l.length (V.cellsI l) ∧ ∀ x ∈ l, x.ok) (hn : ls.length = n)
    (hu : X.ownsRow 0 56 4 u l.length (V.cellsI l)) (hl : ∀ x ∈ l, x.ok) (hG : GrwF X Y B vL v' (n + 1) (us ++ [u])) :
    V.Blk Y b 37 [vL] ∧ Y.ownsRow B 31 1 v' (n + 1) (us ++ [u]) ∧ ∀ (i : Nat) (k : List V.In), (ls ++ [l])[i]? = some k → ∃ y, (us ++ [u])[i]? = some y ∧ Y.ownsRow 0 56 4 y k.length (V.cellsI k) ∧ ∀ x ∈ k, x.ok := by
  have hul : us.length = n := by have := hus.1; omega
  refine ⟨blk_grown h.blk hG.grown (blk_row_ne (by decide) hus h.blk), hG.own, fun i k hi => ?_⟩
  by_cases hlt : i < ls.length
  · rw [List.getElem?_append_left hlt] at hi
    obtain ⟨y, q1, q2, q3⟩ := h2 i k hi
    exact ⟨y, by rw [List.getElem?_append_left (by omega)]; exact q1, q2.kept hG.grown (own_ne (by decide) q2 hus), q3⟩
  · have hil := (List.getElem?_eq_some_iff.1 hi).1
    rw [List.length_append, List.length_singleton] at hil
    have e : i = ls.length := by omega
    subst e
    rw [List.getElem?_append_right (Nat.le_refl _), Nat.sub_self] at hi
    cases hi
    exact ⟨u, by rw [List.getElem?_append_right (by omega), hul, hn, Nat.sub_self]; rfl, hu.kept hG.grown (own_ne (by decide) hu hus), hl⟩
/-- nothing has turned but two blocks. -/
structure Grown2 (X Y : World) (r s : Option Nat) : Prop where
  os : Y.os = X.os
  tape : Y.tape = X.tape
  output : Y.output = X.output
  size : X.heap.size ≤ Y.heap.size
  block : ∀ k, k < X.heap.size → some k ≠ r → some k ≠ s → Y.heap[k]? = X.heap[k]?
theorem g2_below {X Y : World} (h : Below X.heap.size X Y) (r s : Option Nat) : Grown2 X Y r s := ⟨h.os, h.tape, h.output, h.size, fun k hk _ _ => h.block k hk⟩
theorem g2_left {X Y : World} {r : Option Nat} (h : X.grownBy Y r) (s : Option Nat) : Grown2 X Y r s := ⟨h.os, h.tape, h.output, h.size, fun k hk h1 _ => h.block k hk h1⟩
theorem g2_right {X Y : World} {s : Option Nat} (h : X.grownBy Y s) (r : Option Nat) : Grown2 X Y r s := ⟨h.os, h.tape, h.output, h.size, fun k hk _ h1 => h.block k hk h1⟩
theorem g2_trans {X Y Z : World} {r s : Option Nat} (h : Grown2 X Y r s) (k : Grown2 Y Z r s) : Grown2 X Z r s :=
  ⟨k.os.trans h.os, k.tape.trans h.tape, k.output.trans h.output, Nat.le_trans h.size k.size, fun i hi h1 h2 => (k.block i (Nat.lt_of_lt_of_le hi h.size) h1 h2).trans (h.block i hi h1 h2)⟩
theorem g2_kept {X Y : World} {r s : Option Nat} {base sz : Nat} {t : TypeId} {v : Value} {n : Nat} {xs : List Value} (h : X.ownsRow base t sz v n xs) (hg : Grown2 X Y r s) (h1 : v.ownBlock = none ∨ v.ownBlock ≠ r) (h2 : v.ownBlock = none ∨ v.ownBlock ≠ s) : Y.ownsRow base t sz v n xs := by
  refine ⟨h.1, ?_⟩
  rcases h.2 with hn | ⟨g, cap, cur, rfl, hb, hgg, rest⟩
  · exact .inl hn
  · refine .inr ⟨g, cap, cur, rfl, hb, ?_, rest⟩
    rw [hg.block g (h.lt g rfl).2 (h1.resolve_left (by simp [Value.ownBlock])) (h2.resolve_left (by simp [Value.ownBlock]))]
    exact hgg
/-- a stack stays where the document's is turned. -/
theorem StkV.ref {B : Nat} {X Y : World} {b c : Nat} {vc ve vL : Value} {ls ks : List (List V.In)} (h : StkV X b vc ve ls) (hR : RStk B X c vL ks) (hg : Grown2 X Y (some c) vL.ownBlock) : StkV Y b vc ve ls := by
  obtain ⟨us, h1, _⟩ := hR.row
  refine ⟨?_, g2_kept h.code hg (row_ne (by decide) h.code hR.blk) (own_ne (by decide) h.code h1), g2_kept h.ends hg (row_ne (by decide) h.ends hR.blk) (own_ne (by decide) h.ends h1)⟩
  have hl := h.blk.lt
  have hb := h.blk
  unfold V.Blk at hb ⊢
  rw [hg.block b hl (fun e => blk_ne (by decide) h.blk hR.blk (by simpa using e)) (blk_row_ne (by decide) h1 h.blk)]
  exact hb
theorem g2_bel {B : Nat} {X Y : World} {c : Nat} {vL : Value} {ks : List (List V.In)} (hR : RStk B X c vL ks) (hg : Grown2 X Y (some c) vL.ownBlock) (hB : B ≤ X.heap.size) (hc : B ≤ c) : Below B X Y := by
  obtain ⟨us, h1, _⟩ := hR.row
  refine ⟨hg.os, hg.tape, hg.output, hg.size, fun k hk => hg.block k (by omega) (by simp; omega) (fun e => ?_)⟩
  have := V.owns_block h1 k e.symm
  omega
/-- what it tells. -/
def RatT (B : Nat) (X : World) (b : Nat) (vL : Value) (ls : List (List V.In)) (l : List V.In) (e : Ending) (Y : World) : Prop :=
  e = .returned (.int .i64 (attE ls l)) ∧ Grown2 X Y (some b) vL.ownBlock ∧ ∃ vL', RStk B Y b vL' (attL ls l)
theorem own_empty (Z : World) : (Z.alloc (Obj.cells #[] 56)).ownsRow 0 56 4 (.slice (some ⟨Z.heap.size, 0, none⟩) 0 0) 0 (V.cellsI []) :=
  ⟨by simp [V.cellsI], .inr ⟨Z.heap.size, 0, #[], rfl, Nat.zero_le _, heap_alloc_new _ _, Nat.le_refl _, by unfold maxLen; omega, rfl, rfl⟩⟩
theorem step_appF {w : World} {ops : Array Oper} {o : Oper} {a : Act} {K : Act → World → Prop} {Q : Exit → Act → World → Prop} {E : Prop} (hgd : o.guard = none) (s x : Operand)
    (ho : o.op = .call { callee := .builtin .append, args := #[s, x], argTypes := #[22, 22] }) (base : Nat) (v : Value) (n : Nat) (vs : List Value) (hs : a.eval s = v) (hown : w.ownsRow base 31 1 v n vs) (ad : Addr) (u : Value) (hx : a.eval x = .slice (some ad) 1 1) (hu : w.cell? ad = some u) (h1 : u.oneCell' = true)
    (hn : n ≤ 100000) (hbase : base ≤ w.heap.size) (h : ∀ v' w', GrwF w w' base v v' (n + 1) (vs ++ [u]) → K (a.put o.dst v') w') :
    if Region.wanted o (yielded ops a.tmps) = true then Oper.wp Try.prog o a w K Q else E := by
  rw [if_pos (by simp [Region.wanted, hgd])]
  obtain ⟨v', w', hrun, hG⟩ := run_appF o.type base v n vs hown ad u hu h1 hn hbase
  unfold Oper.wp execOp
  simp only [ho, resolve, invoke, builtin, Sem.run_bind, Sem.run_pure, Result.andThen_ok, List.map_toArray, List.map_cons, List.map_nil, hs, hx, hrun]
  exact h _ _ hG

set_option linter.unusedSimpArgs false in
set_option maxRecDepth 8000 in
set_option maxHeartbeats 4000000 in
theorem rattach_any (B : Nat) (X : World) (b : Nat) (vL v : Value) (ls : List (List V.In)) (l : List V.In) (hR : RStk B X b vL ls) (hB : B ≤ X.heap.size) (hok : OkS ls) (hf : FlV X v l) :
    Calls Try.prog 11 #[.pointer (some ⟨b, 0, none⟩), v] X fun e Y => RatT B X b vL ls l e Y := by
  obtain ⟨af, cf, rfl, hIns, hlm, hlc, _⟩ := hf
  obtain ⟨aL, cL, rfl⟩ : ∃ a c, vL = .slice a ls.length c := by obtain ⟨us, h1, _⟩ := hR.row; exact own_slice h1
  have HI : Hid (∀ W, Below X.heap.size X W → V.Ins W af l.length l) := fun W hW => hIns.below hW
  have HR : Hid (∀ W, Below X.heap.size X W → RStk B W b (.slice aL ls.length cL) ls) := fun W hW => hR.over hW
  have HOl : Hid (∀ x ∈ l, x.ok) := hIns.2.1
  have h32 := hok.2.1
  have hls : ∀ k ∈ ls, k.length ≤ 5000 := fun k hk => by have := chk_len (hok.1 k hk).1; omega
  have HCk : Hid (Calls Try.prog 23 #[.slice af l.length cf] X fun e w' => V.Told X w' e (V.chk l)) := V.refCheck_any af l.length cf l X hlm hIns
  unfold V.Told at HCk
  have HCo : Hid (∀ W, Below X.heap.size X W → Calls Try.prog 14 #[.pointer (some ⟨b, 0, none⟩)] W fun e w' => e = .returned (.int .i64 (costL ls : Nat)) ∧ Below W.heap.size W w') := fun W hW => rcost_any W b _ ls (hR.over hW).blk (hR.over hW).flR (by omega) hls
  have hcb : costL ls ≤ 32768 := hok.2.2
  have hll : l.length ≤ 9223372036854775807 := by unfold maxLen at hlm; omega
  have HLn : Hid (∀ W, Below X.heap.size X W → W.cell? ⟨b, 0, none⟩ = some (.slice aL ls.length cL)) := fun W hW => (hR.over hW).blk.cell 0
  by_cases h0 : (V.chk l).1 = 0
  · have hcl := chk_len h0
    have hq : ((V.chk l).1 == 0) = true := by rw [h0]; rfl
    have hq2 : ((V.chk l).1 != 0) = false := by rw [h0]; rfl
    have HA : Hid (attE ls l = if 32 ≤ ls.length ∨ 32768 < costL ls + (l.length + 4) then 16 else 0) := by unfold Hid attE; rw [if_pos h0]
    generalize V.chk l = ck at *
    by_cases h1 : 32 ≤ ls.length
    · have hA : attE ls l = 16 := by rw [HA.out, if_pos (.inl h1)]
      have HT : Hid (∀ W, Below X.heap.size X W → RatT B X b (.slice aL ls.length cL) ls l (.returned (.int .i64 16)) W) := fun W hW => ⟨by rw [hA], g2_below hW _ _, _, by unfold attL; rw [if_neg (by rw [hA]; decide)]; exact HR.out W hW⟩
      have h1b : (32 : Int) ≤ (ls.length : Int) := by omega
      clear hA HA hIns hR hcb hll hcl
      go_enter Try.func11, Try.ntmps11
      go_upto_region 4 with (first | (go_at_call 23; refine HCk.out.mono ?_; rintro e w1 ⟨rfl, b1⟩))
      have c0 := HLn.out w1 b1
      go_wp2_with fail
      go_ret
      exact HT.out _ b1
    · have h1b : ¬ (32 : Int) ≤ (ls.length : Int) := by omega
      by_cases h2 : 32768 < costL ls + (l.length + 4)
      · have hA : attE ls l = 16 := by rw [HA.out, if_pos (.inr h2)]
        have HT : Hid (∀ W, Below X.heap.size X W → RatT B X b (.slice aL ls.length cL) ls l (.returned (.int .i64 16)) W) := fun W hW => ⟨by rw [hA], g2_below hW _ _, _, by unfold attL; rw [if_neg (by rw [hA]; decide)]; exact HR.out W hW⟩
        obtain ⟨zs, hzs⟩ : ∃ zs : Int, zs = (costL ls : Int) + (l.length : Int) + 4 := ⟨_, rfl⟩
        have h2b : decide ((32768 : Int) < zs) = true := by simp; omega
        have e1 : IntKind.i64.wrap ((costL ls : Int) + (l.length : Int)) = (costL ls : Int) + (l.length : Int) := by rw [IntKind.wrap_i64]; omega
        have e2 : IntKind.i64.wrap ((costL ls : Int) + (l.length : Int) + 4) = zs := by rw [IntKind.wrap_i64]; omega
        clear hA HA hIns hR h2 hzs hcb hll hcl
        generalize costL ls = cl at *
        go_enter Try.func11, Try.ntmps11
        go_upto_region 4 with (first | (go_at_call 23; refine HCk.out.mono ?_; rintro e w1 ⟨rfl, b1⟩))
        have c0 := HLn.out w1 b1
        go_wp2_with (first | (go_at_call 14; refine (HCo.out _ b1).mono ?_; rintro e w3 ⟨rfl, b3⟩))
        go_ret
        exact HT.out _ (b1.trans (b3.mono b1.size))
      · have hA : attE ls l = 0 := by rw [HA.out, if_neg (by omega)]
        have HA0 : Hid (attE ls l = 0) := hA
        obtain ⟨zs, hzs⟩ : ∃ zs : Int, zs = (costL ls : Int) + (l.length : Int) + 4 := ⟨_, rfl⟩
        have h2b : decide ((32768 : Int) < zs) = false := by simp; omega
        have e1 : IntKind.i64.wrap ((costL ls : Int) + (l.length : Int)) = (costL ls : Int) + (l.length : Int) := by rw [IntKind.wrap_i64]; omega
        have e2 : IntKind.i64.wrap ((costL ls : Int) + (l.length : Int) + 4) = zs := by rw [IntKind.wrap_i64]; omega
        have HBd0 : Hid (0 < l.length ∧ 0 + l.length ≤ 100000 ∧ ls.length ≤ 100000 ∧ B ≤ X.heap.size) := ⟨by omega, by omega, by omega, hB⟩
        obtain ⟨ad, rfl⟩ : ∃ ad, af = some ad := by
          cases af with
          | none => have := (V.Ins.nil hIns).1; omega
          | some ad => exact ⟨ad, rfl⟩
        clear hA HA hIns hR h2 hzs hcb hll hcl h32 hlm hlc hok hls hB
        generalize costL ls = cl at *
        go_enter Try.func11, Try.ntmps11
        go_upto_region 4 with (first | (go_at_call 23; refine HCk.out.mono ?_; rintro e w1 ⟨rfl, b1⟩))
        have c0 := HLn.out w1 b1
        go_upto_region 6 with (first | (go_at_call 14; refine (HCo.out _ b1).mono ?_; rintro e w2 ⟨rfl, b2⟩))
        have HB2 : Hid (Below X.heap.size X w2) := b1.trans (b2.mono b1.size)
        have hR2 := HR.out w2.drew HB2.out.drew
        have HI2 : Hid (∀ W, Below w2.drew.heap.size w2.drew W → V.Ins W (some ad) l.length l) := fun W hW => (HI.out w2.drew HB2.out.drew).below hW
        have HK : Hid (∀ W, Below w2.drew.heap.size w2.drew W → W.cell? ⟨b, 0, none⟩ = some (.slice aL ls.length cL) ∧ W.frozen? ⟨b, 0, none⟩ = false ∧ RStk B W b (.slice aL ls.length cL) ls) := fun W hW => ⟨(hR2.over hW).blk.cell 0, (hR2.over hW).blk.f 0, hR2.over hW⟩
        have hS6 := (HK.out w2.drew (Below.refl _ _)).1
        have HX6 : Hid (Below X.heap.size X w2.drew) := HB2.out.drew
        have HBd : Hid (0 < l.length ∧ 0 + l.length ≤ 100000 ∧ ls.length ≤ 100000 ∧ B ≤ w2.drew.heap.size) := ⟨HBd0.out.1, HBd0.out.2.1, HBd0.out.2.2.1, Nat.le_trans HBd0.out.2.2.2 HX6.out.size⟩
        clear b1 b2 hR2 HCk HLn HCo HI HR c0 HB2
        generalize hnF : ls.length = n at HK HBd hS6 ⊢
        have HN : Hid (ls.length = n) := hnF
        generalize hmF : l.length = m at HI2 HBd ⊢
        refine wp_region_late (E := [12]) (S := (fun w' => w'.cell? ⟨b, 0, none⟩ = some (.slice aL n cL))) (by kernel_rfl) (hS6) (fun hHeld => ?_)
        simp only [List.size_toArray, List.length_cons, List.length_nil, Nat.reduceAdd]
        generalize w2.drew = Z at *
        refine wpAnyL_take [10, 11, 12] (i := 0) (v := ?_) (by kernel_rfl) (by kernel_rfl) (by kernel_rfl) rfl (by kernel_rfl) (by kernel_rfl) (by kernel_rfl) (fun _ _ _ h => h) (Or.inl ⟨by rfl, ?_⟩) hHeld ?_
        rotate_left
        · (intro w hSw; (try dsimp only at hSw); have s0 := hSw; go_simp; try with_reducible rfl)
        try simp only [Act.put, List.setIfInBounds_toArray, List.set_cons_zero, List.set_cons_succ, List.getElem_toArray, List.getElem_cons_zero, List.getElem_cons_succ]
        refine wpAnyL_take [2, 3, 4, 9, 12] (i := 1) (v := ?_) (by kernel_rfl) (by kernel_rfl) (by kernel_rfl) rfl (by kernel_rfl) (by kernel_rfl) (by kernel_rfl) (fun _ _ _ h => h) (Or.inl ⟨by rfl, ?_⟩) hHeld ?_
        rotate_left
        · (intro w hSw; (try dsimp only at hSw); have s0 := hSw; go_simp; try with_reducible rfl)
        try simp only [Act.put, List.setIfInBounds_toArray, List.set_cons_zero, List.set_cons_succ, List.getElem_toArray, List.getElem_cons_zero, List.getElem_cons_succ]
        refine wpAnyL_take [3, 4, 9, 12] (i := 2) (v := ?_) (by kernel_rfl) (by kernel_rfl) (by kernel_rfl) rfl (by kernel_rfl) (by kernel_rfl) (by kernel_rfl) (fun _ _ _ h => h) (Or.inl ⟨by rfl, ?_⟩) hHeld ?_
        rotate_left
        · (intro w hSw; (try dsimp only at hSw); have s0 := hSw; go_simp; try with_reducible rfl)
        try simp only [Act.put, List.setIfInBounds_toArray, List.set_cons_zero, List.set_cons_succ, List.getElem_toArray, List.getElem_cons_zero, List.getElem_cons_succ]
        refine wpAnyL_take [4, 9, 12] (i := 3) (v := ?_) (by kernel_rfl) (by kernel_rfl) (by kernel_rfl) rfl (by kernel_rfl) (by kernel_rfl) (by kernel_rfl) (fun _ _ _ h => h) (Or.inl ⟨by rfl, ?_⟩) hHeld ?_
        rotate_left
        · (intro w hSw; (try dsimp only at hSw); have s0 := hSw; go_simp; try with_reducible rfl)
        try simp only [Act.put, List.setIfInBounds_toArray, List.set_cons_zero, List.set_cons_succ, List.getElem_toArray, List.getElem_cons_zero, List.getElem_cons_succ]
        refine wpAnyL_take [9, 12] (i := 4) (v := ?_) (by kernel_rfl) (by kernel_rfl) (by kernel_rfl) rfl (by kernel_rfl) (by kernel_rfl) (by kernel_rfl) (fun _ _ _ h => h) (Or.inl ⟨by rfl, ?_⟩) hHeld ?_
        rotate_left
        · (intro w hSw; (try dsimp only at hSw); have s0 := hSw; go_simp; try with_reducible rfl)
        try simp only [Act.put, List.setIfInBounds_toArray, List.set_cons_zero, List.set_cons_succ, List.getElem_toArray, List.getElem_cons_zero, List.getElem_cons_succ]
        refine wpAnyL_take [7, 8, 9, 12] (i := 6) (v := ?_) (by kernel_rfl) (by kernel_rfl) (by kernel_rfl) rfl (by kernel_rfl) (by kernel_rfl) (by kernel_rfl) (fun _ _ _ h => h) (Or.inl ⟨by rfl, ?_⟩) hHeld ?_
        rotate_left
        · (intro w hSw; (try dsimp only at hSw); have s0 := hSw; go_simp; try with_reducible rfl)
        try simp only [Act.put, List.setIfInBounds_toArray, List.set_cons_zero, List.set_cons_succ, List.getElem_toArray, List.getElem_cons_zero, List.getElem_cons_succ]
        refine wpAnyL_one (i := 5) (by kernel_rfl) rfl (fun K hK => ?_)
        have hc5 := HK.out (Z.alloc (Obj.cells #[] 56)) (below_new _ _)
        have hs5 : (fun w' => w'.cell? ⟨b, 0, none⟩ = some (.slice aL n cL)) (Z.alloc (Obj.cells #[] 56)) := hc5.1
        go_simp
        refine hK.out _ _ (fun _ => hs5) ?_
        replace hHeld := hs5
        clear hK K
        try simp only [Act.put, List.setIfInBounds_toArray, List.set_cons_zero, List.set_cons_succ, List.getElem_toArray, List.getElem_cons_zero, List.getElem_cons_succ]
        refine wpAnyL_one (i := 7) (by kernel_rfl) rfl (fun K hK => ?_)
        refine step_growI rfl _ _ rfl (some ⟨Z.heap.size, 0, none⟩) 0 0 [] rfl (own_empty Z) ad m cf rfl l (HI2.out _ (below_new _ _)) HBd.out.1 HBd.out.2.1 (fun cap7 Y7 hown7 hb7 => ?_)
        have hB7 : Below Z.heap.size Z Y7 := (below_new _ _).trans (hb7.mono (by simp))
        have es : (Z.alloc (Obj.cells #[] 56)).heap.size = Z.heap.size + 1 := by simp
        rw [es] at hown7
        rw [es]
        simp only [Nat.zero_add] at hown7 ⊢
        have hown7' : (Y7.alloc (Obj.cells #[.slice (some ⟨Z.heap.size + 1, 0, none⟩) m cap7] 31)).ownsRow 0 56 4 (.slice (some ⟨Z.heap.size + 1, 0, none⟩) m cap7) l.length (V.cellsI l) := by
          rw [hmF]
          exact (V.owns_lower hown7 (Nat.zero_le _)).alloc _
        have hs7 : (fun w' => w'.cell? ⟨b, 0, none⟩ = some (.slice aL n cL)) Y7 := (HK.out Y7 hB7).1
        refine hK.out _ _ (fun _ => hs7) ?_
        replace hHeld := hs7
        clear hK K
        try simp only [Act.put, List.setIfInBounds_toArray, List.set_cons_zero, List.set_cons_succ, List.getElem_toArray, List.getElem_cons_zero, List.getElem_cons_succ]
        refine wpAnyL_one (i := 8) (by kernel_rfl) rfl (fun K hK => ?_)
        have hB8 : Below Z.heap.size Z (Y7.alloc (Obj.cells #[.slice (some ⟨Z.heap.size + 1, 0, none⟩) m cap7] 31)) := hB7.trans ((below_new _ _).mono hB7.size)
        have hs8 : (fun w' => w'.cell? ⟨b, 0, none⟩ = some (.slice aL n cL)) (Y7.alloc (Obj.cells #[.slice (some ⟨Z.heap.size + 1, 0, none⟩) m cap7] 31)) := (HK.out _ hB8).1
        go_simp
        refine hK.out _ _ (fun _ => hs8) ?_
        replace hHeld := hs8
        clear hK K
        try simp only [Act.put, List.setIfInBounds_toArray, List.set_cons_zero, List.set_cons_succ, List.getElem_toArray, List.getElem_cons_zero, List.getElem_cons_succ]
        refine wpAnyL_one (i := 9) (by kernel_rfl) rfl (fun K hK => ?_)
        obtain ⟨us, hus, hrows⟩ := (HK.out _ hB8).2.2.row
        rw [HN.out] at hus
        refine step_appF rfl _ _ rfl B (.slice aL n cL) n us rfl hus ⟨Y7.heap.size, 0, none⟩ _ rfl (cell_one_new' _ _ _) rfl HBd.out.2.2.1 (Nat.le_trans HBd.out.2.2.2 hB8.size) (fun v9 Y9 hG9 => ?_)
        obtain ⟨a9, c9, rfl⟩ := own_slice hG9.own
        have hR9 := RStk.app (HK.out _ hB8).2.2 hus hrows HN.out hown7' HOl.out hG9
        have hs9 : (fun w' => w'.cell? ⟨b, 0, none⟩ = some (.slice aL n cL)) Y9 := hR9.1.cell 0
        refine hK.out _ _ (fun _ => hs9) ?_
        replace hHeld := hs9
        clear hK K
        try simp only [Act.put, List.setIfInBounds_toArray, List.set_cons_zero, List.set_cons_succ, List.getElem_toArray, List.getElem_cons_zero, List.getElem_cons_succ]
        refine wpAnyL_take [11, 12] (i := 10) (v := ?_) (by kernel_rfl) (by kernel_rfl) (by kernel_rfl) rfl (by kernel_rfl) (by kernel_rfl) (by kernel_rfl) (fun _ _ _ h => h) (Or.inl ⟨by rfl, ?_⟩) hHeld ?_
        rotate_left
        · (intro w hSw; (try dsimp only at hSw); go_simp; try with_reducible rfl)
        try simp only [Act.put, List.setIfInBounds_toArray, List.set_cons_zero, List.set_cons_succ, List.getElem_toArray, List.getElem_cons_zero, List.getElem_cons_succ]
        refine wpAnyL_take [12] (i := 11) (v := ?_) (by kernel_rfl) (by kernel_rfl) (by kernel_rfl) rfl (by kernel_rfl) (by kernel_rfl) (by kernel_rfl) (fun _ _ _ h => h) (Or.inl ⟨by rfl, ?_⟩) hHeld ?_
        rotate_left
        · (intro w hSw; (try dsimp only at hSw); go_simp; try with_reducible rfl)
        try simp only [Act.put, List.setIfInBounds_toArray, List.set_cons_zero, List.set_cons_succ, List.getElem_toArray, List.getElem_cons_zero, List.getElem_cons_succ]
        refine wpAnyL_one (i := 12) (by kernel_rfl) rfl (fun K hK => ?_)
        have fz9 := hR9.1.f 0
        go_simp
        refine hK.out _ _ (fun h => by cases h) ?_
        clear hK K
        try simp only [Act.put, List.setIfInBounds_toArray, List.set_cons_zero, List.set_cons_succ, List.getElem_toArray, List.getElem_cons_zero, List.getElem_cons_succ]
        refine wpAnyL_done (by kernel_rfl) ?_ _
        obtain ⟨q1, q2, q3⟩ := hR9
        have HEND : Hid (RatT B X b (.slice aL ls.length cL) ls l (.returned (.int .i64 0)) (Y9.setCell ⟨b, 0, none⟩ (.slice a9 (n + 1) c9))) := by
          have hg9 : World.grownBy (Y7.alloc (Obj.cells #[.slice (some ⟨Z.heap.size + 1, 0, none⟩) m cap7] 31)) Y9 (Value.slice aL ls.length cL).ownBlock := by rw [hnF]; exact hG9.grown
          refine ⟨by rw [HA0.out], g2_trans (g2_below (HX6.out.trans (hB8.mono HX6.out.size)) _ _) (g2_trans (g2_right (s := (Value.slice aL ls.length cL).ownBlock) hg9 _) (g2_left (grown_set _ _ _ _) _)), .slice a9 (n + 1) c9, q1.set 0 _, us ++ [.slice (some ⟨Z.heap.size + 1, 0, none⟩) m cap7], ?_, ?_⟩
          · have hAL : attL ls l = ls ++ [l] := by unfold attL; rw [if_pos HA0.out]
            rw [hAL, List.length_append, List.length_singleton, hnF]
            exact q2.kept (grown_set _ _ _ _) (row_ne (by decide) q2 q1)
          · have hAL : attL ls l = ls ++ [l] := by unfold attL; rw [if_pos HA0.out]
            rw [hAL]
            intro i k hi
            obtain ⟨y, p1, p2, p3⟩ := q3 i k hi
            exact ⟨y, p1, p2.kept (grown_set _ _ _ _) (row_ne (by decide) p2 q1), p3⟩
        clear q1 q2 q3 hG9 hs9 fz9 hs8 hB8 hs7 hB7 hb7 hown7 hown7' hs5 hc5 hHeld hS6 HK HX6 hus hrows es
        go_wp2_with fail
        go_ret
        exact HEND.out
  · have hq : ((V.chk l).1 == 0) = false := by simpa using h0
    have hq2 : ((V.chk l).1 != 0) = true := by simpa using h0
    have hA : attE ls l = (V.chk l).1 := by unfold attE; rw [if_neg h0]
    have HT : Hid (∀ W, Below X.heap.size X W → RatT B X b (.slice aL ls.length cL) ls l (.returned (.int .i64 (V.chk l).1)) W) := fun W hW => ⟨by rw [hA], g2_below hW _ _, _, by unfold attL; rw [if_neg (by rw [hA]; exact h0)]; exact HR.out W hW⟩
    generalize V.chk l = ck at *
    clear hA hIns hR h0
    go_enter Try.func11, Try.ntmps11
    go_wp2_with (first | (go_at_call 23; refine HCk.out.mono ?_; rintro e w1 ⟨rfl, b1⟩))
    go_ret
    exact HT.out _ b1

end Go.Proofs.Ytamioifoemklfaa

namespace Go.Proofs.Ytamioifoemklfaa.V
open Go.RowKit

/-- nothing is wrong with an instruction: what that says. -/
theorem fault_parts (x : In) (n : Nat) (h : fault x n = 0) : knownB x.c = true ∧ loadsB x.c x.k = false ∧ reckB x.c x.k = false ∧ outB x n = false ∧ (n = 0 → isIn endL x.c = true) := by
  unfold fault at h
  cases h1 : knownB x.c <;> rw [h1] at h
  · simp at h
  · cases h2 : loadsB x.c x.k <;> rw [h2] at h
    · cases h3 : reckB x.c x.k <;> rw [h3] at h
      · cases h4 : outB x n <;> rw [h4] at h
        · refine ⟨rfl, rfl, rfl, rfl, fun h0 => ?_⟩
          cases h5 : isIn endL x.c with
          | true => rfl
          | false =>
            rw [h5] at h
            simp [h0] at h
        · simp at h
      · simp at h
    · simp at h

theorem isIn_mem (l : List Int) (c : Int) (h : isIn l c = true) : c ∈ l := by
  unfold isIn at h
  simpa using h

/-- the codes that there are. -/
theorem known_cases (c : Int) (h0 : 0 ≤ c) (h1 : c ≤ 65535) (h : knownB c = true) : c ∈ plainL ∨ (c - 8) ∈ withL := by
  have := (known_same c h0 h1).1
  rw [h] at this
  unfold refKnownB at this
  cases hp : isIn plainL c with
  | true => exact .inl (isIn_mem _ _ hp)
  | false =>
    rw [hp] at this
    have h2 : isIn withL (c - 8) = true := by
      cases hw : isIn withL (c - 8) with
      | true => rfl
      | false => rw [hw] at this; simp at this
    exact .inr (isIn_mem _ _ h2)

theorem insB_lt {s : Int} {n : Nat} (h : insB s n = true) : s < n := by
  unfold insB at h
  exact of_decide_eq_true h

/-- where a run goes on that does not end with an instruction: one of the places that it may go on to. -/
theorem skip_goes (x : In) (n : Nat) (s : St) (h : fault x n = 0) (he : isIn endL x.c = false) : skipV x s ∈ skipsL x ∧ ∀ k ∈ skipsL x, insB k n = true := by
  obtain ⟨_, _, _, h4, h5⟩ := fault_parts x n h
  have hn : n ≠ 0 := fun e => by rw [h5 e] at he; cases he
  constructor
  · cases hj : jumpsB x.c with
    | false =>
      have hc : ¬ x.c = 5 := by
        intro e
        rw [e] at hj
        exact absurd hj (by decide +kernel)
      simp [skipV, skipsL, he, hj, hc]
    | true =>
      by_cases hc : x.c = 5
      · rw [hc] at hj he
        simp [skipV, skipsL, he, hj, hc]
      · by_cases h1 : x.t = x.f
        · cases hh : holdsV (kOf x.c) s.a (othV x s) <;> simp [skipV, skipsL, he, hj, hc, h1]
        · by_cases h2 : x.t < x.f
          · cases hh : holdsV (kOf x.c) s.a (othV x s) <;> simp [skipV, skipsL, he, hj, hc, h1, h2, hh]
          · cases hh : holdsV (kOf x.c) s.a (othV x s) <;> simp [skipV, skipsL, he, hj, hc, h1, h2, hh]
  · cases hj : jumpsB x.c with
    | false =>
      have hc : ¬ x.c = 5 := by
        intro e
        rw [e] at hj
        exact absurd hj (by decide +kernel)
      unfold skipsL
      rw [if_neg (by rw [he]; decide), if_neg hc, hj, if_pos rfl]
      intro k hk
      simp at hk
      subst hk
      unfold insB
      simp
      omega
    | true =>
      unfold outB at h4
      rw [hj, Bool.true_and, List.any_eq_false] at h4
      intro k hk
      have := h4 k hk
      simpa using this

/-- where a run goes on from a place of a program that may be run. -/
theorem next_goes (l : List In) (d : Da) (p : Nat) (s : St) (x : In) (hx : l[p]? = some x) (ho : x.ok) (hf : fault x (l.length - 1 - p) = 0) (he : endV x s = false) :
    ∃ q : Nat, (nextV l.length d x p s).1 = q ∧ p < q ∧ q < l.length ∧ (q : Int) ∈ goOn p (l.length - 1 - p) (skipsL x) := by
  have hp : p < l.length := (List.getElem?_eq_some_iff.1 hx).1
  have he2 : isIn endL x.c = false := by
    unfold endV at he
    cases h : isIn endL x.c with
    | false => rfl
    | true => rw [h] at he; simp at he
  obtain ⟨h1, h2⟩ := skip_goes x _ (doV d x s) hf he2
  have h3 := insB_lt (h2 _ h1)
  have h4 := skipV_nn x (doV d x s) ho
  have h5 : (nextV l.length d x p s).1 = p + 1 + skipV x (doV d x s) := by unfold nextV; rw [if_neg (by rw [he]; decide)]
  refine ⟨(p + 1 + skipV x (doV d x s)).toNat, by rw [h5]; omega, by omega, by omega, ?_⟩
  unfold goOn
  rw [List.mem_map]
  refine ⟨skipV x (doV d x s), List.mem_filter.2 ⟨h1, h2 _ h1⟩, by omega⟩

end Go.Proofs.Ytamioifoemklfaa.V

namespace Go.Proofs.Ytamioifoemklfaa.V
open Go.RowKit

/-- a number by so many bits, one by one. -/
def shV (l : Bool) (a : Int) (k : Nat) : Int := if l = true then (a * 2 ^ k) % 4294967296 else a / 2 ^ k

theorem shV_zero (l : Bool) (a : Int) (ha : U32 a) : shV l a 0 = a := by
  unfold shV U32 at *
  cases l <;> simp
  omega

theorem shV_left (a : Int) (k : Nat) : (shV true a k * 2) % 4294967296 = shV true a (k + 1) := by
  unfold shV
  rw [if_pos rfl, if_pos rfl, Int.pow_succ, ← Int.mul_assoc]
  omega

theorem shV_right (a : Int) (k : Nat) : shV false a k / 2 = shV false a (k + 1) := by
  unfold shV
  rw [if_neg (by decide), if_neg (by decide), Int.pow_succ, Int.ediv_ediv_of_nonneg (Int.pow_nonneg (by decide))]

theorem shV_u (l : Bool) (a : Int) (k : Nat) (ha : U32 a) : U32 (shV l a k) := by
  unfold shV U32 at *
  cases l
  · rw [if_neg (by decide)]
    have h1 : (0 : Int) ≤ a / 2 ^ k := Int.ediv_nonneg ha.1 (Int.pow_nonneg (by decide))
    have h2 : a / 2 ^ k ≤ a := Int.ediv_le_self _ ha.1
    omega
  · rw [if_pos rfl]
    omega

set_option maxHeartbeats 400000 in
theorem shift_any (a n : Int) (l : Bool) (w : World) (ha : U32 a) (hn : U32 n) : Calls Try.prog 70 #[.int .u32 a, .int .u32 n, .bool l] w fun e w' => e = .returned (.int .u32 (shV l a (n % 32).toNat)) ∧ w' = w := by
  obtain ⟨n0, n1⟩ := hn
  have HZ : Hid (shV l a 0 = a) := shV_zero l a ha
  have HU : Hid (∀ k, U32 (shV l a k)) := fun k => shV_u l a k ha
  have HL : Hid (∀ k, (shV true a k * 2) % 4294967296 = shV true a (k + 1)) := shV_left a
  have HR : Hid (∀ k, shV false a k / 2 = shV false a (k + 1)) := shV_right a
  obtain ⟨m, hm⟩ : ∃ m : Nat, m = (n % 32).toNat := ⟨_, rfl⟩
  have hm32 : m < 32 := by omega
  have hr : Int.tmod n 32 = (m : Int) := by rw [Int.tmod_eq_emod_of_nonneg n0]; omega
  rw [← hm]
  clear hm ha
  go_enter Try.func70, Try.ntmps70
  go_wp2
  go_loop [0, 7] (fun v i => ∃ k : Nat, k ≤ m ∧ i = .int .u32 k ∧ v = .int .u32 (shV l a k)) (fun _ i => m - (intOf i).toNat)
  case atStart => exact ⟨0, Nat.zero_le _, rfl, by rw [HZ.out]⟩
  case round =>
    obtain ⟨k, hk, rfl, rfl⟩ := hrel
    by_cases hlt : k < m
    · have hlt2 : (k : Int) < (m : Int) := by omega
      cases l with
      | true =>
        go_wp2
        go_round
        case rel => exact ⟨k + 1, by omega, by go_num, by rw [HL.out]⟩
        case measure => simp [intOf] <;> omega
      | false =>
        have hu := HU.out k
        unfold U32 at hu
        have hq : (shV false a k).tdiv 2 % 4294967296 = shV false a (k + 1) := by
          rw [Int.tdiv_eq_ediv_of_nonneg hu.1, ← HR.out]
          omega
        clear hu
        go_wp2
        go_round
        case rel => exact ⟨k + 1, by omega, by go_num, by rw [hq]⟩
        case measure => simp [intOf] <;> omega
    · obtain rfl : k = m := by omega
      have hlt2 : ¬ (k : Int) < (k : Int) := by omega
      go_wp2
      go_ret
      exact ⟨rfl, rfl⟩

set_option maxHeartbeats 800000 in
theorem refReckon_any (c a n : Int) (w : World) (ha : U32 a) (hn : U32 n) (hz : (c == 52) = true → ¬ n = 0) (hc : isIn compL c = true) : Calls Try.prog 52 #[.int .u16 c, .int .u32 a, .int .u32 n] w fun e w' => e = .returned (.int .u32 (reckV c a n)) ∧ w' = w := by
  have HS : Hid (∀ (l : Bool) (W : World), Calls Try.prog 70 #[.int .u32 a, .int .u32 n, .bool l] W fun e w' => e = .returned (.int .u32 (shV l a (n % 32).toNat)) ∧ w' = W) := fun l W => shift_any a n l W ha hn
  have HC : Hid (isIn compL c = true) := hc
  clear hc
  obtain ⟨a0, a1⟩ := ha
  obtain ⟨n0, n1⟩ := hn
  have hq : a.tdiv n % 4294967296 = a / n := by
    rw [Int.tdiv_eq_ediv_of_nonneg a0]
    have h1 : 0 ≤ a / n := Int.ediv_nonneg a0 n0
    have h2 : a / n ≤ a := Int.ediv_le_self n a0
    omega
  go_enter Try.func52, Try.ntmps52
  go_wp2_with (go_at_call 70; refine (HS.out _ _).mono ?_; rintro e w2 ⟨rfl, rfl⟩)
  all_goals (go_ret; refine ⟨ret_int ?_, rfl⟩; have hk := HC.out; clear HS HC; simp [reckV, shV, compL, isIn_cons, isIn_nil, *] at hk ⊢ <;> (intro h; simp_all))

end Go.Proofs.Ytamioifoemklfaa.V

namespace Go.Proofs.Ytamioifoemklfaa.V
open Go.RowKit

theorem run_append_bytes (w : World) (ty : TypeId) (base : Nat) (v : Value) (n : Nat) (l : List Int) (hown : w.ownsRow base 5 1 v n (cellsB l))
    (ao : Option Addr) (m c : Nat) (k : List Int) (hao : ao = none → c = 0) (hb : Bs w ao m k) (hn : n + m ≤ 1000000000) (hbase : base ≤ w.heap.size) :
    ∃ v' w', (Builtin.append_ #[104, 104] ty #[v, .slice ao m c]).run Try.prog w = .ok v' w' ∧ w'.ownsRow base 5 1 v' (n + m) (cellsB (l ++ k)) ∧ w.grownBy w' v.ownBlock := by
  obtain ⟨i0, hi, hz0, hz1, hz2⟩ := info_parts Try.info5
  cases ao with
  | none =>
    obtain ⟨rfl, rfl⟩ := hb.nil
    obtain rfl := hao rfl
    exact ⟨v, w, run_append_owned_none (P := Try.prog) (w := w) base 104 ty 5 i0 1 Try.underlying104 hi v n (cellsB l) hown, by simpa using hown, grow_refl _ _⟩
  | some ad =>
    obtain ⟨v', w', h1, h2, h3, _⟩ := run_append_own (P := Try.prog) w base 104 ty 5 i0 (.int .u8 0) 1 1 Try.underlying104 hi hz0 hz1 hz2 rfl (by decide) v n (cellsB l) hown ad m c (cellsB k) (by simp [cellsB, hb.1]) hb.news (by intro u hu; simp [cellsB] at hu; obtain ⟨z, _, rfl⟩ := hu; rfl) (by unfold maxLen; omega) (by omega) hbase
    exact ⟨v', w', h1, by rw [cellsB_app]; exact h2, h3⟩

theorem step_append_bytes {w : World} {ops : Array Oper} {o : Oper} {a : Act} {K : Act → World → Prop} {Q : Exit → Act → World → Prop} {E : Prop} (hgd : o.guard = none) (s x : Operand)
    (ho : o.op = .call { callee := .builtin .append, args := #[s, x], argTypes := #[104, 104] })
    (base : Nat) (v : Value) (n : Nat) (l : List Int) (hs : a.eval s = v) (hown : w.ownsRow base 5 1 v n (cellsB l))
    (ao : Option Addr) (m c : Nat) (k : List Int) (hx : a.eval x = .slice ao m c) (hao : ao = none → c = 0) (hb : Bs w ao m k) (hn : n + m ≤ 1000000000) (hbase : base ≤ w.heap.size)
    (h : ∀ v' w', w'.ownsRow base 5 1 v' (n + m) (cellsB (l ++ k)) → w.grownBy w' v.ownBlock → K (a.put o.dst v') w') :
    if Region.wanted o (yielded ops a.tmps) = true then Oper.wp Try.prog o a w K Q else E := by
  have hw : Region.wanted o (yielded ops a.tmps) = true := by simp [Region.wanted, hgd]
  rw [if_pos hw]
  obtain ⟨v', w', hr, h2, h3⟩ := run_append_bytes w o.type base v n l hown ao m c k hao hb hn hbase
  unfold Oper.wp execOp
  simp only [ho, resolve, invoke, builtin, Sem.run_bind, Sem.run_pure, Result.andThen_ok, List.map_toArray, List.map_cons, List.map_nil, hs, hx, hr]
  exact h v' w' h2 h3

theorem Blk.grown {w w' : World} {b : Nat} {t : TypeId} {l : List Value} {r : Option Nat} (h : Blk w b t l) (hg : w.grownBy w' r) (hne : some b ≠ r) : Blk w' b t l := by
  unfold Blk
  rw [hg.block b h.lt hne]
  exact h

/-- a block that is elder than a row is not the row's. -/
theorem own_ne {w : World} {base sz b : Nat} {t : TypeId} {v : Value} {n : Nat} {xs : List Value} (h : w.ownsRow base t sz v n xs) (hb : b < base) : some b ≠ v.ownBlock := by
  intro e
  have := owns_block h b e.symm
  omega

theorem wpAnyH_switch {P : Program} {md : Region.Mode} {ops : Array Oper} {Q : Exit → Act → World → Prop} {S S2 : World → Prop} (hS : ∀ w, S2 w → S w) :
    ∀ {fuel : Nat} {listed : Array Bool} {a : Act} {w : World}, wpAnyH P md ops Q S2 fuel listed a w → wpAnyH P md ops Q S fuel listed a w := by
  intro fuel
  induction fuel with
  | zero => intro listed a w h; exact h
  | succ n ih => intro listed a w h; exact ⟨h.1, fun i hi => wpOp_mono (fun a' w' h' => ⟨hS _ h'.1, ih h'.2⟩) (h.2 i hi)⟩

end Go.Proofs.Ytamioifoemklfaa.V

namespace Go.Proofs.Ytamioifoemklfaa.V
open Go.RowKit

theorem owns_nilB (w : World) (base : Nat) : w.ownsRow base 5 1 (.slice none 0 0) 0 (cellsB []) := ⟨rfl, .inl ⟨rfl, rfl⟩⟩

theorem Bs.one (w : World) (x : Int) (h : 0 ≤ x ∧ x ≤ 255) : Bs (w.alloc (.cells #[.int .u8 x] 5)) (some ⟨w.heap.size, 0, none⟩) 1 [x] := by
  refine ⟨rfl, ?_, fun _ => ⟨_, _, rfl, fun i hi => ?_⟩⟩
  · intro z hz
    simp only [List.mem_cons, List.not_mem_nil, or_false] at hz
    subst hz
    exact h
  · match i, hi with
    | 0, _ => simp

set_option maxHeartbeats 800000 in
theorem low_any (n : Int) (size : Nat) (w : World) (hn : U64 n) (hs : size ≤ 8) :
    Calls Try.prog 77 #[.int .u64 n, .int .i64 size] w fun e w' => Below w.heap.size w w' ∧ ∃ v, e = .returned v ∧ w'.ownsRow w.heap.size 5 1 v size (cellsB (low n size)) := by
  have HN : Hid (∀ k, U64 (cutN n k)) := fun k => cutN_u n hn k
  clear hn
  go_enter Try.func77, Try.ntmps77
  go_wp2
  go_loopw [0, 5, 6] (fun x v i wr => ∃ k : Nat, k ≤ size ∧ x = .int .u64 (cutN n k) ∧ i = .int .i64 k ∧ wr.ownsRow w.heap.size 5 1 v k (cellsB (low n k)) ∧ Below w.heap.size w wr) (fun _ _ i _ => size - (intOf i).toNat)
  case atStart => exact ⟨0, Nat.zero_le _, rfl, rfl, owns_nilB _ _, Below.refl _ _⟩
  case round =>
    obtain ⟨k, hk, rfl, rfl, ho, hbr⟩ := hrel
    by_cases hlt : k < size
    · have HC : Hid (cutN n (k + 1) = cutN n k / 256) := rfl
      have HL : Hid (low n (k + 1) = low n k ++ [cutN n k % 256]) := low_snoc n k
      obtain ⟨u0, u1⟩ := HN.out k
      have hr : Int.tmod (cutN n k) 256 = cutN n k % 256 := Int.tmod_eq_emod_of_nonneg u0
      have hq : Int.tdiv (cutN n k) 256 = cutN n k / 256 := Int.tdiv_eq_ediv_of_nonneg u0
      have V1 : Hid (0 ≤ cutN n k % 256 ∧ cutN n k % 256 ≤ 255) := by unfold Hid; omega
      have HX : Hid (IntKind.u64.wrap (cutN n k / 256) = cutN n k / 256) := by unfold Hid; rw [IntKind.wrap_u64]; omega
      generalize cutN n k = x at *
      generalize low n k = L at *
      have hbs := hbr.size
      have hi1 : (k : Int) < (size : Int) := by omega
      clear u1 u0
      go_wp2_with (at_builtin; refine append_bytes rfl (.tmp 12) (.tmp 16) rfl w.heap.size _ k L rfl (ho.alloc _) (some ⟨wr.heap.size, 0, none⟩) 1 1 [x % 256] rfl (by simp) (Bs.one wr _ V1.out) (by omega) (by rw [size_alloc']; omega) ?_; intro v1 w1 ho1 hg1)
      go_roundw
      case rel =>
        refine ⟨k + 1, by omega, by rw [HC.out, HX.out], by go_num, by rw [HL.out]; exact ho1, ?_⟩
        have hb4 := hbr.alloc hbs (Obj.cells #[.int .u8 (x % 256)] 5)
        exact hb4.grown hg1 hb4.size (owns_block ho)
      case measure => simp [intOf]; omega
    · have hi1 : ¬ (k : Int) < (size : Int) := by omega
      obtain rfl : k = size := by omega
      clear hlt hk
      go_wp2
      go_ret
      exact ⟨hbr, _, rfl, ho⟩

set_option maxHeartbeats 800000 in
theorem number_any (a : Option Addr) (len cap : Nat) (l : List Int) (w : World) (hb : Bs w a len l) (hl : len ≤ 8) :
    Calls Try.prog 68 #[.slice a len cap] w fun e w' => e = .returned (.int .u64 (num l)) ∧ w' = w := by
  have HU : Hid (∀ k, U64 (num (l.drop k))) := fun k => num_u _ (byt_drop hb.2.1 k) (by rw [List.length_drop, hb.1]; omega)
  have HB : Hid (Bs w a len l) := hb
  clear hb
  have h0 : IntKind.i64.wrap ((len : Int) - 1) = (len : Int) - 1 := by rw [IntKind.wrap_i64]; omega
  go_enter Try.func68, Try.ntmps68
  go_wp2
  go_loopw [3, 4] (fun x i wr => ∃ k : Nat, k ≤ len ∧ x = .int .u64 (num (l.drop k)) ∧ i = .int .i64 ((k : Int) - 1) ∧ wr = w) (fun _ i _ => (intOf i + 1).toNat)
  case atStart => exact ⟨len, Nat.le_refl _, by rw [List.drop_of_length_le (by rw [HB.out.1]; exact Nat.le_refl _)]; rfl, by first | rfl | rw [h0], rfl⟩
  case round =>
    obtain ⟨k, hk, rfl, rfl, rfl⟩ := hrel
    clear h0
    cases k with
    | zero =>
      have hi1 : ¬ (0 : Int) ≤ ((0 : Nat) : Int) - 1 := by omega
      have HD : Hid (l.drop 0 = l) := rfl
      rw [HD.out]
      go_wp2
      go_ret
      exact ⟨rfl, rfl⟩
    | succ k =>
      obtain ⟨b, off, rfl, hc⟩ := HB.out.2.2 (by omega)
      have q0 := hc k (by omega)
      have HN : Hid (num (l.drop k) = l.getD k 0 + 256 * num (l.drop (k + 1))) := num_drop l k (by have := HB.out.1; omega)
      obtain ⟨u0, u1⟩ := HU.out k
      obtain ⟨v0, v1⟩ := HU.out (k + 1)
      have g0 := byt_get HB.out.2.1 k
      have HV : Hid (IntKind.u64.wrap (IntKind.u64.wrap (num (l.drop (k + 1)) * 256) + IntKind.u64.wrap (l.getD k 0)) = num (l.drop k)) := by
        unfold Hid
        have := HN.out
        simp only [IntKind.wrap_u64]
        omega
      have e1 : ((k + 1 : Nat) : Int) - 1 = (k : Int) := by omega
      rw [e1]
      clear hc u0 u1 v0 v1 g0 HN HU e1
      generalize num (l.drop (k + 1)) = x at *
      generalize l.getD k 0 = z at *
      have hkl : (k : Int) < (len : Int) := by omega
      go_wp2
      go_roundw
      case rel => exact ⟨k, by omega, by rw [HV.out], rfl, trivial⟩
      case measure => simp [intOf] <;> omega

end Go.Proofs.Ytamioifoemklfaa.V

namespace Go.Proofs.Ytamioifoemklfaa.V
open Go.RowKit

set_option linter.unusedSimpArgs false in
set_option maxHeartbeats 2000000 in
theorem refBytes_any (d : Da) (w : World) (hd : d.ok) :
    Calls Try.prog 69 #[d.val] w fun e w' => Below w.heap.size w w' ∧ ∃ v, e = .returned v ∧ w'.ownsRow w.heap.size 5 1 v 64 (cellsB d.enc) := by
  have HE : Hid (low d.n 4 ++ low d.a 4 ++ low d.p 8 ++ lowG d.g = d.enc) := ref_enc d hd
  have Z1 := blk_new w d.cells.toArray 27
  have Z5 : Below w.heap.size w (w.alloc (Obj.cells d.cells.toArray 27)) := (Below.refl _ _).alloc (Nat.le_refl _) _
  have ZS : (w.alloc (Obj.cells d.cells.toArray 27)).heap.size = w.heap.size + 1 := size_alloc' _ _
  have C0 : Hid (d.cells[0]? = some (.int .u32 d.n)) := rfl
  have C1 : Hid (d.cells[1]? = some (.int .u32 d.a)) := rfl
  have CG : Hid (∀ k, k < 6 → d.cells[3 + k]? = some (.int .u64 (d.g.getD k 0))) := by
    intro k hk
    have := hd.2.2.2.1
    rw [Nat.add_comm]
    simp [Da.cells, List.getElem?_eq_getElem (show k < d.g.length by omega)]
  have UG : Hid (∀ k, k < 6 → U64 (d.g.getD k 0)) := by
    intro k hk
    rw [List.getD_eq_getElem?_getD, List.getElem?_eq_getElem (show k < d.g.length by have := hd.2.2.2.1; omega)]
    exact hd.2.2.2.2 _ (List.getElem_mem _)
  have LG : Hid (∀ k, k < 6 → lowG (d.g.take (k + 1)) = lowG (d.g.take k) ++ low (d.g.getD k 0) 8) := fun k hk => lowG_take d.g k (by have := hd.2.2.2.1; omega)
  have LA : Hid (d.g.take 6 = d.g) := List.take_of_length_le (by rw [hd.2.2.2.1]; omega)
  have C2 : Hid (d.cells[2]? = some (.int .u64 d.p)) := rfl
  have UP : Hid (U64 d.p) := hd.2.2.1
  have wn : IntKind.u64.wrap d.n = d.n := by have := hd.1; unfold U32 at this; rw [IntKind.wrap_u64]; omega
  have wa : IntKind.u64.wrap d.a = d.a := by have := hd.2.1; unfold U32 at this; rw [IntKind.wrap_u64]; omega
  have UN : Hid (U64 d.n) := by have := hd.1; unfold U32 at this; unfold Hid U64; omega
  have UA : Hid (U64 d.a) := by have := hd.2.1; unfold U32 at this; unfold Hid U64; omega
  unfold Da.val
  clear hd
  generalize d.enc = en at *
  generalize d.cells = A at *
  obtain ⟨dn, da, dp, dg⟩ := d
  dsimp only at *
  have HL4 : Hid (∀ (x : Int) (W : World), U64 x → Calls Try.prog 77 #[.int .u64 x, .int .i64 4] W fun e w' => Below W.heap.size W w' ∧ ∃ v, e = .returned v ∧ w'.ownsRow W.heap.size 5 1 v 4 (cellsB (low x 4))) := fun x W h => low_any x 4 W h (by decide)
  have HL8 : Hid (∀ (x : Int) (W : World), U64 x → Calls Try.prog 77 #[.int .u64 x, .int .i64 8] W fun e w' => Below W.heap.size W w' ∧ ∃ v, e = .returned v ∧ w'.ownsRow W.heap.size 5 1 v 8 (cellsB (low x 8))) := fun x W h => low_any x 8 W h (by decide)
  go_enter Try.func69, Try.ntmps69
  go_wp2_with fail
  generalize w.alloc (Obj.cells A.toArray 27) = W0 at *
  have z1 : Hid (Blk W0 w.heap.size 27 A) := Z1
  have z5 : Hid (Below w.heap.size w W0) := Z5
  clear Z1 Z5
  go_cut [3] (fun v wc => wc.ownsRow (w.heap.size + 1) 5 1 v 8 (cellsB (low dn 4 ++ low da 4)) ∧ Blk wc w.heap.size 27 A ∧ Below w.heap.size w wc)
  case first =>
    refine wp_region_held_drew (S := (fun w' => Blk w' w.heap.size 27 A)) (by kernel_rfl) (z1.out.drew) (fun hHeld => ?_)
    simp only [List.size_toArray, List.length_cons, List.length_nil, Nat.reduceAdd]
    refine wpAnyH_take (i := 0) (v := ?_) rfl (by kernel_rfl) (by kernel_rfl) (by kernel_rfl) (fun _ _ _ h => h) (Or.inl ⟨by rfl, ?_⟩) hHeld ?_
    rotate_left
    · (intro w hSw; (try dsimp only at hSw); go_simp; try with_reducible rfl)
    try simp only [Act.put, List.setIfInBounds_toArray, List.set_cons_zero, List.set_cons_succ, List.getElem_toArray, List.getElem_cons_zero, List.getElem_cons_succ]
    refine wpAnyH_take (i := 1) (v := ?_) rfl (by kernel_rfl) (by kernel_rfl) (by kernel_rfl) (fun _ _ _ h => h) (Or.inl ⟨by rfl, ?_⟩) hHeld ?_
    rotate_left
    · (intro w hSw; (try dsimp only at hSw); have s0 := (hSw.cell 0).trans C0.out; go_simp; try with_reducible rfl)
    try simp only [Act.put, List.setIfInBounds_toArray, List.set_cons_zero, List.set_cons_succ, List.getElem_toArray, List.getElem_cons_zero, List.getElem_cons_succ]
    refine wpAnyH_take (i := 2) (v := ?_) rfl (by kernel_rfl) (by kernel_rfl) (by kernel_rfl) (fun _ _ _ h => h) (Or.inl ⟨by rfl, ?_⟩) hHeld ?_
    rotate_left
    · (intro w hSw; (try dsimp only at hSw); go_simp; try with_reducible rfl)
    try simp only [Act.put, List.setIfInBounds_toArray, List.set_cons_zero, List.set_cons_succ, List.getElem_toArray, List.getElem_cons_zero, List.getElem_cons_succ]
    refine wpAnyH_take (i := 4) (v := ?_) rfl (by kernel_rfl) (by kernel_rfl) (by kernel_rfl) (fun _ _ _ h => h) (Or.inl ⟨by rfl, ?_⟩) hHeld ?_
    rotate_left
    · (intro w hSw; (try dsimp only at hSw); go_simp; try with_reducible rfl)
    try simp only [Act.put, List.setIfInBounds_toArray, List.set_cons_zero, List.set_cons_succ, List.getElem_toArray, List.getElem_cons_zero, List.getElem_cons_succ]
    refine wpAnyH_take (i := 5) (v := ?_) rfl (by kernel_rfl) (by kernel_rfl) (by kernel_rfl) (fun _ _ _ h => h) (Or.inl ⟨by rfl, ?_⟩) hHeld ?_
    rotate_left
    · (intro w hSw; (try dsimp only at hSw); have s1 := (hSw.cell 1).trans C1.out; go_simp; try with_reducible rfl)
    try simp only [Act.put, List.setIfInBounds_toArray, List.set_cons_zero, List.set_cons_succ, List.getElem_toArray, List.getElem_cons_zero, List.getElem_cons_succ]
    refine wpAnyH_take (i := 6) (v := ?_) rfl (by kernel_rfl) (by kernel_rfl) (by kernel_rfl) (fun _ _ _ h => h) (Or.inl ⟨by rfl, ?_⟩) hHeld ?_
    rotate_left
    · (intro w hSw; (try dsimp only at hSw); go_simp; try with_reducible rfl)
    try simp only [Act.put, List.setIfInBounds_toArray, List.set_cons_zero, List.set_cons_succ, List.getElem_toArray, List.getElem_cons_zero, List.getElem_cons_succ]
    refine wpAnyH_ready (rs := [3]) (by kernel_rfl) (by simp) ?_
    refine AllReadyH.cons rfl (fun K hK => ?_) AllReadyH.nil
    go_simp
    refine (HL4.out _ _ UN.out).mono ?_
    rintro e w2 ⟨hb2, v2, rfl, ho2⟩
    have c2 := z5.out.drew.trans (hb2.mono z5.out.size)
    go_wp2_with fail
    refine hK.out _ _ (hHeld.over hb2) (fun hHeld => ?_)
    clear hK K
    try simp only [Act.put, List.setIfInBounds_toArray, List.set_cons_zero, List.set_cons_succ, List.getElem_toArray, List.getElem_cons_zero, List.getElem_cons_succ]
    refine wpAnyH_ready (rs := [7]) (by kernel_rfl) (by simp) ?_
    refine AllReadyH.cons rfl (fun K hK => ?_) AllReadyH.nil
    go_simp
    refine (HL4.out _ _ UA.out).mono ?_
    rintro e w3 ⟨hb3, v3, rfl, ho3⟩
    have c3 := c2.trans (hb3.mono c2.size)
    have ho2' := owns_below ho2 hb3 (Nat.le_refl _)
    obtain ⟨a3, cap3, rfl, bs3, _, hn3⟩ := owns_bs ho3 (low_byt _ _)
    go_wp2_with fail
    refine hK.out _ _ (hHeld.over hb3) (fun hHeld => ?_)
    clear hK K
    try simp only [Act.put, List.setIfInBounds_toArray, List.set_cons_zero, List.set_cons_succ, List.getElem_toArray, List.getElem_cons_zero, List.getElem_cons_succ]
    refine wpAnyH_ready (rs := [8]) (by kernel_rfl) (by simp) ?_
    refine AllReadyH.cons rfl (fun K hK => ?_) AllReadyH.nil
    refine step_append_bytes (by rfl) (.tmp 8) (.tmp 12) (by rfl) (w.heap.size + 1) _ 4 (low dn 4) (by rfl) (owns_lower ho2' (Nat.le_of_eq ZS.symm)) a3 4 cap3 (low da 4) (by rfl) hn3 bs3 (by decide) (by rw [← ZS]; exact Nat.le_trans hb2.size hb3.size) ?_
    intro v4 w4 ho4 hg4
    have c4 := c3.grown hg4 c3.size (owns_block (owns_lower ho2' z5.out.size))
    refine hK.out _ _ (hHeld.grown hg4 (own_ne ho2' (by show w.heap.size < W0.heap.size; rw [ZS]; omega))) (fun hHeld => ?_)
    clear hK K
    try simp only [Act.put, List.setIfInBounds_toArray, List.set_cons_zero, List.set_cons_succ, List.getElem_toArray, List.getElem_cons_zero, List.getElem_cons_succ]
    refine wpAnyH_take (i := 9) (v := ?_) rfl (by kernel_rfl) (by kernel_rfl) (by kernel_rfl) (fun _ _ _ h => h) (Or.inl ⟨by rfl, ?_⟩) hHeld ?_
    rotate_left
    · (intro w hSw; (try dsimp only at hSw); go_simp; try with_reducible rfl)
    try simp only [Act.put, List.setIfInBounds_toArray, List.set_cons_zero, List.set_cons_succ, List.getElem_toArray, List.getElem_cons_zero, List.getElem_cons_succ]
    refine wpAnyH_done (by kernel_rfl) ?_ _
    go_wp2_with fail
    go_meet
    exact ⟨ho4, hHeld, c4⟩
  case rest =>
    obtain ⟨ho, hA, hB⟩ := hcut
    have s2 := (hA.cell 2).trans C2.out
    have h1 : Hid (Blk wc w.heap.size 27 A) := hA
    have h2 : w.heap.size + 1 ≤ wc.heap.size := hA.lt
    clear z1 z5 ZS hA wn wa
    go_wp2_with (first | (go_at_call 77; refine (HL8.out _ _ UP.out).mono ?_; rintro e w2 ⟨hb2, v2, rfl, ho2⟩; have c2 := hB.trans (hb2.mono hB.size); have ho' := owns_below ho hb2 (Nat.le_refl _); have h3 := h1.out.over hb2; obtain ⟨a2, cap2, rfl, bs2, -, hn2⟩ := owns_bs ho2 (low_byt _ _)) | (at_builtin; refine append_bytes rfl (.tmp 14) (.tmp 17) rfl (w.heap.size + 1) _ 8 _ rfl ho' a2 8 cap2 (low dp 8) rfl hn2 bs2 (by decide) h3.lt ?_; intro v4 w4 ho4 hg4; have c4 := c2.grown hg4 c2.size (owns_block (owns_lower ho' (Nat.le_succ _))); have h4 := h3.grown hg4 (own_ne ho' (Nat.lt_succ_self _))))
    have ho5 : w4.ownsRow (w.heap.size + 1) 5 1 v4 (16 + 0 * 8) (cellsB (low dn 4 ++ low da 4 ++ low dp 8 ++ lowG (dg.take 0))) := by
      have : low dn 4 ++ low da 4 ++ low dp 8 ++ lowG (dg.take 0) = low dn 4 ++ low da 4 ++ low dp 8 := List.append_nil _
      rw [this]
      exact ho4
    clear ho ho' ho2 ho4 hg4 bs2 h3 h1 h2 c2 hb2 hB s2 hn2
    have HE2 : Hid (∀ k, k < 6 → low dn 4 ++ low da 4 ++ low dp 8 ++ lowG (dg.take (k + 1)) = low dn 4 ++ low da 4 ++ low dp 8 ++ lowG (dg.take k) ++ low (dg.getD k 0) 8) := by
      intro k hk
      rw [LG.out k hk, ← List.append_assoc]
    have HE3 : Hid (low dn 4 ++ low da 4 ++ low dp 8 ++ lowG (dg.take 6) = en) := by
      unfold Hid
      rw [LA.out]
      exact HE.out
    generalize low dn 4 ++ low da 4 ++ low dp 8 = P0 at *
    clear HL4 LG LA HE UN UA UP C0 C1 C2
    go_loopw [3, 4] (fun v i wr => ∃ k : Nat, k ≤ 6 ∧ i = .int .i64 k ∧ wr.ownsRow (w.heap.size + 1) 5 1 v (16 + k * 8) (cellsB (P0 ++ lowG (dg.take k))) ∧ Blk wr w.heap.size 27 A ∧ Below w.heap.size w wr) (fun _ i _ => 6 - (intOf i).toNat)
    case atStart => exact ⟨0, by decide, rfl, ho5, h4, c4⟩
    case round =>
      obtain ⟨k, hk, rfl, ho, hA, hB⟩ := hrel
      clear ho5 h4 c4
      by_cases hlt : k < 6
      · have s2 := (hA.cell (3 + k)).trans (CG.out k hlt)
        have HU : Hid (U64 (dg.getD k 0)) := UG.out k hlt
        have HN : Hid (P0 ++ lowG (dg.take (k + 1)) = P0 ++ lowG (dg.take k) ++ low (dg.getD k 0) 8) := HE2.out k hlt
        have h1 : Hid (Blk wr w.heap.size 27 A) := hA
        have h2 : w.heap.size + 1 ≤ wr.heap.size := hA.lt
        clear hA
        generalize dg.getD k 0 = x at *
        generalize P0 ++ lowG (dg.take k) = P1 at *
        have hi1 : (k : Int) < 6 := by omega
        go_wp2_with (first | (go_at_call 77; refine (HL8.out _ _ HU.out).mono ?_; rintro e w2 ⟨hb2, v2, rfl, ho2⟩; have c2 := hB.trans (hb2.mono hB.size); have ho' := owns_below ho hb2 (Nat.le_refl _); have h3 := h1.out.over hb2; obtain ⟨a2, cap2, rfl, bs2, -, hn2⟩ := owns_bs ho2 (low_byt _ _)) | (at_builtin; refine append_bytes rfl (.tmp 23) (.tmp 28) rfl (w.heap.size + 1) _ (16 + k * 8) _ rfl ho' a2 8 cap2 (low x 8) rfl hn2 bs2 (by omega) h3.lt ?_; intro v4 w4 ho4 hg4; have c4 := c2.grown hg4 c2.size (owns_block (owns_lower ho' (Nat.le_succ _))); have h4 := h3.grown hg4 (own_ne ho' (Nat.lt_succ_self _))))
        go_roundw
        case rel =>
          refine ⟨k + 1, by omega, by go_num, ?_, h4, c4⟩
          rw [HN.out, show 16 + (k + 1) * 8 = 16 + k * 8 + 8 by omega]
          exact ho4
        case measure => simp [intOf]; omega
      · have hi1 : ¬ (k : Int) < 6 := by omega
        obtain ⟨e1, e2⟩ : 16 + k * 8 = 64 ∧ P0 ++ lowG (dg.take k) = en := by
          obtain rfl : k = 6 := by omega
          exact ⟨rfl, HE3.out⟩
        rw [e1, e2] at ho
        clear e1 e2 hlt hk
        go_wp2
        go_ret
        exact ⟨hB, _, rfl, owns_lower ho (Nat.le_succ _)⟩

end Go.Proofs.Ytamioifoemklfaa.V

namespace Go.Proofs.Ytamioifoemklfaa.V
open Go.RowKit

set_option maxHeartbeats 400000 in
theorem refLoad_any (d : Da) (m : Int) (w : World) (hd : d.ok) (hm : U32 m) :
    Calls Try.prog 50 #[d.val, .int .u32 m] w fun e w' => e = .returned (.tuple #[.int .u32 (ldv d m), .int .i64 (lde m)]) ∧ Below w.heap.size w w' := by
  have hk2 : Hid (Below w.heap.size w (w.alloc (Obj.cells d.cells.toArray 27))) := (Below.refl _ _).alloc (Nat.le_refl _) _
  by_cases hc : m % 4 = 0 ∧ m < 64
  · have HC : Hid ((Try.prog.info? 27).map (·.size) = some d.cells.toArray.size) := by unfold Hid; rw [Try.size27]; simp [d.cells_len hd]
    have HS : Hid (∀ W : World, Calls Try.prog 69 #[.agg d.cells.toArray] W fun e w' => Below W.heap.size W w' ∧ ∃ v, e = .returned v ∧ w'.ownsRow W.heap.size 5 1 v 64 (cellsB d.enc)) := fun W => refBytes_any d W hd
    have HB : Hid (Byt d.enc) := enc_byt d hd
    have HN : Hid (∀ (b off cap : Nat) (l : List Int) (W : World), Bs W (some ⟨b, off, none⟩) 4 l → Calls Try.prog 68 #[.slice (some ⟨b, off, none⟩) 4 cap] W fun e w' => e = .returned (.int .u64 (num l)) ∧ w' = W) := fun b off cap l W h => number_any _ 4 cap l W h (by decide)
    obtain ⟨h0, h1⟩ := hm
    obtain ⟨j, hj, rfl⟩ : ∃ j : Nat, j < 16 ∧ m = ((4 * j : Nat) : Int) := ⟨(m / 4).toNat, by omega, by omega⟩
    obtain ⟨e1, e2⟩ := ld_in d j hj
    rw [e1, e2]
    have HW : Hid (num ((d.enc.drop (4 * j)).take 4) = d.words.getD j 0) := by
      unfold Hid
      rw [num_four _ (by rw [List.length_drop, enc_len d hd]; omega), Nat.mul_comm]
      exact word_at d hd j hj
    have HV : Hid (d.words.getD j 0 % 4294967296 = d.words.getD j 0) := by
      have := getD_u (words_u d hd) j
      unfold U32 at this
      unfold Hid
      omega
    have hr : Int.tmod ((4 * j : Nat) : Int) 4 = 0 := by rw [Int.tmod_eq_emod_of_nonneg (by omega)]; omega
    have hlt : ¬ (64 : Int) ≤ ((4 * j : Nat) : Int) := by omega
    have hB : Hid (Blk (w.alloc (Obj.cells d.cells.toArray 27)) w.heap.size 27 d.cells.toArray.toList) := blk_new w _ 27
    have hw4 : IntKind.u32.wrap (((4 * j : Nat) : Int) + 4) = ((4 * j + 4 : Nat) : Int) := by rw [IntKind.wrap_u32]; omega
    have hj4 : 4 * j + 4 ≤ 64 := by omega
    clear e1 e2 hc h0 h1 hd hj
    unfold Da.val
    generalize d.words.getD j 0 = x at *
    generalize d.cells.toArray = A at *
    generalize d.enc = en at *
    generalize 4 * j = M at *
    go_enter Try.func50, Try.ntmps50
    go_wp2_with (first | (refine wpList_load_row rfl 27 (.tmp 2) rfl w.heap.size rfl 27 A (0, 0) _ hB.out Try.underlying27 rfl HC.out ?_) | (go_at_call 69; refine (HS.out _).mono ?_; rintro e w2 ⟨hb2, v2, rfl, ho2⟩; obtain ⟨a2, cap2, rfl, bs2, hcap, -⟩ := owns_bs ho2 HB.out; obtain ⟨b, off, rfl, -⟩ := bs2.2.2 (by decide); have hcm : M + 4 ≤ cap2 := by omega) | (go_at_call 68; refine (HN.out _ _ _ _ _ (bs2.sub M 4 (by omega))).mono ?_; rintro e w3 ⟨rfl, rfl⟩))
    go_ret2
    rw [HW.out, HV.out]
    exact ⟨rfl, hk2.out.trans (hb2.mono hk2.out.size)⟩
  · obtain ⟨e1, e2⟩ := ld_out d m hc
    rw [e1, e2]
    obtain ⟨h0, h1⟩ := hm
    clear e1 e2 hd
    unfold Da.val
    generalize d.cells.toArray = A at *
    by_cases h4 : m % 4 = 0
    · have hr : Int.tmod m 4 = 0 := by rw [Int.tmod_eq_emod_of_nonneg (by omega)]; omega
      have hlt : (64 : Int) ≤ m := by omega
      clear hc h4 h0 h1
      go_enter Try.func50, Try.ntmps50
      go_wp2
      go_ret2
      exact ⟨rfl, hk2.out⟩
    · have hr : ¬ Int.tmod m 4 = 0 := by rw [Int.tmod_eq_emod_of_nonneg (by omega)]; omega
      clear hc h4 h0 h1
      go_enter Try.func50, Try.ntmps50
      go_wp2
      go_ret2
      exact ⟨rfl, hk2.out⟩

end Go.Proofs.Ytamioifoemklfaa.V
