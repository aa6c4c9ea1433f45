/-
  Attach, by the document.
-/
import Derived.Test.YtamioifoemklfaaStBlt
import Derived.Test.YtamioifoemklfaaVRefCheck
import Derived.Test.YtamioifoemklfaaSkRun
namespace Go.Proofs.Ytamioifoemklfaa
open Go.RowKit

/-- the document's stack: its filters, each in a row of its own. -/
structure RStk (B : Nat) (W : World) (b : Nat) (vL : Value) (ls : List (List V.In)) : Prop where
  blk : V.Blk W b 37 [vL]
  row : ∃ us, W.ownsRow B 31 1 vL ls.length us ∧ ∀ (i : Nat) (l : List V.In), ls[i]? = some l → ∃ u, us[i]? = some u ∧ W.ownsRow 0 56 4 u l.length (V.cellsI l) ∧ ∀ x ∈ l, x.ok
theorem RStk.over {B : Nat} {W W' : World} {b : Nat} {vL : Value} {ls : List (List V.In)} (h : RStk B W b vL ls) (hb : Below W.heap.size W W') : RStk B W' b vL ls := by
  obtain ⟨us, h1, h2⟩ := h.row
  exact ⟨h.blk.over hb, us, own_over h1 hb, fun i l hi => by obtain ⟨u, q1, q2, q3⟩ := h2 i l hi; exact ⟨u, q1, own_over q2 hb, q3⟩⟩
theorem RStk.flR {B : Nat} {W : World} {b : Nat} {vL : Value} {ls : List (List V.In)} (h : RStk B W b vL ls) : FlR W vL ls := by
  obtain ⟨us, h1, h2⟩ := h.row
  refine FlO.flR (X := W) (B := B) ⟨us, h1, fun i l hi => ?_⟩ (Below.refl _ _)
  obtain ⟨u, q1, q2, q3⟩ := h2 i l hi
  exact ⟨u, q1, fl_of_own q2 q3⟩
/-- a stack's block was turned. -/
theorem RStk.other {B : Nat} {X Y : World} {b j : Nat} {vL : Value} {ls : List (List V.In)} {cs : List Value} (h : RStk B X b vL ls) (hj : V.Blk X j 34 cs) (hg : X.grownBy Y (some j)) : RStk B Y b vL ls := by
  obtain ⟨us, h1, h2⟩ := h.row
  exact ⟨blk_grown h.blk hg (fun e => blk_ne (by decide) h.blk hj (by simpa using e)), us, h1.kept hg (row_ne (by decide) h1 hj), fun i l hi => by obtain ⟨u, q1, q2, q3⟩ := h2 i l hi; exact ⟨u, q1, q2.kept hg (row_ne (by decide) q2 hj), q3⟩⟩
/-- a filter more in the row. -/
theorem RStk.app {B : Nat} {X Y : World} {b n : Nat} {vL v' u : Value} {ls : List (List V.In)} {l : List V.In} {us : List Value} (h : RStk B X b vL ls) (hus : X.ownsRow B 31 1 vL n us) (h2 : ∀ (i : Nat) (l : List V.In), ls[i]? = some l → ∃ u, us[i]? = some u ∧ X.ownsRow 0 56 4 u l.length (V.cellsI l) ∧ ∀ x ∈ l, x.ok) (hn : ls.length = n)
    (hu : X.ownsRow 0 56 4 u l.length (V.cellsI l)) (hl : ∀ x ∈ l, x.ok) (hG : GrwF X Y B vL v' (n + 1) (us ++ [u])) :
    V.Blk Y b 37 [vL] ∧ Y.ownsRow B 31 1 v' (n + 1) (us ++ [u]) ∧ ∀ (i : Nat) (k : List V.In), (ls ++ [l])[i]? = some k → ∃ y, (us ++ [u])[i]? = some y ∧ Y.ownsRow 0 56 4 y k.length (V.cellsI k) ∧ ∀ x ∈ k, x.ok := by
  have hul : us.length = n := by have := hus.1; omega
  refine ⟨blk_grown h.blk hG.grown (blk_row_ne (by decide) hus h.blk), hG.own, fun i k hi => ?_⟩
  by_cases hlt : i < ls.length
  · rw [List.getElem?_append_left hlt] at hi
    obtain ⟨y, q1, q2, q3⟩ := h2 i k hi
    exact ⟨y, by rw [List.getElem?_append_left (by omega)]; exact q1, q2.kept hG.grown (own_ne (by decide) q2 hus), q3⟩
  · have hil := (List.getElem?_eq_some_iff.1 hi).1
    rw [List.length_append, List.length_singleton] at hil
    have e : i = ls.length := by omega
    subst e
    rw [List.getElem?_append_right (Nat.le_refl _), Nat.sub_self] at hi
    cases hi
    exact ⟨u, by rw [List.getElem?_append_right (by omega), hul, hn, Nat.sub_self]; rfl, hu.kept hG.grown (own_ne (by decide) hu hus), hl⟩
/-- nothing has turned but two blocks. -/
structure Grown2 (X Y : World) (r s : Option Nat) : Prop where
  os : Y.os = X.os
  tape : Y.tape = X.tape
  output : Y.output = X.output
  size : X.heap.size ≤ Y.heap.size
  block : ∀ k, k < X.heap.size → some k ≠ r → some k ≠ s → Y.heap[k]? = X.heap[k]?
theorem g2_below {X Y : World} (h : Below X.heap.size X Y) (r s : Option Nat) : Grown2 X Y r s := ⟨h.os, h.tape, h.output, h.size, fun k hk _ _ => h.block k hk⟩
theorem g2_left {X Y : World} {r : Option Nat} (h : X.grownBy Y r) (s : Option Nat) : Grown2 X Y r s := ⟨h.os, h.tape, h.output, h.size, fun k hk h1 _ => h.block k hk h1⟩
theorem g2_right {X Y : World} {s : Option Nat} (h : X.grownBy Y s) (r : Option Nat) : Grown2 X Y r s := ⟨h.os, h.tape, h.output, h.size, fun k hk _ h1 => h.block k hk h1⟩
theorem g2_trans {X Y Z : World} {r s : Option Nat} (h : Grown2 X Y r s) (k : Grown2 Y Z r s) : Grown2 X Z r s :=
  ⟨k.os.trans h.os, k.tape.trans h.tape, k.output.trans h.output, Nat.le_trans h.size k.size, fun i hi h1 h2 => (k.block i (Nat.lt_of_lt_of_le hi h.size) h1 h2).trans (h.block i hi h1 h2)⟩
theorem g2_kept {X Y : World} {r s : Option Nat} {base sz : Nat} {t : TypeId} {v : Value} {n : Nat} {xs : List Value} (h : X.ownsRow base t sz v n xs) (hg : Grown2 X Y r s) (h1 : v.ownBlock = none ∨ v.ownBlock ≠ r) (h2 : v.ownBlock = none ∨ v.ownBlock ≠ s) : Y.ownsRow base t sz v n xs := by
  refine ⟨h.1, ?_⟩
  rcases h.2 with hn | ⟨g, cap, cur, rfl, hb, hgg, rest⟩
  · exact .inl hn
  · refine .inr ⟨g, cap, cur, rfl, hb, ?_, rest⟩
    rw [hg.block g (h.lt g rfl).2 (h1.resolve_left (by simp [Value.ownBlock])) (h2.resolve_left (by simp [Value.ownBlock]))]
    exact hgg
/-- a stack stays where the document's is turned. -/
theorem StkV.ref {B : Nat} {X Y : World} {b c : Nat} {vc ve vL : Value} {ls ks : List (List V.In)} (h : StkV X b vc ve ls) (hR : RStk B X c vL ks) (hg : Grown2 X Y (some c) vL.ownBlock) : StkV Y b vc ve ls := by
  obtain ⟨us, h1, _⟩ := hR.row
  refine ⟨?_, g2_kept h.code hg (row_ne (by decide) h.code hR.blk) (own_ne (by decide) h.code h1), g2_kept h.ends hg (row_ne (by decide) h.ends hR.blk) (own_ne (by decide) h.ends h1)⟩
  have hl := h.blk.lt
  have hb := h.blk
  unfold V.Blk at hb ⊢
  rw [hg.block b hl (fun e => blk_ne (by decide) h.blk hR.blk (by simpa using e)) (blk_row_ne (by decide) h1 h.blk)]
  exact hb
theorem g2_bel {B : Nat} {X Y : World} {c : Nat} {vL : Value} {ks : List (List V.In)} (hR : RStk B X c vL ks) (hg : Grown2 X Y (some c) vL.ownBlock) (hB : B ≤ X.heap.size) (hc : B ≤ c) : Below B X Y := by
  obtain ⟨us, h1, _⟩ := hR.row
  refine ⟨hg.os, hg.tape, hg.output, hg.size, fun k hk => hg.block k (by omega) (by simp; omega) (fun e => ?_)⟩
  have := V.owns_block h1 k e.symm
  omega
/-- what it tells. -/
def RatT (B : Nat) (X : World) (b : Nat) (vL : Value) (ls : List (List V.In)) (l : List V.In) (e : Ending) (Y : World) : Prop :=
  e = .returned (.int .i64 (attE ls l)) ∧ Grown2 X Y (some b) vL.ownBlock ∧ ∃ vL', RStk B Y b vL' (attL ls l)
theorem own_empty (Z : World) : (Z.alloc (Obj.cells #[] 56)).ownsRow 0 56 4 (.slice (some ⟨Z.heap.size, 0, none⟩) 0 0) 0 (V.cellsI []) :=
  ⟨by simp [V.cellsI], .inr ⟨Z.heap.size, 0, #[], rfl, Nat.zero_le _, heap_alloc_new _ _, Nat.le_refl _, by unfold maxLen; omega, rfl, rfl⟩⟩
theorem step_appF {w : World} {ops : Array Oper} {o : Oper} {a : Act} {K : Act → World → Prop} {Q : Exit → Act → World → Prop} {E : Prop} (hgd : o.guard = none) (s x : Operand)
    (ho : o.op = .call { callee := .builtin .append, args := #[s, x], argTypes := #[22, 22] }) (base : Nat) (v : Value) (n : Nat) (vs : List Value) (hs : a.eval s = v) (hown : w.ownsRow base 31 1 v n vs) (ad : Addr) (u : Value) (hx : a.eval x = .slice (some ad) 1 1) (hu : w.cell? ad = some u) (h1 : u.oneCell' = true)
    (hn : n ≤ 100000) (hbase : base ≤ w.heap.size) (h : ∀ v' w', GrwF w w' base v v' (n + 1) (vs ++ [u]) → K (a.put o.dst v') w') :
    if Region.wanted o (yielded ops a.tmps) = true then Oper.wp Try.prog o a w K Q else E := by
  rw [if_pos (by simp [Region.wanted, hgd])]
  obtain ⟨v', w', hrun, hG⟩ := run_appF o.type base v n vs hown ad u hu h1 hn hbase
  unfold Oper.wp execOp
  simp only [ho, resolve, invoke, builtin, Sem.run_bind, Sem.run_pure, Result.andThen_ok, List.map_toArray, List.map_cons, List.map_nil, hs, hx, hrun]
  exact h _ _ hG

set_option linter.unusedSimpArgs false in
set_option maxRecDepth 8000 in
set_option maxHeartbeats 4000000 in
theorem rattach_any (B : Nat) (X : World) (b : Nat) (vL v : Value) (ls : List (List V.In)) (l : List V.In) (hR : RStk B X b vL ls) (hB : B ≤ X.heap.size) (hok : OkS ls) (hf : FlV X v l) :
    Calls Try.prog 11 #[.pointer (some ⟨b, 0, none⟩), v] X fun e Y => RatT B X b vL ls l e Y := by
  obtain ⟨af, cf, rfl, hIns, hlm, hlc, _⟩ := hf
  obtain ⟨aL, cL, rfl⟩ : ∃ a c, vL = .slice a ls.length c := by obtain ⟨us, h1, _⟩ := hR.row; exact own_slice h1
  have HI : Hid (∀ W, Below X.heap.size X W → V.Ins W af l.length l) := fun W hW => hIns.below hW
  have HR : Hid (∀ W, Below X.heap.size X W → RStk B W b (.slice aL ls.length cL) ls) := fun W hW => hR.over hW
  have HOl : Hid (∀ x ∈ l, x.ok) := hIns.2.1
  have h32 := hok.2.1
  have hls : ∀ k ∈ ls, k.length ≤ 5000 := fun k hk => by have := chk_len (hok.1 k hk).1; omega
  have HCk : Hid (Calls Try.prog 23 #[.slice af l.length cf] X fun e w' => V.Told X w' e (V.chk l)) := V.refCheck_any af l.length cf l X hlm hIns
  unfold V.Told at HCk
  have HCo : Hid (∀ W, Below X.heap.size X W → Calls Try.prog 14 #[.pointer (some ⟨b, 0, none⟩)] W fun e w' => e = .returned (.int .i64 (costL ls : Nat)) ∧ Below W.heap.size W w') := fun W hW => rcost_any W b _ ls (hR.over hW).blk (hR.over hW).flR (by omega) hls
  have hcb : costL ls ≤ 32768 := hok.2.2
  have hll : l.length ≤ 9223372036854775807 := by unfold maxLen at hlm; omega
  have HLn : Hid (∀ W, Below X.heap.size X W → W.cell? ⟨b, 0, none⟩ = some (.slice aL ls.length cL)) := fun W hW => (hR.over hW).blk.cell 0
  by_cases h0 : (V.chk l).1 = 0
  · have hcl := chk_len h0
    have hq : ((V.chk l).1 == 0) = true := by rw [h0]; rfl
    have hq2 : ((V.chk l).1 != 0) = false := by rw [h0]; rfl
    have HA : Hid (attE ls l = if 32 ≤ ls.length ∨ 32768 < costL ls + (l.length + 4) then 16 else 0) := by unfold Hid attE; rw [if_pos h0]
    generalize V.chk l = ck at *
    by_cases h1 : 32 ≤ ls.length
    · have hA : attE ls l = 16 := by rw [HA.out, if_pos (.inl h1)]
      have HT : Hid (∀ W, Below X.heap.size X W → RatT B X b (.slice aL ls.length cL) ls l (.returned (.int .i64 16)) W) := fun W hW => ⟨by rw [hA], g2_below hW _ _, _, by unfold attL; rw [if_neg (by rw [hA]; decide)]; exact HR.out W hW⟩
      have h1b : (32 : Int) ≤ (ls.length : Int) := by omega
      clear hA HA hIns hR hcb hll hcl
      go_enter Try.func11, Try.ntmps11
      go_upto_region 4 with (first | (go_at_call 23; refine HCk.out.mono ?_; rintro e w1 ⟨rfl, b1⟩))
      have c0 := HLn.out w1 b1
      go_wp2_with fail
      go_ret
      exact HT.out _ b1
    · have h1b : ¬ (32 : Int) ≤ (ls.length : Int) := by omega
      by_cases h2 : 32768 < costL ls + (l.length + 4)
      · have hA : attE ls l = 16 := by rw [HA.out, if_pos (.inr h2)]
        have HT : Hid (∀ W, Below X.heap.size X W → RatT B X b (.slice aL ls.length cL) ls l (.returned (.int .i64 16)) W) := fun W hW => ⟨by rw [hA], g2_below hW _ _, _, by unfold attL; rw [if_neg (by rw [hA]; decide)]; exact HR.out W hW⟩
        obtain ⟨zs, hzs⟩ : ∃ zs : Int, zs = (costL ls : Int) + (l.length : Int) + 4 := ⟨_, rfl⟩
        have h2b : decide ((32768 : Int) < zs) = true := by simp; omega
        have e1 : IntKind.i64.wrap ((costL ls : Int) + (l.length : Int)) = (costL ls : Int) + (l.length : Int) := by rw [IntKind.wrap_i64]; omega
        have e2 : IntKind.i64.wrap ((costL ls : Int) + (l.length : Int) + 4) = zs := by rw [IntKind.wrap_i64]; omega
        clear hA HA hIns hR h2 hzs hcb hll hcl
        generalize costL ls = cl at *
        go_enter Try.func11, Try.ntmps11
        go_upto_region 4 with (first | (go_at_call 23; refine HCk.out.mono ?_; rintro e w1 ⟨rfl, b1⟩))
        have c0 := HLn.out w1 b1
        go_wp2_with (first | (go_at_call 14; refine (HCo.out _ b1).mono ?_; rintro e w3 ⟨rfl, b3⟩))
        go_ret
        exact HT.out _ (b1.trans (b3.mono b1.size))
      · have hA : attE ls l = 0 := by rw [HA.out, if_neg (by omega)]
        have HA0 : Hid (attE ls l = 0) := hA
        obtain ⟨zs, hzs⟩ : ∃ zs : Int, zs = (costL ls : Int) + (l.length : Int) + 4 := ⟨_, rfl⟩
        have h2b : decide ((32768 : Int) < zs) = false := by simp; omega
        have e1 : IntKind.i64.wrap ((costL ls : Int) + (l.length : Int)) = (costL ls : Int) + (l.length : Int) := by rw [IntKind.wrap_i64]; omega
        have e2 : IntKind.i64.wrap ((costL ls : Int) + (l.length : Int) + 4) = zs := by rw [IntKind.wrap_i64]; omega
        have HBd0 : Hid (0 < l.length ∧ 0 + l.length ≤ 100000 ∧ ls.length ≤ 100000 ∧ B ≤ X.heap.size) := ⟨by omega, by omega, by omega, hB⟩
        obtain ⟨ad, rfl⟩ : ∃ ad, af = some ad := by
          cases af with
          | none => have := (V.Ins.nil hIns).1; omega
          | some ad => exact ⟨ad, rfl⟩
        clear hA HA hIns hR h2 hzs hcb hll hcl h32 hlm hlc hok hls hB
        generalize costL ls = cl at *
        go_enter Try.func11, Try.ntmps11
        go_upto_region 4 with (first | (go_at_call 23; refine HCk.out.mono ?_; rintro e w1 ⟨rfl, b1⟩))
        have c0 := HLn.out w1 b1
        go_upto_region 6 with (first | (go_at_call 14; refine (HCo.out _ b1).mono ?_; rintro e w2 ⟨rfl, b2⟩))
        have HB2 : Hid (Below X.heap.size X w2) := b1.trans (b2.mono b1.size)
        have hR2 := HR.out w2.drew HB2.out.drew
        have HI2 : Hid (∀ W, Below w2.drew.heap.size w2.drew W → V.Ins W (some ad) l.length l) := fun W hW => (HI.out w2.drew HB2.out.drew).below hW
        have HK : Hid (∀ W, Below w2.drew.heap.size w2.drew W → W.cell? ⟨b, 0, none⟩ = some (.slice aL ls.length cL) ∧ W.frozen? ⟨b, 0, none⟩ = false ∧ RStk B W b (.slice aL ls.length cL) ls) := fun W hW => ⟨(hR2.over hW).blk.cell 0, (hR2.over hW).blk.f 0, hR2.over hW⟩
        have hS6 := (HK.out w2.drew (Below.refl _ _)).1
        have HX6 : Hid (Below X.heap.size X w2.drew) := HB2.out.drew
        have HBd : Hid (0 < l.length ∧ 0 + l.length ≤ 100000 ∧ ls.length ≤ 100000 ∧ B ≤ w2.drew.heap.size) := ⟨HBd0.out.1, HBd0.out.2.1, HBd0.out.2.2.1, Nat.le_trans HBd0.out.2.2.2 HX6.out.size⟩
        clear b1 b2 hR2 HCk HLn HCo HI HR c0 HB2
        generalize hnF : ls.length = n at HK HBd hS6 ⊢
        have HN : Hid (ls.length = n) := hnF
        generalize hmF : l.length = m at HI2 HBd ⊢
        refine wp_region_late (E := [12]) (S := (fun w' => w'.cell? ⟨b, 0, none⟩ = some (.slice aL n cL))) (by kernel_rfl) (hS6) (fun hHeld => ?_)
        simp only [List.size_toArray, List.length_cons, List.length_nil, Nat.reduceAdd]
        generalize w2.drew = Z at *
        refine wpAnyL_take [10, 11, 12] (i := 0) (v := ?_) (by kernel_rfl) (by kernel_rfl) (by kernel_rfl) rfl (by kernel_rfl) (by kernel_rfl) (by kernel_rfl) (fun _ _ _ h => h) (Or.inl ⟨by rfl, ?_⟩) hHeld ?_
        rotate_left
        · (intro w hSw; (try dsimp only at hSw); have s0 := hSw; go_simp; try with_reducible rfl)
        try simp only [Act.put, List.setIfInBounds_toArray, List.set_cons_zero, List.set_cons_succ, List.getElem_toArray, List.getElem_cons_zero, List.getElem_cons_succ]
        refine wpAnyL_take [2, 3, 4, 9, 12] (i := 1) (v := ?_) (by kernel_rfl) (by kernel_rfl) (by kernel_rfl) rfl (by kernel_rfl) (by kernel_rfl) (by kernel_rfl) (fun _ _ _ h => h) (Or.inl ⟨by rfl, ?_⟩) hHeld ?_
        rotate_left
        · (intro w hSw; (try dsimp only at hSw); have s0 := hSw; go_simp; try with_reducible rfl)
        try simp only [Act.put, List.setIfInBounds_toArray, List.set_cons_zero, List.set_cons_succ, List.getElem_toArray, List.getElem_cons_zero, List.getElem_cons_succ]
        refine wpAnyL_take [3, 4, 9, 12] (i := 2) (v := ?_) (by kernel_rfl) (by kernel_rfl) (by kernel_rfl) rfl (by kernel_rfl) (by kernel_rfl) (by kernel_rfl) (fun _ _ _ h => h) (Or.inl ⟨by rfl, ?_⟩) hHeld ?_
        rotate_left
        · (intro w hSw; (try dsimp only at hSw); have s0 := hSw; go_simp; try with_reducible rfl)
        try simp only [Act.put, List.setIfInBounds_toArray, List.set_cons_zero, List.set_cons_succ, List.getElem_toArray, List.getElem_cons_zero, List.getElem_cons_succ]
        refine wpAnyL_take [4, 9, 12] (i := 3) (v := ?_) (by kernel_rfl) (by kernel_rfl) (by kernel_rfl) rfl (by kernel_rfl) (by kernel_rfl) (by kernel_rfl) (fun _ _ _ h => h) (Or.inl ⟨by rfl, ?_⟩) hHeld ?_
        rotate_left
        · (intro w hSw; (try dsimp only at hSw); have s0 := hSw; go_simp; try with_reducible rfl)
        try simp only [Act.put, List.setIfInBounds_toArray, List.set_cons_zero, List.set_cons_succ, List.getElem_toArray, List.getElem_cons_zero, List.getElem_cons_succ]
        refine wpAnyL_take [9, 12] (i := 4) (v := ?_) (by kernel_rfl) (by kernel_rfl) (by kernel_rfl) rfl (by kernel_rfl) (by kernel_rfl) (by kernel_rfl) (fun _ _ _ h => h) (Or.inl ⟨by rfl, ?_⟩) hHeld ?_
        rotate_left
        · (intro w hSw; (try dsimp only at hSw); have s0 := hSw; go_simp; try with_reducible rfl)
        try simp only [Act.put, List.setIfInBounds_toArray, List.set_cons_zero, List.set_cons_succ, List.getElem_toArray, List.getElem_cons_zero, List.getElem_cons_succ]
        refine wpAnyL_take [7, 8, 9, 12] (i := 6) (v := ?_) (by kernel_rfl) (by kernel_rfl) (by kernel_rfl) rfl (by kernel_rfl) (by kernel_rfl) (by kernel_rfl) (fun _ _ _ h => h) (Or.inl ⟨by rfl, ?_⟩) hHeld ?_
        rotate_left
        · (intro w hSw; (try dsimp only at hSw); have s0 := hSw; go_simp; try with_reducible rfl)
        try simp only [Act.put, List.setIfInBounds_toArray, List.set_cons_zero, List.set_cons_succ, List.getElem_toArray, List.getElem_cons_zero, List.getElem_cons_succ]
        refine wpAnyL_one (i := 5) (by kernel_rfl) rfl (fun K hK => ?_)
        have hc5 := HK.out (Z.alloc (Obj.cells #[] 56)) (below_new _ _)
        have hs5 : (fun w' => w'.cell? ⟨b, 0, none⟩ = some (.slice aL n cL)) (Z.alloc (Obj.cells #[] 56)) := hc5.1
        go_simp
        refine hK.out _ _ (fun _ => hs5) ?_
        replace hHeld := hs5
        clear hK K
        try simp only [Act.put, List.setIfInBounds_toArray, List.set_cons_zero, List.set_cons_succ, List.getElem_toArray, List.getElem_cons_zero, List.getElem_cons_succ]
        refine wpAnyL_one (i := 7) (by kernel_rfl) rfl (fun K hK => ?_)
        refine step_growI rfl _ _ rfl (some ⟨Z.heap.size, 0, none⟩) 0 0 [] rfl (own_empty Z) ad m cf rfl l (HI2.out _ (below_new _ _)) HBd.out.1 HBd.out.2.1 (fun cap7 Y7 hown7 hb7 => ?_)
        have hB7 : Below Z.heap.size Z Y7 := (below_new _ _).trans (hb7.mono (by simp))
        have es : (Z.alloc (Obj.cells #[] 56)).heap.size = Z.heap.size + 1 := by simp
        rw [es] at hown7
        rw [es]
        simp only [Nat.zero_add] at hown7 ⊢
        have hown7' : (Y7.alloc (Obj.cells #[.slice (some ⟨Z.heap.size + 1, 0, none⟩) m cap7] 31)).ownsRow 0 56 4 (.slice (some ⟨Z.heap.size + 1, 0, none⟩) m cap7) l.length (V.cellsI l) := by
          rw [hmF]
          exact (V.owns_lower hown7 (Nat.zero_le _)).alloc _
        have hs7 : (fun w' => w'.cell? ⟨b, 0, none⟩ = some (.slice aL n cL)) Y7 := (HK.out Y7 hB7).1
        refine hK.out _ _ (fun _ => hs7) ?_
        replace hHeld := hs7
        clear hK K
        try simp only [Act.put, List.setIfInBounds_toArray, List.set_cons_zero, List.set_cons_succ, List.getElem_toArray, List.getElem_cons_zero, List.getElem_cons_succ]
        refine wpAnyL_one (i := 8) (by kernel_rfl) rfl (fun K hK => ?_)
        have hB8 : Below Z.heap.size Z (Y7.alloc (Obj.cells #[.slice (some ⟨Z.heap.size + 1, 0, none⟩) m cap7] 31)) := hB7.trans ((below_new _ _).mono hB7.size)
        have hs8 : (fun w' => w'.cell? ⟨b, 0, none⟩ = some (.slice aL n cL)) (Y7.alloc (Obj.cells #[.slice (some ⟨Z.heap.size + 1, 0, none⟩) m cap7] 31)) := (HK.out _ hB8).1
        go_simp
        refine hK.out _ _ (fun _ => hs8) ?_
        replace hHeld := hs8
        clear hK K
        try simp only [Act.put, List.setIfInBounds_toArray, List.set_cons_zero, List.set_cons_succ, List.getElem_toArray, List.getElem_cons_zero, List.getElem_cons_succ]
        refine wpAnyL_one (i := 9) (by kernel_rfl) rfl (fun K hK => ?_)
        obtain ⟨us, hus, hrows⟩ := (HK.out _ hB8).2.2.row
        rw [HN.out] at hus
        refine step_appF rfl _ _ rfl B (.slice aL n cL) n us rfl hus ⟨Y7.heap.size, 0, none⟩ _ rfl (cell_one_new' _ _ _) rfl HBd.out.2.2.1 (Nat.le_trans HBd.out.2.2.2 hB8.size) (fun v9 Y9 hG9 => ?_)
        obtain ⟨a9, c9, rfl⟩ := own_slice hG9.own
        have hR9 := RStk.app (HK.out _ hB8).2.2 hus hrows HN.out hown7' HOl.out hG9
        have hs9 : (fun w' => w'.cell? ⟨b, 0, none⟩ = some (.slice aL n cL)) Y9 := hR9.1.cell 0
        refine hK.out _ _ (fun _ => hs9) ?_
        replace hHeld := hs9
        clear hK K
        try simp only [Act.put, List.setIfInBounds_toArray, List.set_cons_zero, List.set_cons_succ, List.getElem_toArray, List.getElem_cons_zero, List.getElem_cons_succ]
        refine wpAnyL_take [11, 12] (i := 10) (v := ?_) (by kernel_rfl) (by kernel_rfl) (by kernel_rfl) rfl (by kernel_rfl) (by kernel_rfl) (by kernel_rfl) (fun _ _ _ h => h) (Or.inl ⟨by rfl, ?_⟩) hHeld ?_
        rotate_left
        · (intro w hSw; (try dsimp only at hSw); go_simp; try with_reducible rfl)
        try simp only [Act.put, List.setIfInBounds_toArray, List.set_cons_zero, List.set_cons_succ, List.getElem_toArray, List.getElem_cons_zero, List.getElem_cons_succ]
        refine wpAnyL_take [12] (i := 11) (v := ?_) (by kernel_rfl) (by kernel_rfl) (by kernel_rfl) rfl (by kernel_rfl) (by kernel_rfl) (by kernel_rfl) (fun _ _ _ h => h) (Or.inl ⟨by rfl, ?_⟩) hHeld ?_
        rotate_left
        · (intro w hSw; (try dsimp only at hSw); go_simp; try with_reducible rfl)
        try simp only [Act.put, List.setIfInBounds_toArray, List.set_cons_zero, List.set_cons_succ, List.getElem_toArray, List.getElem_cons_zero, List.getElem_cons_succ]
        refine wpAnyL_one (i := 12) (by kernel_rfl) rfl (fun K hK => ?_)
        have fz9 := hR9.1.f 0
        go_simp
        refine hK.out _ _ (fun h => by cases h) ?_
        clear hK K
        try simp only [Act.put, List.setIfInBounds_toArray, List.set_cons_zero, List.set_cons_succ, List.getElem_toArray, List.getElem_cons_zero, List.getElem_cons_succ]
        refine wpAnyL_done (by kernel_rfl) ?_ _
        obtain ⟨q1, q2, q3⟩ := hR9
        have HEND : Hid (RatT B X b (.slice aL ls.length cL) ls l (.returned (.int .i64 0)) (Y9.setCell ⟨b, 0, none⟩ (.slice a9 (n + 1) c9))) := by
          have hg9 : World.grownBy (Y7.alloc (Obj.cells #[.slice (some ⟨Z.heap.size + 1, 0, none⟩) m cap7] 31)) Y9 (Value.slice aL ls.length cL).ownBlock := by rw [hnF]; exact hG9.grown
          refine ⟨by rw [HA0.out], g2_trans (g2_below (HX6.out.trans (hB8.mono HX6.out.size)) _ _) (g2_trans (g2_right (s := (Value.slice aL ls.length cL).ownBlock) hg9 _) (g2_left (grown_set _ _ _ _) _)), .slice a9 (n + 1) c9, q1.set 0 _, us ++ [.slice (some ⟨Z.heap.size + 1, 0, none⟩) m cap7], ?_, ?_⟩
          · have hAL : attL ls l = ls ++ [l] := by unfold attL; rw [if_pos HA0.out]
            rw [hAL, List.length_append, List.length_singleton, hnF]
            exact q2.kept (grown_set _ _ _ _) (row_ne (by decide) q2 q1)
          · have hAL : attL ls l = ls ++ [l] := by unfold attL; rw [if_pos HA0.out]
            rw [hAL]
            intro i k hi
            obtain ⟨y, p1, p2, p3⟩ := q3 i k hi
            exact ⟨y, p1, p2.kept (grown_set _ _ _ _) (row_ne (by decide) p2 q1), p3⟩
        clear q1 q2 q3 hG9 hs9 fz9 hs8 hB8 hs7 hB7 hb7 hown7 hown7' hs5 hc5 hHeld hS6 HK HX6 hus hrows es
        go_wp2_with fail
        go_ret
        exact HEND.out
  · have hq : ((V.chk l).1 == 0) = false := by simpa using h0
    have hq2 : ((V.chk l).1 != 0) = true := by simpa using h0
    have hA : attE ls l = (V.chk l).1 := by unfold attE; rw [if_neg h0]
    have HT : Hid (∀ W, Below X.heap.size X W → RatT B X b (.slice aL ls.length cL) ls l (.returned (.int .i64 (V.chk l).1)) W) := fun W hW => ⟨by rw [hA], g2_below hW _ _, _, by unfold attL; rw [if_neg (by rw [hA]; exact h0)]; exact HR.out W hW⟩
    generalize V.chk l = ck at *
    clear hA hIns hR h0
    go_enter Try.func11, Try.ntmps11
    go_wp2_with (first | (go_at_call 23; refine HCk.out.mono ?_; rintro e w1 ⟨rfl, b1⟩))
    go_ret
    exact HT.out _ b1

end Go.Proofs.Ytamioifoemklfaa
