/-
  StAtt SkMath SkAns.
-/
import Derived.Test.YtmcgcbgblgmmkaaGreatDoorQ38
import Derived.Test.YtmcgcbgblgmmkaaGreatDoorQ7
import Derived.Test.YtmcgcbgblgmmkaaGreatDoorQ13
import Derived.Test.YtmcgcbgblgmmkaaGreatDoorQ0
set_option maxRecDepth 8000
set_option maxHeartbeats 4000000
namespace Go.Proofs.YtmcgcbgblgmmkaaGreatDoor.S
open G (wpAnyL_done wpAnyL_one wpAnyL_take wp_region_late)
open Go.RowKit
def AttT (X : World) (b : Nat) (vc ve : Value) (ls : List (List V.In)) (l : List V.In) (e : Ending) (Y : World) : Prop :=
 e = .returned (.int .i64 (attE ls l)) /\ X.grownBy Y (some b) /\ ((attE ls l ≠ 0 /\ StkV Y b vc ve ls) \/
  (attE ls l = 0 /\ ∃ vc' ve', StkV Y b vc' ve' (ls ++ [l]) /\ (∀ j, vc'.ownBlock = some j -> X.heap.size <= j) /\ ∀ j, ve'.ownBlock = some j -> X.heap.size <= j))
theorem step_growI {w : World} {ops : Array Oper} {o : Oper} {a : Act} {K : Act -> World -> Prop} {Q : Exit -> Act -> World -> Prop} {E : Prop} (hgd : o.guard = none) (s x : Operand)
  (ho : o.op = .call { callee := .builtin .append, args := #[s, x], argTypes := #[61, 61] }) (ac : Option Addr) (n cc : Nat) (L : List V.In) (hs : a.eval s = .slice ac n n) (hown : w.ownsRow 0 156 4 (.slice ac n cc) n (V.cellsI L))
  (ad : Addr) (m c : Nat) (hx : a.eval x = .slice (some ad) m c) (k : List V.In) (hk : V.Ins w (some ad) m k) (hm : 0 < m) (hn : n + m <= 100000)
  (h : ∀ cap' w', w'.ownsRow w.heap.size 156 4 (.slice (some ⟨w.heap.size, 0, none⟩) (n + m) cap') (n + m) (V.cellsI (L ++ k)) -> Below w.heap.size w w' -> K (a.put o.dst (.slice (some ⟨w.heap.size, 0, none⟩) (n + m) cap')) w') :
  if Region.wanted o (yielded ops a.tmps) = true then Oper.wp Tryz.prog o a w K Q else E := by
 rw [if_pos (by simp [Region.wanted, hgd])]
 obtain ⟨i0, hi, hz0, hz1, hz2⟩ := info_parts V.Tryz.info156
 obtain ⟨cap', w', hrun, h1, h2⟩ := run_fresh (P := Tryz.prog) w 61 o.type 156 i0 _ 4 8 Tryz.underlying61 hi hz0 hz1 hz2 rfl ac n cc (V.cellsI L) hown ad m c (V.cellsI k) (by rw [V.cellsI_length, hk.1]) hk.news (V.cellsI_kind k) hm (by unfold maxLen; omega) (by omega)
 unfold Oper.wp execOp
 simp only [ho, resolve, invoke, builtin, Sem.run_bind, Sem.run_pure, Result.andThen_ok, List.map_toArray, List.map_cons, List.map_nil, hs, hx, hrun]
 exact h _ _ (by rw [V.cellsI_app]; exact h1) h2
theorem step_growN {w : World} {ops : Array Oper} {o : Oper} {a : Act} {K : Act -> World -> Prop} {Q : Exit -> Act -> World -> Prop} {E : Prop} (hgd : o.guard = none) (s x : Operand)
  (ho : o.op = .call { callee := .builtin .append, args := #[s, x], argTypes := #[65, 65] }) (ac : Option Addr) (n cc : Nat) (L : List Int) (hs : a.eval s = .slice ac n n) (hown : w.ownsRow 0 3 1 (.slice ac n cc) n (V.cellsN L))
  (ad : Addr) (c : Nat) (z : Int) (hx : a.eval x = .slice (some ad) 1 c) (hz : w.cell? ad = some (.int .i64 z)) (hn : n <= 100000)
  (h : ∀ cap' w', w'.ownsRow w.heap.size 3 1 (.slice (some ⟨w.heap.size, 0, none⟩) (n + 1) cap') (n + 1) (V.cellsN (L ++ [z])) -> Below w.heap.size w w' -> K (a.put o.dst (.slice (some ⟨w.heap.size, 0, none⟩) (n + 1) cap')) w') :
  if Region.wanted o (yielded ops a.tmps) = true then Oper.wp Tryz.prog o a w K Q else E := by
 rw [if_pos (by simp [Region.wanted, hgd])]
 obtain ⟨i0, hi, hz0, hz1, hz2⟩ := info_parts V.Tryz.info3
 obtain ⟨cap', w', hrun, h1, h2⟩ := run_fresh (P := Tryz.prog) w 65 o.type 3 i0 _ 1 8 Tryz.underlying65 hi hz0 hz1 hz2 rfl ac n cc (V.cellsN L) hown ad 1 c [.int .i64 z] rfl (by
  intro j x hx
  match j, hx with
  | 0, hx =>
   cases hx
   have : ad.add 0 = ad := by obtain ⟨b, o, s⟩ := ad; cases s <;> simp [Addr.add]
   rw [this]
   exact hz) (by intro x hx; rw [List.mem_singleton] at hx; subst hx; rfl) (by decide) (by unfold maxLen; omega) (by omega)
 unfold Oper.wp execOp
 simp only [ho, resolve, invoke, builtin, Sem.run_bind, Sem.run_pure, Result.andThen_ok, List.map_toArray, List.map_cons, List.map_nil, hs, hx, hrun]
 exact h _ _ (by rw [V.cellsN_app]; exact h1) h2
theorem cell_one_new' (w : World) (u : Value) (t : TypeId) : (w.alloc (Obj.cells #[u] t)).cell? ⟨w.heap.size, 0, none⟩ = some u := (F.D.blk_new w #[u] t).cell 0
set_option linter.unusedSimpArgs false in
theorem attach_any (X : World) (b : Nat) (vc ve v : Value) (ls : List (List V.In)) (l : List V.In) (hS : StkV X b vc ve ls) (hok : OkS ls) (hf : FlV X v l) :
  Calls Tryz.prog 16 #[.pointer (some ⟨b, 0, none⟩), v] X fun e Y => AttT X b vc ve ls l e Y := by
 obtain ⟨af, cf, rfl, hIns, hlm, hlc, _⟩ := hf
 have HI : Hid (∀ W, Below X.heap.size X W -> V.Ins W af l.length l) := fun W hW => hIns.below hW
 have HS : Hid (∀ W, Below X.heap.size X W -> StkV W b vc ve ls) := fun W hW => hS.over hW
 have hfl : ls.flatten.length + 4 * ls.length <= 32768 := by have := hok.2.2; rw [cost_flat] at this; exact this
 have h32 := hok.2.1
 have HCk : Hid (Calls Tryz.prog 38 #[.slice af l.length cf] X fun e w' => V.Told X w' e (V.chk l)) := V.check_any af l.length cf l X hlm hIns
 unfold V.Told at HCk
 have HLn : Hid (∀ W, Below X.heap.size X W -> Calls Tryz.prog 39 #[.pointer (some ⟨b, 0, none⟩)] W fun e w' => e = .returned (.int .i64 (ls.length : Nat)) /\ w' = W) := fun W hW => len_any W b vc ve ls (hS.over hW)
 have HCo : Hid (∀ W, Below X.heap.size X W -> Calls Tryz.prog 40 #[.pointer (some ⟨b, 0, none⟩)] W fun e w' => e = .returned (.int .i64 (costL ls : Nat)) /\ Below W.heap.size W w') := fun W hW => cost_any W b vc ve ls (hS.over hW) (by omega) (by omega)
 have hcb : costL ls <= 32768 := hok.2.2
 have hll : l.length <= 9223372036854775807 := by unfold maxLen at hlm; omega
 by_cases h0 : (V.chk l).1 = 0
 ·have hcl := chk_len h0
  have hq : ((V.chk l).1 == 0) = true := by rw [h0]; rfl
  have hq2 : ((V.chk l).1 != 0) = false := by rw [h0]; rfl
  have HA : Hid (attE ls l = if 32 <= ls.length \/ 32768 < costL ls + (l.length + 4) then 16 else 0) := by unfold Hid attE; rw [if_pos h0]
  generalize V.chk l = ck at *
  by_cases h1 : ls.length = 32
  ·have hA : attE ls l = 16 := by rw [HA.out, if_pos (.inl (by omega))]
   have HT : Hid (∀ W, Below X.heap.size X W -> AttT X b vc ve ls l (.returned (.int .i64 16)) W) := fun W hW => ⟨by rw [hA], grown_of_below hW _, .inl ⟨by rw [hA]; decide, HS.out W hW⟩⟩
   have h1b : ((ls.length : Int) == 32) = true := by rw [h1]; rfl
   clear hA HA hIns hS
   go_enter Tryz.func16, Tryz.ntmps16
   go_wp2_with (first | (go_at_call 38; refine HCk.out.mono ?_; rintro e w1 ⟨rfl, b1⟩) | (go_at_call 39; refine (HLn.out _ b1).mono ?_; rintro e w2 ⟨rfl, rfl⟩))
   go_ret
   exact HT.out _ (by assumption)
  ·have h1b : ((ls.length : Int) == 32) = false := by simp; omega
   by_cases h2 : 32768 < costL ls + (l.length + 4)
   ·have hA : attE ls l = 16 := by rw [HA.out, if_pos (.inr h2)]
    have HT : Hid (∀ W, Below X.heap.size X W -> AttT X b vc ve ls l (.returned (.int .i64 16)) W) := fun W hW => ⟨by rw [hA], grown_of_below hW _, .inl ⟨by rw [hA]; decide, HS.out W hW⟩⟩
    have h2b : (32768 : Int) < (costL ls : Int) + (l.length : Int) + 4 := by omega
    have e1 : IntKind.i64.wrap ((costL ls : Int) + (l.length : Int)) = (costL ls : Int) + (l.length : Int) := by rw [IntKind.wrap_i64]; omega
    have e2 : IntKind.i64.wrap ((costL ls : Int) + (l.length : Int) + 4) = (costL ls : Int) + (l.length : Int) + 4 := by rw [IntKind.wrap_i64]; omega
    clear hA HA hIns hS h2
    generalize costL ls = cl at *
    go_enter Tryz.func16, Tryz.ntmps16
    go_wp2_with (first | (go_at_call 38; refine HCk.out.mono ?_; rintro e w1 ⟨rfl, b1⟩) | (go_at_call 39; refine (HLn.out _ b1).mono ?_; rintro e w2 ⟨rfl, rfl⟩) | (go_at_call 40; refine (HCo.out _ b1).mono ?_; rintro e w3 ⟨rfl, b3⟩))
    go_ret
    exact HT.out _ (b1.trans (b3.mono b1.size))
   ·have hA : attE ls l = 0 := by rw [HA.out, if_neg (by omega)]
    have HA0 : Hid (attE ls l = 0) := hA
    obtain ⟨zs, hzs⟩ : ∃ zs : Int, zs = (costL ls : Int) + (l.length : Int) + 4 := ⟨_, rfl⟩
    have h2b : decide ((32768 : Int) < zs) = false := by simp; omega
    have e1 : IntKind.i64.wrap ((costL ls : Int) + (l.length : Int)) = (costL ls : Int) + (l.length : Int) := by rw [IntKind.wrap_i64]; omega
    have e2 : IntKind.i64.wrap ((costL ls : Int) + (l.length : Int) + 4) = zs := by rw [IntKind.wrap_i64]; omega
    have HBd : Hid (ls.flatten.length + l.length <= 100000 /\ ls.length <= 100000 /\ 0 < l.length) := ⟨by omega, by omega, by omega⟩
    obtain ⟨ac, cc, rfl⟩ := own_slice hS.code
    obtain ⟨ae, ce, rfl⟩ := own_slice hS.ends
    obtain ⟨ad, rfl⟩ : ∃ ad, af = some ad := by
     cases af with
     | none => have := (V.Ins.nil hIns).1; omega
     | some ad => exact ⟨ad, rfl⟩
    have HSF : Hid (∀ W, (Instr.slice 61 (.slice ac ls.flatten.length cc) none (some (.int .i64 (ls.flatten.length : Nat))) (some (.int .i64 (ls.flatten.length : Nat)))).run Tryz.prog W = .ok (.slice ac ls.flatten.length ls.flatten.length) W /\ (Instr.slice 65 (.slice ae ls.length ce) none (some (.int .i64 (ls.length : Nat))) (some (.int .i64 (ls.length : Nat)))).run Tryz.prog W = .ok (.slice ae ls.length ls.length) W) := fun W => by
     obtain ⟨i0, hi0, _, hz1, _⟩ := info_parts V.Tryz.info156
     obtain ⟨i3, hi3, _, hy1, _⟩ := info_parts V.Tryz.info3
     refine ⟨slice_full W 61 156 Tryz.underlying61 ac ?_ _ cc ?_ ?_ (sz := 4) (by simp [sizeOf, typeInfo, hi0, hz1]), slice_full W 65 3 Tryz.underlying65 ae ?_ _ ce ?_ ?_ (sz := 1) (by simp [sizeOf, typeInfo, hi3, hy1])⟩
     ·rcases hS.code.2 with ⟨e, _⟩ | ⟨g, _, _, e, _⟩ <;> simp at e
      ·exact .inl e.1
      ·exact .inr ⟨g, e.1⟩
     ·rcases hS.code.2 with ⟨e, _⟩ | ⟨g, _, _, e, _, _, h, _⟩ <;> simp at e <;> omega
     ·rcases hS.code.2 with ⟨e, _⟩ | ⟨g, _, _, e, _, _, _, h, _⟩ <;> simp at e <;> omega
     ·rcases hS.ends.2 with ⟨e, _⟩ | ⟨g, _, _, e, _⟩ <;> simp at e
      ·exact .inl e.1
      ·exact .inr ⟨g, e.1⟩
     ·rcases hS.ends.2 with ⟨e, _⟩ | ⟨g, _, _, e, _, _, h, _⟩ <;> simp at e <;> omega
     ·rcases hS.ends.2 with ⟨e, _⟩ | ⟨g, _, _, e, _, _, _, h, _⟩ <;> simp at e <;> omega
    have HFlat : Hid ((ls ++ [l]).flatten = ls.flatten ++ l /\ endsF 0 (ls ++ [l]) = endsF 0 ls ++ [((ls.flatten.length + l.length : Nat) : Int)]) := ⟨by simp, by rw [endsF_snoc, Nat.zero_add]⟩
    clear hA HA hIns h2 hS hfl hcb hll hcl hzs h32 hlm hlc hok
    generalize costL ls = cl at *
    go_enter Tryz.func16, Tryz.ntmps16
    go_upto_region 6 with (first | (go_at_call 38; refine HCk.out.mono ?_; rintro e w1 ⟨rfl, b1⟩) | (go_at_call 39; refine (HLn.out _ b1).mono ?_; rintro e w2 ⟨rfl, rfl⟩) | (go_at_call 40; refine (HCo.out _ b1).mono ?_; rintro e w2 ⟨rfl, b2⟩))
    have HB2 : Hid (Below X.heap.size X w2) := b1.trans (b2.mono b1.size)
    have hS2 := (HS.out w2 HB2.out).drew
    have HI2 : Hid (V.Ins w2.drew (some ad) l.length l) := HI.out w2 HB2.out
    have HK2 : Hid (∀ W, Below w2.drew.heap.size w2.drew W -> W.cell? ⟨b, 0, none⟩ = some (.slice ac ls.flatten.length cc) /\ W.frozen? ⟨b, 0, none⟩ = false /\ StkV W b (.slice ac ls.flatten.length cc) (.slice ae ls.length ce) ls) := fun W hW => ⟨((hS2.over hW).blk).cell 0, ((hS2.over hW).blk).f 0, hS2.over hW⟩
    have HC2 : Hid (w2.drew.ownsRow 0 156 4 (.slice ac ls.flatten.length cc) ls.flatten.length (V.cellsI ls.flatten)) := hS2.code
    have hS6 := (HK2.out w2.drew (Below.refl _ _)).1
    have HX6 : Hid (X.grownBy w2.drew (some b)) := grown_of_below HB2.out.drew _
    have hsl := fun W => (HSF.out W).1
    clear b1 b2 hS2 HCk HLn HCo HI
    generalize hnF : ls.flatten.length = n at *
    generalize hL : ls.flatten = L at *
    generalize hmF : l.length = m at *
    refine wp_region_late (E := [20]) (S := (fun w' => w'.cell? ⟨b, 0, none⟩ = some (.slice ac n cc))) (by kernel_rfl) (hS6) (fun hHeld => ?_)
    simp only [List.size_toArray, List.length_cons, List.length_nil, Nat.reduceAdd]
    generalize w2.drew = Z6 at *
    refine wpAnyL_take [18, 19, 20] (i := 0) (v := ?_) (by kernel_rfl) (by kernel_rfl) (by kernel_rfl) rfl (by kernel_rfl) (by kernel_rfl) (by kernel_rfl) (fun _ _ _ h => h) (Or.inl ⟨by rfl, ?_⟩) hHeld ?_
    rotate_left
    ·(intro w hSw; (try dsimp only at hSw); have s0 := hSw; go_simp; try with_reducible rfl)
    try simp only [Act.put, zA, zB, zC, zD, zE, zF]
    refine wpAnyL_take [2, 3, 4, 15, 17, 20] (i := 1) (v := ?_) (by kernel_rfl) (by kernel_rfl) (by kernel_rfl) rfl (by kernel_rfl) (by kernel_rfl) (by kernel_rfl) (fun _ _ _ h => h) (Or.inl ⟨by rfl, ?_⟩) hHeld ?_
    rotate_left
    ·(intro w hSw; (try dsimp only at hSw); have s0 := hSw; go_simp; try with_reducible rfl)
    try simp only [Act.put, zA, zB, zC, zD, zE, zF]
    refine wpAnyL_take [3, 4, 15, 17, 20] (i := 2) (v := ?_) (by kernel_rfl) (by kernel_rfl) (by kernel_rfl) rfl (by kernel_rfl) (by kernel_rfl) (by kernel_rfl) (fun _ _ _ h => h) (Or.inl ⟨by rfl, ?_⟩) hHeld ?_
    rotate_left
    ·(intro w hSw; (try dsimp only at hSw); have s0 := hSw; go_simp; try with_reducible rfl)
    try simp only [Act.put, zA, zB, zC, zD, zE, zF]
    refine wpAnyL_take [4, 15, 17, 20] (i := 3) (v := ?_) (by kernel_rfl) (by kernel_rfl) (by kernel_rfl) rfl (by kernel_rfl) (by kernel_rfl) (by kernel_rfl) (fun _ _ _ h => h) (Or.inl ⟨by rfl, ?_⟩) hHeld ?_
    rotate_left
    ·(intro w hSw; (try dsimp only at hSw); have s0 := hSw; go_simp; try with_reducible rfl)
    try simp only [Act.put, zA, zB, zC, zD, zE, zF]
    refine wpAnyL_take [15, 17, 20] (i := 4) (v := ?_) (by kernel_rfl) (by kernel_rfl) (by kernel_rfl) rfl (by kernel_rfl) (by kernel_rfl) (by kernel_rfl) (fun _ _ _ h => h) (Or.inl ⟨by rfl, ?_⟩) hHeld ?_
    rotate_left
    ·(intro w hSw; (try dsimp only at hSw); have s0 := hSw; go_simp; try with_reducible rfl)
    try simp only [Act.put, zA, zB, zC, zD, zE, zF]
    refine wpAnyL_take [6, 7, 8, 9, 15, 17, 20] (i := 5) (v := ?_) (by kernel_rfl) (by kernel_rfl) (by kernel_rfl) rfl (by kernel_rfl) (by kernel_rfl) (by kernel_rfl) (fun _ _ _ h => h) (Or.inl ⟨by rfl, ?_⟩) hHeld ?_
    rotate_left
    ·(intro w hSw; (try dsimp only at hSw); have s0 := hSw; go_simp; try with_reducible rfl)
    try simp only [Act.put, zA, zB, zC, zD, zE, zF]
    refine wpAnyL_take [7, 8, 9, 15, 17, 20] (i := 6) (v := ?_) (by kernel_rfl) (by kernel_rfl) (by kernel_rfl) rfl (by kernel_rfl) (by kernel_rfl) (by kernel_rfl) (fun _ _ _ h => h) (Or.inl ⟨by rfl, ?_⟩) hHeld ?_
    rotate_left
    ·(intro w hSw; (try dsimp only at hSw); have s0 := hSw; go_simp; try with_reducible rfl)
    try simp only [Act.put, zA, zB, zC, zD, zE, zF]
    refine wpAnyL_take [8, 9, 15, 17, 20] (i := 7) (v := ?_) (by kernel_rfl) (by kernel_rfl) (by kernel_rfl) rfl (by kernel_rfl) (by kernel_rfl) (by kernel_rfl) (fun _ _ _ h => h) (Or.inl ⟨by rfl, ?_⟩) hHeld ?_
    rotate_left
    ·(intro w hSw; (try dsimp only at hSw); have s0 := hSw; go_simp; try with_reducible rfl)
    try simp only [Act.put, zA, zB, zC, zD, zE, zF]
    refine wpAnyL_take [9, 15, 17, 20] (i := 8) (v := ?_) (by kernel_rfl) (by kernel_rfl) (by kernel_rfl) rfl (by kernel_rfl) (by kernel_rfl) (by kernel_rfl) (fun _ _ _ h => h) (Or.inl ⟨by rfl, ?_⟩) hHeld ?_
    rotate_left
    ·(intro w hSw; (try dsimp only at hSw); have s0 := hSw; go_simp; try with_reducible rfl)
    try simp only [Act.put, zA, zB, zC, zD, zE, zF]
    refine wpAnyL_take [15, 17, 20] (i := 9) (v := ?_) (by kernel_rfl) (by kernel_rfl) (by kernel_rfl) rfl (by kernel_rfl) (by kernel_rfl) (by kernel_rfl) (fun _ _ _ h => h) (Or.inl ⟨by rfl, ?_⟩) hHeld ?_
    rotate_left
    ·(intro w hSw; (try dsimp only at hSw); have s0 := hSw; go_simp; try with_reducible rfl)
    try simp only [Act.put, zA, zB, zC, zD, zE, zF]
    refine wpAnyL_take [11, 12, 13, 14, 15, 17, 20] (i := 10) (v := ?_) (by kernel_rfl) (by kernel_rfl) (by kernel_rfl) rfl (by kernel_rfl) (by kernel_rfl) (by kernel_rfl) (fun _ _ _ h => h) (Or.inl ⟨by rfl, ?_⟩) hHeld ?_
    rotate_left
    ·(intro w hSw; (try dsimp only at hSw); have s0 := hSw; go_simp; try with_reducible rfl)
    try simp only [Act.put, zA, zB, zC, zD, zE, zF]
    refine wpAnyL_take [12, 13, 14, 15, 17, 20] (i := 11) (v := ?_) (by kernel_rfl) (by kernel_rfl) (by kernel_rfl) rfl (by kernel_rfl) (by kernel_rfl) (by kernel_rfl) (fun _ _ _ h => h) (Or.inl ⟨by rfl, ?_⟩) hHeld ?_
    rotate_left
    ·(intro w hSw; (try dsimp only at hSw); have s0 := hSw; go_simp; try with_reducible rfl)
    try simp only [Act.put, zA, zB, zC, zD, zE, zF]
    refine wpAnyL_take [13, 14, 15, 17, 20] (i := 12) (v := ?_) (by kernel_rfl) (by kernel_rfl) (by kernel_rfl) rfl (by kernel_rfl) (by kernel_rfl) (by kernel_rfl) (fun _ _ _ h => h) (Or.inl ⟨by rfl, ?_⟩) hHeld ?_
    rotate_left
    ·(intro w hSw; (try dsimp only at hSw); have s0 := hSw; go_simp; try with_reducible rfl)
    try simp only [Act.put, zA, zB, zC, zD, zE, zF]
    refine wpAnyL_take [14, 15, 17, 20] (i := 13) (v := ?_) (by kernel_rfl) (by kernel_rfl) (by kernel_rfl) rfl (by kernel_rfl) (by kernel_rfl) (by kernel_rfl) (fun _ _ _ h => h) (Or.inl ⟨by rfl, ?_⟩) hHeld ?_
    rotate_left
    ·(intro w hSw; (try dsimp only at hSw); have s0 := hSw; go_simp; try with_reducible rfl)
    try simp only [Act.put, zA, zB, zC, zD, zE, zF]
    refine wpAnyL_take [15, 17, 20] (i := 14) (v := ?_) (by kernel_rfl) (by kernel_rfl) (by kernel_rfl) rfl (by kernel_rfl) (by kernel_rfl) (by kernel_rfl) (fun _ _ _ h => h) (Or.inl ⟨by rfl, ?_⟩) hHeld ?_
    rotate_left
    ·(intro w hSw; (try dsimp only at hSw); have s0 := hSw; go_simp; try with_reducible rfl)
    try simp only [Act.put, zA, zB, zC, zD, zE, zF]
    refine wpAnyL_take [17, 20] (i := 15) (v := ?_) (by kernel_rfl) (by kernel_rfl) (by kernel_rfl) rfl (by kernel_rfl) (by kernel_rfl) (by kernel_rfl) (fun _ _ _ h => h) (Or.inl ⟨by rfl, ?_⟩) hHeld ?_
    rotate_left
    ·(intro w hSw; (try dsimp only at hSw); have s0 := hSw; go_simp; try with_reducible rfl)
    try simp only [Act.put, zA, zB, zC, zD, zE, zF]
    refine wpAnyL_take [17, 20] (i := 16) (v := ?_) (by kernel_rfl) (by kernel_rfl) (by kernel_rfl) rfl (by kernel_rfl) (by kernel_rfl) (by kernel_rfl) (fun _ _ _ h => h) (Or.inl ⟨by rfl, ?_⟩) hHeld ?_
    rotate_left
    ·(intro w hSw; (try dsimp only at hSw); have s0 := hSw; go_simp; try with_reducible rfl)
    try simp only [Act.put, zA, zB, zC, zD, zE, zF]
    refine wpAnyL_one (i := 17) (by kernel_rfl) rfl (fun K hK => ?_)
    refine step_growI rfl _ _ rfl ac n cc L rfl HC2.out ad m cf rfl l HI2.out HBd.out.2.2 HBd.out.1 (fun cap6 Y6 hown6 hb6 => ?_)
    have hc6 : Y6.cell? ⟨b, 0, none⟩ = some (.slice ac n cc) := (HK2.out Y6 hb6).1
    refine hK.out _ _ (fun _ => hc6) ?_
    replace hHeld := hc6
    clear hK K
    try simp only [Act.put, zA, zB, zC, zD, zE, zF]
    refine wpAnyL_take [19, 20] (i := 18) (v := ?_) (by kernel_rfl) (by kernel_rfl) (by kernel_rfl) rfl (by kernel_rfl) (by kernel_rfl) (by kernel_rfl) (fun _ _ _ h => h) (Or.inl ⟨by rfl, ?_⟩) hHeld ?_
    rotate_left
    ·(intro w hSw; (try dsimp only at hSw); go_simp; try with_reducible rfl)
    try simp only [Act.put, zA, zB, zC, zD, zE, zF]
    refine wpAnyL_take [20] (i := 19) (v := ?_) (by kernel_rfl) (by kernel_rfl) (by kernel_rfl) rfl (by kernel_rfl) (by kernel_rfl) (by kernel_rfl) (fun _ _ _ h => h) (Or.inl ⟨by rfl, ?_⟩) hHeld ?_
    rotate_left
    ·(intro w hSw; (try dsimp only at hSw); go_simp; try with_reducible rfl)
    try simp only [Act.put, zA, zB, zC, zD, zE, zF]
    refine wpAnyL_one (i := 20) (by kernel_rfl) rfl (fun K hK => ?_)
    have fz6 := (HK2.out Y6 hb6).2.1
    go_simp
    refine hK.out _ _ (fun h => by cases h) ?_
    clear hK K
    try simp only [Act.put, zA, zB, zC, zD, zE, zF]
    refine wpAnyL_done (by kernel_rfl) ?_ _
    have hS6Y := (HK2.out Y6 hb6).2.2
    have HZ6 : Hid (X.heap.size <= Z6.heap.size) := HX6.out.size
    have HB7 : Hid (F.D.Blk (Y6.setCell ⟨b, 0, none⟩ (.slice (some ⟨Z6.heap.size, 0, none⟩) (n + m) cap6)) b 67 [.slice (some ⟨Z6.heap.size, 0, none⟩) (n + m) cap6, .slice ae ls.length ce]) := hS6Y.blk.set 0 _
    have HC7 : Hid ((Y6.setCell ⟨b, 0, none⟩ (.slice (some ⟨Z6.heap.size, 0, none⟩) (n + m) cap6)).ownsRow 0 156 4 (.slice (some ⟨Z6.heap.size, 0, none⟩) (n + m) cap6) (n + m) (V.cellsI (L ++ l))) := (P.owns_lower hown6 (Nat.zero_le _)).kept (grown_set _ _ _ _) (row_ne (by decide) hown6 hS6Y.blk)
    have HE7 : Hid ((Y6.setCell ⟨b, 0, none⟩ (.slice (some ⟨Z6.heap.size, 0, none⟩) (n + m) cap6)).ownsRow 0 3 1 (.slice ae ls.length ce) ls.length (V.cellsN (endsF 0 ls))) := hS6Y.ends.kept (grown_set _ _ _ _) (row_ne (by decide) hS6Y.ends hS6Y.blk)
    have HX7 : Hid (X.grownBy (Y6.setCell ⟨b, 0, none⟩ (.slice (some ⟨Z6.heap.size, 0, none⟩) (n + m) cap6)) (some b)) := grown_trans HX6.out (grown_trans (grown_of_below hb6 _) (grown_set _ _ _ _))
    clear hS6Y hown6 hb6 hc6 fz6 HK2 HC2 HI2 hS6 hHeld HX6 hsl HS HB2
    have hsl := fun W => (HSF.out W).2
    generalize (Y6.setCell ⟨b, 0, none⟩ (.slice (some ⟨Z6.heap.size, 0, none⟩) (n + m) cap6)) = w7 at *
    generalize Z6.heap.size = g6 at *
    have HNM : Hid (n + m = n + m) := rfl
    generalize hnm : n + m = nm at HNM HB7 HC7 HX7 ⊢
    generalize hk : ls.length = k at *
    go_upto_region 7 with fail
    have HK7 : Hid (∀ W, Below w7.drew.heap.size w7.drew W -> W.cell? ⟨b, 0, none⟩ = some (.slice (some ⟨g6, 0, none⟩) nm cap6) /\ W.cell? ⟨b, 1, none⟩ = some (.slice ae k ce) /\ W.frozen? ⟨b, 1, none⟩ = false /\ W.ownsRow 0 3 1 (.slice ae k ce) k (V.cellsN (endsF 0 ls)) /\ F.D.Blk W b 67 [.slice (some ⟨g6, 0, none⟩) nm cap6, .slice ae k ce] /\ W.ownsRow 0 156 4 (.slice (some ⟨g6, 0, none⟩) nm cap6) nm (V.cellsI (L ++ l))) := fun W hW => by
     have q := HB7.out.drew.over hW
     exact ⟨q.cell 0, q.cell 1, q.f 1, own_over HE7.out.drew hW, q, own_over HC7.out.drew hW⟩
    have hS7 : (fun w' => w'.cell? ⟨b, 0, none⟩ = some (.slice (some ⟨g6, 0, none⟩) nm cap6) /\ w'.cell? ⟨b, 1, none⟩ = some (.slice ae k ce)) w7.drew := ⟨(HK7.out _ (Below.refl _ _)).1, (HK7.out _ (Below.refl _ _)).2.1⟩
    have HX7b : Hid (X.grownBy w7.drew (some b)) := grown_trans HX7.out (grown_of_below (Below.refl _ _).drew _)
    clear HX7 HB7 HC7 HE7
    refine wp_region_late (E := [25]) (S := (fun w' => w'.cell? ⟨b, 0, none⟩ = some (.slice (some ⟨g6, 0, none⟩) nm cap6) /\ w'.cell? ⟨b, 1, none⟩ = some (.slice ae k ce))) (by kernel_rfl) (hS7) (fun hHeld => ?_)
    simp only [List.size_toArray, List.length_cons, List.length_nil, Nat.reduceAdd]
    generalize w7.drew = Z7 at *
    refine wpAnyL_take [23, 24, 25] (i := 0) (v := ?_) (by kernel_rfl) (by kernel_rfl) (by kernel_rfl) rfl (by kernel_rfl) (by kernel_rfl) (by kernel_rfl) (fun _ _ _ h => h) (Or.inl ⟨by rfl, ?_⟩) hHeld ?_
    rotate_left
    ·(intro w hSw; (try dsimp only at hSw); have s0 := hSw.1; have s1 := hSw.2; go_simp; try with_reducible rfl)
    try simp only [Act.put, zA, zB, zC, zD, zE, zF]
    refine wpAnyL_take [2, 3, 4, 15, 22, 25] (i := 1) (v := ?_) (by kernel_rfl) (by kernel_rfl) (by kernel_rfl) rfl (by kernel_rfl) (by kernel_rfl) (by kernel_rfl) (fun _ _ _ h => h) (Or.inl ⟨by rfl, ?_⟩) hHeld ?_
    rotate_left
    ·(intro w hSw; (try dsimp only at hSw); have s0 := hSw.1; have s1 := hSw.2; go_simp; try with_reducible rfl)
    try simp only [Act.put, zA, zB, zC, zD, zE, zF]
    refine wpAnyL_take [3, 4, 15, 22, 25] (i := 2) (v := ?_) (by kernel_rfl) (by kernel_rfl) (by kernel_rfl) rfl (by kernel_rfl) (by kernel_rfl) (by kernel_rfl) (fun _ _ _ h => h) (Or.inl ⟨by rfl, ?_⟩) hHeld ?_
    rotate_left
    ·(intro w hSw; (try dsimp only at hSw); have s0 := hSw.1; have s1 := hSw.2; go_simp; try with_reducible rfl)
    try simp only [Act.put, zA, zB, zC, zD, zE, zF]
    refine wpAnyL_take [4, 15, 22, 25] (i := 3) (v := ?_) (by kernel_rfl) (by kernel_rfl) (by kernel_rfl) rfl (by kernel_rfl) (by kernel_rfl) (by kernel_rfl) (fun _ _ _ h => h) (Or.inl ⟨by rfl, ?_⟩) hHeld ?_
    rotate_left
    ·(intro w hSw; (try dsimp only at hSw); have s0 := hSw.1; have s1 := hSw.2; go_simp; try with_reducible rfl)
    try simp only [Act.put, zA, zB, zC, zD, zE, zF]
    refine wpAnyL_take [15, 22, 25] (i := 4) (v := ?_) (by kernel_rfl) (by kernel_rfl) (by kernel_rfl) rfl (by kernel_rfl) (by kernel_rfl) (by kernel_rfl) (fun _ _ _ h => h) (Or.inl ⟨by rfl, ?_⟩) hHeld ?_
    rotate_left
    ·(intro w hSw; (try dsimp only at hSw); have s0 := hSw.1; have s1 := hSw.2; go_simp; try with_reducible rfl)
    try simp only [Act.put, zA, zB, zC, zD, zE, zF]
    refine wpAnyL_take [6, 7, 8, 9, 15, 22, 25] (i := 5) (v := ?_) (by kernel_rfl) (by kernel_rfl) (by kernel_rfl) rfl (by kernel_rfl) (by kernel_rfl) (by kernel_rfl) (fun _ _ _ h => h) (Or.inl ⟨by rfl, ?_⟩) hHeld ?_
    rotate_left
    ·(intro w hSw; (try dsimp only at hSw); have s0 := hSw.1; have s1 := hSw.2; go_simp; try with_reducible rfl)
    try simp only [Act.put, zA, zB, zC, zD, zE, zF]
    refine wpAnyL_take [7, 8, 9, 15, 22, 25] (i := 6) (v := ?_) (by kernel_rfl) (by kernel_rfl) (by kernel_rfl) rfl (by kernel_rfl) (by kernel_rfl) (by kernel_rfl) (fun _ _ _ h => h) (Or.inl ⟨by rfl, ?_⟩) hHeld ?_
    rotate_left
    ·(intro w hSw; (try dsimp only at hSw); have s0 := hSw.1; have s1 := hSw.2; go_simp; try with_reducible rfl)
    try simp only [Act.put, zA, zB, zC, zD, zE, zF]
    refine wpAnyL_take [8, 9, 15, 22, 25] (i := 7) (v := ?_) (by kernel_rfl) (by kernel_rfl) (by kernel_rfl) rfl (by kernel_rfl) (by kernel_rfl) (by kernel_rfl) (fun _ _ _ h => h) (Or.inl ⟨by rfl, ?_⟩) hHeld ?_
    rotate_left
    ·(intro w hSw; (try dsimp only at hSw); have s0 := hSw.1; have s1 := hSw.2; go_simp; try with_reducible rfl)
    try simp only [Act.put, zA, zB, zC, zD, zE, zF]
    refine wpAnyL_take [9, 15, 22, 25] (i := 8) (v := ?_) (by kernel_rfl) (by kernel_rfl) (by kernel_rfl) rfl (by kernel_rfl) (by kernel_rfl) (by kernel_rfl) (fun _ _ _ h => h) (Or.inl ⟨by rfl, ?_⟩) hHeld ?_
    rotate_left
    ·(intro w hSw; (try dsimp only at hSw); have s0 := hSw.1; have s1 := hSw.2; go_simp; try with_reducible rfl)
    try simp only [Act.put, zA, zB, zC, zD, zE, zF]
    refine wpAnyL_take [15, 22, 25] (i := 9) (v := ?_) (by kernel_rfl) (by kernel_rfl) (by kernel_rfl) rfl (by kernel_rfl) (by kernel_rfl) (by kernel_rfl) (fun _ _ _ h => h) (Or.inl ⟨by rfl, ?_⟩) hHeld ?_
    rotate_left
    ·(intro w hSw; (try dsimp only at hSw); have s0 := hSw.1; have s1 := hSw.2; go_simp; try with_reducible rfl)
    try simp only [Act.put, zA, zB, zC, zD, zE, zF]
    refine wpAnyL_take [11, 12, 13, 14, 15, 22, 25] (i := 10) (v := ?_) (by kernel_rfl) (by kernel_rfl) (by kernel_rfl) rfl (by kernel_rfl) (by kernel_rfl) (by kernel_rfl) (fun _ _ _ h => h) (Or.inl ⟨by rfl, ?_⟩) hHeld ?_
    rotate_left
    ·(intro w hSw; (try dsimp only at hSw); have s0 := hSw.1; have s1 := hSw.2; go_simp; try with_reducible rfl)
    try simp only [Act.put, zA, zB, zC, zD, zE, zF]
    refine wpAnyL_take [12, 13, 14, 15, 22, 25] (i := 11) (v := ?_) (by kernel_rfl) (by kernel_rfl) (by kernel_rfl) rfl (by kernel_rfl) (by kernel_rfl) (by kernel_rfl) (fun _ _ _ h => h) (Or.inl ⟨by rfl, ?_⟩) hHeld ?_
    rotate_left
    ·(intro w hSw; (try dsimp only at hSw); have s0 := hSw.1; have s1 := hSw.2; go_simp; try with_reducible rfl)
    try simp only [Act.put, zA, zB, zC, zD, zE, zF]
    refine wpAnyL_take [13, 14, 15, 22, 25] (i := 12) (v := ?_) (by kernel_rfl) (by kernel_rfl) (by kernel_rfl) rfl (by kernel_rfl) (by kernel_rfl) (by kernel_rfl) (fun _ _ _ h => h) (Or.inl ⟨by rfl, ?_⟩) hHeld ?_
    rotate_left
    ·(intro w hSw; (try dsimp only at hSw); have s0 := hSw.1; have s1 := hSw.2; go_simp; try with_reducible rfl)
    try simp only [Act.put, zA, zB, zC, zD, zE, zF]
    refine wpAnyL_take [14, 15, 22, 25] (i := 13) (v := ?_) (by kernel_rfl) (by kernel_rfl) (by kernel_rfl) rfl (by kernel_rfl) (by kernel_rfl) (by kernel_rfl) (fun _ _ _ h => h) (Or.inl ⟨by rfl, ?_⟩) hHeld ?_
    rotate_left
    ·(intro w hSw; (try dsimp only at hSw); have s0 := hSw.1; have s1 := hSw.2; go_simp; try with_reducible rfl)
    try simp only [Act.put, zA, zB, zC, zD, zE, zF]
    refine wpAnyL_take [15, 22, 25] (i := 14) (v := ?_) (by kernel_rfl) (by kernel_rfl) (by kernel_rfl) rfl (by kernel_rfl) (by kernel_rfl) (by kernel_rfl) (fun _ _ _ h => h) (Or.inl ⟨by rfl, ?_⟩) hHeld ?_
    rotate_left
    ·(intro w hSw; (try dsimp only at hSw); have s0 := hSw.1; have s1 := hSw.2; go_simp; try with_reducible rfl)
    try simp only [Act.put, zA, zB, zC, zD, zE, zF]
    refine wpAnyL_take [22, 25] (i := 15) (v := ?_) (by kernel_rfl) (by kernel_rfl) (by kernel_rfl) rfl (by kernel_rfl) (by kernel_rfl) (by kernel_rfl) (fun _ _ _ h => h) (Or.inl ⟨by rfl, ?_⟩) hHeld ?_
    rotate_left
    ·(intro w hSw; (try dsimp only at hSw); have s0 := hSw.1; have s1 := hSw.2; go_simp; try with_reducible rfl)
    try simp only [Act.put, zA, zB, zC, zD, zE, zF]
    refine wpAnyL_take [17, 18, 19, 20, 21, 22, 25] (i := 16) (v := ?_) (by kernel_rfl) (by kernel_rfl) (by kernel_rfl) rfl (by kernel_rfl) (by kernel_rfl) (by kernel_rfl) (fun _ _ _ h => h) (Or.inl ⟨by rfl, ?_⟩) hHeld ?_
    rotate_left
    ·(intro w hSw; (try dsimp only at hSw); have s0 := hSw.1; have s1 := hSw.2; go_simp; try with_reducible rfl)
    try simp only [Act.put, zA, zB, zC, zD, zE, zF]
    refine wpAnyL_take [18, 19, 20, 21, 22, 25] (i := 17) (v := ?_) (by kernel_rfl) (by kernel_rfl) (by kernel_rfl) rfl (by kernel_rfl) (by kernel_rfl) (by kernel_rfl) (fun _ _ _ h => h) (Or.inl ⟨by rfl, ?_⟩) hHeld ?_
    rotate_left
    ·(intro w hSw; (try dsimp only at hSw); have s0 := hSw.1; have s1 := hSw.2; go_simp; try with_reducible rfl)
    try simp only [Act.put, zA, zB, zC, zD, zE, zF]
    refine wpAnyL_take [19, 20, 21, 22, 25] (i := 18) (v := ?_) (by kernel_rfl) (by kernel_rfl) (by kernel_rfl) rfl (by kernel_rfl) (by kernel_rfl) (by kernel_rfl) (fun _ _ _ h => h) (Or.inl ⟨by rfl, ?_⟩) hHeld ?_
    rotate_left
    ·(intro w hSw; (try dsimp only at hSw); have s0 := hSw.1; have s1 := hSw.2; go_simp; try with_reducible rfl)
    try simp only [Act.put, zA, zB, zC, zD, zE, zF]
    refine wpAnyL_take [20, 21, 22, 25] (i := 19) (v := ?_) (by kernel_rfl) (by kernel_rfl) (by kernel_rfl) rfl (by kernel_rfl) (by kernel_rfl) (by kernel_rfl) (fun _ _ _ h => h) (Or.inl ⟨by rfl, ?_⟩) hHeld ?_
    rotate_left
    ·(intro w hSw; (try dsimp only at hSw); have s0 := hSw.1; have s1 := hSw.2; go_simp; try with_reducible rfl)
    try simp only [Act.put, zA, zB, zC, zD, zE, zF]
    refine wpAnyL_take [21, 22, 25] (i := 20) (v := ?_) (by kernel_rfl) (by kernel_rfl) (by kernel_rfl) rfl (by kernel_rfl) (by kernel_rfl) (by kernel_rfl) (fun _ _ _ h => h) (Or.inl ⟨by rfl, ?_⟩) hHeld ?_
    rotate_left
    ·(intro w hSw; (try dsimp only at hSw); have s0 := hSw.1; have s1 := hSw.2; go_simp; try with_reducible rfl)
    try simp only [Act.put, zA, zB, zC, zD, zE, zF]
    refine wpAnyL_one (i := 21) (by kernel_rfl) rfl (fun K hK => ?_)
    go_simp
    have hc8 := HK7.out (Z7.alloc (Obj.cells #[.int .i64 (nm : Nat)] 3)) (below_new _ _)
    have hs8 : (fun w' => w'.cell? ⟨b, 0, none⟩ = some (.slice (some ⟨g6, 0, none⟩) nm cap6) /\ w'.cell? ⟨b, 1, none⟩ = some (.slice ae k ce)) (Z7.alloc (Obj.cells #[.int .i64 (nm : Nat)] 3)) := ⟨hc8.1, hc8.2.1⟩
    go_wp2_with fail
    refine hK.out _ _ (fun _ => hs8) ?_
    replace hHeld := hs8
    clear hK K
    try simp only [Act.put, zA, zB, zC, zD, zE, zF]
    refine wpAnyL_one (i := 22) (by kernel_rfl) rfl (fun K hK => ?_)
    refine step_growN rfl _ _ rfl ae k ce (endsF 0 ls) rfl hc8.2.2.2.1 ⟨Z7.heap.size, 0, none⟩ 1 (nm : Nat) rfl (cell_one_new' _ _ _) HBd.out.2.1 (fun cap8 Y8 hown8 hb8 => ?_)
    have hc9 := HK7.out Y8 ((below_new _ _).trans (hb8.mono (by simp)))
    have hs9 : (fun w' => w'.cell? ⟨b, 0, none⟩ = some (.slice (some ⟨g6, 0, none⟩) nm cap6) /\ w'.cell? ⟨b, 1, none⟩ = some (.slice ae k ce)) Y8 := ⟨hc9.1, hc9.2.1⟩
    refine hK.out _ _ (fun _ => hs9) ?_
    replace hHeld := hs9
    clear hK K
    try simp only [Act.put, zA, zB, zC, zD, zE, zF]
    refine wpAnyL_take [24, 25] (i := 23) (v := ?_) (by kernel_rfl) (by kernel_rfl) (by kernel_rfl) rfl (by kernel_rfl) (by kernel_rfl) (by kernel_rfl) (fun _ _ _ h => h) (Or.inl ⟨by rfl, ?_⟩) hHeld ?_
    rotate_left
    ·(intro w hSw; (try dsimp only at hSw); go_simp; try with_reducible rfl)
    try simp only [Act.put, zA, zB, zC, zD, zE, zF]
    refine wpAnyL_take [25] (i := 24) (v := ?_) (by kernel_rfl) (by kernel_rfl) (by kernel_rfl) rfl (by kernel_rfl) (by kernel_rfl) (by kernel_rfl) (fun _ _ _ h => h) (Or.inl ⟨by rfl, ?_⟩) hHeld ?_
    rotate_left
    ·(intro w hSw; (try dsimp only at hSw); go_simp; try with_reducible rfl)
    try simp only [Act.put, zA, zB, zC, zD, zE, zF]
    refine wpAnyL_one (i := 25) (by kernel_rfl) rfl (fun K hK => ?_)
    have fz8 := hc9.2.2.1
    go_simp
    refine hK.out _ _ (fun h => by cases h) ?_
    clear hK K
    try simp only [Act.put, zA, zB, zC, zD, zE, zF]
    refine wpAnyL_done (by kernel_rfl) ?_ _
    have es : (Z7.alloc (Obj.cells #[.int .i64 (nm : Nat)] 3)).heap.size = Z7.heap.size + 1 := by simp
    have hB9 : Below Z7.heap.size Z7 Y8 := (below_new _ _).trans (hb8.mono (by simp))
    obtain ⟨qe, qb, qc⟩ := hc9.2.2.2
    rw [es] at hown8
    have HEND : Hid (AttT X b (.slice ac ls.flatten.length cc) (.slice ae ls.length ce) ls l (.returned (.int .i64 0)) (Y8.setCell ⟨b, 1, none⟩ (.slice (some ⟨Z7.heap.size + 1, 0, none⟩) (k + 1) cap8))) := by
     refine ⟨by rw [HA0.out], grown_trans HX7b.out (grown_trans (grown_of_below hB9 _) (grown_set _ _ _ _)), .inr ⟨HA0.out, .slice (some ⟨g6, 0, none⟩) nm cap6, .slice (some ⟨Z7.heap.size + 1, 0, none⟩) (k + 1) cap8, ⟨qb.set 1 _, ?_, ?_⟩, fun j hj => ?_, fun j hj => ?_⟩⟩
     ·rw [HFlat.out.1, List.length_append, hnF, hmF, hnm]
      exact qc.kept (grown_set _ _ _ _) (row_ne (by decide) qc qb)
     ·rw [HFlat.out.2, List.length_append, List.length_singleton, hk, hnm]
      exact (P.owns_lower hown8 (Nat.zero_le _)).kept (grown_set _ _ _ _) (row_ne (by decide) hown8 qb)
     ·cases hj
      exact HZ6.out
     ·cases hj
      have := HX7b.out.size
      show X.heap.size <= Z7.heap.size + 1
      omega
    clear qe qb qc hB9 es hown8 hb8 hc9 hc8 hs8 hs9 fz8 hHeld hS7 HK7 HX7b hsl HSF hnF hk hmF hL hnm h1 h1b
    go_wp2_with fail
    go_ret
    exact HEND.out
 ·have hq : ((V.chk l).1 == 0) = false := by simpa using h0
  have hq2 : ((V.chk l).1 != 0) = true := by simpa using h0
  have hA : attE ls l = (V.chk l).1 := by unfold attE; rw [if_neg h0]
  have HT : Hid (∀ W, Below X.heap.size X W -> AttT X b vc ve ls l (.returned (.int .i64 (V.chk l).1)) W) := fun W hW => ⟨by rw [hA], grown_of_below hW _, .inl ⟨by rw [hA]; exact h0, HS.out W hW⟩⟩
  generalize V.chk l = ck at *
  clear hA hIns hS h0
  go_enter Tryz.func16, Tryz.ntmps16
  go_wp2_with (first | (go_at_call 38; refine HCk.out.mono ?_; rintro e w1 ⟨rfl, b1⟩))
  go_ret
  exact HT.out _ b1
def plN (L : List Int) : Int := match L.findIdx? (fun y => y == A.most L) with | some i => (L.length : Int) - 1 - (i : Int) | none => -1
open M (cellsZ)
theorem runV_ok (l : List V.In) (d : M.Da) (ho : ∀ x ∈ l, x.ok) (hd : d.ok) (n : Nat) : ∀ (p : Nat) (s : V.St), s.ok -> (V.runV l d n p s).2.ok := by
 induction n with
 | zero => intro p s hs; exact hs
 | succ n ih =>
  intro p s hs
  unfold V.runV
  cases hx : l[p]? with
  | none => exact hs
  | some x => exact ih _ _ (V.nextV_ok _ d x p s hd (ho x (List.mem_of_getElem? hx)) hs)
theorem ansV_u (l : List V.In) (d : M.Da) (ho : ∀ x ∈ l, x.ok) (hd : d.ok) : V.U32 (V.ansV l d) := by
 unfold V.ansV
 split
 ·exact (runV_ok l d ho hd _ 0 _ V.zero_st).2.2.1
 ·exact ⟨by decide, by decide⟩
def ansL (ls : List (List V.In)) (d : M.Da) : List Int := (ls.map fun l => V.ansV l d).reverse
theorem ans_step {ls : List (List V.In)} {d : M.Da} {j : Nat} (h : j < ls.length) : ansL (ls.drop j) d = ansL (ls.drop (j + 1)) d ++ [V.ansV ls[j] d] := by
 unfold ansL
 rw [List.drop_eq_getElem_cons h, List.map_cons, List.reverse_cons]
theorem ansL_len (ls : List (List V.In)) (d : M.Da) : (ansL ls d).length = ls.length := by unfold ansL; rw [List.length_reverse, List.length_map]
theorem nine_of (d : M.Da) (h : d.ok) : ∃ d1 d2 d3 d4 d5 d6 d7 d8, d.cells = [.int .u32 d.n, d1, d2, d3, d4, d5, d6, d7, d8] := by
 obtain ⟨n, a, p, g⟩ := d
 obtain ⟨_, _, _, h6, _⟩ := h
 match g, h6 with
 | [g0, g1, g2, g3, g4, g5], _ => exact ⟨_, _, _, _, _, _, _, _, rfl⟩
theorem ns_of_own {w : World} {b : Nat} {v : Value} {l : List Int} (h : w.ownsRow b 31 1 v l.length (cellsZ l)) : ∃ a cap, v = .slice a l.length cap /\ V.Ns .u32 w a l.length l /\ l.length <= cap := by
 rcases h.2 with ⟨rfl, h0⟩ | ⟨g, cap, cur, rfl, hb, hg, hn, hm, _⟩
 ·refine ⟨none, 0, by rw [h0], ?_, by omega⟩
  exact ⟨rfl, fun h1 => by omega⟩
 ·refine ⟨_, cap, rfl, ⟨rfl, fun h1 => ⟨g, 0, rfl, fun i hi => ?_⟩⟩, hn⟩
  have := h.cells (g := g) rfl i (.int .u32 l[i]) (by unfold cellsZ; rw [List.getElem?_map, List.getElem?_eq_getElem hi]; rfl)
  rw [Addr.add_lit] at this
  rw [List.getD_eq_getElem?_getD, List.getElem?_eq_getElem hi]
  exact this
theorem find_none_at {L : List Int} {x : Int} {i : Nat} (h : ¬ i < L.length) (ha : ∀ j (hj : j < L.length), j < i -> L[j] ≠ x) : L.findIdx? (fun y => y == x) = none := by
 rw [List.findIdx?_eq_none_iff]
 intro y hy
 obtain ⟨j, hj, rfl⟩ := List.getElem_of_mem hy
 simpa using ha j hj (by omega)
theorem find_some_at {L : List Int} {x : Int} {i : Nat} (h : i < L.length) (hx : L[i] = x) (ha : ∀ j (hj : j < L.length), j < i -> L[j] ≠ x) : L.findIdx? (fun y => y == x) = some i := by
 rw [List.findIdx?_eq_some_iff_getElem]
 exact ⟨h, by rw [hx]; simp, fun j hj => by simpa using ha j (by omega) hj⟩
end Go.Proofs.YtmcgcbgblgmmkaaGreatDoor.S
