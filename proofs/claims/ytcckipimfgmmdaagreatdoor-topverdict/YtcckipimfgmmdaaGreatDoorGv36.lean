/-
  Texts of this seat, joined: TBuild.
-/
import Derived.Test.YtcckipimfgmmdaaGreatDoorGv35
import Derived.Maps.AppendAt

namespace Go.Proofs.YtcckipimfgmmdaaGreatDoor.T
open Go.RowKit Go.Shelf

attribute [local go_sem] Oper.semAt_some

def Bld (w w' : World) (e : Ending) (l : List Nat) (er : Int) : Prop := Below w.heap.size w w' ∧ ∃ v, e = .returned (.tuple #[v, .int .i64 er]) ∧ w'.ownsRow w.heap.size 3 1 v l.length (cellsN l)

theorem hKb {w : World} : ∀ (W : World) (l : Nat) (o o' : Obj), w.heap.size ≤ l → W.heap[l]? = some o → o.isCells = false → o.isWalk = false → KeepF W (W.putObj l o') := fun W l o o' _ h hc _ => keepF_b W l o o' h hc

theorem keepF_app {W w1 : World} {B : Nat} {t : TypeId} {n₀ : Nat} {v v' : Value} {k : Nat} {xs : List Value} {tmp : Obj} (ht : t ≠ 167)
    (hv : Boxed w1 B t v) (hrow : W.ownsRow n₀ 3 1 v k xs) (hgrow : (W.alloc tmp).grownBy w1 v.ownBlock) : KeepF W (w1.setCell ⟨B, 0, none⟩ v') := by
  refine ((KeepF.alloc W tmp).trans (KeepF.grown hgrow fun r x e hb => ?_)).trans (KeepF.set hv ht v')
  rcases (hrow.alloc tmp).2 with ⟨rfl, _⟩ | ⟨g, cap, cur, rfl, _, hgb, _⟩
  · cases e
  · cases e
    rw [show (W.alloc tmp).heap[g]? = _ from hb] at hgb
    simp at hgb
theorem KeepF.drew (W : World) : KeepF W W.drew := fun _ _ h => h

theorem stepIn_of {F : Fence} {n : Nat} {ops : Array Oper} {o : Oper} {a : Act} {w : World} {K : Act → World → Prop} {Q : Exit → Act → World → Prop} {E : Prop} (hgd : o.guard = none) (h : Oper.wpIn F n Tryz.prog o a w K Q) :
    if Region.wanted o (yielded ops a.tmps) = true then Oper.wpIn F n Tryz.prog o a w K Q else E := by
  rw [if_pos (by simp [Region.wanted, hgd])]
  exact h

theorem stepIn_append {F : Fence} {m : Nat} {w : World} {ops : Array Oper} {o : Oper} {a : Act} {K : Act → World → Prop} {Q : Exit → Act → World → Prop} {E : Prop} (hgd : o.guard = none) (s x : Operand)
    (ho : o.op = .call { callee := .builtin .append, args := #[s, x], argTypes := #[31, 31] })
    (base : Nat) (v : Value) (n : Nat) (l : List Nat) (hs : a.eval s = v) (hown : w.ownsRow base 3 1 v n (cellsN l))
    (z : Nat) (ad : Addr) (hx : a.eval x = .slice (some ad) 1 1) (hnew : w.cell? ad = some (.int .i64 z))
    (hn : n ≤ 1000000) (hbase : base ≤ w.heap.size)
    (h : ∀ v' w', w'.ownsRow base 3 1 v' (n + 1) (cellsN (l ++ [z])) → w.grownBy w' v.ownBlock → K (a.put o.dst v') w') :
    if Region.wanted o (yielded ops a.tmps) = true then Oper.wpIn F m Tryz.prog o a w K Q else E := by
  refine stepIn_of hgd ?_
  obtain ⟨i0, hi, hz0, hz1, hz2⟩ := info_parts Tryz.info3
  obtain ⟨v', w', hrun, r1, r2, r3⟩ := run_append_own (P := Tryz.prog) w base 31 o.type 3 i0 _ 1 8 Tryz.underlying31 hi hz0 hz1 hz2 rfl (by decide) v n (cellsN l) hown ad 1 1 (cellsN [z]) rfl (by
    intro j u hu
    match j, hu with
    | 0, hu => cases hu; exact hnew) (by intro u hu; simp [cellsN] at hu; subst hu; rfl) (by unfold maxLen; omega) (by omega) hbase
  unfold Oper.wpIn
  refine ⟨?_, ?_⟩
  · simp [Oper.about, ho, resolve, Target.leads, Sem.run_pure]
  · rw [Oper.semAt_plain F _ _ (by rw [ho]; intro c hc'; cases hc')]
    simp [execOp, ho, resolve, invoke, builtin, hs, hx, hrun, Result.andThen]
    exact h _ _ (by rw [cellsN_app]; exact r1) r2

set_option maxRecDepth 100000 in
set_option maxHeartbeats 4000000 in
theorem build_ok (a : Option Addr) (len cap : Nat) (l : List Int) (w : World) (h : Ns .u32 w a len l) (hB : bErr l = 0) :
    CallsIn Fence.wide 3 Tryz.prog 51 #[.slice a len cap] w fun e w' => Bld w w' e (mids 0 len) 0 := by
  have HW : Hid (∀ W : World, Below w.heap.size w W → CallsIn Fence.wide 2 Tryz.prog 88 #[.slice a len cap] W fun e w' => e = .returned (.int .i64 0) ∧ Below w.heap.size w w') := fun W hb => callsIn_wide.2 ((wrong_any a len cap l W (h.below hb)).mono fun e w' ⟨h1, h2⟩ => ⟨by rw [h1, hB], hb.trans (h2.mono hb.size)⟩)
  have h4 : len ≤ 4096 := by have := (bErr_zero hB).1; have := h.1; omega
  have H4 : Hid (len ≤ 4096) := h4
  obtain ⟨i0, hi, hz0, hz1, hz2⟩ := info_parts Tryz.info3
  clear h hB h4
  refine callsIn_of_wp_marks Tryz.func51 rfl trivial ?_ rfl
  simp only [Tryz.ntmps51, List.size_toArray, List.length_cons, List.length_nil, Nat.reduceAdd, Nat.reduceSub, Array.replicate_succ, Array.replicate_zero, List.push_toArray, List.append_toArray, List.nil_append, List.cons_append]
  gi_wp2_with (first
    | (refine ⟨trivial, ?_⟩; gi_at_call 88; refine (HW.out _ (Below.refl _ _)).mono ?_; rintro e w1 ⟨rfl, hb1⟩)
    | (refine ⟨trivial, ?_⟩; gi_at_call 89; refine (walk_in Fence.wide 2 trivial rfl _ _).mono ?_; rintro e w2 ⟨rfl, rfl⟩))
  have hs1 := hb1.size
  have bO := Boxed.new w1 31 (.slice none 0 0)
  have bN := Boxed.new (w1.alloc (.cells #[.slice none 0 0] 31)) 3 (.int .i64 (len : Int))
  rw [World.size_alloc] at bN
  have hB0 : Below w.heap.size w ((w1.alloc (.cells #[.slice none 0 0] 31)).alloc (.cells #[.int .i64 (len : Int)] 3)) := (hb1.alloc hs1 _).alloc (by simp; omega) _
  refine wpIn_rangeFunc_ownG (F := Fence.wide) rfl (by decide) (gf := 125) (lb := #[.pointer (some ⟨w1.heap.size + 1, 0, none⟩)]) rfl trivial (enters_of Tryz.func125 (by kernel_rfl) rfl)
    (walk_stops Fence.wide rfl 2 trivial trivial trivial trivial rfl (w1.heap.size + 1) len (by have := H4.out; omega) _ bN.cell) KeepF.trans hKb (Below.refl _ _) (fun _ => rfl)
    (fun pre W => (∃ v, Boxed W w1.heap.size 31 v ∧ W.ownsRow w.heap.size 3 1 v (midsOf (prs pre)).length (cellsN (midsOf (prs pre))) ∧ True) ∧ Below w.heap.size w W)
    (fun _ _ _ => False)
    (OwnFrom.and (Own.from (holdsRow_own w.heap.size w1.heap.size 31 3 1 (fun pre => (midsOf (prs pre)).length) (fun pre => cellsN (midsOf (prs pre))) (fun _ _ => True)) _) (ownFrom_below (Nat.le_refl _) (by simp; omega)))
    (fun _ _ _ _ _ hs _ _ => hs)
    ⟨⟨_, bO.alloc _, owns_nil _ _ _ _, trivial⟩, hB0⟩
    (fun x => { tmps := #[.slice a len cap, undef, .slice none 0 0, .int .i64 0, .int .i64 0, .pointer (some ⟨w1.heap.size, 0, none⟩), .int .i64 x.a, .int .i64 x.b, .slice a len cap, .int .i64 0, .int .i64 0, .bool false, undef, .slice a len cap, .int .i64 (len : Int), .func (.func 125) #[] #[.pointer (some ⟨w1.heap.size + 1, 0, none⟩)], .int .i64 x.a, .int .i64 x.b, undef, undef, undef, undef, undef, undef, undef, undef, undef, undef], defers := [] }) ?assign ?body ?done ?stop
  case assign =>
    intro l' x W K hK
    simp only [Pt.encs]
    gi_wp2
    exact hK
  case body =>
    rintro l' pre ⟨xa, xb, hxa, hxb⟩ W ⟨⟨v, hv, hrow, -⟩, hB⟩ hlt
    have hc := hv.cell
    have hmx : Tryz.prog.follows .mixedOrders = true := by kernel_rfl
    dsimp only
    by_cases h2 : 2 ≤ xb - xa
    · have HH : Hid (∀ W : World, CallsIn Fence.wide 0 Tryz.prog 90 #[.int .i64 xa, .int .i64 xb] W fun e w' => e = .returned (.bool true) ∧ w' = W) := fun W => (halved_in Fence.wide 0 trivial rfl xa xb W (by omega) hxb).mono fun e w' ⟨h1, h3⟩ => ⟨by rw [h1, decide_eq_true h2], h3⟩
      have HM : Hid (∀ W : World, CallsIn Fence.wide 0 Tryz.prog 91 #[.int .i64 xa, .int .i64 xb] W fun e w' => e = .returned (.int .i64 (mid xa xb : Nat)) ∧ w' = W) := fun W => middle_in Fence.wide 0 trivial rfl xa xb W (by omega) hxb
      gi_wp2_with (refine ⟨trivial, ?_⟩; gi_at_call 90; refine (CallsIn.inRound l' (HH.out _)).mono ?_; rintro e w5 ⟨rfl, hw5⟩; subst w5)
      have hv' : Boxed W.drew w1.heap.size 31 v := hv
      have hrow' : W.drew.ownsRow w.heap.size 3 1 v (midsOf (prs pre)).length (cellsN (midsOf (prs pre))) := hrow
      have hml : (midsOf (prs pre)).length ≤ 1000000 := by
        have h5 := midsOf_le (prs pre)
        have h6 := parts_le 0 (len : Int).toNat
        have h7 : (prs pre).length = pre.length := by simp [prs]
        have h8 := H4.out
        omega
      have hkd : KeepF W W.drew := KeepF.drew W
      have hod : KeepsOthers W W.drew := KeepsOthers.drew W
      have hB' : Below w.heap.size w W.drew := hB.drew
      have hwd : Below w.heap.size W W.drew := (Below.refl _ _).drew
      refine wpIn_region_any hmx ?_
      change wpAnyIn _ _ _ _ _ _ _ _ _ (World.drew _)
      generalize W.drew = X at *
      have hcd := hv'.cell
      have hcd2 := (hv'.alloc (Obj.cells #[.int .i64 (mid xa xb : Nat)] 3)).cell
      refine wpAnyIn_ready (rs := [0, 1, 2]) (by kernel_rfl) (by simp) ?_
      refine AllReadyIn.cons rfl (fun K hK => ?_) (AllReadyIn.cons rfl (fun K hK => ?_) (AllReadyIn.cons rfl (fun K hK => ?_) AllReadyIn.nil))
      · go_simp
        refine hK _ _ ?_
        clear hK K
        refine wpAnyIn_ready (rs := [1, 2]) (by kernel_rfl) (by simp) ?_
        refine AllReadyIn.cons rfl (fun K hK => ?_) (AllReadyIn.cons rfl (fun K hK => ?_) AllReadyIn.nil)
        · go_simp
          refine hK _ _ ?_
          clear hK K
          refine wpAnyIn_ready (rs := [2]) (by kernel_rfl) (by simp) ?_
          refine AllReadyIn.cons rfl (fun K hK => ?_) AllReadyIn.nil
          go_simp
          refine hK _ _ ?_
          clear hK K
          refine wpAnyIn_ready (rs := [3]) (by kernel_rfl) (by simp) ?_
          refine AllReadyIn.cons rfl (fun K hK => ?_) AllReadyIn.nil
          go_simp
          refine ⟨trivial, ?_⟩
          refine (CallsIn.inRound l' (HM.out _)).mono ?_
          rintro e w6 ⟨rfl, hw6⟩; subst w6
          refine hK _ _ ?_
          clear hK K
          refine wpAnyIn_ready (rs := [4]) (by kernel_rfl) (by simp) ?_
          refine AllReadyIn.cons rfl (fun K hK => ?_) AllReadyIn.nil
          go_simp
          refine hK _ _ ?_
          clear hK K
          refine wpAnyIn_ready (rs := [5]) (by kernel_rfl) (by simp) ?_
          refine AllReadyIn.cons rfl (fun K hK => ?_) AllReadyIn.nil
          refine stepIn_append rfl (.tmp 21) (.tmp 25) rfl w.heap.size v _ (midsOf (prs pre)) rfl (hrow'.alloc _) (mid xa xb) _ rfl (new_int _ _) hml (by rw [size_alloc']; exact Nat.le_succ_of_le hB'.size) ?_
          intro v' w1 hown' hgrow
          refine hK _ _ ?_
          clear hK K
          obtain ⟨g', cap', rfl⟩ := ownsRow_succ hown'
          obtain ⟨hv1, hv2, hr2, hk2, hb2⟩ := hv'.appended (by decide) hrow' hB'.size hs1 hown' hgrow
          have hc1 := hv1.cell
          have hf1 := hv1.frozen
          refine wpAnyIn_ready (rs := [6]) (by kernel_rfl) (by simp) ?_
          refine AllReadyIn.cons rfl (fun K hK => ?_) AllReadyIn.nil
          go_simp
          refine hK _ _ ?_
          clear hK K
          refine wpAnyIn_done (by kernel_rfl) ?_ _
          gi_wp2
          exact ⟨(hod.trans hk2).from _, hkd.trans (keepF_app (by decide) hv1 hrow' hgrow), ⟨_, hv2, by rw [prs_app, show prs [(⟨xa, xb, hxa, hxb⟩ : Pt)] = [(xa, xb)] from rfl, midsOf_snoc, if_pos h2, List.length_append]; exact hr2, trivial⟩, hB'.trans hb2⟩
        · go_simp
          refine hK _ _ ?_
          clear hK K
          refine wpAnyIn_ready (rs := [1]) (by kernel_rfl) (by simp) ?_
          refine AllReadyIn.cons rfl (fun K hK => ?_) AllReadyIn.nil
          go_simp
          refine hK _ _ ?_
          clear hK K
          refine wpAnyIn_ready (rs := [3]) (by kernel_rfl) (by simp) ?_
          refine AllReadyIn.cons rfl (fun K hK => ?_) AllReadyIn.nil
          go_simp
          refine ⟨trivial, ?_⟩
          refine (CallsIn.inRound l' (HM.out _)).mono ?_
          rintro e w6 ⟨rfl, hw6⟩; subst w6
          refine hK _ _ ?_
          clear hK K
          refine wpAnyIn_ready (rs := [4]) (by kernel_rfl) (by simp) ?_
          refine AllReadyIn.cons rfl (fun K hK => ?_) AllReadyIn.nil
          go_simp
          refine hK _ _ ?_
          clear hK K
          refine wpAnyIn_ready (rs := [5]) (by kernel_rfl) (by simp) ?_
          refine AllReadyIn.cons rfl (fun K hK => ?_) AllReadyIn.nil
          refine stepIn_append rfl (.tmp 21) (.tmp 25) rfl w.heap.size v _ (midsOf (prs pre)) rfl (hrow'.alloc _) (mid xa xb) _ rfl (new_int _ _) hml (by rw [size_alloc']; exact Nat.le_succ_of_le hB'.size) ?_
          intro v' w1 hown' hgrow
          refine hK _ _ ?_
          clear hK K
          obtain ⟨g', cap', rfl⟩ := ownsRow_succ hown'
          obtain ⟨hv1, hv2, hr2, hk2, hb2⟩ := hv'.appended (by decide) hrow' hB'.size hs1 hown' hgrow
          have hc1 := hv1.cell
          have hf1 := hv1.frozen
          refine wpAnyIn_ready (rs := [6]) (by kernel_rfl) (by simp) ?_
          refine AllReadyIn.cons rfl (fun K hK => ?_) AllReadyIn.nil
          go_simp
          refine hK _ _ ?_
          clear hK K
          refine wpAnyIn_done (by kernel_rfl) ?_ _
          gi_wp2
          exact ⟨(hod.trans hk2).from _, hkd.trans (keepF_app (by decide) hv1 hrow' hgrow), ⟨_, hv2, by rw [prs_app, show prs [(⟨xa, xb, hxa, hxb⟩ : Pt)] = [(xa, xb)] from rfl, midsOf_snoc, if_pos h2, List.length_append]; exact hr2, trivial⟩, hB'.trans hb2⟩
      · go_simp
        refine hK _ _ ?_
        clear hK K
        refine wpAnyIn_ready (rs := [0, 2]) (by kernel_rfl) (by simp) ?_
        refine AllReadyIn.cons rfl (fun K hK => ?_) (AllReadyIn.cons rfl (fun K hK => ?_) AllReadyIn.nil)
        · go_simp
          refine hK _ _ ?_
          clear hK K
          refine wpAnyIn_ready (rs := [2]) (by kernel_rfl) (by simp) ?_
          refine AllReadyIn.cons rfl (fun K hK => ?_) AllReadyIn.nil
          go_simp
          refine hK _ _ ?_
          clear hK K
          refine wpAnyIn_ready (rs := [3]) (by kernel_rfl) (by simp) ?_
          refine AllReadyIn.cons rfl (fun K hK => ?_) AllReadyIn.nil
          go_simp
          refine ⟨trivial, ?_⟩
          refine (CallsIn.inRound l' (HM.out _)).mono ?_
          rintro e w6 ⟨rfl, hw6⟩; subst w6
          refine hK _ _ ?_
          clear hK K
          refine wpAnyIn_ready (rs := [4]) (by kernel_rfl) (by simp) ?_
          refine AllReadyIn.cons rfl (fun K hK => ?_) AllReadyIn.nil
          go_simp
          refine hK _ _ ?_
          clear hK K
          refine wpAnyIn_ready (rs := [5]) (by kernel_rfl) (by simp) ?_
          refine AllReadyIn.cons rfl (fun K hK => ?_) AllReadyIn.nil
          refine stepIn_append rfl (.tmp 21) (.tmp 25) rfl w.heap.size v _ (midsOf (prs pre)) rfl (hrow'.alloc _) (mid xa xb) _ rfl (new_int _ _) hml (by rw [size_alloc']; exact Nat.le_succ_of_le hB'.size) ?_
          intro v' w1 hown' hgrow
          refine hK _ _ ?_
          clear hK K
          obtain ⟨g', cap', rfl⟩ := ownsRow_succ hown'
          obtain ⟨hv1, hv2, hr2, hk2, hb2⟩ := hv'.appended (by decide) hrow' hB'.size hs1 hown' hgrow
          have hc1 := hv1.cell
          have hf1 := hv1.frozen
          refine wpAnyIn_ready (rs := [6]) (by kernel_rfl) (by simp) ?_
          refine AllReadyIn.cons rfl (fun K hK => ?_) AllReadyIn.nil
          go_simp
          refine hK _ _ ?_
          clear hK K
          refine wpAnyIn_done (by kernel_rfl) ?_ _
          gi_wp2
          exact ⟨(hod.trans hk2).from _, hkd.trans (keepF_app (by decide) hv1 hrow' hgrow), ⟨_, hv2, by rw [prs_app, show prs [(⟨xa, xb, hxa, hxb⟩ : Pt)] = [(xa, xb)] from rfl, midsOf_snoc, if_pos h2, List.length_append]; exact hr2, trivial⟩, hB'.trans hb2⟩
        · go_simp
          refine hK _ _ ?_
          clear hK K
          refine wpAnyIn_ready (rs := [0, 3]) (by kernel_rfl) (by simp) ?_
          refine AllReadyIn.cons rfl (fun K hK => ?_) (AllReadyIn.cons rfl (fun K hK => ?_) AllReadyIn.nil)
          · go_simp
            refine hK _ _ ?_
            clear hK K
            refine wpAnyIn_ready (rs := [3]) (by kernel_rfl) (by simp) ?_
            refine AllReadyIn.cons rfl (fun K hK => ?_) AllReadyIn.nil
            go_simp
            refine ⟨trivial, ?_⟩
            refine (CallsIn.inRound l' (HM.out _)).mono ?_
            rintro e w6 ⟨rfl, hw6⟩; subst w6
            refine hK _ _ ?_
            clear hK K
            refine wpAnyIn_ready (rs := [4]) (by kernel_rfl) (by simp) ?_
            refine AllReadyIn.cons rfl (fun K hK => ?_) AllReadyIn.nil
            go_simp
            refine hK _ _ ?_
            clear hK K
            refine wpAnyIn_ready (rs := [5]) (by kernel_rfl) (by simp) ?_
            refine AllReadyIn.cons rfl (fun K hK => ?_) AllReadyIn.nil
            refine stepIn_append rfl (.tmp 21) (.tmp 25) rfl w.heap.size v _ (midsOf (prs pre)) rfl (hrow'.alloc _) (mid xa xb) _ rfl (new_int _ _) hml (by rw [size_alloc']; exact Nat.le_succ_of_le hB'.size) ?_
            intro v' w1 hown' hgrow
            refine hK _ _ ?_
            clear hK K
            obtain ⟨g', cap', rfl⟩ := ownsRow_succ hown'
            obtain ⟨hv1, hv2, hr2, hk2, hb2⟩ := hv'.appended (by decide) hrow' hB'.size hs1 hown' hgrow
            have hc1 := hv1.cell
            have hf1 := hv1.frozen
            refine wpAnyIn_ready (rs := [6]) (by kernel_rfl) (by simp) ?_
            refine AllReadyIn.cons rfl (fun K hK => ?_) AllReadyIn.nil
            go_simp
            refine hK _ _ ?_
            clear hK K
            refine wpAnyIn_done (by kernel_rfl) ?_ _
            gi_wp2
            exact ⟨(hod.trans hk2).from _, hkd.trans (keepF_app (by decide) hv1 hrow' hgrow), ⟨_, hv2, by rw [prs_app, show prs [(⟨xa, xb, hxa, hxb⟩ : Pt)] = [(xa, xb)] from rfl, midsOf_snoc, if_pos h2, List.length_append]; exact hr2, trivial⟩, hB'.trans hb2⟩
          · go_simp
            refine ⟨trivial, ?_⟩
            refine (CallsIn.inRound l' (HM.out _)).mono ?_
            rintro e w6 ⟨rfl, hw6⟩; subst w6
            refine hK _ _ ?_
            clear hK K
            refine wpAnyIn_ready (rs := [0, 4]) (by kernel_rfl) (by simp) ?_
            refine AllReadyIn.cons rfl (fun K hK => ?_) (AllReadyIn.cons rfl (fun K hK => ?_) AllReadyIn.nil)
            · go_simp
              refine hK _ _ ?_
              clear hK K
              refine wpAnyIn_ready (rs := [4]) (by kernel_rfl) (by simp) ?_
              refine AllReadyIn.cons rfl (fun K hK => ?_) AllReadyIn.nil
              go_simp
              refine hK _ _ ?_
              clear hK K
              refine wpAnyIn_ready (rs := [5]) (by kernel_rfl) (by simp) ?_
              refine AllReadyIn.cons rfl (fun K hK => ?_) AllReadyIn.nil
              refine stepIn_append rfl (.tmp 21) (.tmp 25) rfl w.heap.size v _ (midsOf (prs pre)) rfl (hrow'.alloc _) (mid xa xb) _ rfl (new_int _ _) hml (by rw [size_alloc']; exact Nat.le_succ_of_le hB'.size) ?_
              intro v' w1 hown' hgrow
              refine hK _ _ ?_
              clear hK K
              obtain ⟨g', cap', rfl⟩ := ownsRow_succ hown'
              obtain ⟨hv1, hv2, hr2, hk2, hb2⟩ := hv'.appended (by decide) hrow' hB'.size hs1 hown' hgrow
              have hc1 := hv1.cell
              have hf1 := hv1.frozen
              refine wpAnyIn_ready (rs := [6]) (by kernel_rfl) (by simp) ?_
              refine AllReadyIn.cons rfl (fun K hK => ?_) AllReadyIn.nil
              go_simp
              refine hK _ _ ?_
              clear hK K
              refine wpAnyIn_done (by kernel_rfl) ?_ _
              gi_wp2
              exact ⟨(hod.trans hk2).from _, hkd.trans (keepF_app (by decide) hv1 hrow' hgrow), ⟨_, hv2, by rw [prs_app, show prs [(⟨xa, xb, hxa, hxb⟩ : Pt)] = [(xa, xb)] from rfl, midsOf_snoc, if_pos h2, List.length_append]; exact hr2, trivial⟩, hB'.trans hb2⟩
            · go_simp
              refine hK _ _ ?_
              clear hK K
              refine wpAnyIn_ready (rs := [0]) (by kernel_rfl) (by simp) ?_
              refine AllReadyIn.cons rfl (fun K hK => ?_) AllReadyIn.nil
              go_simp
              refine hK _ _ ?_
              clear hK K
              refine wpAnyIn_ready (rs := [5]) (by kernel_rfl) (by simp) ?_
              refine AllReadyIn.cons rfl (fun K hK => ?_) AllReadyIn.nil
              refine stepIn_append rfl (.tmp 21) (.tmp 25) rfl w.heap.size v _ (midsOf (prs pre)) rfl (hrow'.alloc _) (mid xa xb) _ rfl (new_int _ _) hml (by rw [size_alloc']; exact Nat.le_succ_of_le hB'.size) ?_
              intro v' w1 hown' hgrow
              refine hK _ _ ?_
              clear hK K
              obtain ⟨g', cap', rfl⟩ := ownsRow_succ hown'
              obtain ⟨hv1, hv2, hr2, hk2, hb2⟩ := hv'.appended (by decide) hrow' hB'.size hs1 hown' hgrow
              have hc1 := hv1.cell
              have hf1 := hv1.frozen
              refine wpAnyIn_ready (rs := [6]) (by kernel_rfl) (by simp) ?_
              refine AllReadyIn.cons rfl (fun K hK => ?_) AllReadyIn.nil
              go_simp
              refine hK _ _ ?_
              clear hK K
              refine wpAnyIn_done (by kernel_rfl) ?_ _
              gi_wp2
              exact ⟨(hod.trans hk2).from _, hkd.trans (keepF_app (by decide) hv1 hrow' hgrow), ⟨_, hv2, by rw [prs_app, show prs [(⟨xa, xb, hxa, hxb⟩ : Pt)] = [(xa, xb)] from rfl, midsOf_snoc, if_pos h2, List.length_append]; exact hr2, trivial⟩, hB'.trans hb2⟩
      · go_simp
        refine hK _ _ ?_
        clear hK K
        refine wpAnyIn_ready (rs := [0, 1]) (by kernel_rfl) (by simp) ?_
        refine AllReadyIn.cons rfl (fun K hK => ?_) (AllReadyIn.cons rfl (fun K hK => ?_) AllReadyIn.nil)
        · go_simp
          refine hK _ _ ?_
          clear hK K
          refine wpAnyIn_ready (rs := [1]) (by kernel_rfl) (by simp) ?_
          refine AllReadyIn.cons rfl (fun K hK => ?_) AllReadyIn.nil
          go_simp
          refine hK _ _ ?_
          clear hK K
          refine wpAnyIn_ready (rs := [3]) (by kernel_rfl) (by simp) ?_
          refine AllReadyIn.cons rfl (fun K hK => ?_) AllReadyIn.nil
          go_simp
          refine ⟨trivial, ?_⟩
          refine (CallsIn.inRound l' (HM.out _)).mono ?_
          rintro e w6 ⟨rfl, hw6⟩; subst w6
          refine hK _ _ ?_
          clear hK K
          refine wpAnyIn_ready (rs := [4]) (by kernel_rfl) (by simp) ?_
          refine AllReadyIn.cons rfl (fun K hK => ?_) AllReadyIn.nil
          go_simp
          refine hK _ _ ?_
          clear hK K
          refine wpAnyIn_ready (rs := [5]) (by kernel_rfl) (by simp) ?_
          refine AllReadyIn.cons rfl (fun K hK => ?_) AllReadyIn.nil
          refine stepIn_append rfl (.tmp 21) (.tmp 25) rfl w.heap.size v _ (midsOf (prs pre)) rfl (hrow'.alloc _) (mid xa xb) _ rfl (new_int _ _) hml (by rw [size_alloc']; exact Nat.le_succ_of_le hB'.size) ?_
          intro v' w1 hown' hgrow
          refine hK _ _ ?_
          clear hK K
          obtain ⟨g', cap', rfl⟩ := ownsRow_succ hown'
          obtain ⟨hv1, hv2, hr2, hk2, hb2⟩ := hv'.appended (by decide) hrow' hB'.size hs1 hown' hgrow
          have hc1 := hv1.cell
          have hf1 := hv1.frozen
          refine wpAnyIn_ready (rs := [6]) (by kernel_rfl) (by simp) ?_
          refine AllReadyIn.cons rfl (fun K hK => ?_) AllReadyIn.nil
          go_simp
          refine hK _ _ ?_
          clear hK K
          refine wpAnyIn_done (by kernel_rfl) ?_ _
          gi_wp2
          exact ⟨(hod.trans hk2).from _, hkd.trans (keepF_app (by decide) hv1 hrow' hgrow), ⟨_, hv2, by rw [prs_app, show prs [(⟨xa, xb, hxa, hxb⟩ : Pt)] = [(xa, xb)] from rfl, midsOf_snoc, if_pos h2, List.length_append]; exact hr2, trivial⟩, hB'.trans hb2⟩
        · go_simp
          refine hK _ _ ?_
          clear hK K
          refine wpAnyIn_ready (rs := [0, 3]) (by kernel_rfl) (by simp) ?_
          refine AllReadyIn.cons rfl (fun K hK => ?_) (AllReadyIn.cons rfl (fun K hK => ?_) AllReadyIn.nil)
          · go_simp
            refine hK _ _ ?_
            clear hK K
            refine wpAnyIn_ready (rs := [3]) (by kernel_rfl) (by simp) ?_
            refine AllReadyIn.cons rfl (fun K hK => ?_) AllReadyIn.nil
            go_simp
            refine ⟨trivial, ?_⟩
            refine (CallsIn.inRound l' (HM.out _)).mono ?_
            rintro e w6 ⟨rfl, hw6⟩; subst w6
            refine hK _ _ ?_
            clear hK K
            refine wpAnyIn_ready (rs := [4]) (by kernel_rfl) (by simp) ?_
            refine AllReadyIn.cons rfl (fun K hK => ?_) AllReadyIn.nil
            go_simp
            refine hK _ _ ?_
            clear hK K
            refine wpAnyIn_ready (rs := [5]) (by kernel_rfl) (by simp) ?_
            refine AllReadyIn.cons rfl (fun K hK => ?_) AllReadyIn.nil
            refine stepIn_append rfl (.tmp 21) (.tmp 25) rfl w.heap.size v _ (midsOf (prs pre)) rfl (hrow'.alloc _) (mid xa xb) _ rfl (new_int _ _) hml (by rw [size_alloc']; exact Nat.le_succ_of_le hB'.size) ?_
            intro v' w1 hown' hgrow
            refine hK _ _ ?_
            clear hK K
            obtain ⟨g', cap', rfl⟩ := ownsRow_succ hown'
            obtain ⟨hv1, hv2, hr2, hk2, hb2⟩ := hv'.appended (by decide) hrow' hB'.size hs1 hown' hgrow
            have hc1 := hv1.cell
            have hf1 := hv1.frozen
            refine wpAnyIn_ready (rs := [6]) (by kernel_rfl) (by simp) ?_
            refine AllReadyIn.cons rfl (fun K hK => ?_) AllReadyIn.nil
            go_simp
            refine hK _ _ ?_
            clear hK K
            refine wpAnyIn_done (by kernel_rfl) ?_ _
            gi_wp2
            exact ⟨(hod.trans hk2).from _, hkd.trans (keepF_app (by decide) hv1 hrow' hgrow), ⟨_, hv2, by rw [prs_app, show prs [(⟨xa, xb, hxa, hxb⟩ : Pt)] = [(xa, xb)] from rfl, midsOf_snoc, if_pos h2, List.length_append]; exact hr2, trivial⟩, hB'.trans hb2⟩
          · go_simp
            refine ⟨trivial, ?_⟩
            refine (CallsIn.inRound l' (HM.out _)).mono ?_
            rintro e w6 ⟨rfl, hw6⟩; subst w6
            refine hK _ _ ?_
            clear hK K
            refine wpAnyIn_ready (rs := [0, 4]) (by kernel_rfl) (by simp) ?_
            refine AllReadyIn.cons rfl (fun K hK => ?_) (AllReadyIn.cons rfl (fun K hK => ?_) AllReadyIn.nil)
            · go_simp
              refine hK _ _ ?_
              clear hK K
              refine wpAnyIn_ready (rs := [4]) (by kernel_rfl) (by simp) ?_
              refine AllReadyIn.cons rfl (fun K hK => ?_) AllReadyIn.nil
              go_simp
              refine hK _ _ ?_
              clear hK K
              refine wpAnyIn_ready (rs := [5]) (by kernel_rfl) (by simp) ?_
              refine AllReadyIn.cons rfl (fun K hK => ?_) AllReadyIn.nil
              refine stepIn_append rfl (.tmp 21) (.tmp 25) rfl w.heap.size v _ (midsOf (prs pre)) rfl (hrow'.alloc _) (mid xa xb) _ rfl (new_int _ _) hml (by rw [size_alloc']; exact Nat.le_succ_of_le hB'.size) ?_
              intro v' w1 hown' hgrow
              refine hK _ _ ?_
              clear hK K
              obtain ⟨g', cap', rfl⟩ := ownsRow_succ hown'
              obtain ⟨hv1, hv2, hr2, hk2, hb2⟩ := hv'.appended (by decide) hrow' hB'.size hs1 hown' hgrow
              have hc1 := hv1.cell
              have hf1 := hv1.frozen
              refine wpAnyIn_ready (rs := [6]) (by kernel_rfl) (by simp) ?_
              refine AllReadyIn.cons rfl (fun K hK => ?_) AllReadyIn.nil
              go_simp
              refine hK _ _ ?_
              clear hK K
              refine wpAnyIn_done (by kernel_rfl) ?_ _
              gi_wp2
              exact ⟨(hod.trans hk2).from _, hkd.trans (keepF_app (by decide) hv1 hrow' hgrow), ⟨_, hv2, by rw [prs_app, show prs [(⟨xa, xb, hxa, hxb⟩ : Pt)] = [(xa, xb)] from rfl, midsOf_snoc, if_pos h2, List.length_append]; exact hr2, trivial⟩, hB'.trans hb2⟩
            · go_simp
              refine hK _ _ ?_
              clear hK K
              refine wpAnyIn_ready (rs := [0]) (by kernel_rfl) (by simp) ?_
              refine AllReadyIn.cons rfl (fun K hK => ?_) AllReadyIn.nil
              go_simp
              refine hK _ _ ?_
              clear hK K
              refine wpAnyIn_ready (rs := [5]) (by kernel_rfl) (by simp) ?_
              refine AllReadyIn.cons rfl (fun K hK => ?_) AllReadyIn.nil
              refine stepIn_append rfl (.tmp 21) (.tmp 25) rfl w.heap.size v _ (midsOf (prs pre)) rfl (hrow'.alloc _) (mid xa xb) _ rfl (new_int _ _) hml (by rw [size_alloc']; exact Nat.le_succ_of_le hB'.size) ?_
              intro v' w1 hown' hgrow
              refine hK _ _ ?_
              clear hK K
              obtain ⟨g', cap', rfl⟩ := ownsRow_succ hown'
              obtain ⟨hv1, hv2, hr2, hk2, hb2⟩ := hv'.appended (by decide) hrow' hB'.size hs1 hown' hgrow
              have hc1 := hv1.cell
              have hf1 := hv1.frozen
              refine wpAnyIn_ready (rs := [6]) (by kernel_rfl) (by simp) ?_
              refine AllReadyIn.cons rfl (fun K hK => ?_) AllReadyIn.nil
              go_simp
              refine hK _ _ ?_
              clear hK K
              refine wpAnyIn_done (by kernel_rfl) ?_ _
              gi_wp2
              exact ⟨(hod.trans hk2).from _, hkd.trans (keepF_app (by decide) hv1 hrow' hgrow), ⟨_, hv2, by rw [prs_app, show prs [(⟨xa, xb, hxa, hxb⟩ : Pt)] = [(xa, xb)] from rfl, midsOf_snoc, if_pos h2, List.length_append]; exact hr2, trivial⟩, hB'.trans hb2⟩
    · have HH : Hid (∀ W : World, CallsIn Fence.wide 0 Tryz.prog 90 #[.int .i64 xa, .int .i64 xb] W fun e w' => e = .returned (.bool false) ∧ w' = W) := fun W => (halved_in Fence.wide 0 trivial rfl xa xb W (by omega) hxb).mono fun e w' ⟨h1, h3⟩ => ⟨by rw [h1, decide_eq_false h2], h3⟩
      gi_wp2_with (refine ⟨trivial, ?_⟩; gi_at_call 90; refine (CallsIn.inRound l' (HH.out _)).mono ?_; rintro e w5 ⟨rfl, hw5⟩; subst w5)
      exact ⟨KeepsFrom.refl _ _, KeepF.refl _, ⟨v, hv, by rw [prs_app, show prs [(⟨xa, xb, hxa, hxb⟩ : Pt)] = [(xa, xb)] from rfl, midsOf_snoc, if_neg h2, List.append_nil]; exact hrow, trivial⟩, hB⟩
  case done =>
    rintro D ys W hD hS ⟨⟨v, hv, hrow, -⟩, hB⟩ hK
    have hc := hv.cell
    gi_wp2
    refine ⟨by simp, .inl ⟨_, _, rfl, run_takeDeferred hK, ?_⟩⟩
    have e0 : midsOf (prs ys) = mids 0 len := by rw [hS]; rfl
    rw [e0] at hrow
    exact ⟨_, results_tmp2 rfl _ _ _, hB.trans (belowK_b (w := w) (Nat.le_refl _) W D _ _ (by simp at hD; omega) hK rfl rfl), v, rfl, ownsRow_putObj hrow _ hK rfl⟩
  case stop =>
    rintro D c pre W _ _ h _
    exact h.elim

theorem build_any (a : Option Addr) (len cap : Nat) (l : List Int) (w : World) (h : Ns .u32 w a len l) :
    Calls Tryz.prog 51 #[.slice a len cap] w fun e w' => Bld w w' e (bMids l) (bErr l) := by
  have hll := h.1
  by_cases hB : bErr l = 0
  · have e1 : bMids l = mids 0 len := by
      unfold bMids
      rw [if_neg (by have := (bErr_zero hB).1; omega), if_pos (bErr_zero hB).2, hll]
    rw [e1, hB]
    exact callsIn_wide.1 (build_ok a len cap l w h hB)
  · have e1 : bMids l = [] := by
      unfold bMids
      split
      · rfl
      · split
        · exact absurd (by unfold bErr; rw [if_neg (by assumption), if_pos (by assumption)]) hB
        · rfl
    rw [e1]
    have HW : Hid (∀ W : World, Below w.heap.size w W → Calls Tryz.prog 88 #[.slice a len cap] W fun e w' => e = .returned (.int .i64 (bErr l)) ∧ Below w.heap.size w w') := fun W hb => (wrong_any a len cap l W (h.below hb)).mono fun e w' ⟨h1, h2⟩ => ⟨h1, hb.trans (h2.mono hb.size)⟩
    have hb0 : (bErr l == 0) = false := by simp; exact hB
    generalize bErr l = er at *
    clear e1 h hll
    go_enter Tryz.func51, Tryz.ntmps51
    go_wp2_with (go_at_call 88; refine (HW.out _ (Below.refl _ _)).mono ?_; rintro e w1 ⟨rfl, hb1⟩)
    go_ret2
    exact ⟨hb1, _, rfl, owns_nil _ _ _ _⟩

end Go.Proofs.YtcckipimfgmmdaaGreatDoor.T
