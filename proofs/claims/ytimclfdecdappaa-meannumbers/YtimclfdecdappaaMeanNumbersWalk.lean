/-
  The numbers of which rules speak, and how much they are: the law's walk.
-/
import Derived.Test.YtimclfdecdappaaMeanElseWalk
import Derived.Test.YtimclfdecdappaaRNumb
import Derived.Test.YtimclfdecdappaaRWgt
import Derived.Deep.RegionWith
import Derived.Deep.DeepCutAuto
namespace Go.Proofs.Ytimclfdecdappaa
open Go.RowKit

theorem rise_tab : Rise tabI := by
  unfold Rise
  exact of_decide_eq_true (by kernel_rfl)
theorem rise_nodup {l : List Int} (h : Rise l) : l.Nodup := List.Pairwise.imp (fun h => Int.ne_of_lt h) h
theorem rise_ext {l m : List Int} (hl : Rise l) (hm : Rise m) (h : ∀ z, z ∈ l ↔ z ∈ m) : l = m := by
  have hp : l.Perm m := (List.perm_ext_iff_of_nodup (rise_nodup hl) (rise_nodup hm)).2 h
  exact List.Perm.eq_of_pairwise (le := fun a b => a < b) (fun a b _ _ h1 h2 => by omega) hl hm hp
theorem rise_flt (l : List Xr) : Rise (flt l tabI) := List.Pairwise.filter _ rise_tab
theorem mem_flt (l : List Xr) (z : Int) : z ∈ flt l tabI ↔ z ∈ numsR l := by
  unfold flt occ
  rw [List.mem_filter]
  constructor
  · rintro ⟨_, h⟩
    simpa using h
  · intro h
    exact ⟨numsR_tab h, by simpa using h⟩

/-- where the rules lie that came in. -/
def At3 (b : Nat) (k a : Int) (s : Value) (W : World) : Prop := W.cell? ⟨b, 0, none⟩ = some (.int .i64 k) ∧ W.cell? ⟨b, 1, none⟩ = some (.int .i64 a) ∧ W.cell? ⟨b, 2, none⟩ = some s

set_option maxRecDepth 8000 in
set_option maxHeartbeats 4000000 in
theorem numbers_walk (w : World) (k a : Int) (v : Value) (l : List Xr) (h : RlR w v l) :
    Calls Try.prog 6 #[.agg #[.int .i64 k, .int .i64 a, v]] w fun e w' => e = .returned (.bool true) ∧ Below w.heap.size w w' := by
  obtain ⟨p1, c1, rfl⟩ : ∃ p c, v = .slice p l.length c := by obtain ⟨p, c, e, _⟩ := h; exact ⟨p, c, e⟩
  have HA : Hid (∀ W, Calls Try.prog 9 #[] W fun e w' => e = .returned (.bool true) ∧ Below W.heap.size W w') := awake_any
  have HL : Hid (∀ W, RlR W (.slice p1 l.length c1) l → Calls Try.prog 14 #[.agg #[.int .i64 k, .int .i64 a, .slice p1 l.length c1]] W fun e w' => LightR W l e w') := fun W h => light_any W k a _ l h
  have BE : Hid (Below w.heap.size w (w.alloc (Obj.cells #[.int .i64 k, .int .i64 a, .slice p1 l.length c1] 33))) := below_new w _
  have HK : Hid (Blk (w.alloc (Obj.cells #[.int .i64 k, .int .i64 a, .slice p1 l.length c1] 33)) w.heap.size 33 [.int .i64 k, .int .i64 a, .slice p1 l.length c1]) := blk_new w _ _
  have SN : Hid (RlR (w.alloc (Obj.cells #[.int .i64 k, .int .i64 a, .slice p1 l.length c1] 33)) (.slice p1 l.length c1) l) := h.below (below_new w _)
  clear h
  go_enter Try.func6, Try.ntmps6
  go_wp2_with fail
  generalize (w.alloc (Obj.cells #[.int .i64 k, .int .i64 a, .slice p1 l.length c1] 33)) = X at *
  refine (HA.out _).mono ?_
  rintro e w1 ⟨rfl, b1⟩
  have t0 : w1.cell? ⟨w.heap.size, 0, none⟩ = some (.int .i64 k) := (HK.out.over b1).cell 0
  have t1 : w1.cell? ⟨w.heap.size, 1, none⟩ = some (.int .i64 a) := (HK.out.over b1).cell 1
  have t2 : w1.cell? ⟨w.heap.size, 2, none⟩ = some (.slice p1 l.length c1) := (HK.out.over b1).cell 2
  have K1 : Hid (Blk w1 w.heap.size 33 [.int .i64 k, .int .i64 a, .slice p1 l.length c1]) := HK.out.over b1
  have S1 : Hid (RlR w1 (.slice p1 l.length c1) l) := SN.out.below b1
  have B1 : Hid (Below w.heap.size w w1) := BE.out.trans (b1.mono BE.out.size)
  clear b1 BE HK SN
  go_wp2_with fail
  clear t0 t1 t2
  refine (HL.out _ S1.out).mono ?_
  rintro e w2 ⟨bb, rfl, b2, hbb⟩
  have HBB : Hid (bb = true → Lt l) := hbb
  have K2 : Hid (Blk w2 w.heap.size 33 [.int .i64 k, .int .i64 a, .slice p1 l.length c1]) := K1.out.over b2
  have S2 : Hid (RlR w2 (.slice p1 l.length c1) l) := S1.out.below b2
  have B2 : Hid (Below w.heap.size w w2) := B1.out.trans (b2.mono B1.out.size)
  clear b2 B1 K1 S1 hbb HA HL
  cases bb with
  | false =>
    go_wp2_with fail
    go_ret
    exact ⟨rfl, B2.out⟩
  | true =>
    have hLt : Lt l := HBB.out rfl
    have HAt : Hid (∀ W, Below w2.heap.size w2 W → W.cell? ⟨w.heap.size, 0, none⟩ = some (.int .i64 k) ∧ W.cell? ⟨w.heap.size, 1, none⟩ = some (.int .i64 a) ∧ W.cell? ⟨w.heap.size, 2, none⟩ = some (.slice p1 l.length c1)) := fun W hW => ⟨(K2.out.over hW).cell 0, (K2.out.over hW).cell 1, (K2.out.over hW).cell 2⟩
    have H1 : Hid (∀ W, Below w2.heap.size w2 W → Calls Try.prog 20 #[.agg #[.int .i64 k, .int .i64 a, .slice p1 l.length c1]] W fun e w' => ∃ v', e = .returned v' ∧ NzR w' v' (flt l tabI) ∧ Below W.heap.size W w' ∧ Below w2.heap.size w2 w' ∧ w'.cell? ⟨w.heap.size, 0, none⟩ = some (.int .i64 k) ∧ w'.cell? ⟨w.heap.size, 1, none⟩ = some (.int .i64 a) ∧ w'.cell? ⟨w.heap.size, 2, none⟩ = some (.slice p1 l.length c1)) := fun W hW =>
      (numbers_any W k a _ l (S2.out.below hW) (lt_sml hLt).1 (fun x hx => (sml_small (lt_sml hLt) x hx).1) (numsR_lt hLt)).mono fun e w' ⟨v', ts, he, hz, hr, hmm, hb⟩ => by
        have hV : Below w2.heap.size w2 w' := hW.trans (hb.mono hW.size)
        obtain rfl : ts = flt l tabI := rise_ext hr (rise_flt l) fun z => (hmm z).trans (mem_flt l z).symm
        exact ⟨v', he, hz, hb, hV, HAt.out _ hV⟩
    have H2 : Hid (∀ W, Below w2.heap.size w2 W → Calls Try.prog 21 #[.agg #[.int .i64 k, .int .i64 a, .slice p1 l.length c1]] W fun e w' => ∃ v', e = .returned v' ∧ NzR w' v' (flt l tabI) ∧ Below W.heap.size W w' ∧ Below w2.heap.size w2 w' ∧ w'.cell? ⟨w.heap.size, 0, none⟩ = some (.int .i64 k) ∧ w'.cell? ⟨w.heap.size, 1, none⟩ = some (.int .i64 a) ∧ w'.cell? ⟨w.heap.size, 2, none⟩ = some (.slice p1 l.length c1)) := fun W hW =>
      (refNumbers_any W k a _ l (S2.out.below hW) (lt_sml hLt).1 (fun x hx => (sml_small (lt_sml hLt) x hx).1)).mono fun e w' ⟨v', he, hz, hb⟩ => by
        have hV : Below w2.heap.size w2 w' := hW.trans (hb.mono hW.size)
        exact ⟨v', he, hz, hb, hV, HAt.out _ hV⟩
    have H3 : Hid (∀ W u v, Below w2.heap.size w2 W → NzR W u (flt l tabI) → NzR W v (flt l tabI) → Calls Try.prog 19 #[u, v] W fun e w' => e = .returned (.bool true) ∧ Below w2.heap.size w2 w') := fun W u v hW h1 h2 =>
      (sameWords_any W u v _ h1 h2).mono fun e w' ⟨he, hb⟩ => ⟨he, hW.trans (hb.mono hW.size)⟩
    have H4 : Hid (∀ W, Below w2.heap.size w2 W → Calls Try.prog 22 #[.agg #[.int .i64 k, .int .i64 a, .slice p1 l.length c1]] W fun e w' => e = .returned (.int .i64 (wgt l)) ∧ Below w2.heap.size w2 w' ∧ w'.cell? ⟨w.heap.size, 0, none⟩ = some (.int .i64 k) ∧ w'.cell? ⟨w.heap.size, 1, none⟩ = some (.int .i64 a) ∧ w'.cell? ⟨w.heap.size, 2, none⟩ = some (.slice p1 l.length c1)) := fun W hW =>
      (weight_any W k a _ l (S2.out.below hW) hLt).mono fun e w' ⟨he, hb⟩ => by
        have hV : Below w2.heap.size w2 w' := hW.trans (hb.mono hW.size)
        exact ⟨he, hV, HAt.out _ hV⟩
    have H5 : Hid (∀ W, Below w2.heap.size w2 W → Calls Try.prog 23 #[.agg #[.int .i64 k, .int .i64 a, .slice p1 l.length c1]] W fun e w' => e = .returned (.int .i64 (wgt l)) ∧ Below w2.heap.size w2 w' ∧ w'.cell? ⟨w.heap.size, 0, none⟩ = some (.int .i64 k) ∧ w'.cell? ⟨w.heap.size, 1, none⟩ = some (.int .i64 a) ∧ w'.cell? ⟨w.heap.size, 2, none⟩ = some (.slice p1 l.length c1)) := fun W hW =>
      (refWeight_any W k a _ l (S2.out.below hW) hLt).mono fun e w' ⟨he, hb⟩ => by
        have hV : Below w2.heap.size w2 w' := hW.trans (hb.mono hW.size)
        exact ⟨he, hV, HAt.out _ hV⟩
    clear hLt HBB K2 S2
    generalize flt l tabI = L at *
    generalize wgt l = m at *
    obtain ⟨t0, t1, t2⟩ := HAt.out w2 (Below.refl _ _)
    have hb0 : Below w2.heap.size w2 w2.drew := below_drewN w2 1
    go_upto_region 5 with fail
    go_cut [5] (fun v wc => v = .bool true ∧ Below w2.heap.size w2 wc)
    case first =>
      go_region_with (first
        | (go_at_call 20; refine (H1.out _ (by assumption)).mono ?_; rintro e wn ⟨vn, rfl, hzn, bn, bvn, n0, n1, n2⟩)
        | (go_at_call 21; refine (H2.out _ (by assumption)).mono ?_; rintro e wo ⟨vo, rfl, hzo, bo, bvo, o0, o1, o2⟩)
        | (go_at_call 19; refine (H3.out _ _ _ (by assumption) (by first | assumption | (apply NzR.below <;> assumption)) (by first | assumption | (apply NzR.below <;> assumption))).mono ?_; rintro e ws ⟨rfl, bs⟩))
      all_goals (go_wp2_with fail; go_meet; exact ⟨rfl, by assumption⟩)
    case rest =>
      obtain ⟨rfl, hbc⟩ := hcut
      have hbd : Below w2.heap.size w2 wc.drew := hbc.trans ((below_drewN wc 1).mono hbc.size)
      clear t0 t1 t2 hb0
      obtain ⟨t0, t1, t2⟩ := HAt.out wc hbc
      go_upto_region 6 with fail
      go_region_with (first
        | (go_at_call 22; refine (H4.out _ (by assumption)).mono ?_; rintro e wn ⟨rfl, bvn, n0, n1, n2⟩)
        | (go_at_call 23; refine (H5.out _ (by assumption)).mono ?_; rintro e wo ⟨rfl, bvo, o0, o1, o2⟩))
      all_goals (go_wp2_with fail; go_ret)
      all_goals (refine ⟨?_, B2.out.trans ((by assumption : Below w2.heap.size w2 _).mono B2.out.size)⟩; first | rfl | exact ret_bool (by simp))

end Go.Proofs.Ytimclfdecdappaa
