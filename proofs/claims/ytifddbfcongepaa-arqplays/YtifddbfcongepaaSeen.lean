/-
  What has come: taken, and how much there is.
-/
import Derived.Test.YtifddbfcongepaaMap
import Derived.BigQuiet
import Derived.Deep.DeepCutAuto
import Derived.Laws.EntriesVeiled
namespace Go.Proofs.Ytifddbfcongepaa
open Go.RowKit Go.Maps

theorem wpList_len_c {P : Program} (w : World) {ops : Array Oper} {rest : List Oper} {o : Oper} {a : Act} {Q : Exit → Act → World → Prop} (hg : o.guard = none) (m : Operand) (t : TypeId) (hop : o.op = Op.call { callee := Callee.builtin Builtin.len, args := #[m], argTypes := #[t] })
    (k e : TypeId) (ht : P.underlying t = some (.map k e)) (R : Value → Option (Dm × List MemPlace)) (b n : Nat) (D : Dm) (hm : a.eval m = .map (some b)) (hown : w.ownsMap P k R b n D) (c : Nat) (hc : Maps.size D = c)
    (hK : wpList P ops Q rest (a.put o.dst (.int .i64 (c : Int))) w) : wpList P ops Q (o :: rest) a w :=
  wpList_len_own w hg m t hop k e ht R b n D hm hown (hc ▸ hK)

theorem take_more (S : List Int) (z : Int) : decide (S.length < (takeS S z).length) = decide (z ∉ S) := by
  unfold takeS
  by_cases h : z ∈ S
  · rw [if_pos h, decide_eq_false (by omega), decide_eq_false (by simpa using h)]
  · rw [if_neg h, List.length_append, List.length_singleton, decide_eq_true (by omega), decide_eq_true h]

theorem eqlSome (B : Nat) (w : World) : (binOp .eql 44 (.map (some B)) (.map none)).run Try.prog w = .ok (.bool false) w := by kernel_rfl
theorem eqlNil (w : World) : (binOp .eql 44 (.map none) (.map none)).run Try.prog w = .ok (.bool true) w := by kernel_rfl

/-- what a taking tells, and leaves. -/
def TakeE (w : World) (b : Nat) (m : Option Nat) (S : List Int) (z : Int) (e : Ending) (w' : World) : Prop :=
  ∃ B, e = .returned (.bool (decide (z ∉ S))) ∧ SnV w' b (some B) (takeS S z) ∧ (m = some B ∨ (m = none ∧ w.heap.size ≤ B)) ∧ Fr [] (b :: m.toList) 0 w w'

set_option maxHeartbeats 4000000 in
theorem take_any (b : Nat) (m : Option Nat) (S : List Int) (z : Int) (w : World) (h : SnV w b m S) (hn : S.length ≤ 100000) (hz : U64 z) : Calls Try.prog 20 #[.pointer (some ⟨b, 0, none⟩), .int .u64 z] w fun e w' => TakeE w b m S z e w' := by
  obtain ⟨hb, hne, h0, hm⟩ := h
  have HKEY := key_u hz
  have HM : Hid (takeS S z = takeS S z) := rfl
  cases m with
  | some B =>
    obtain ⟨D, ho, hv⟩ := hm B rfl
    have c0 : w.cell? ⟨b, 0, none⟩ = some (.map (some B)) := hb.cell 0
    have HB : Hid (Blk w b 46 [.map (some B)]) := hb
    have HV : Hid (Vs D S) := hv
    have HZ1 : Hid (Maps.size D = S.length) := hv.size
    have HZ2 : Hid (Maps.size (D.put (litU z) (.agg [])) = (takeS S z).length) := (hv.put z).size
    have HL : Hid (S.length < maxLen) := by show S.length < maxLen; unfold maxLen; omega
    have HNE : Hid (b ≠ B) := fun e => hne (by rw [e])
    clear hb hm hv h0 hne
    have hq := eqlSome B
    go_enter Try.func20, Try.ntmps20
    go_wp2_with (first
      | (at_len; refine wpList_len_c _ rfl _ 44 rfl 31 59 Try.underlying44 _ B _ D rfl ho S.length HZ1.out ?_; go_frame)
      | (at_len; refine wpList_len_c _ rfl _ 44 rfl 31 59 Try.underlying44 _ B _ _ rfl ho1 (takeS S z).length HZ2.out ?_; go_frame)
      | (at_mapUpdate; refine wpList_mapUpdate_own _ rfl _ _ _ 44 rfl 31 59 lawU Try.underlying44 _ B _ D rfl ho HL.out _ _ (litU z) rfl rfl HKEY (.agg []) [] unitElem_mk ?_; intro w1 ho1 hg1; go_frame; have c0 : w1.cell? ⟨b, 0, none⟩ = some (.map (some B)) := (blk_grown HB.out hg1 HNE.out).cell 0)
      | go_in)
    go_ret
    refine ⟨B, by rw [← take_more]; rfl, ⟨blk_grown HB.out hg1 HNE.out, (by intro e; cases e; exact HNE.out rfl), (by intro e; cases e), fun B' e => by cases e; exact mpS_of ho1 (HV.out.put z)⟩, .inl rfl, fr_grown hg1 (Nat.zero_le _) (Nat.zero_le _) (by simp)⟩
  | none =>
    obtain rfl := h0 rfl
    have c0 : w.cell? ⟨b, 0, none⟩ = some (.map none) := hb.cell 0
    have f0 : w.frozen? ⟨b, 0, none⟩ = false := hb.f 0
    have hlt := hb.lt
    have HB : Hid (Blk w b 46 [.map none]) := hb
    have M0 := MpS.made (w.setCell ⟨b, 0, none⟩ (.map (some w.heap.size)))
    rw [show (w.setCell ⟨b, 0, none⟩ (.map (some w.heap.size))).heap.size = w.heap.size from by simp] at M0
    obtain ⟨D, ho0, hv⟩ := M0
    have HV : Hid (Vs D []) := hv
    have HZ1 : Hid (Maps.size D = 0) := hv.size
    have HZ2 : Hid (Maps.size (D.put (litU z) (.agg [])) = 1) := (hv.put z).size
    have HL : Hid (0 < maxLen) := by show 0 < maxLen; unfold maxLen; omega
    have HA : Hid (Fr [] [b] 0 w ((w.setCell ⟨b, 0, none⟩ (.map (some w.heap.size))).alloc (.map #[] 0))) := by
      refine Fr.trans (w := w.setCell ⟨b, 0, none⟩ (.map (some w.heap.size))) ⟨⟨by simp [World.setCell], by simp [World.setCell], by simp [World.setCell], by simp, fun k hk => absurd hk (Nat.not_lt_zero k)⟩, fun k o hk _ hx => ?_⟩ (fr_below (below_new _ (.map #[] 0)) (Nat.zero_le _))
      rw [heap_setCell_other _ ⟨b, 0, none⟩ k _ (by simpa using hx)]
      exact hk
    have HO : Hid (((w.setCell ⟨b, 0, none⟩ (.map (some w.heap.size))).alloc (.map #[] 0)).ownsMap Try.prog 31 unitElem w.heap.size 0 D) := ho0
    have HBB : Hid (Blk ((w.setCell ⟨b, 0, none⟩ (.map (some w.heap.size))).alloc (.map #[] 0)) b 46 [.map (some w.heap.size)]) := (hb.set 0 _).alloc _
    clear hb hm hv hne ho0
    have hmm := @run_makeMap Try.prog
    have hq := eqlNil
    go_enter Try.func20, Try.ntmps20
    go_upto_region 3 with fail
    generalize ((w.setCell ⟨b, 0, none⟩ (.map (some w.heap.size))).alloc (.map #[] 0)) = W1 at *
    have c1 : W1.cell? ⟨b, 0, none⟩ = some (.map (some w.heap.size)) := HBB.out.cell 0
    have HNE : Hid (b ≠ w.heap.size ∧ w.heap.size ≤ w.heap.size) := ⟨by omega, Nat.le_refl _⟩
    have ho := HO.out
    generalize hB : w.heap.size = B at *
    go_wp2_with (first
      | (at_len; refine wpList_len_c _ rfl _ 44 rfl 31 59 Try.underlying44 _ B _ D rfl ho 0 HZ1.out ?_; go_frame)
      | (at_len; refine wpList_len_c _ rfl _ 44 rfl 31 59 Try.underlying44 _ B _ _ rfl ho1 1 HZ2.out ?_; go_frame)
      | (at_mapUpdate; refine wpList_mapUpdate_own _ rfl _ _ _ 44 rfl 31 59 lawU Try.underlying44 _ B _ D rfl ho HL.out _ _ (litU z) rfl rfl HKEY (.agg []) [] unitElem_mk ?_; intro w1 ho1 hg1; go_frame; have c0 : w1.cell? ⟨b, 0, none⟩ = some (.map (some B)) := (blk_grown HBB.out hg1 HNE.out.1).cell 0)
      | go_in)
    go_ret
    refine ⟨B, by simp, ⟨blk_grown HBB.out hg1 HNE.out.1, (by intro e; cases e; exact HNE.out.1 rfl), (by intro e; cases e), fun B' e => by cases e; exact mpS_of ho1 (HV.out.put z)⟩, .inr ⟨rfl, by omega⟩, ?_⟩
    exact ⟨⟨hg1.os.trans HA.out.bel.os, hg1.tape.trans HA.out.bel.tape, hg1.output.trans HA.out.bel.output, Nat.le_trans HA.out.bel.size hg1.size, fun k hk => absurd hk (Nat.not_lt_zero k)⟩, fun k o hk ht hx => by
      have h1 := HA.out.blk k o hk ht (by simpa using hx)
      have hkB : k < B := by have := (Array.getElem?_eq_some_iff.1 hk).1; omega
      rw [hg1.block k (Array.getElem?_eq_some_iff.1 h1).1 (fun e => by cases e; omega)]
      exact h1⟩

/-- how much has come. -/
theorem many_any (b : Nat) (m : Option Nat) (S : List Int) (w : World) (h : SnV w b m S) : Calls Try.prog 21 #[.pointer (some ⟨b, 0, none⟩)] w fun e w' => e = .returned (.int .i64 S.length) ∧ w' = w := by
  obtain ⟨hb, hne, h0, hm⟩ := h
  cases m with
  | some B =>
    obtain ⟨D, ho, hv⟩ := hm B rfl
    have c0 : w.cell? ⟨b, 0, none⟩ = some (.map (some B)) := hb.cell 0
    have HZ1 : Hid (Maps.size D = S.length) := hv.size
    clear hb hm hv h0 hne
    go_enter Try.func21, Try.ntmps21
    go_wp2_with (first
      | (at_len; refine wpList_len_c _ rfl _ 44 rfl 31 59 Try.underlying44 _ B _ D rfl ho S.length HZ1.out ?_; go_frame)
      | go_in)
    go_ret
    exact ⟨rfl, rfl⟩
  | none =>
    obtain rfl := h0 rfl
    have c0 : w.cell? ⟨b, 0, none⟩ = some (.map none) := hb.cell 0
    have hl : ∀ ty W, (Builtin.len_ #[44] ty #[.map none]).run Try.prog W = .ok (.int .i64 0) W := fun ty W => Maps.len_nil Try.underlying44 ty
    clear hb hm h0 hne
    go_enter Try.func21, Try.ntmps21
    go_wp2_with fail
    go_ret
    exact ⟨rfl, rfl⟩

end Go.Proofs.Ytifddbfcongepaa
