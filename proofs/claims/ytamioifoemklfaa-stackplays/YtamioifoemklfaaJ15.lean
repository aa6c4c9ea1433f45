/-
  Texts of this seat, joined: VRefCheck, ARefOf, ARefMost, SkRun.
-/
import Derived.Test.YtamioifoemklfaaJ2
import Derived.Test.YtamioifoemklfaaJ14
import Derived.Test.YtamioifoemklfaaJ11
import Derived.Deep.RegionHeld3
import Derived.Test.YtamioifoemklfaaJ8
import Derived.Deep.DeepCutAuto
import Derived.BigQuiet

namespace Go.Proofs.Ytamioifoemklfaa.V
open Go.RowKit

set_option maxHeartbeats 1000000 in
theorem refCheck_any (a : Option Addr) (len cap : Nat) (ins : List In) (w : World) (hlen : len ≤ maxLen) (h : Ins w a len ins) :
    Calls Try.prog 23 #[.slice a len cap] w fun e w' => Told w w' e (chk ins) := by
  have hll := h.1
  unfold maxLen at hlen
  by_cases h0 : len = 0
  · have hc : Hid (chk ins = (10, 0)) := by unfold Hid chk; rw [if_pos (by omega)]
    subst h0
    generalize chk ins = p at *
    clear h hll
    go_enter Try.func23, Try.ntmps23
    go_wp2
    go_ret2
    rw [hc.out]
    exact ⟨rfl, Below.refl _ _⟩
  · by_cases h4 : 4096 < len
    · have hc : Hid (chk ins = (4, 4096)) := by unfold Hid chk; rw [if_neg (by omega), if_pos (by omega)]
      generalize chk ins = p at *
      clear h hll
      have hz : ((len : Int) == 0) = false := by rw [beq_eq_false_iff_ne]; omega
      have hd : decide ((4096 : Int) < (len : Int)) = true := by simp; omega
      go_enter Try.func23, Try.ntmps23
      go_wp2
      go_ret2
      rw [hc.out]
      exact ⟨rfl, Below.refl _ _⟩
    · have hc : Hid (chk ins = ff ins 0) := by unfold Hid chk; rw [if_neg (by omega), if_neg (by omega)]
      generalize hz : ff ins 0 = z at *
      obtain ⟨z1, z2⟩ := z
      have HZ : Hid (ff ins 0 = (z1, z2)) := hz
      clear hz
      generalize chk ins = p at *
      have hz : ((len : Int) == 0) = false := by rw [beq_eq_false_iff_ne]; omega
      have hd : decide ((4096 : Int) < (len : Int)) = false := by simp; omega
      go_enter Try.func23, Try.ntmps23
      go_wp2
      go_loopw [4] (fun i wr => ∃ k : Nat, k ≤ len ∧ i = .int .i64 k ∧ ff (ins.drop k) k = (z1, z2) ∧ Below w.heap.size w wr) (fun i _ => len - (intOf i).toNat)
      case atStart => exact ⟨0, Nat.zero_le _, rfl, HZ.out, Below.refl _ _⟩
      case round =>
        obtain ⟨k, hk, rfl, hst, hbr⟩ := hrel
        clear hd hz
        by_cases hlt : k < len
        · have hir := h.below hbr
          obtain ⟨b, off, rfl, hcl⟩ := hir.2.2 (by omega)
          have hat := hcl k ins[k] (List.getElem?_eq_getElem (by omega))
          have HO : Hid (ins[k].ok) := hir.2.1 ins[k] (List.getElem_mem (by omega))
          have HS : Hid (ff (ins.drop k) k = if fault ins[k] (len - 1 - k) = 0 then ff (ins.drop (k + 1)) (k + 1 : Nat) else (fault ins[k] (len - 1 - k), k)) := ff_at ins k (len - 1 - k) (by omega) (by omega) k
          have HT : Hid (ff (ins.drop k) k = (z1, z2)) := hst
          have HW : Hid (∀ W : World, W = wr → Calls Try.prog 34 #[.slice (some ⟨b, off, none⟩) len cap, .int .i64 k] W fun e w' => e = .returned (.int .i64 (fault ins[k] (len - 1 - k))) ∧ Below W.heap.size W w') := fun W e => e ▸ wrong_any b off len cap k ins[k] wr (by omega) hlt HO.out hat
          clear hcl hir h hst hat HO
          generalize fault ins[k] (len - 1 - k) = fx at *
          have hi1 : (k : Int) < (len : Int) := by omega
          have hbs := hbr.size
          by_cases hf : fx = 0
          · have HZ2 : Hid (ff (ins.drop (k + 1)) (k + 1 : Nat) = (z1, z2)) := by have := HS.out; rw [if_pos hf] at this; exact this.symm.trans HT.out
            subst hf
            clear HS HT HZ
            go_wp2_with (go_at_call 34; refine (HW.out _ rfl).mono ?_; rintro e w1 ⟨rfl, b1⟩)
            go_roundw
            case rel => exact ⟨k + 1, by omega, by go_num, HZ2.out, hbr.trans (b1.mono hbs)⟩
            case measure => simp [intOf]; omega
          · have HZ2 : Hid ((fx, (k : Int)) = (z1, z2)) := by have := HS.out; rw [if_neg hf] at this; exact this.symm.trans HT.out
            have hf2 : (fx == 0) = false := by simp [hf]
            clear HS HT HZ
            go_wp2_with (go_at_call 34; refine (HW.out _ rfl).mono ?_; rintro e w1 ⟨rfl, b1⟩)
            go_ret2
            refine ⟨?_, hbr.trans (b1.mono hbs)⟩
            rw [hc.out, ← HZ2.out]
            rfl
        · have HN : Hid ((0, -1) = (z1, z2)) := by rw [List.drop_eq_nil_of_le (by omega)] at hst; exact hst
          clear hst
          go_wp2
          go_ret2
          refine ⟨?_, hbr⟩
          rw [hc.out, ← HN.out]
          rfl

end Go.Proofs.Ytamioifoemklfaa.V

namespace Go.Proofs.Ytamioifoemklfaa.A
open Go.RowKit

set_option maxHeartbeats 1600000 in
theorem refOf_any (v : Int) (w : World) (hv : U32 v) :
    Calls Try.prog 20 #[.int .u32 v] w fun e w' => e = .returned (.agg #[.int .i64 (ki v), .int .i64 (ar v)]) ∧ Below w.heap.size w w' := by
  have HN : Hid (∀ W : World, Calls Try.prog 31 #[] W fun e w' => e = .returned (.slice (some ⟨W.heap.size, 0, none⟩) 8 8) ∧ Ns .u32 w' (some ⟨W.heap.size, 0, none⟩) 8 refL ∧ Below W.heap.size W w') := refNumbers_any
  have HH : Hid (∀ (k : Int) (W : World), Calls Try.prog 32 #[.int .i64 k] W fun e w' => e = .returned (.bool (hasB k)) ∧ w' = W) := fun k W => refHas_any k W
  have HB : Hid (∀ o, Below w.heap.size w (w.alloc o)) := fun o => (Below.refl _ _).alloc (Nat.le_refl _) _
  have HZ : Hid (Blk (w.alloc (Obj.cells #[.int .i64 0, .int .i64 0] 47)) w.heap.size 47 [.int .i64 0, .int .i64 0]) := blk_new w _ 47
  obtain ⟨v0, v1⟩ := hv
  have HT : Hid (top v = v / 65536 * 65536) := rfl
  have HA : Hid (ar v = if hasB (ki v) = true then v % 65536 else 0) := rfl
  go_enter Try.func20, Try.ntmps20
  go_wp2_with (go_at_call 31; refine (HN.out _).mono ?_; rintro e w1 ⟨rfl, hn, b1⟩; have d1 : Hid (Blk w1 w.heap.size 47 [.int .i64 0, .int .i64 0]) := HZ.out.over b1; have B1 : Hid (Below w.heap.size w w1) := (HB.out _).trans (b1.mono (HB.out _).size); clear b1)
  rw [size_alloc'] at hn
  obtain ⟨b, off, e, hc⟩ := hn.2 (by decide)
  cases e
  have s0 : w1.cell? ⟨w.heap.size, 0, none⟩ = some (.int .i64 0) := d1.out.cell 0
  have s1 : w1.cell? ⟨w.heap.size, 1, none⟩ = some (.int .i64 0) := d1.out.cell 1
  have f0 := d1.out.f 0
  have f1 := d1.out.f 1
  have HC : Hid (∀ i, i < 8 → w1.cell? ⟨w.heap.size + 1, 0 + i, none⟩ = some (.int .u32 (refL.getD i 0))) := hc
  clear hc hn
  go_loop [4] (fun i => ∃ k : Nat, k ≤ 8 ∧ i = .int .i64 k ∧ (∀ j, 1 ≤ j → j < k + 1 → tblL.getD j 0 ≠ top v)) (fun i => 8 - (intOf i).toNat)
  case atStart => exact ⟨0, by omega, rfl, fun j h1 h2 => absurd h2 (by omega)⟩
  case round =>
    obtain ⟨k, hk, rfl, hno⟩ := hrel
    have HNo : Hid (∀ j, 1 ≤ j → j < k + 1 → tblL.getD j 0 ≠ top v) := hno
    clear hno
    by_cases hlt : k < 8
    · have q := HC.out k hlt
      rw [Nat.zero_add, refL_at k hlt] at q
      have HF : Hid (tblL.getD (k + 1) 0 = top v → ki v = ((k + 1 : Nat) : Int)) := fun h => kiH_found (top v) (k + 1) (by omega) (by omega) HNo.out h
      have HX : Hid (∀ z, tblL.getD (k + 1) 0 = z → z ≠ top v → ∀ j, 1 ≤ j → j < k + 1 + 1 → tblL.getD j 0 ≠ top v) := by
        intro z hz hzn j h1 hj
        by_cases e : j = k + 1
        · subst e; rw [hz]; exact hzn
        · exact HNo.out j h1 (by omega)
      clear HNo
      generalize tblL.getD (k + 1) 0 = z at *
      have h8 : (k : Int) < 8 := by omega
      by_cases hz : z = top v
      · have HE : Hid (ki v = ((k + 1 : Nat) : Int)) := HF.out hz
        clear HF HX
        rw [HT.out] at hz
        subst hz
        have HH2 : Hid (∀ W : World, Calls Try.prog 32 #[.int .i64 ((k : Int) + 1)] W fun e w' => e = .returned (.bool (hasB (ki v))) ∧ w' = W) := by
          intro W
          have := HH.out ((k : Int) + 1) W
          rw [HE.out]
          exact this
        clear HH HN
        generalize hasB (ki v) = p at *
        cases p with
        | true =>
          have HA2 : Hid (ar v = v % 65536) := HA.out
          clear HA
          go_wp2_with (go_at_call 32; refine (HH2.out _).mono ?_; rintro e w2 ⟨rfl, rfl⟩)
          refine bodyPost_ret (v := .agg #[.int .i64 ((k : Int) + 1), .int .i64 (v % 65536)]) (by simp [results, Try.results20, go_sem, s0, s1]) rfl ⟨?_, ?_⟩
          · rw [HA2.out, HE.out]; rfl
          · exact (B1.out.setCell (p := ⟨w.heap.size, 0, none⟩) (Nat.le_refl _) _).setCell (p := ⟨w.heap.size, 1, none⟩) (Nat.le_refl _) _
        | false =>
          have HA2 : Hid (ar v = 0) := HA.out
          clear HA
          go_wp2_with (go_at_call 32; refine (HH2.out _).mono ?_; rintro e w2 ⟨rfl, rfl⟩)
          refine bodyPost_ret (v := .agg #[.int .i64 ((k : Int) + 1), .int .i64 0]) (by simp [results, Try.results20, go_sem, s0, s1]) rfl ⟨?_, ?_⟩
          · rw [HA2.out, HE.out]; rfl
          · exact (B1.out.setCell (p := ⟨w.heap.size, 0, none⟩) (Nat.le_refl _) _).setCell (p := ⟨w.heap.size, 1, none⟩) (Nat.le_refl _) _
      · have hzb : (z == v / 65536 * 65536) = false := by rw [← HT.out]; exact beq_eq_false_iff_ne.2 hz
        go_wp2_with fail
        go_round
        case rel => exact ⟨k + 1, by omega, by go_num, HX.out z rfl hz⟩
        case measure => simp [intOf]; omega
    · have h9 : ¬ (k : Int) < 8 := by omega
      have ek : ki v = 1 := kiH_none (top v) (fun j h1 h2 => HNo.out j h1 (by omega))
      have HE : Hid (ki v = 1) := ek
      have HA2 : Hid (ar v = 0) := by
        unfold Hid
        rw [HA.out, ek]
        rfl
      clear ek HNo HA HH
      go_wp2
      refine bodyPost_ret (v := .agg #[.int .i64 1, .int .i64 0]) (by simp [results, Try.results20, go_sem, s0, s1]) rfl ⟨?_, ?_⟩
      · rw [HA2.out, HE.out]
      · exact (B1.out.setCell (p := ⟨w.heap.size, 0, none⟩) (Nat.le_refl _) _).setCell (p := ⟨w.heap.size, 1, none⟩) (Nat.le_refl _) _

end Go.Proofs.Ytamioifoemklfaa.A

namespace Go.Proofs.Ytamioifoemklfaa.A
open Go.RowKit

theorem getD_u' {l : List Int} (hl : ∀ z ∈ l, U32 z) (k : Nat) (hk : k < l.length) : U32 (l.getD k 0) := by
  rw [show l.getD k 0 = l[k] by simp [hk]]
  exact hl _ (List.getElem_mem hk)

/-- the document's Of, told beside two cells and what is kept. -/
theorem refOf_kept (w : World) (p q : Addr) (x z : Int) (hp : p.block < w.heap.size) (hq : q.block < w.heap.size) (v : Int) (hv : U32 v) (W : World) (hS : W.cell? q = some (.int .u32 z) ∧ W.cell? p = some (.int .u32 x) ∧ Below w.heap.size w W) :
    Calls Try.prog 20 #[.int .u32 v] W fun e w' => e = .returned (.agg #[.int .i64 (ki v), .int .i64 (ar v)]) ∧ (w'.cell? q = some (.int .u32 z) ∧ w'.cell? p = some (.int .u32 x) ∧ Below w.heap.size w w') := by
  refine (refOf_any v W hv).mono ?_
  rintro e w' ⟨rfl, hb⟩
  obtain ⟨h1, h2, h3⟩ := hS
  have hs := h3.size
  exact ⟨rfl, (hb.cell (p := q) (by omega)).trans h1, (hb.cell (p := p) (by omega)).trans h2, h3.trans (hb.mono h3.size)⟩

set_option maxHeartbeats 2000000 in
theorem refMost_any (a : Option Addr) (len cap : Nat) (l : List Int) (w : World) (hl : ∀ z ∈ l, U32 z) (hlen : len ≤ maxLen) (h : Ns .u32 w a len l) :
    Calls Try.prog 27 #[.slice a len cap] w fun e w' => e = .returned (.int .u32 (most l)) ∧ Below w.heap.size w w' := by
  unfold maxLen at hlen
  have HL : Hid (∀ z ∈ l, U32 z) := hl
  have hll := h.1
  have hfd : ∀ (k a : Int) (W : World), (Instr.field 47 (.agg #[.int .i64 k, .int .i64 a]) 0).run Try.prog W = .ok (.int .i64 k) W := field_act
  clear hl
  go_enter Try.func27, Try.ntmps27
  go_wp2
  go_loopw [3] (fun i wr => ∃ n : Nat, n ≤ len ∧ i = .int .i64 n ∧ (∀ j, j < n → moreB l (l.getD j 0) = true) ∧ Below w.heap.size w wr) (fun i _ => len - (intOf i).toNat)
  case atStart => exact ⟨0, Nat.zero_le _, rfl, fun j hj => absurd hj (by omega), Below.refl _ _⟩
  case round =>
    obtain ⟨n, hn, rfl, hyes, hbr⟩ := hrel
    have HY : Hid (∀ j, j < n → moreB l (l.getD j 0) = true) := hyes
    clear hyes
    by_cases hlt : n < len
    · obtain ⟨b, off, rfl, hc⟩ := h.2 (by omega)
      have HC : Hid (∀ i, i < len → w.cell? ⟨b, off + i, none⟩ = some (.int .u32 (l.getD i 0))) := hc
      have hlb : b < w.heap.size := World.block_lt_of_cell? w _ (hc n hlt)
      have HLB : Hid (b < w.heap.size) := hlb
      have HAt : Hid (moreB l (l.getD n 0) = false → most l = l.getD n 0) := fun h => most_at l n (by omega) h HY.out
      have HUx : U32 (l.getD n 0) := getD_u' HL.out n (by omega)
      have HQn : Hid (w.cell? ⟨b, off + n, none⟩ = some (.int .u32 (l.getD n 0))) := hc n hlt
      have HTk : Hid (∀ k, k < l.length → moreB (l.take (k + 1)) (l.getD n 0) = (moreB (l.take k) (l.getD n 0) || decide (ki (l.getD k 0) < ki (l.getD n 0)))) := fun k hk => moreB_take l _ k hk
      have HYs : Hid (moreB l (l.getD n 0) = true → ∀ j, j < n + 1 → moreB l (l.getD j 0) = true) := by
        intro h0 j hj
        by_cases e : j = n
        · subst e; exact h0
        · exact HY.out j (by omega)
      have hi1 : (n : Int) < (len : Int) := by omega
      clear hc HY h hlb
      generalize l.getD n 0 = x at *
      go_wp2_with fail
      go_loopw [4, 5] (fun mo kk X => ∃ k : Nat, k ≤ len ∧ kk = .int .i64 k ∧ mo = .bool (!moreB (l.take k) x) ∧ Below w.heap.size w X) (fun _ kk _ => len - (intOf kk).toNat)
      case atStart => exact ⟨0, Nat.zero_le _, rfl, rfl, hbr⟩
      case round =>
        obtain ⟨k, hk, rfl, rfl, hbX⟩ := hrel
        by_cases hlk : k < len
        · have HS0 : Hid (∀ X, Below w.heap.size w X → X.drew.cell? ⟨b, off + k, none⟩ = some (.int .u32 (l.getD k 0)) ∧ X.drew.cell? ⟨b, off + n, none⟩ = some (.int .u32 x) ∧ Below w.heap.size w X.drew) := by
            intro X hX
            exact ⟨(hX.drew.cell (p := ⟨b, off + k, none⟩) HLB.out).trans (HC.out k hlk), (hX.drew.cell (p := ⟨b, off + n, none⟩) HLB.out).trans HQn.out, hX.drew⟩
          have HO : Hid (∀ (v : Int) (W : World), U32 v → (W.cell? ⟨b, off + k, none⟩ = some (.int .u32 (l.getD k 0)) ∧ W.cell? ⟨b, off + n, none⟩ = some (.int .u32 x) ∧ Below w.heap.size w W) → Calls Try.prog 20 #[.int .u32 v] W fun e w' => e = .returned (.agg #[.int .i64 (ki v), .int .i64 (ar v)]) ∧ (w'.cell? ⟨b, off + k, none⟩ = some (.int .u32 (l.getD k 0)) ∧ w'.cell? ⟨b, off + n, none⟩ = some (.int .u32 x) ∧ Below w.heap.size w w')) := fun v W hv hS => refOf_kept w ⟨b, off + n, none⟩ ⟨b, off + k, none⟩ x (l.getD k 0) HLB.out HLB.out v hv W hS
          have hU : U32 (l.getD k 0) := getD_u' HL.out k (by omega)
          have HT := HTk.out k (by omega)
          have HT2 : Hid (moreB (l.take (k + 1)) x = (moreB (l.take k) x || decide (ki (l.getD k 0) < ki x))) := HT
          clear HT HQn HTk HYs HAt
          generalize l.getD k 0 = z at *
          generalize moreB (l.take k) x = mo at *
          have hk1 : (k : Int) < (len : Int) := by omega
          have h0k : (0 : Int) ≤ (k : Int) := by omega
          have h0n : (0 : Int) ≤ (n : Int) := by omega
          have HBB : Hid (∀ X, (X.cell? ⟨b, off + k, none⟩ = some (.int .u32 z) ∧ X.cell? ⟨b, off + n, none⟩ = some (.int .u32 x) ∧ Below w.heap.size w X) → Below w.heap.size w X) := fun X h => h.2.2
          have hS0 := HS0.out _ hbX
          clear hbX hbr
          by_cases hz : ki z < ki x
          · have HE : Hid (moreB (l.take (k + 1)) x = true) := by unfold Hid; rw [HT2.out]; simp [hz]
            clear HT2
            go_wp2_with fail
            go_region_held3 (fun X => X.cell? ⟨b, off + k, none⟩ = some (.int .u32 z) ∧ X.cell? ⟨b, off + n, none⟩ = some (.int .u32 x) ∧ Below w.heap.size w X) (first | assumption | go_keep) (first | (go_at_call 20; refine (HO.out _ _ (by assumption) (by assumption)).mono ?_; rintro e w5 ⟨rfl, hS5⟩))
            all_goals
              have hb5 := HBB.out _ (by assumption)
              go_wp2_with fail
              go_roundw
              case rel => exact ⟨k + 1, by omega, by go_num, by rw [HE.out]; rfl, hb5⟩
              case measure => simp [intOf]; omega
          · have HE : Hid (moreB (l.take (k + 1)) x = mo) := by unfold Hid; rw [HT2.out]; simp [hz]
            clear HT2
            go_wp2_with fail
            go_region_held3 (fun X => X.cell? ⟨b, off + k, none⟩ = some (.int .u32 z) ∧ X.cell? ⟨b, off + n, none⟩ = some (.int .u32 x) ∧ Below w.heap.size w X) (first | assumption | go_keep) (first | (go_at_call 20; refine (HO.out _ _ (by assumption) (by assumption)).mono ?_; rintro e w5 ⟨rfl, hS5⟩))
            all_goals
              have hb5 := HBB.out _ (by assumption)
              go_wp2_with fail
              go_roundw
              case rel => exact ⟨k + 1, by omega, by go_num, by rw [HE.out], hb5⟩
              case measure => simp [intOf]; omega
        · have hk1 : ¬ (k : Int) < (len : Int) := by omega
          rw [List.take_of_length_le (by omega)]
          have qn := (hbX.cell (p := ⟨b, off + n, none⟩) HLB.out).trans HQn.out
          have hg : moreB l x = true ∨ moreB l x = false := by cases moreB l x <;> simp
          rcases hg with hg | hg
          · have HY2 : Hid (∀ j, j < n + 1 → moreB l (l.getD j 0) = true) := HYs.out hg
            rw [hg]
            clear hg HYs HAt HTk
            go_wp2_with fail
            go_roundw
            case rel => exact ⟨n + 1, by omega, by go_num, HY2.out, hbX⟩
            case measure => simp [intOf]; omega
          · have HE : Hid (most l = x) := HAt.out hg
            rw [hg]
            clear hg HYs HAt HTk
            go_wp2_with fail
            go_ret
            exact ⟨ret_int HE.out.symm, hbX⟩
    · have hi1 : ¬ (n : Int) < (len : Int) := by omega
      have he : len = 0 := by
        rcases Nat.eq_zero_or_pos len with e | e
        · exact e
        · obtain ⟨i, hi, hno⟩ := most_some l (by intro e2; subst e2; simp at hll; omega)
          have := HY.out i (by omega)
          rw [hno] at this
          cases this
      have HE : Hid (most l = 2147418112) := by
        obtain rfl : l = [] := List.eq_nil_of_length_eq_zero (by omega)
        rfl
      clear he HY
      go_wp2
      go_ret
      exact ⟨ret_int HE.out.symm, hbr⟩

end Go.Proofs.Ytamioifoemklfaa.A

namespace Go.Proofs.Ytamioifoemklfaa
open Go.RowKit

/-- what a run by the document is to tell. -/
def RefRunC : Prop := ∀ (W : World) (a : Option Addr) (cap : Nat) (l : List V.In) (d : V.Da), V.Ins W a l.length l → l.length ≤ maxLen → d.ok → Calls Try.prog 26 #[.slice a l.length cap, .agg d.cells.toArray] W fun e w' => V.RunTold W w' e l d

set_option linter.unusedSimpArgs false in
set_option maxRecDepth 8000 in
set_option maxHeartbeats 4000000 in
theorem rrun_of (hRun : RefRunC) (X : World) (b : Nat) (vL : Value) (ls : List (List V.In)) (d : V.Da) (hk : V.Blk X b 37 [vL]) (h : FlR X vL ls) (hl : ls.length ≤ 100) (hd : d.ok) :
    Calls Try.prog 16 #[.pointer (some ⟨b, 0, none⟩), .agg d.cells.toArray] X fun e w' => e = .returned (.tuple #[.int .u32 (A.most (ansL ls d)), .int .i64 (plN (ansL ls d))]) ∧ Below X.heap.size X w' := by
  obtain ⟨p1, c1, rfl, hk1, hk2⟩ : ∃ p c, vL = .slice p ls.length c ∧ ls.length ≤ c ∧ c ≤ 9223372036854775807 := by obtain ⟨p, c, e, h1, h2, _⟩ := h; exact ⟨p, c, e, h1, h2⟩
  have HR : Hid (∀ W a cap (l : List V.In), V.Ins W a l.length l → l.length ≤ maxLen → Calls Try.prog 26 #[.slice a l.length cap, .agg d.cells.toArray] W fun e w' => V.RunTold W w' e l d) := fun W a cap l h1 h2 => hRun W a cap l d h1 h2 hd
  have HUu : Hid (∀ z ∈ ansL ls d, A.U32 z) := fun z hz => by
    unfold ansL at hz
    rw [List.mem_reverse] at hz
    obtain ⟨l, hl, rfl⟩ := List.mem_map.1 hz
    obtain ⟨i, hi, rfl⟩ := List.getElem_of_mem hl
    obtain ⟨_, _, _, _, _, _, _, _, _, fi, _⟩ := flR_at h hi
    exact ansV_u _ d fi.2.1 hd
  obtain ⟨d1v, d2v, d3v, d4v, d5v, d6v, d7v, d8v, hAA⟩ := nine_of d hd
  rw [hAA] at HR ⊢
  obtain ⟨i0, hi, hz0, hz1, hz2⟩ := info_parts Try.infoU
  have BE : Hid (Below X.heap.size X (X.alloc (Obj.cells #[.int .u32 d.n, d1v, d2v, d3v, d4v, d5v, d6v, d7v, d8v] 27))) := below_new X _
  have KD : Hid (V.Blk (X.alloc (Obj.cells #[.int .u32 d.n, d1v, d2v, d3v, d4v, d5v, d6v, d7v, d8v] 27)) X.heap.size 27 [.int .u32 d.n, d1v, d2v, d3v, d4v, d5v, d6v, d7v, d8v]) := V.blk_new X _ _
  have HF : Hid (∀ W, Below X.heap.size X W → FlR W (.slice p1 ls.length c1) ls ∧ W.cell? ⟨b, 0, none⟩ = some (.slice p1 ls.length c1)) := fun W hW => ⟨h.below hW, (hk.over hW).cell 0⟩
  have c0 := (HF.out _ BE.out).2
  have e0 : IntKind.i64.wrap ((ls.length : Int) - 1) = (ls.length : Int) - 1 := by rw [IntKind.wrap_i64]; omega
  clear h hk hAA
  generalize hdn : d.n = dn at *
  go_enter Try.func16, Try.ntmps16
  go_wp2_with fail
  generalize (X.alloc (Obj.cells #[.int .u32 dn, d1v, d2v, d3v, d4v, d5v, d6v, d7v, d8v] 27)) = X1 at *
  clear c0
  go_loopw [6, 7] (fun v6 vi wr => ∃ (i : Nat), vi = .int .i64 ((i : Int) - 1) ∧ i ≤ ls.length ∧ wr.ownsRow X1.heap.size 23 1 v6 (ansL (ls.drop i) d).length (cellsZ (ansL (ls.drop i) d)) ∧ Below X1.heap.size X1 wr) (fun _ vi _ => (intOf vi + 1).toNat)
  case atStart => exact ⟨ls.length, rfl, Nat.le_refl _, by rw [List.drop_length]; exact ⟨rfl, .inl ⟨rfl, rfl⟩⟩, Below.refl _ _⟩
  case round =>
    obtain ⟨i, rfl, hi2, ho, hb⟩ := hrel
    obtain ⟨hfl, c0⟩ := HF.out wr (BE.out.trans (hb.mono BE.out.size))
    have HO : Hid (wr.ownsRow X1.heap.size 23 1 _ (ansL (ls.drop i) d).length (cellsZ (ansL (ls.drop i) d))) := ho
    have HB : Hid (Below X1.heap.size X1 wr) := hb
    obtain ⟨a6, q6, rfl⟩ := own_slice ho
    clear ho
    cases i with
    | succ j =>
      obtain ⟨fb, fo, fa, fc, rfl, e1, e2⟩ := flR_at (HF.out X (Below.refl _ _)).1 hi2
      have ej : (((j + 1 : Nat) : Int) - 1) = (j : Int) := by omega
      rw [ej]
      have HST : Hid (ansL (ls.drop j) d = ansL (ls.drop (j + 1)) d ++ [V.ansV ls[j] d]) := ans_step hi2
      have hjl : (ansL (ls.drop (j + 1)) d).length ≤ 100 := by rw [ansL_len, List.length_drop]; omega
      obtain ⟨fa', fc', ef, fi, fm, _, _⟩ := e2
      cases ef
      have HFi : Hid (∀ W, Below X1.heap.size X1 W → W.cell? ⟨b, 0, none⟩ = some (.slice (some ⟨fb, fo, none⟩) ls.length c1) ∧ W.cell? ⟨fb, fo + j, none⟩ = some (.slice fa ls[j].length fc) ∧ V.Blk W X.heap.size 27 [.int .u32 dn, d1v, d2v, d3v, d4v, d5v, d6v, d7v, d8v]) := fun W hW => ⟨(HF.out W (BE.out.trans (hW.mono BE.out.size))).2, cellK e1 (BE.out.trans (hW.mono BE.out.size)), KD.out.over hW⟩
      have HRx : Hid (∀ W, Below X1.heap.size X1 W → Calls Try.prog 26 #[.slice fa ls[j].length fc, .agg #[.int .u32 dn, d1v, d2v, d3v, d4v, d5v, d6v, d7v, d8v]] W fun e w' => V.RunTold W w' e ls[j] d) := fun W hW => HR.out W fa fc ls[j] (fi.below (BE.out.trans (hW.mono BE.out.size))) fm
      unfold V.RunTold at HRx
      generalize ls[j] = fl at *
      generalize V.ansV fl d = av at *
      generalize V.plV fl d = pv at *
      generalize V.errV fl = ev at *
      clear e1 fi fm hfl c0
      have hj1 : (j : Int) < (ls.length : Int) := by omega
      have hj0 : (0 : Int) ≤ (j : Int) := by omega
      have em : IntKind.i64.wrap ((j : Int) - 1) = (j : Int) - 1 := by rw [IntKind.wrap_i64]; omega
      go_upto_region 5 with fail
      have hHx : Below X1.heap.size X1 wr.drew := HB.out.drew
      have hS0 := HFi.out wr.drew hHx
      have hSb : ∀ W, Below wr.drew.heap.size wr.drew W → (fun w' => w'.cell? ⟨b, 0, none⟩ = some (.slice (some ⟨fb, fo, none⟩) ls.length c1) ∧ w'.cell? ⟨fb, fo + j, none⟩ = some (.slice fa fl.length fc) ∧ V.Blk w' X.heap.size 27 [.int .u32 dn, d1v, d2v, d3v, d4v, d5v, d6v, d7v, d8v]) W := fun W hW => HFi.out W (hHx.trans (hW.mono hHx.size))
      have HO2 : Hid (wr.drew.ownsRow X1.heap.size 23 1 (.slice a6 (ansL (ls.drop (j + 1)) d).length q6) (ansL (ls.drop (j + 1)) d).length (cellsZ (ansL (ls.drop (j + 1)) d))) := HO.out.drew
      refine wp_region_held_drew (S := (fun w' => w'.cell? ⟨b, 0, none⟩ = some (.slice (some ⟨fb, fo, none⟩) ls.length c1) ∧ w'.cell? ⟨fb, fo + j, none⟩ = some (.slice fa fl.length fc) ∧ V.Blk w' X.heap.size 27 [.int .u32 dn, d1v, d2v, d3v, d4v, d5v, d6v, d7v, d8v])) (by kernel_rfl) (hS0) (fun hHeld => ?_)
      simp only [List.size_toArray, List.length_cons, List.length_nil, Nat.reduceAdd]
      generalize wr.drew = Z at *
      refine wpAnyH_take (i := 0) (v := ?_) rfl (by kernel_rfl) (by kernel_rfl) (by kernel_rfl) (fun _ _ _ h => h) (Or.inl ⟨by rfl, ?_⟩) hHeld ?_
      rotate_left
      · (intro w hSw; (try dsimp only at hSw); have s0 := hSw.1; have s1 := hSw.2.1; have n0 := hSw.2.2.cell 0; have n1 := hSw.2.2.cell 1; have n2 := hSw.2.2.cell 2; have n3 := hSw.2.2.cell 3; have n4 := hSw.2.2.cell 4; have n5 := hSw.2.2.cell 5; have n6 := hSw.2.2.cell 6; have n7 := hSw.2.2.cell 7; have n8 := hSw.2.2.cell 8; go_simp; try with_reducible rfl)
      try simp only [Act.put, List.setIfInBounds_toArray, List.set_cons_zero, List.set_cons_succ, List.getElem_toArray, List.getElem_cons_zero, List.getElem_cons_succ]
      refine wpAnyH_take (i := 1) (v := ?_) rfl (by kernel_rfl) (by kernel_rfl) (by kernel_rfl) (fun _ _ _ h => h) (Or.inl ⟨by rfl, ?_⟩) hHeld ?_
      rotate_left
      · (intro w hSw; (try dsimp only at hSw); have s0 := hSw.1; have s1 := hSw.2.1; have n0 := hSw.2.2.cell 0; have n1 := hSw.2.2.cell 1; have n2 := hSw.2.2.cell 2; have n3 := hSw.2.2.cell 3; have n4 := hSw.2.2.cell 4; have n5 := hSw.2.2.cell 5; have n6 := hSw.2.2.cell 6; have n7 := hSw.2.2.cell 7; have n8 := hSw.2.2.cell 8; go_simp; try with_reducible rfl)
      try simp only [Act.put, List.setIfInBounds_toArray, List.set_cons_zero, List.set_cons_succ, List.getElem_toArray, List.getElem_cons_zero, List.getElem_cons_succ]
      refine wpAnyH_take (i := 2) (v := ?_) rfl (by kernel_rfl) (by kernel_rfl) (by kernel_rfl) (fun _ _ _ h => h) (Or.inl ⟨by rfl, ?_⟩) hHeld ?_
      rotate_left
      · (intro w hSw; (try dsimp only at hSw); have s0 := hSw.1; have s1 := hSw.2.1; have n0 := hSw.2.2.cell 0; have n1 := hSw.2.2.cell 1; have n2 := hSw.2.2.cell 2; have n3 := hSw.2.2.cell 3; have n4 := hSw.2.2.cell 4; have n5 := hSw.2.2.cell 5; have n6 := hSw.2.2.cell 6; have n7 := hSw.2.2.cell 7; have n8 := hSw.2.2.cell 8; go_simp; try with_reducible rfl)
      try simp only [Act.put, List.setIfInBounds_toArray, List.set_cons_zero, List.set_cons_succ, List.getElem_toArray, List.getElem_cons_zero, List.getElem_cons_succ]
      refine wpAnyH_take (i := 3) (v := ?_) rfl (by kernel_rfl) (by kernel_rfl) (by kernel_rfl) (fun _ _ _ h => h) (Or.inl ⟨by rfl, ?_⟩) hHeld ?_
      rotate_left
      · (intro w hSw; (try dsimp only at hSw); have s0 := hSw.1; have s1 := hSw.2.1; have n0 := hSw.2.2.cell 0; have n1 := hSw.2.2.cell 1; have n2 := hSw.2.2.cell 2; have n3 := hSw.2.2.cell 3; have n4 := hSw.2.2.cell 4; have n5 := hSw.2.2.cell 5; have n6 := hSw.2.2.cell 6; have n7 := hSw.2.2.cell 7; have n8 := hSw.2.2.cell 8; go_simp; try with_reducible rfl)
      try simp only [Act.put, List.setIfInBounds_toArray, List.set_cons_zero, List.set_cons_succ, List.getElem_toArray, List.getElem_cons_zero, List.getElem_cons_succ]
      refine wpAnyH_take (i := 4) (v := ?_) rfl (by kernel_rfl) (by kernel_rfl) (by kernel_rfl) (fun _ _ _ h => h) (Or.inl ⟨by rfl, ?_⟩) hHeld ?_
      rotate_left
      · (intro w hSw; (try dsimp only at hSw); have s0 := hSw.1; have s1 := hSw.2.1; have n0 := hSw.2.2.cell 0; have n1 := hSw.2.2.cell 1; have n2 := hSw.2.2.cell 2; have n3 := hSw.2.2.cell 3; have n4 := hSw.2.2.cell 4; have n5 := hSw.2.2.cell 5; have n6 := hSw.2.2.cell 6; have n7 := hSw.2.2.cell 7; have n8 := hSw.2.2.cell 8; go_simp; try with_reducible rfl)
      try simp only [Act.put, List.setIfInBounds_toArray, List.set_cons_zero, List.set_cons_succ, List.getElem_toArray, List.getElem_cons_zero, List.getElem_cons_succ]
      refine wpAnyH_take (i := 5) (v := ?_) rfl (by kernel_rfl) (by kernel_rfl) (by kernel_rfl) (fun _ _ _ h => h) (Or.inl ⟨by rfl, ?_⟩) hHeld ?_
      rotate_left
      · (intro w hSw; (try dsimp only at hSw); have s0 := hSw.1; have s1 := hSw.2.1; have n0 := hSw.2.2.cell 0; have n1 := hSw.2.2.cell 1; have n2 := hSw.2.2.cell 2; have n3 := hSw.2.2.cell 3; have n4 := hSw.2.2.cell 4; have n5 := hSw.2.2.cell 5; have n6 := hSw.2.2.cell 6; have n7 := hSw.2.2.cell 7; have n8 := hSw.2.2.cell 8; go_simp; try with_reducible rfl)
      try simp only [Act.put, List.setIfInBounds_toArray, List.set_cons_zero, List.set_cons_succ, List.getElem_toArray, List.getElem_cons_zero, List.getElem_cons_succ]
      refine wpAnyH_take (i := 6) (v := ?_) rfl (by kernel_rfl) (by kernel_rfl) (by kernel_rfl) (fun _ _ _ h => h) (Or.inl ⟨by rfl, ?_⟩) hHeld ?_
      rotate_left
      · (intro w hSw; (try dsimp only at hSw); have s0 := hSw.1; have s1 := hSw.2.1; have n0 := hSw.2.2.cell 0; have n1 := hSw.2.2.cell 1; have n2 := hSw.2.2.cell 2; have n3 := hSw.2.2.cell 3; have n4 := hSw.2.2.cell 4; have n5 := hSw.2.2.cell 5; have n6 := hSw.2.2.cell 6; have n7 := hSw.2.2.cell 7; have n8 := hSw.2.2.cell 8; go_simp; try with_reducible rfl)
      try simp only [Act.put, List.setIfInBounds_toArray, List.set_cons_zero, List.set_cons_succ, List.getElem_toArray, List.getElem_cons_zero, List.getElem_cons_succ]
      refine wpAnyH_take (i := 7) (v := ?_) rfl (by kernel_rfl) (by kernel_rfl) (by kernel_rfl) (fun _ _ _ h => h) (Or.inl ⟨by rfl, ?_⟩) hHeld ?_
      rotate_left
      · (intro w hSw; (try dsimp only at hSw); have s0 := hSw.1; have s1 := hSw.2.1; have n0 := hSw.2.2.cell 0; have n1 := hSw.2.2.cell 1; have n2 := hSw.2.2.cell 2; have n3 := hSw.2.2.cell 3; have n4 := hSw.2.2.cell 4; have n5 := hSw.2.2.cell 5; have n6 := hSw.2.2.cell 6; have n7 := hSw.2.2.cell 7; have n8 := hSw.2.2.cell 8; go_simp; try with_reducible rfl)
      try simp only [Act.put, List.setIfInBounds_toArray, List.set_cons_zero, List.set_cons_succ, List.getElem_toArray, List.getElem_cons_zero, List.getElem_cons_succ]
      refine wpAnyH_ready (rs := [8]) (by kernel_rfl) (by simp) ?_
      refine AllReadyH.cons rfl (fun K hK => ?_) AllReadyH.nil
      go_simp
      refine (HRx.out _ hHx).mono ?_
      rintro e w4 ⟨rfl, b4⟩
      have hS4 := hSb w4 b4
      go_wp2_with fail
      refine hK.out _ _ (hS4) (fun hHeld => ?_)
      clear hK K
      try simp only [Act.put, List.setIfInBounds_toArray, List.set_cons_zero, List.set_cons_succ, List.getElem_toArray, List.getElem_cons_zero, List.getElem_cons_succ]
      refine wpAnyH_take (i := 9) (v := ?_) rfl (by kernel_rfl) (by kernel_rfl) (by kernel_rfl) (fun _ _ _ h => h) (Or.inl ⟨by rfl, ?_⟩) hHeld ?_
      rotate_left
      · (intro w hSw; (try dsimp only at hSw); go_simp; try with_reducible rfl)
      try simp only [Act.put, List.setIfInBounds_toArray, List.set_cons_zero, List.set_cons_succ, List.getElem_toArray, List.getElem_cons_zero, List.getElem_cons_succ]
      refine wpAnyH_take (i := 10) (v := ?_) rfl (by kernel_rfl) (by kernel_rfl) (by kernel_rfl) (fun _ _ _ h => h) (Or.inl ⟨by rfl, ?_⟩) hHeld ?_
      rotate_left
      · (intro w hSw; (try dsimp only at hSw); go_simp; try with_reducible rfl)
      try simp only [Act.put, List.setIfInBounds_toArray, List.set_cons_zero, List.set_cons_succ, List.getElem_toArray, List.getElem_cons_zero, List.getElem_cons_succ]
      refine wpAnyH_take (i := 11) (v := ?_) rfl (by kernel_rfl) (by kernel_rfl) (by kernel_rfl) (fun _ _ _ h => h) (Or.inl ⟨by rfl, ?_⟩) hHeld ?_
      rotate_left
      · (intro w hSw; (try dsimp only at hSw); go_simp; try with_reducible rfl)
      try simp only [Act.put, List.setIfInBounds_toArray, List.set_cons_zero, List.set_cons_succ, List.getElem_toArray, List.getElem_cons_zero, List.getElem_cons_succ]
      refine wpAnyH_take (i := 12) (v := ?_) rfl (by kernel_rfl) (by kernel_rfl) (by kernel_rfl) (fun _ _ _ h => h) (Or.inl ⟨by rfl, ?_⟩) hHeld ?_
      rotate_left
      · (intro w hSw; (try dsimp only at hSw); go_simp; try with_reducible rfl)
      try simp only [Act.put, List.setIfInBounds_toArray, List.set_cons_zero, List.set_cons_succ, List.getElem_toArray, List.getElem_cons_zero, List.getElem_cons_succ]
      refine wpAnyH_take (i := 13) (v := ?_) rfl (by kernel_rfl) (by kernel_rfl) (by kernel_rfl) (fun _ _ _ h => h) (Or.inl ⟨by rfl, ?_⟩) hHeld ?_
      rotate_left
      · (intro w hSw; (try dsimp only at hSw); go_simp; try with_reducible rfl)
      try simp only [Act.put, List.setIfInBounds_toArray, List.set_cons_zero, List.set_cons_succ, List.getElem_toArray, List.getElem_cons_zero, List.getElem_cons_succ]
      refine wpAnyH_take (i := 14) (v := ?_) rfl (by kernel_rfl) (by kernel_rfl) (by kernel_rfl) (fun _ _ _ h => h) (Or.inl ⟨by rfl, ?_⟩) hHeld ?_
      rotate_left
      · (intro w hSw; (try dsimp only at hSw); go_simp; try with_reducible rfl)
      try simp only [Act.put, List.setIfInBounds_toArray, List.set_cons_zero, List.set_cons_succ, List.getElem_toArray, List.getElem_cons_zero, List.getElem_cons_succ]
      refine wpAnyH_take (i := 15) (v := ?_) rfl (by kernel_rfl) (by kernel_rfl) (by kernel_rfl) (fun _ _ _ h => h) (Or.inl ⟨by rfl, ?_⟩) hHeld ?_
      rotate_left
      · (intro w hSw; (try dsimp only at hSw); go_simp; try with_reducible rfl)
      try simp only [Act.put, List.setIfInBounds_toArray, List.set_cons_zero, List.set_cons_succ, List.getElem_toArray, List.getElem_cons_zero, List.getElem_cons_succ]
      refine wpAnyH_done (by kernel_rfl) ?_ _
      have HB4 : Hid (Below X1.heap.size X1 w4) := hHx.trans (b4.mono hHx.size)
      have HO4 : Hid (w4.ownsRow X1.heap.size 23 1 (.slice a6 (ansL (ls.drop (j + 1)) d).length q6) (ansL (ls.drop (j + 1)) d).length (cellsZ (ansL (ls.drop (j + 1)) d))) := own_over HO2.out b4
      clear hHx hS0 hSb b4 hS4 hHeld HO HO2 HB
      generalize ansL (ls.drop (j + 1)) d = AL at *
      go_wp2_with (first
        | (at_builtin; refine wpList_append_own _ rfl _ _ 62 rfl X1.heap.size 23 i0 (.int .u32 0) 1 4 Try.underlying62 hi hz0 hz1 hz2 rfl (by decide) _ _ _ rfl (HO4.out.alloc _) ⟨w4.heap.size, 0, none⟩ 1 1 [.int .u32 av] rfl rfl (cell_one_new _ _ _) (by simp [Value.oneCell']) (by unfold maxLen; omega) (by omega) (by have := HB4.out.size; simp; omega) ?_; intro v' w5 hown' hg5 hnil5; go_frame)
        | go_in)
      go_roundw
      case rel => exact ⟨j, by go_num, by omega, by rw [HST.out, List.length_append]; simpa [cellsZ] using hown', (HB4.out.alloc HB4.out.size _).grown hg5 (by have := HB4.out.size; simp; omega) (fun q hq => (HO4.out.lt q hq).1)⟩
      case measure => simp [intOf]
    | zero =>
      simp only [List.drop_zero] at HO ⊢
      have HO0 : Hid (wr.ownsRow X1.heap.size 23 1 (.slice a6 (ansL ls d).length q6) (ansL ls d).length (cellsZ (ansL ls d))) := HO.out
      have hal : (ansL ls d).length = ls.length := ansL_len ls d
      have HMo : Hid (Calls Try.prog 27 #[.slice a6 (ansL ls d).length q6] wr fun e w' => e = .returned (.int .u32 (A.most (ansL ls d))) ∧ Below wr.heap.size wr w') := by
        obtain ⟨a7, q7, ea, hns, _⟩ := ns_of_own HO0.out
        cases ea
        exact A.refMost_any a6 _ q6 (ansL ls d) wr HUu.out (by unfold maxLen; omega) hns
      clear HO hfl c0
      have HP : Hid (plN (ansL ls d) = match (ansL ls d).findIdx? (fun y => y == A.most (ansL ls d)) with | some i => ((ansL ls d).length : Int) - 1 - (i : Int) | none => -1) := rfl
      obtain ⟨L, hL⟩ : ∃ L, ansL ls d = L := ⟨_, rfl⟩
      obtain ⟨mo, hmo⟩ : ∃ mo, A.most L = mo := ⟨_, rfl⟩
      obtain ⟨pn, hpn⟩ : ∃ pn, plN L = pn := ⟨_, rfl⟩
      have HLe : Hid (ansL ls d = L ∧ A.most L = mo ∧ plN L = pn) := ⟨hL, hmo, hpn⟩
      rw [hL] at HO0 HMo HP hal
      rw [hmo] at HMo HP
      rw [hpn] at HP
      simp only [hL]
      clear hL hmo hpn
      have HAL : Hid (L.length = ls.length) := hal
      rw [hal] at HO0 HMo
      rw [hal]
      clear hal
      go_upto_region 8 with (first | (go_at_call 27; refine HMo.out.mono ?_; rintro e w5 ⟨rfl, b5⟩))
      have HB5 : Hid (Below X1.heap.size X1 w5) := HB.out.trans (b5.mono HB.out.size)
      have HO5 := own_over HO0.out b5
      rw [← HAL.out] at HO5
      obtain ⟨a8, q8, e8, hns, _⟩ := ns_of_own HO5
      rw [HAL.out] at e8 hns
      cases e8
      have HN : Hid (∀ W, Below w5.heap.size w5 W → A.Ns .u32 W a6 ls.length L ∧ W.cell? ⟨b, 0, none⟩ = some (.slice p1 ls.length c1)) := fun W hW => ⟨hns.below hW, (HF.out W (BE.out.trans ((HB5.out.trans (hW.mono HB5.out.size)).mono BE.out.size))).2⟩
      clear hns HO5 HO0 HMo b5 HB
      go_upto_region 9 with fail
      go_loopw [12] (fun vi wz => ∃ i : Nat, vi = .int .i64 i ∧ i ≤ ls.length ∧ (∀ j (hj : j < L.length), j < i → L[j] ≠ mo) ∧ Below w5.heap.size w5 wz) (fun vi _ => ls.length - (intOf vi).toNat)
      case atStart => exact ⟨0, rfl, Nat.zero_le _, fun j hj h => absurd h (by omega), Below.refl _ _⟩
      case round =>
        obtain ⟨i, rfl, hi3, hno, hbz⟩ := hrel
        obtain ⟨hnz, c0⟩ := HN.out _ hbz
        have HBz : Hid (Below X.heap.size X _) := BE.out.trans ((HB5.out.trans (hbz.mono HB5.out.size)).mono BE.out.size)
        have HBW : Hid (∀ m, Below X.heap.size X (World.drewN _ m)) := fun m => HBz.out.trans ((A.below_drewN _ m).mono HBz.out.size)
        by_cases hlt : i < ls.length
        · have hi1 : (i : Int) < (ls.length : Int) := by omega
          have hlL : i < L.length := by rw [HAL.out]; exact hlt
          obtain ⟨nb, no', rfl, hc⟩ := hnz.2 (by omega)
          have e1 := hc i hlt
          have hgd : L.getD i 0 = L[i] := by rw [List.getD_eq_getElem?_getD, List.getElem?_eq_getElem hlL]; rfl
          rw [hgd] at e1
          clear hc hnz
          by_cases hx : L[i] = mo
          · have HE : Hid (pn = (ls.length : Int) - 1 - (i : Int)) := by
              unfold Hid
              rw [HP.out, find_some_at hlL hx hno, HAL.out]
            rw [hx] at e1
            have hmm : (mo == mo) = true := by simp
            have w1 : IntKind.i64.wrap ((ls.length : Int) - 1) = (ls.length : Int) - 1 := by rw [IntKind.wrap_i64]; omega
            have w2 : IntKind.i64.wrap ((ls.length : Int) - 1 - (i : Int)) = (ls.length : Int) - 1 - (i : Int) := by rw [IntKind.wrap_i64]; omega
            clear hno hx hgd
            go_wp2_with fail
            go_quiet (fail)
            go_wp2_with fail
            go_ret2
            exact ⟨by rw [HLe.out.1, HLe.out.2.1, HLe.out.2.2, HE.out]; rfl, HBW.out _⟩
          · have hx1 : (L[i] == mo) = false := by simpa using hx
            have hno2 : ∀ j (hj : j < L.length), j < i + 1 → L[j] ≠ mo := fun j hj hji => by
              rcases Nat.lt_succ_iff_lt_or_eq.1 hji with h | h
              · exact hno j hj h
              · subst h; exact hx
            have HN2 : Hid (∀ j (hj : j < L.length), j < i + 1 → L[j] ≠ mo) := hno2
            clear hno hno2 hx hgd
            generalize L[i] = y at *
            go_wp2_with fail
            go_roundw
            case rel => exact ⟨i + 1, by go_num, hlt, HN2.out, hbz⟩
            case measure => simp [intOf]; omega
        · have hi1 : ¬ (i : Int) < (ls.length : Int) := by omega
          have HE : Hid (pn = -1) := by
            unfold Hid
            rw [HP.out, find_none_at (by rw [HAL.out]; exact hlt) hno]
          clear hno hnz
          go_wp2_with fail
          go_ret2
          exact ⟨by rw [HLe.out.1, HLe.out.2.1, HLe.out.2.2, HE.out]; rfl, HBz.out⟩

end Go.Proofs.Ytamioifoemklfaa
