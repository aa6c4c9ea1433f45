/-
  What forbids most of what filters answered, by the document: proved of every list.
-/
import Derived.Test.YtamioifoemklfaaARefOf
import Derived.Test.YtamioifoemklfaaAMostMath
import Derived.Deep.RegionHeld3
namespace Go.Proofs.Ytamioifoemklfaa.A
open Go.RowKit

theorem getD_u' {l : List Int} (hl : ∀ z ∈ l, U32 z) (k : Nat) (hk : k < l.length) : U32 (l.getD k 0) := by
  rw [show l.getD k 0 = l[k] by simp [hk]]
  exact hl _ (List.getElem_mem hk)

/-- the document's Of, told beside two cells and what is kept. -/
theorem refOf_kept (w : World) (p q : Addr) (x z : Int) (hp : p.block < w.heap.size) (hq : q.block < w.heap.size) (v : Int) (hv : U32 v) (W : World) (hS : W.cell? q = some (.int .u32 z) ∧ W.cell? p = some (.int .u32 x) ∧ Below w.heap.size w W) :
    Calls Try.prog 20 #[.int .u32 v] W fun e w' => e = .returned (.agg #[.int .i64 (ki v), .int .i64 (ar v)]) ∧ (w'.cell? q = some (.int .u32 z) ∧ w'.cell? p = some (.int .u32 x) ∧ Below w.heap.size w w') := by
  refine (refOf_any v W hv).mono ?_
  rintro e w' ⟨rfl, hb⟩
  obtain ⟨h1, h2, h3⟩ := hS
  have hs := h3.size
  exact ⟨rfl, (hb.cell (p := q) (by omega)).trans h1, (hb.cell (p := p) (by omega)).trans h2, h3.trans (hb.mono h3.size)⟩

set_option maxHeartbeats 2000000 in
theorem refMost_any (a : Option Addr) (len cap : Nat) (l : List Int) (w : World) (hl : ∀ z ∈ l, U32 z) (hlen : len ≤ maxLen) (h : Ns .u32 w a len l) :
    Calls Try.prog 27 #[.slice a len cap] w fun e w' => e = .returned (.int .u32 (most l)) ∧ Below w.heap.size w w' := by
  unfold maxLen at hlen
  have HL : Hid (∀ z ∈ l, U32 z) := hl
  have hll := h.1
  have hfd : ∀ (k a : Int) (W : World), (Instr.field 47 (.agg #[.int .i64 k, .int .i64 a]) 0).run Try.prog W = .ok (.int .i64 k) W := field_act
  clear hl
  go_enter Try.func27, Try.ntmps27
  go_wp2
  go_loopw [3] (fun i wr => ∃ n : Nat, n ≤ len ∧ i = .int .i64 n ∧ (∀ j, j < n → moreB l (l.getD j 0) = true) ∧ Below w.heap.size w wr) (fun i _ => len - (intOf i).toNat)
  case atStart => exact ⟨0, Nat.zero_le _, rfl, fun j hj => absurd hj (by omega), Below.refl _ _⟩
  case round =>
    obtain ⟨n, hn, rfl, hyes, hbr⟩ := hrel
    have HY : Hid (∀ j, j < n → moreB l (l.getD j 0) = true) := hyes
    clear hyes
    by_cases hlt : n < len
    · obtain ⟨b, off, rfl, hc⟩ := h.2 (by omega)
      have HC : Hid (∀ i, i < len → w.cell? ⟨b, off + i, none⟩ = some (.int .u32 (l.getD i 0))) := hc
      have hlb : b < w.heap.size := World.block_lt_of_cell? w _ (hc n hlt)
      have HLB : Hid (b < w.heap.size) := hlb
      have HAt : Hid (moreB l (l.getD n 0) = false → most l = l.getD n 0) := fun h => most_at l n (by omega) h HY.out
      have HUx : U32 (l.getD n 0) := getD_u' HL.out n (by omega)
      have HQn : Hid (w.cell? ⟨b, off + n, none⟩ = some (.int .u32 (l.getD n 0))) := hc n hlt
      have HTk : Hid (∀ k, k < l.length → moreB (l.take (k + 1)) (l.getD n 0) = (moreB (l.take k) (l.getD n 0) || decide (ki (l.getD k 0) < ki (l.getD n 0)))) := fun k hk => moreB_take l _ k hk
      have HYs : Hid (moreB l (l.getD n 0) = true → ∀ j, j < n + 1 → moreB l (l.getD j 0) = true) := by
        intro h0 j hj
        by_cases e : j = n
        · subst e; exact h0
        · exact HY.out j (by omega)
      have hi1 : (n : Int) < (len : Int) := by omega
      clear hc HY h hlb
      generalize l.getD n 0 = x at *
      go_wp2_with fail
      go_loopw [4, 5] (fun mo kk X => ∃ k : Nat, k ≤ len ∧ kk = .int .i64 k ∧ mo = .bool (!moreB (l.take k) x) ∧ Below w.heap.size w X) (fun _ kk _ => len - (intOf kk).toNat)
      case atStart => exact ⟨0, Nat.zero_le _, rfl, rfl, hbr⟩
      case round =>
        obtain ⟨k, hk, rfl, rfl, hbX⟩ := hrel
        by_cases hlk : k < len
        · have HS0 : Hid (∀ X, Below w.heap.size w X → X.drew.cell? ⟨b, off + k, none⟩ = some (.int .u32 (l.getD k 0)) ∧ X.drew.cell? ⟨b, off + n, none⟩ = some (.int .u32 x) ∧ Below w.heap.size w X.drew) := by
            intro X hX
            exact ⟨(hX.drew.cell (p := ⟨b, off + k, none⟩) HLB.out).trans (HC.out k hlk), (hX.drew.cell (p := ⟨b, off + n, none⟩) HLB.out).trans HQn.out, hX.drew⟩
          have HO : Hid (∀ (v : Int) (W : World), U32 v → (W.cell? ⟨b, off + k, none⟩ = some (.int .u32 (l.getD k 0)) ∧ W.cell? ⟨b, off + n, none⟩ = some (.int .u32 x) ∧ Below w.heap.size w W) → Calls Try.prog 20 #[.int .u32 v] W fun e w' => e = .returned (.agg #[.int .i64 (ki v), .int .i64 (ar v)]) ∧ (w'.cell? ⟨b, off + k, none⟩ = some (.int .u32 (l.getD k 0)) ∧ w'.cell? ⟨b, off + n, none⟩ = some (.int .u32 x) ∧ Below w.heap.size w w')) := fun v W hv hS => refOf_kept w ⟨b, off + n, none⟩ ⟨b, off + k, none⟩ x (l.getD k 0) HLB.out HLB.out v hv W hS
          have hU : U32 (l.getD k 0) := getD_u' HL.out k (by omega)
          have HT := HTk.out k (by omega)
          have HT2 : Hid (moreB (l.take (k + 1)) x = (moreB (l.take k) x || decide (ki (l.getD k 0) < ki x))) := HT
          clear HT HQn HTk HYs HAt
          generalize l.getD k 0 = z at *
          generalize moreB (l.take k) x = mo at *
          have hk1 : (k : Int) < (len : Int) := by omega
          have h0k : (0 : Int) ≤ (k : Int) := by omega
          have h0n : (0 : Int) ≤ (n : Int) := by omega
          have HBB : Hid (∀ X, (X.cell? ⟨b, off + k, none⟩ = some (.int .u32 z) ∧ X.cell? ⟨b, off + n, none⟩ = some (.int .u32 x) ∧ Below w.heap.size w X) → Below w.heap.size w X) := fun X h => h.2.2
          have hS0 := HS0.out _ hbX
          clear hbX hbr
          by_cases hz : ki z < ki x
          · have HE : Hid (moreB (l.take (k + 1)) x = true) := by unfold Hid; rw [HT2.out]; simp [hz]
            clear HT2
            go_wp2_with fail
            go_region_held3 (fun X => X.cell? ⟨b, off + k, none⟩ = some (.int .u32 z) ∧ X.cell? ⟨b, off + n, none⟩ = some (.int .u32 x) ∧ Below w.heap.size w X) (first | assumption | go_keep) (first | (go_at_call 20; refine (HO.out _ _ (by assumption) (by assumption)).mono ?_; rintro e w5 ⟨rfl, hS5⟩))
            all_goals
              have hb5 := HBB.out _ (by assumption)
              go_wp2_with fail
              go_roundw
              case rel => exact ⟨k + 1, by omega, by go_num, by rw [HE.out]; rfl, hb5⟩
              case measure => simp [intOf]; omega
          · have HE : Hid (moreB (l.take (k + 1)) x = mo) := by unfold Hid; rw [HT2.out]; simp [hz]
            clear HT2
            go_wp2_with fail
            go_region_held3 (fun X => X.cell? ⟨b, off + k, none⟩ = some (.int .u32 z) ∧ X.cell? ⟨b, off + n, none⟩ = some (.int .u32 x) ∧ Below w.heap.size w X) (first | assumption | go_keep) (first | (go_at_call 20; refine (HO.out _ _ (by assumption) (by assumption)).mono ?_; rintro e w5 ⟨rfl, hS5⟩))
            all_goals
              have hb5 := HBB.out _ (by assumption)
              go_wp2_with fail
              go_roundw
              case rel => exact ⟨k + 1, by omega, by go_num, by rw [HE.out], hb5⟩
              case measure => simp [intOf]; omega
        · have hk1 : ¬ (k : Int) < (len : Int) := by omega
          rw [List.take_of_length_le (by omega)]
          have qn := (hbX.cell (p := ⟨b, off + n, none⟩) HLB.out).trans HQn.out
          have hg : moreB l x = true ∨ moreB l x = false := by cases moreB l x <;> simp
          rcases hg with hg | hg
          · have HY2 : Hid (∀ j, j < n + 1 → moreB l (l.getD j 0) = true) := HYs.out hg
            rw [hg]
            clear hg HYs HAt HTk
            go_wp2_with fail
            go_roundw
            case rel => exact ⟨n + 1, by omega, by go_num, HY2.out, hbX⟩
            case measure => simp [intOf]; omega
          · have HE : Hid (most l = x) := HAt.out hg
            rw [hg]
            clear hg HYs HAt HTk
            go_wp2_with fail
            go_ret
            exact ⟨ret_int HE.out.symm, hbX⟩
    · have hi1 : ¬ (n : Int) < (len : Int) := by omega
      have he : len = 0 := by
        rcases Nat.eq_zero_or_pos len with e | e
        · exact e
        · obtain ⟨i, hi, hno⟩ := most_some l (by intro e2; subst e2; simp at hll; omega)
          have := HY.out i (by omega)
          rw [hno] at this
          cases this
      have HE : Hid (most l = 2147418112) := by
        obtain rfl : l = [] := List.eq_nil_of_length_eq_zero (by omega)
        rfl
      clear he HY
      go_wp2
      go_ret
      exact ⟨ret_int HE.out.symm, hbr⟩

end Go.Proofs.Ytamioifoemklfaa.A
