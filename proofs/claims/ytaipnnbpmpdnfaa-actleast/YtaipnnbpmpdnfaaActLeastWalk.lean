/-
  The law ActLeast, walked: true for every list.
-/
import Derived.Test.YtaipnnbpmpdnfaaAwake
import Derived.Test.YtaipnnbpmpdnfaaMostAll
namespace Go.Proofs.Ytaipnnbpmpdnfaa
open Go.RowKit

theorem of_allow : ki 2147418112 = 8 ∧ ar 2147418112 = 0 := by decide

set_option maxHeartbeats 1000000 in
theorem actLeast_walk (a : Option Addr) (len cap : Nat) (l : List Int) (w : World) (hl : ∀ z ∈ l, U32 z) (hlen : len ≤ maxLen) (hcap : len ≤ cap) (h : Ns .u32 w a len l) :
    Calls Try.prog 7 #[.slice a len cap] w fun e w' => e = .returned (.bool true) ∧ Below w.heap.size w w' := by
  have HW : Hid (∀ W : World, Calls Try.prog 9 #[] W fun e w' => e = .returned (.bool true) ∧ Below W.heap.size W w') := awake_any
  have H1 : Hid (∀ W : World, Ns .u32 W a len l → Calls Try.prog 16 #[.slice a len cap] W fun e w' => e = .returned (.int .u32 (most l)) ∧ Below W.heap.size W w') := fun W h => most_any a len cap l W hl hlen hcap h
  have HO : Hid (∀ (v : Int) (W : World), U32 v → Calls Try.prog 14 #[.int .u32 v] W fun e w' => e = .returned (.agg #[.int .i64 (ki v), .int .i64 (ar v)]) ∧ Below W.heap.size W w') := fun v W h => of_any v W h
  have HN : Hid (Ns .u32 w a len l) := h
  have hll := h.1
  by_cases h2 : 1000 < len
  · have hd : decide ((1000 : Int) < (len : Int)) = true := by simp; omega
    clear h2 h hl hcap hlen hll
    go_enter Try.func7, Try.ntmps7
    go_wp2_with (go_at_call 9; refine (HW.out _).mono ?_; rintro e w1 ⟨rfl, b1⟩)
    go_ret
    exact ⟨rfl, b1⟩
  · have hd : decide ((1000 : Int) < (len : Int)) = false := by simp; omega
    have HU : Hid (U32 (most l)) := most_u l hl
    by_cases h0 : len = 0
    · subst h0
      obtain rfl : l = [] := List.eq_nil_of_length_eq_zero (by omega)
      have HO2 : Hid (∀ (W : World), Calls Try.prog 14 #[.int .u32 2147418112] W fun e w' => e = .returned (.agg #[.int .i64 8, .int .i64 0]) ∧ Below W.heap.size W w') := by
        intro W
        have := HO.out 2147418112 W HU.out
        rw [of_allow.1, of_allow.2] at this
        exact this
      have H1' : Hid (∀ W : World, Calls Try.prog 16 #[.slice a 0 cap] W fun e w' => e = .returned (.int .u32 2147418112) ∧ Below W.heap.size W w') := fun W => most_nil a cap W
      have hq : ∀ W : World, (Op.equalIn 10000 23 (.agg #[.int .i64 8, .int .i64 0]) (.agg #[.int .i64 8, .int .i64 0])).run Try.prog W = .ok true W := fun W => equalIn_act 8 0 8 0 W
      clear h2 h hl hcap hlen hll H1 HO HN HU hd
      go_enter Try.func7, Try.ntmps7
      go_wp2_with (first | (go_at_call 9; refine (HW.out _).mono ?_; rintro e w1 ⟨rfl, b1⟩) | (go_at_call 16; refine (H1'.out _).mono ?_; rintro e w2 ⟨rfl, b2⟩) | (go_at_call 14; refine (HO2.out _).mono ?_; rintro e w3 ⟨rfl, b3⟩))
      go_ret
      have c1 := b1.trans (b2.mono b1.size)
      exact ⟨rfl, c1.trans (b3.mono c1.size)⟩
    · have hne : l ≠ [] := by intro e; subst e; simp at hll; omega
      have HLe : Hid (∀ k, k < l.length → ki (most l) ≤ ki (l.getD k 0)) := by
        intro k hk
        exact most_least l hne (l.getD k 0) (by rw [show l.getD k 0 = l[k] by simp [hk]]; exact List.getElem_mem hk)
      have HIn : Hid (isIn l (most l) = true) := isIn_mem (most_in l hne)
      have HTk : Hid (∀ k, k < l.length → isIn (l.take (k + 1)) (most l) = (isIn (l.take k) (most l) || l.getD k 0 == most l)) := fun k hk => isIn_take l _ k hk
      have HUl : Hid (∀ k, k < l.length → U32 (l.getD k 0)) := fun k hk => getD_u hl k hk
      have hz0 : ((len : Int) == 0) = false := by rw [beq_eq_false_iff_ne]; omega
      have hz1 : ¬ (len : Int) = 0 := by omega
      have hle : len ≤ 1000 := by omega
      clear h2 h hl hcap hlen hne
      generalize most l = m at *
      go_enter Try.func7, Try.ntmps7
      go_wp2_with (first | (go_at_call 9; refine (HW.out _).mono ?_; rintro e w1 ⟨rfl, b1⟩; have n1 : Hid (Ns .u32 w1 a len l) := HN.out.below b1) | (go_at_call 16; refine (H1.out _ n1.out).mono ?_; rintro e w2 ⟨rfl, b2⟩))
      have B2 : Hid (Below w.heap.size w w2) := b1.trans (b2.mono b1.size)
      clear b1 b2
      go_loopw [5, 6] (fun th i wr => ∃ k : Nat, k ≤ len ∧ i = .int .i64 k ∧ th = .bool (isIn (l.take k) m) ∧ Below w.heap.size w wr) (fun _ i _ => len - (intOf i).toNat)
      case atStart => exact ⟨0, Nat.zero_le _, rfl, rfl, B2.out⟩
      case round =>
        obtain ⟨k, hk, rfl, rfl, hbr⟩ := hrel
        by_cases hlt : k < len
        · have hN := HN.out.below hbr
          obtain ⟨b, off, rfl, hc⟩ := hN.2 (by omega)
          have q := hc k hlt
          have HUz : Hid (U32 (l.getD k 0)) := HUl.out k (by omega)
          have hno : ¬ ki (l.getD k 0) < ki m := by have := HLe.out k (by omega); omega
          have HT : Hid (isIn (l.take (k + 1)) m = (isIn (l.take k) m || l.getD k 0 == m)) := HTk.out k (by omega)
          have hi1 : (k : Int) < (len : Int) := by omega
          have HC : Hid (∀ X, Below w.heap.size w X → X.cell? ⟨b, off + k, none⟩ = some (.int .u32 (l.getD k 0))) := by
            intro X hX
            obtain ⟨_, _, e, hc'⟩ := (HN.out.below hX).2 (by omega)
            cases e
            exact hc' k hlt
          clear hc hN HLe HTk HUl
          generalize l.getD k 0 = z at *
          have hg : isIn (l.take k) m = true ∨ isIn (l.take k) m = false := by cases isIn (l.take k) m <;> simp
          go_wp2_with fail
          refine (HO.out _ _ HUz.out).mono ?_
          rintro e w3 ⟨rfl, b3⟩
          have hb3 : Below w.heap.size w w3 := hbr.trans (b3.mono hbr.size)
          have hfd := field_act (ki z) (ar z)
          have hfm := field_act (ki m) (ar m)
          go_wp2_with fail
          refine (HO.out _ _ HU.out).mono ?_
          rintro e w4 ⟨rfl, b4⟩
          have hb4 : Below w.heap.size w w4 := hb3.trans (b4.mono hb3.size)
          have q4 := HC.out w4 hb4
          clear q
          rcases hg with hg | hg
          · rw [hg] at HT ⊢
            clear hg
            go_wp2_with fail
            go_roundw
            case rel => exact ⟨k + 1, by omega, by go_num, by rw [HT.out]; rfl, hb4⟩
            case measure => simp [intOf]; omega
          · rw [hg] at HT ⊢
            clear hg
            go_wp2_with fail
            go_roundw
            case rel => exact ⟨k + 1, by omega, by go_num, by rw [HT.out]; rfl, hb4⟩
            case measure => simp [intOf]; omega
        · have hi1 : ¬ (k : Int) < (len : Int) := by omega
          rw [List.take_of_length_le (by omega), HIn.out]
          go_wp2
          go_ret
          exact ⟨rfl, hbr⟩

end Go.Proofs.Ytaipnnbpmpdnfaa
