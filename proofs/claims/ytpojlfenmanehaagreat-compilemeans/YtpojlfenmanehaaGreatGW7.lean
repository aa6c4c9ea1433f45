/-
  A run of a program by the document.
-/
import Derived.Test.YtpojlfenmanehaaGreatGW6
import Derived.Test.YtpojlfenmanehaaGreatGV1
namespace Go.Proofs.YtpojlfenmanehaaGreat.V
open Go.RowKit

set_option maxHeartbeats 4000000 in
theorem wrong_else (b off len cap k : Nat) (x : In) (w : World) (hlen : len ≤ 100000) (hk : k < len) (hx : x.ok) (hat : x.at w b (off + k * 4)) (h1 : x.c ≠ 32) (h2 : isIn cellL x.c = false) (h3 : x.c ≠ 52) (h4 : isIn shiftL x.c = false) (h5 : x.c ≠ 5) :
    WrongTold b off len cap k x w := by
  have HF : Hid (fault x (len - 1 - k) = _) := fault_else x _ hx h1 h2 h3 h4 h5
  have HK : Hid (∀ W : World, Calls Tryz.prog 84 #[.int .u16 x.c] W fun e w' => e = .returned (.bool (refKnownB x.c)) ∧ Below W.heap.size W w') := fun W => refKnown_any x.c W hx.1.1 hx.1.2
  have HJ : Hid (∀ W : World, Calls Tryz.prog 85 #[.int .u16 x.c] W fun e w' => e = .returned (.bool (isIn jumpL x.c)) ∧ w' = W) := fun W => refJumps_any x.c W
  have HE : Hid (∀ W : World, Calls Tryz.prog 86 #[.int .u16 x.c] W fun e w' => e = .returned (.bool (isIn endL x.c)) ∧ w' = W) := fun W => refEnds_any x.c W
  obtain ⟨c, xt, xf, xk⟩ := x
  obtain ⟨-, ⟨ht0, ht1⟩, ⟨hf0, hf1⟩, -⟩ := hx
  obtain ⟨q1, q2, q3, q4⟩ := hat
  simp only [cellL, shiftL, isIn_cons, isIn_nil, Bool.or_eq_false_iff, beq_eq_false_iff_ne, ne_eq] at h2 h4
  obtain ⟨h21, h22, h23, h24, -⟩ := h2
  obtain ⟨h41, h42, -⟩ := h4
  dsimp only at *
  have B0 : Below w.heap.size w (w.alloc (Obj.cells #[.int .u16 c, .int .u8 xt, .int .u8 xf, .int .u32 xk] 78)) := (Below.refl _ _).alloc (Nat.le_refl _) _
  have A0 : In.at ⟨c, xt, xf, xk⟩ (w.alloc (Obj.cells #[.int .u16 c, .int .u8 xt, .int .u8 xf, .int .u32 xk] 78)) w.heap.size 0 := at_new w ⟨c, xt, xf, xk⟩
  have e1 : IntKind.u64.wrap (k : Int) = k := by rw [IntKind.wrap_u64]; omega
  have e2 : IntKind.u64.wrap (len : Int) = len := by rw [IntKind.wrap_u64]; omega
  have e3 : IntKind.u64.wrap ((k : Int) + 1) = k + 1 := by rw [IntKind.wrap_u64]; omega
  have e4 : IntKind.u64.wrap xt = xt := by rw [IntKind.wrap_u64]; omega
  have e5 : IntKind.u64.wrap ((k : Int) + 1 + xt) = k + 1 + xt := by rw [IntKind.wrap_u64]; omega
  have e6 : IntKind.u64.wrap xf = xf := by rw [IntKind.wrap_u64]; omega
  have e7 : IntKind.u64.wrap ((k : Int) + 1 + xf) = k + 1 + xf := by rw [IntKind.wrap_u64]; omega
  have hi1 : (k : Int) < (len : Int) := by omega
  unfold WrongTold
  generalize fault ⟨c, xt, xf, xk⟩ (len - 1 - k) = fx at *
  generalize refKnownB c = bk at *
  generalize isIn jumpL c = bj at *
  generalize isIn endL c = be at *
  cases bk <;> cases bj <;> cases be
  all_goals
    go_enter Tryz.func49, Tryz.ntmps49
    go_wp2_with (first | (go_at_call 84; refine (HK.out _).mono ?_; rintro e w1 ⟨rfl, b1⟩; have B1 := B0.trans (b1.mono B0.size); have A1 := A0.below b1; obtain ⟨p1, r1, s1, t1⟩ := A1.four) | (go_at_call 85; refine (HJ.out _).mono ?_; rintro e w2 ⟨rfl, rfl⟩) | (go_at_call 86; refine (HE.out _).mono ?_; rintro e w2 ⟨rfl, rfl⟩))
    all_goals
      go_ret
      refine ⟨ret_int ?_, B1⟩
      rw [HF.out]
      clear HF HK HJ HE A0 A1 B0 B1 b1 p1 r1 s1 t1 q1 q2 q3 q4
      repeat' split
      all_goals first | rfl | (exfalso; omega) | (exfalso; simp_all; omega) | (exfalso; simp_all)

theorem wrong_any (b off len cap k : Nat) (x : In) (w : World) (hlen : len ≤ 100000) (hk : k < len) (hx : x.ok) (hat : x.at w b (off + k * 4)) : WrongTold b off len cap k x w := by
  by_cases h1 : x.c = 32
  · obtain ⟨c, t, f, m⟩ := x; cases h1; exact wrong_32 b off len cap k t f m w hlen hk hx hat
  by_cases h2 : isIn cellL x.c = true
  · have h3 : x.c = 96 ∨ x.c = 97 ∨ x.c = 2 ∨ x.c = 3 := by simpa [cellL, isIn_cons, isIn_nil] using h2
    obtain ⟨c, t, f, m⟩ := x
    rcases h3 with h3 | h3 | h3 | h3 <;> cases h3
    · exact wrong_96 b off len cap k t f m w hlen hk hx hat
    · exact wrong_97 b off len cap k t f m w hlen hk hx hat
    · exact wrong_2 b off len cap k t f m w hlen hk hx hat
    · exact wrong_3 b off len cap k t f m w hlen hk hx hat
  by_cases h3 : x.c = 52
  · obtain ⟨c, t, f, m⟩ := x; cases h3; exact wrong_52 b off len cap k t f m w hlen hk hx hat
  by_cases h4 : isIn shiftL x.c = true
  · have h5 : x.c = 100 ∨ x.c = 116 := by simpa [shiftL, isIn_cons, isIn_nil] using h4
    obtain ⟨c, t, f, m⟩ := x
    rcases h5 with h5 | h5 <;> cases h5
    · exact wrong_100 b off len cap k t f m w hlen hk hx hat
    · exact wrong_116 b off len cap k t f m w hlen hk hx hat
  by_cases h5 : x.c = 5
  · obtain ⟨c, t, f, m⟩ := x; cases h5; exact wrong_5 b off len cap k t f m w hlen hk hx hat
  exact wrong_else b off len cap k x w hlen hk hx hat h1 (by simpa using h2) h3 (by simpa using h4) h5

end Go.Proofs.YtpojlfenmanehaaGreat.V

namespace Go.Proofs.YtpojlfenmanehaaGreat.V
open Go.RowKit

set_option maxHeartbeats 1000000 in
theorem refCheck_any (a : Option Addr) (len cap : Nat) (ins : List In) (w : World) (hlen : len ≤ maxLen) (h : Ins w a len ins) :
    Calls Tryz.prog 27 #[.slice a len cap] w fun e w' => Told w w' e (chk ins) := by
  have hll := h.1
  unfold maxLen at hlen
  by_cases h0 : len = 0
  · have hc : Hid (chk ins = (10, 0)) := by unfold Hid chk; rw [if_pos (by omega)]
    subst h0
    generalize chk ins = p at *
    clear h hll
    go_enter Tryz.func27, Tryz.ntmps27
    go_wp2
    go_ret2
    rw [hc.out]
    exact ⟨rfl, Below.refl _ _⟩
  · by_cases h4 : 4096 < len
    · have hc : Hid (chk ins = (4, 4096)) := by unfold Hid chk; rw [if_neg (by omega), if_pos (by omega)]
      generalize chk ins = p at *
      clear h hll
      have hz : ((len : Int) == 0) = false := by rw [beq_eq_false_iff_ne]; omega
      have hd : decide ((4096 : Int) < (len : Int)) = true := by simp; omega
      go_enter Tryz.func27, Tryz.ntmps27
      go_wp2
      go_ret2
      rw [hc.out]
      exact ⟨rfl, Below.refl _ _⟩
    · have hc : Hid (chk ins = ff ins 0) := by unfold Hid chk; rw [if_neg (by omega), if_neg (by omega)]
      generalize hz : ff ins 0 = z at *
      obtain ⟨z1, z2⟩ := z
      have HZ : Hid (ff ins 0 = (z1, z2)) := hz
      clear hz
      generalize chk ins = p at *
      have hz : ((len : Int) == 0) = false := by rw [beq_eq_false_iff_ne]; omega
      have hd : decide ((4096 : Int) < (len : Int)) = false := by simp; omega
      go_enter Tryz.func27, Tryz.ntmps27
      go_wp2
      go_loopw [4] (fun i wr => ∃ k : Nat, k ≤ len ∧ i = .int .i64 k ∧ ff (ins.drop k) k = (z1, z2) ∧ Below w.heap.size w wr) (fun i _ => len - (intOf i).toNat)
      case atStart => exact ⟨0, Nat.zero_le _, rfl, HZ.out, Below.refl _ _⟩
      case round =>
        obtain ⟨k, hk, rfl, hst, hbr⟩ := hrel
        clear hd hz
        by_cases hlt : k < len
        · have hir := h.below hbr
          obtain ⟨b, off, rfl, hcl⟩ := hir.2.2 (by omega)
          have hat := hcl k ins[k] (List.getElem?_eq_getElem (by omega))
          have HO : Hid (ins[k].ok) := hir.2.1 ins[k] (List.getElem_mem (by omega))
          have HS : Hid (ff (ins.drop k) k = if fault ins[k] (len - 1 - k) = 0 then ff (ins.drop (k + 1)) (k + 1 : Nat) else (fault ins[k] (len - 1 - k), k)) := ff_at ins k (len - 1 - k) (by omega) (by omega) k
          have HT : Hid (ff (ins.drop k) k = (z1, z2)) := hst
          have HW : Hid (∀ W : World, W = wr → Calls Tryz.prog 49 #[.slice (some ⟨b, off, none⟩) len cap, .int .i64 k] W fun e w' => e = .returned (.int .i64 (fault ins[k] (len - 1 - k))) ∧ Below W.heap.size W w') := fun W e => e ▸ wrong_any b off len cap k ins[k] wr (by omega) hlt HO.out hat
          clear hcl hir h hst hat HO
          generalize fault ins[k] (len - 1 - k) = fx at *
          have hi1 : (k : Int) < (len : Int) := by omega
          have hbs := hbr.size
          by_cases hf : fx = 0
          · have HZ2 : Hid (ff (ins.drop (k + 1)) (k + 1 : Nat) = (z1, z2)) := by have := HS.out; rw [if_pos hf] at this; exact this.symm.trans HT.out
            subst hf
            clear HS HT HZ
            go_wp2_with (go_at_call 49; refine (HW.out _ rfl).mono ?_; rintro e w1 ⟨rfl, b1⟩)
            go_roundw
            case rel => exact ⟨k + 1, by omega, by go_num, HZ2.out, hbr.trans (b1.mono hbs)⟩
            case measure => simp [intOf]; omega
          · have HZ2 : Hid ((fx, (k : Int)) = (z1, z2)) := by have := HS.out; rw [if_neg hf] at this; exact this.symm.trans HT.out
            have hf2 : (fx == 0) = false := by simp [hf]
            clear HS HT HZ
            go_wp2_with (go_at_call 49; refine (HW.out _ rfl).mono ?_; rintro e w1 ⟨rfl, b1⟩)
            go_ret2
            refine ⟨?_, hbr.trans (b1.mono hbs)⟩
            rw [hc.out, ← HZ2.out]
            rfl
        · have HN : Hid ((0, -1) = (z1, z2)) := by rw [List.drop_eq_nil_of_le (by omega)] at hst; exact hst
          clear hst
          go_wp2
          go_ret2
          refine ⟨?_, hbr⟩
          rw [hc.out, ← HN.out]
          rfl

end Go.Proofs.YtpojlfenmanehaaGreat.V

