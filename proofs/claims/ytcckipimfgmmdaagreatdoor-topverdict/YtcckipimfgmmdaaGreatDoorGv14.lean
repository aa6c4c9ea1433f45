/-
  Texts of this seat, joined: VFirst, VCheck, VCalls, VVMath, VVSmall.
-/
import Derived.Test.YtcckipimfgmmdaaGreatDoorGv13
import Derived.Test.YtcckipimfgmmdaaGreatDoorRows
import Derived.WalkKit
import Derived.WalkSmall
import Derived.WalkSpells
import Derived.WalkLawsBesides
import Derived.Laws.AppendOwnNone
import Derived.Laws.MakeOwn
import Derived.Laws.BytesArg
import Derived.Laws.Rows
import Derived.Laws.Tables
import Derived.Laws.CopyOwn
import Derived.Laws.Bits64b
import Derived.BigQuiet

namespace Go.Proofs.YtcckipimfgmmdaaGreatDoor.V
open Go.RowKit

theorem ff_at (l : List In) (k n : Nat) (hk : k < l.length) (hn : n = l.length - 1 - k) (p : Int) : ff (l.drop k) p = if fault l[k] n = 0 then ff (l.drop (k + 1)) (p + 1) else (fault l[k] n, p) := by
  subst hn
  exact ff_drop_succ l k hk p

theorem In.at.below {x : In} {w w' : World} {b o : Nat} (h : x.at w b o) (hb : Below w.heap.size w w') : x.at w' b o := by
  obtain ⟨h1, h2, h3, h4⟩ := h
  have hlt : b < w.heap.size := World.block_lt_of_cell? w _ h1
  refine ⟨?_, ?_, ?_, ?_⟩
  · rw [hb.cell (p := ⟨b, o, none⟩) hlt]; exact h1
  · rw [hb.cell (p := ⟨b, o + 1, none⟩) hlt]; exact h2
  · rw [hb.cell (p := ⟨b, o + 2, none⟩) hlt]; exact h3
  · rw [hb.cell (p := ⟨b, o + 3, none⟩) hlt]; exact h4

theorem In.at.four {c t f k : Int} {w : World} {b : Nat} (h : In.at ⟨c, t, f, k⟩ w b 0) : w.cell? ⟨b, 0, none⟩ = some (.int .u16 c) ∧ w.cell? ⟨b, 1, none⟩ = some (.int .u8 t) ∧ w.cell? ⟨b, 2, none⟩ = some (.int .u8 f) ∧ w.cell? ⟨b, 3, none⟩ = some (.int .u32 k) := h

theorem at_new (w : World) (x : In) : x.at (w.alloc (Obj.cells #[.int .u16 x.c, .int .u8 x.t, .int .u8 x.f, .int .u32 x.k] 60)) w.heap.size 0 := by
  refine ⟨?_, ?_, ?_, ?_⟩ <;> simp

theorem ret_pair {a b c d : Int} (h : (a, b) = (c, d)) : Ending.returned (.tuple #[.int .i64 a, .int .i64 b]) = .returned (.tuple #[.int .i64 c, .int .i64 d]) := by
  cases h; rfl

set_option maxHeartbeats 4000000 in
theorem first_any (a : Option Addr) (len cap : Nat) (ins : List In) (w : World) (hlen : len ≤ 100000) (h : Ins w a len ins) :
    Calls Tryz.prog 38 #[.slice a len cap] w fun e w' => e = .returned (.tuple #[.int .i64 (ff ins 0).1, .int .i64 (ff ins 0).2]) ∧ Below w.heap.size w w' := by
  have hll := h.1
  have HF : Hid (∀ p, ff [] p = (0, -1)) := fun _ => rfl
  generalize hz : ff ins 0 = z
  obtain ⟨z1, z2⟩ := z
  have HZ : Hid (ff ins 0 = (z1, z2)) := hz
  clear hz
  dsimp only
  go_enter Tryz.func38, Tryz.ntmps38
  go_wp2
  go_step3
  go_wp2
  go_step3
  go_wp2
  go_loopw [2, 3, 10] (fun r2 r3 i wr => ∃ k : Nat, k ≤ len ∧ i = .int .i64 k ∧ ff (ins.drop k) k = (z1, z2) ∧ Below w.heap.size w wr) (fun _ _ i _ => len - (intOf i).toNat)
  case atStart => exact ⟨0, Nat.zero_le _, rfl, HZ.out, Below.refl _ _⟩
  case round =>
    obtain ⟨k, hk, rfl, hst, hbr⟩ := hrel
    by_cases hlt : k < len
    · have hir := h.below hbr
      obtain ⟨b, off, rfl, hc⟩ := hir.2.2 (by omega)
      obtain ⟨q1, q2, q3, q4⟩ := hc k ins[k] (List.getElem?_eq_getElem (by omega))
      have HO : Hid (ins[k].ok) := hir.2.1 ins[k] (List.getElem_mem (by omega))
      have HS : Hid (ff (ins.drop k) k = if fault ins[k] (len - 1 - k) = 0 then ff (ins.drop (k + 1)) (k + 1 : Nat) else (fault ins[k] (len - 1 - k), k)) := by
        exact ff_at ins k (len - 1 - k) (by omega) (by omega) k
      have HT : Hid (ff (ins.drop k) k = (z1, z2)) := hst
      clear hc hir h hst
      generalize ins[k] = x at *
      have hbh : (len : Int) - 1 - k = ((len - 1 - k : Nat) : Int) := by omega
      have HK : Hid (∀ W : World, Calls Tryz.prog 63 #[.int .u16 x.c] W fun e w' => e = .returned (.bool (knownB x.c)) ∧ Below W.heap.size W w') := fun W => known_any x.c W
      have HL : Hid (∀ W : World, Calls Tryz.prog 64 #[x.val] W fun e w' => e = .returned (.bool (loadsB x.c x.k)) ∧ Below W.heap.size W w') := fun W => loads_any x W HO.out
      have HR : Hid (∀ W : World, Calls Tryz.prog 65 #[x.val] W fun e w' => e = .returned (.bool (reckB x.c x.k)) ∧ Below W.heap.size W w') := fun W => reck_any x W HO.out
      have HU : Hid (∀ W : World, Calls Tryz.prog 66 #[x.val, .int .i64 ((len - 1 - k : Nat) : Int)] W fun e w' => e = .returned (.bool (outB x (len - 1 - k))) ∧ Below W.heap.size W w') := fun W => out_any x (len - 1 - k) W HO.out (by omega)
      have HE : Hid (∀ W : World, Calls Tryz.prog 67 #[.int .u16 x.c] W fun e w' => e = .returned (.bool (isIn endL x.c)) ∧ w' = W) := fun W => ends_any x.c W
      have HF : Hid (fault x (len - 1 - k) = if knownB x.c = false then 11 else if loadsB x.c x.k = true then 12 else if reckB x.c x.k = true then 13 else if outB x (len - 1 - k) = true then 14 else if len - 1 - k = 0 ∧ isIn endL x.c = false then 15 else 0) := rfl
      clear HO
      generalize outB x (len - 1 - k) = bo at *
      generalize fault x (len - 1 - k) = fx at *
      obtain ⟨xc, xt, xf, xk⟩ := x
      unfold In.val at *
      dsimp only at *
      generalize knownB xc = bk at *
      generalize loadsB xc xk = bl at *
      generalize reckB xc xk = br at *
      generalize isIn endL xc = be at *
      generalize len - 1 - k = nn at *
      have B0 := hbr.alloc hbr.size (Obj.cells #[.int .u16 xc, .int .u8 xt, .int .u8 xf, .int .u32 xk] 60)
      have A0 : In.at ⟨xc, xt, xf, xk⟩ (wr.alloc (Obj.cells #[.int .u16 xc, .int .u8 xt, .int .u8 xf, .int .u32 xk] 60)) wr.heap.size 0 := at_new wr ⟨xc, xt, xf, xk⟩
      have hi1 : (k : Int) < (len : Int) := by omega
      cases bk with
      | false =>
        have hf : fx = 11 := HF.out
        have HZ2 : Hid ((11, (k : Int)) = (z1, z2)) := by have := HS.out; rw [hf, if_neg (by decide)] at this; exact this.symm.trans HT.out
        clear HF HS HT HZ hf
        go_wp2_with (first | (go_at_call 63; refine (HK.out _).mono ?_; rintro e w1 ⟨rfl, b1⟩; have B1 := B0.trans (b1.mono B0.size); have A1 := A0.below b1; obtain ⟨p1, r1, s1, t1⟩ := A1.four) | (go_at_call 64; refine (HL.out _).mono ?_; rintro e w2 ⟨rfl, b2⟩; have B2 := B1.trans (b2.mono B1.size); have A2 := A1.below b2; obtain ⟨p2, r2, s2, t2⟩ := A2.four) | (go_at_call 65; refine (HR.out _).mono ?_; rintro e w3 ⟨rfl, b3⟩; have B3 := B2.trans (b3.mono B2.size); have A3 := A2.below b3; obtain ⟨p3, r3, s3, t3⟩ := A3.four) | (go_at_call 66; refine (HU.out _).mono ?_; rintro e w4 ⟨rfl, b4⟩; have B4 := B3.trans (b4.mono B3.size); have A4 := A3.below b4; obtain ⟨p4, r4, s4, t4⟩ := A4.four) | (go_at_call 67; refine (HE.out _).mono ?_; rintro e w5 ⟨rfl, rfl⟩))
        rw [Exit.noGoto_ret]
        go_ret2
        exact ⟨ret_pair HZ2.out, B1⟩
      | true =>
        cases bl with
        | true =>
          have hf : fx = 12 := HF.out
          have HZ2 : Hid ((12, (k : Int)) = (z1, z2)) := by have := HS.out; rw [hf, if_neg (by decide)] at this; exact this.symm.trans HT.out
          clear HF HS HT HZ hf
          go_wp2_with (first | (go_at_call 63; refine (HK.out _).mono ?_; rintro e w1 ⟨rfl, b1⟩; have B1 := B0.trans (b1.mono B0.size); have A1 := A0.below b1; obtain ⟨p1, r1, s1, t1⟩ := A1.four) | (go_at_call 64; refine (HL.out _).mono ?_; rintro e w2 ⟨rfl, b2⟩; have B2 := B1.trans (b2.mono B1.size); have A2 := A1.below b2; obtain ⟨p2, r2, s2, t2⟩ := A2.four) | (go_at_call 65; refine (HR.out _).mono ?_; rintro e w3 ⟨rfl, b3⟩; have B3 := B2.trans (b3.mono B2.size); have A3 := A2.below b3; obtain ⟨p3, r3, s3, t3⟩ := A3.four) | (go_at_call 66; refine (HU.out _).mono ?_; rintro e w4 ⟨rfl, b4⟩; have B4 := B3.trans (b4.mono B3.size); have A4 := A3.below b4; obtain ⟨p4, r4, s4, t4⟩ := A4.four) | (go_at_call 67; refine (HE.out _).mono ?_; rintro e w5 ⟨rfl, rfl⟩))
          rw [Exit.noGoto_ret]
          go_ret2
          exact ⟨ret_pair HZ2.out, B2⟩
        | false =>
          cases br with
          | true =>
            have hf : fx = 13 := HF.out
            have HZ2 : Hid ((13, (k : Int)) = (z1, z2)) := by have := HS.out; rw [hf, if_neg (by decide)] at this; exact this.symm.trans HT.out
            clear HF HS HT HZ hf
            go_wp2_with (first | (go_at_call 63; refine (HK.out _).mono ?_; rintro e w1 ⟨rfl, b1⟩; have B1 := B0.trans (b1.mono B0.size); have A1 := A0.below b1; obtain ⟨p1, r1, s1, t1⟩ := A1.four) | (go_at_call 64; refine (HL.out _).mono ?_; rintro e w2 ⟨rfl, b2⟩; have B2 := B1.trans (b2.mono B1.size); have A2 := A1.below b2; obtain ⟨p2, r2, s2, t2⟩ := A2.four) | (go_at_call 65; refine (HR.out _).mono ?_; rintro e w3 ⟨rfl, b3⟩; have B3 := B2.trans (b3.mono B2.size); have A3 := A2.below b3; obtain ⟨p3, r3, s3, t3⟩ := A3.four) | (go_at_call 66; refine (HU.out _).mono ?_; rintro e w4 ⟨rfl, b4⟩; have B4 := B3.trans (b4.mono B3.size); have A4 := A3.below b4; obtain ⟨p4, r4, s4, t4⟩ := A4.four) | (go_at_call 67; refine (HE.out _).mono ?_; rintro e w5 ⟨rfl, rfl⟩))
            rw [Exit.noGoto_ret]
            go_ret2
            exact ⟨ret_pair HZ2.out, B3⟩
          | false =>
            cases bo with
            | true =>
              have hf : fx = 14 := HF.out
              have HZ2 : Hid ((14, (k : Int)) = (z1, z2)) := by have := HS.out; rw [hf, if_neg (by decide)] at this; exact this.symm.trans HT.out
              clear HF HS HT HZ hf
              go_wp2_with (first | (go_at_call 63; refine (HK.out _).mono ?_; rintro e w1 ⟨rfl, b1⟩; have B1 := B0.trans (b1.mono B0.size); have A1 := A0.below b1; obtain ⟨p1, r1, s1, t1⟩ := A1.four) | (go_at_call 64; refine (HL.out _).mono ?_; rintro e w2 ⟨rfl, b2⟩; have B2 := B1.trans (b2.mono B1.size); have A2 := A1.below b2; obtain ⟨p2, r2, s2, t2⟩ := A2.four) | (go_at_call 65; refine (HR.out _).mono ?_; rintro e w3 ⟨rfl, b3⟩; have B3 := B2.trans (b3.mono B2.size); have A3 := A2.below b3; obtain ⟨p3, r3, s3, t3⟩ := A3.four) | (go_at_call 66; refine (HU.out _).mono ?_; rintro e w4 ⟨rfl, b4⟩; have B4 := B3.trans (b4.mono B3.size); have A4 := A3.below b4; obtain ⟨p4, r4, s4, t4⟩ := A4.four) | (go_at_call 67; refine (HE.out _).mono ?_; rintro e w5 ⟨rfl, rfl⟩))
              rw [Exit.noGoto_ret]
              go_ret2
              exact ⟨ret_pair HZ2.out, B4⟩
            | false =>
              by_cases hn0 : nn = 0
              · have hnz : ((nn : Int) == 0) = true := by rw [hn0]; rfl
                cases be with
                | false =>
                  have hf : fx = 15 := by rw [HF.out]; simp [hn0]
                  have HZ2 : Hid ((15, (k : Int)) = (z1, z2)) := by have := HS.out; rw [hf, if_neg (by decide)] at this; exact this.symm.trans HT.out
                  clear HF HS HT HZ hf hn0
                  go_wp2_with (first | (go_at_call 63; refine (HK.out _).mono ?_; rintro e w1 ⟨rfl, b1⟩; have B1 := B0.trans (b1.mono B0.size); have A1 := A0.below b1; obtain ⟨p1, r1, s1, t1⟩ := A1.four) | (go_at_call 64; refine (HL.out _).mono ?_; rintro e w2 ⟨rfl, b2⟩; have B2 := B1.trans (b2.mono B1.size); have A2 := A1.below b2; obtain ⟨p2, r2, s2, t2⟩ := A2.four) | (go_at_call 65; refine (HR.out _).mono ?_; rintro e w3 ⟨rfl, b3⟩; have B3 := B2.trans (b3.mono B2.size); have A3 := A2.below b3; obtain ⟨p3, r3, s3, t3⟩ := A3.four) | (go_at_call 66; refine (HU.out _).mono ?_; rintro e w4 ⟨rfl, b4⟩; have B4 := B3.trans (b4.mono B3.size); have A4 := A3.below b4; obtain ⟨p4, r4, s4, t4⟩ := A4.four) | (go_at_call 67; refine (HE.out _).mono ?_; rintro e w5 ⟨rfl, rfl⟩))
                  rw [Exit.noGoto_ret]
                  go_ret2
                  exact ⟨ret_pair HZ2.out, B4⟩
                | true =>
                  have hf : fx = 0 := by rw [HF.out]; simp
                  have HZ2 : Hid (ff (ins.drop (k + 1)) (k + 1 : Nat) = (z1, z2)) := by have := HS.out; rw [hf, if_pos rfl] at this; exact this.symm.trans HT.out
                  clear HF HS HT HZ hf hn0
                  go_wp2_with (first | (go_at_call 63; refine (HK.out _).mono ?_; rintro e w1 ⟨rfl, b1⟩; have B1 := B0.trans (b1.mono B0.size); have A1 := A0.below b1; obtain ⟨p1, r1, s1, t1⟩ := A1.four) | (go_at_call 64; refine (HL.out _).mono ?_; rintro e w2 ⟨rfl, b2⟩; have B2 := B1.trans (b2.mono B1.size); have A2 := A1.below b2; obtain ⟨p2, r2, s2, t2⟩ := A2.four) | (go_at_call 65; refine (HR.out _).mono ?_; rintro e w3 ⟨rfl, b3⟩; have B3 := B2.trans (b3.mono B2.size); have A3 := A2.below b3; obtain ⟨p3, r3, s3, t3⟩ := A3.four) | (go_at_call 66; refine (HU.out _).mono ?_; rintro e w4 ⟨rfl, b4⟩; have B4 := B3.trans (b4.mono B3.size); have A4 := A3.below b4; obtain ⟨p4, r4, s4, t4⟩ := A4.four) | (go_at_call 67; refine (HE.out _).mono ?_; rintro e w5 ⟨rfl, rfl⟩))
                  go_roundw
                  case rel => exact ⟨k + 1, by omega, by go_num, HZ2.out, B4⟩
                  case measure => simp [intOf]; omega
              · have hnz : ((nn : Int) == 0) = false := by rw [beq_eq_false_iff_ne]; omega
                have hf : fx = 0 := by rw [HF.out]; simp [hn0]
                have HZ2 : Hid (ff (ins.drop (k + 1)) (k + 1 : Nat) = (z1, z2)) := by have := HS.out; rw [hf, if_pos rfl] at this; exact this.symm.trans HT.out
                clear HF HS HT HZ hf hn0
                go_wp2_with (first | (go_at_call 63; refine (HK.out _).mono ?_; rintro e w1 ⟨rfl, b1⟩; have B1 := B0.trans (b1.mono B0.size); have A1 := A0.below b1; obtain ⟨p1, r1, s1, t1⟩ := A1.four) | (go_at_call 64; refine (HL.out _).mono ?_; rintro e w2 ⟨rfl, b2⟩; have B2 := B1.trans (b2.mono B1.size); have A2 := A1.below b2; obtain ⟨p2, r2, s2, t2⟩ := A2.four) | (go_at_call 65; refine (HR.out _).mono ?_; rintro e w3 ⟨rfl, b3⟩; have B3 := B2.trans (b3.mono B2.size); have A3 := A2.below b3; obtain ⟨p3, r3, s3, t3⟩ := A3.four) | (go_at_call 66; refine (HU.out _).mono ?_; rintro e w4 ⟨rfl, b4⟩; have B4 := B3.trans (b4.mono B3.size); have A4 := A3.below b4; obtain ⟨p4, r4, s4, t4⟩ := A4.four) | (go_at_call 67; refine (HE.out _).mono ?_; rintro e w5 ⟨rfl, rfl⟩))
                go_roundw
                case rel => exact ⟨k + 1, by omega, by go_num, HZ2.out, B4⟩
                case measure => simp [intOf]; omega
    · have HN : Hid ((0, -1) = (z1, z2)) := by rw [List.drop_eq_nil_of_le (by omega)] at hst; exact hst
      clear hst
      go_wp2
      rw [Exit.noGoto_ret]
      go_ret2
      exact ⟨ret_pair HN.out, hbr⟩

end Go.Proofs.YtcckipimfgmmdaaGreatDoor.V

namespace Go.Proofs.YtcckipimfgmmdaaGreatDoor.V
open Go.RowKit

def Told (w w' : World) (e : Ending) (p : Int × Int) : Prop := e = .returned (.tuple #[.int .i64 p.1, .int .i64 p.2]) ∧ Below w.heap.size w w'

set_option maxHeartbeats 400000 in
theorem check_any (a : Option Addr) (len cap : Nat) (ins : List In) (w : World) (hlen : len ≤ maxLen) (h : Ins w a len ins) :
    Calls Tryz.prog 19 #[.slice a len cap] w fun e w' => Told w w' e (chk ins) := by
  have hll := h.1
  unfold maxLen at hlen
  by_cases h0 : len = 0
  · have hc : Hid (chk ins = (10, 0)) := by unfold Hid chk; rw [if_pos (by omega)]
    subst h0
    generalize chk ins = p at *
    clear h hll
    go_enter Tryz.func19, Tryz.ntmps19
    go_wp2
    go_ret2
    rw [hc.out]
    exact ⟨rfl, Below.refl _ _⟩
  · by_cases h4 : 4096 < len
    · have hc : Hid (chk ins = (4, 4096)) := by unfold Hid chk; rw [if_neg (by omega), if_pos (by omega)]
      generalize chk ins = p at *
      clear h hll
      have hz : ¬ (len : Int) = 0 := by omega
      have hd : decide ((4096 : Int) < (len : Int)) = true := by simp; omega
      go_enter Tryz.func19, Tryz.ntmps19
      go_wp2
      go_ret2
      rw [hc.out]
      exact ⟨rfl, Below.refl _ _⟩
    · have hc : Hid (chk ins = ff ins 0) := by unfold Hid chk; rw [if_neg (by omega), if_neg (by omega)]
      have HF : Hid (∀ W : World, W = w → Calls Tryz.prog 38 #[.slice a len cap] W fun e w' => e = .returned (.tuple #[.int .i64 (ff ins 0).1, .int .i64 (ff ins 0).2]) ∧ Below W.heap.size W w') := fun W e => e ▸ first_any a len cap ins w (by omega) h
      generalize chk ins = p at *
      generalize ff ins 0 = q at *
      clear h hll
      have hz : ¬ (len : Int) = 0 := by omega
      have hd : decide ((4096 : Int) < (len : Int)) = false := by simp; omega
      go_enter Tryz.func19, Tryz.ntmps19
      go_wp2_with (go_at_call 38; refine (HF.out _ rfl).mono ?_; rintro e w1 ⟨rfl, b1⟩)
      go_ret2
      rw [hc.out]
      exact ⟨rfl, b1⟩

end Go.Proofs.YtcckipimfgmmdaaGreatDoor.V

namespace Go.Proofs.YtcckipimfgmmdaaGreatDoor.V

def U32 (x : Int) : Prop := 0 ≤ x ∧ x ≤ 4294967295
def U64 (x : Int) : Prop := 0 ≤ x ∧ x ≤ 18446744073709551615

structure Da where
  n : Int
  a : Int
  p : Int
  g : List Int

def Da.ok (d : Da) : Prop := U32 d.n ∧ U32 d.a ∧ U64 d.p ∧ d.g.length = 6 ∧ ∀ z ∈ d.g, U64 z

def lo (x : Int) : Int := x % 4294967296
def hi (x : Int) : Int := x / 4294967296
theorem lo_u (x : Int) : U32 (lo x) := by unfold U32 lo; omega
theorem hi_u (x : Int) (h : U64 x) : U32 (hi x) := by unfold U64 at h; unfold U32 hi; omega
def Da.words (d : Da) : List Int := d.n :: d.a :: lo d.p :: hi d.p :: d.g.flatMap (fun x => [lo x, hi x])

def w4 (x : Int) : List Int := [x % 256, x / 256 % 256, x / 65536 % 256, x / 16777216]

def r4 (l : List Int) : Int := l.getD 0 0 + 256 * l.getD 1 0 + 65536 * l.getD 2 0 + 16777216 * l.getD 3 0

theorem six {g : List Int} (h : g.length = 6) : ∃ a b c d e f, g = [a, b, c, d, e, f] := by
  match g, h with
  | [a, b, c, d, e, f], _ => exact ⟨a, b, c, d, e, f, rfl⟩

theorem words_len (d : Da) (h : d.ok) : d.words.length = 16 := by
  obtain ⟨n, a, p, g⟩ := d
  obtain ⟨_, _, _, hg, _⟩ := h
  obtain ⟨x0, x1, x2, x3, x4, x5, rfl⟩ := six hg
  rfl

theorem words_u (d : Da) (h : d.ok) : ∀ z ∈ d.words, U32 z := by
  intro z hz
  simp only [Da.words, List.mem_cons, List.mem_flatMap, List.not_mem_nil, or_false] at hz
  rcases hz with rfl | rfl | rfl | rfl | ⟨x, hx, rfl | rfl⟩
  · exact h.1
  · exact h.2.1
  · exact lo_u _
  · exact hi_u _ h.2.2.1
  · exact lo_u _
  · exact hi_u _ (h.2.2.2.2 x hx)

theorem getD_u {ws : List Int} (h : ∀ z ∈ ws, U32 z) (k : Nat) : U32 (ws.getD k 0) := by
  rw [List.getD_eq_getElem?_getD]
  by_cases hk : k < ws.length
  · rw [List.getElem?_eq_getElem hk]; exact h _ (List.getElem_mem hk)
  · rw [List.getElem?_eq_none (by omega)]; exact ⟨by decide, by decide⟩

theorem word_lo (d : Da) (h : d.ok) (k : Nat) (hk : k < 6) : d.words.getD (4 + 2 * k) 0 = lo (d.g.getD k 0) := by
  obtain ⟨n, a, p, g⟩ := d
  obtain ⟨_, _, _, hg, _⟩ := h
  obtain ⟨x0, x1, x2, x3, x4, x5, rfl⟩ := six hg
  match k, hk with
  | 0, _ => rfl
  | 1, _ => rfl
  | 2, _ => rfl
  | 3, _ => rfl
  | 4, _ => rfl
  | 5, _ => rfl

theorem word_hi (d : Da) (h : d.ok) (k : Nat) (hk : k < 6) : d.words.getD (4 + 2 * k + 1) 0 = hi (d.g.getD k 0) := by
  obtain ⟨n, a, p, g⟩ := d
  obtain ⟨_, _, _, hg, _⟩ := h
  obtain ⟨x0, x1, x2, x3, x4, x5, rfl⟩ := six hg
  match k, hk with
  | 0, _ => rfl
  | 1, _ => rfl
  | 2, _ => rfl
  | 3, _ => rfl
  | 4, _ => rfl
  | 5, _ => rfl

end Go.Proofs.YtcckipimfgmmdaaGreatDoor.V

namespace Go.Proofs.YtcckipimfgmmdaaGreatDoor.V
open Go.RowKit

theorem own_lt {w : World} {base sz : Nat} {t : TypeId} {v : Value} {n : Nat} {xs : List Value} (h : w.ownsRow base t sz v n xs) : ∀ k, v.ownBlock = some k → k < w.heap.size := by
  intro k hk
  rcases h.2 with ⟨rfl, rfl⟩ | ⟨g, cap, cur, rfl, hb, hh, _⟩
  · cases hk
  · cases hk; exact lt_of_block hh

def Blk (w : World) (b : Nat) (t : TypeId) (l : List Value) : Prop := w.heap[b]? = some (.cells l.toArray t (0, 0))

section
variable {w : World} {b : Nat} {t : TypeId} {l : List Value}
theorem Blk.cell (h : Blk w b t l) (i : Nat) : w.cell? ⟨b, i, none⟩ = l[i]? := by
  rw [cell_of_row w b i _ _ _ h]
  simp
theorem Blk.f (h : Blk w b t l) (i : Nat) : w.frozen? ⟨b, i, none⟩ = false := frozen_of_row w b i _ _ h
theorem Blk.lt (h : Blk w b t l) : b < w.heap.size := lt_of_block h
theorem Blk.below {w' : World} {B : Nat} (h : Blk w b t l) (hb : Below B w w') (hB : b < B) : Blk w' b t l := by unfold Blk; rw [hb.block b hB]; exact h
theorem Blk.over {w' : World} (h : Blk w b t l) (hb : Below w.heap.size w w') : Blk w' b t l := h.below hb h.lt
theorem Blk.drew (h : Blk w b t l) : Blk w.drew b t l := h
theorem Blk.set (h : Blk w b t l) (i : Nat) (v : Value) : Blk (w.setCell ⟨b, i, none⟩ v) b t (l.set i v) := by
  have := heap_setCell_same w b i _ _ v h
  unfold Blk
  rw [this]
  simp
theorem Blk.other (h : Blk w b t l) (a : Addr) (v : Value) (hne : b ≠ a.block) : Blk (w.setCell a v) b t l := by
  unfold Blk
  rw [heap_setCell_other w a b v hne]
  exact h
theorem Blk.row (h : Blk w b t l) (cs : Array Value) : Blk (w.setRow b cs) b t cs.toList := by
  unfold Blk
  rw [setRow_heap w b _ cs _ _ h]
theorem Blk.alloc (h : Blk w b t l) (o : Obj) : Blk (w.alloc o) b t l := by
  unfold Blk
  have hb : Below w.heap.size w (w.alloc o) := (Below.refl _ _).alloc (Nat.le_refl _) _
  rw [hb.block b h.lt]
  exact h
end

theorem blk_new (w : World) (cs : Array Value) (t : TypeId) : Blk (w.alloc (Obj.cells cs t)) w.heap.size t cs.toList := by
  unfold Blk
  rw [heap_alloc_new]

theorem blk_new' (w : World) (o : Obj) (cs : Array Value) (t : TypeId) : Blk ((w.alloc o).alloc (Obj.cells cs t)) (w.heap.size + 1) t cs.toList := by
  have := blk_new (w.alloc o) cs t
  rw [size_alloc'] at this
  exact this

theorem index_row (t e : TypeId) (n : Nat) (ik k : IntKind) (ht : Tryz.prog.underlying t = some (.array n e)) (he : Tryz.prog.underlying e = some (.int k)) (hsz : ∀ w, (sizeOf e).run Tryz.prog w = .ok 1 w)
    (A : Array Value) (i : Nat) (x : Int) (hi : i < n) (hA : A[i]? = some (.int k x)) (W : World) : (Instr.index t (.agg A) (.int ik i)).run Tryz.prog W = .ok (.int k x) W := by
  have hc : (0 : Int) ≤ (i : Int) ∧ (i : Int) < (n : Int) := by omega
  simp [Instr.index, asIntOf, run_underlying ht, hsz, part, isAgg, run_underlying he, hc, hA]
  intro h
  omega

def Da.cells (d : Da) : List Value := .int .u32 d.n :: .int .u32 d.a :: .int .u64 d.p :: d.g.map (Value.int .u64)
def Da.val (d : Da) : Value := .agg d.cells.toArray

def cellsW (ws : List Int) : List Value := ws.map (Value.int .u32)
def valW (ws : List Int) : Value := .agg (cellsW ws).toArray

theorem Tryz.size27 : (Tryz.prog.info? 27).map (·.size) = some 9 := by kernel_rfl
theorem Tryz.size228 : (Tryz.prog.info? 228).map (·.size) = some 16 := by kernel_rfl

theorem cellsW_get (ws : List Int) (i : Nat) (h : i < ws.length) : (cellsW ws)[i]? = some (.int .u32 (ws.getD i 0)) := by
  simp [cellsW, List.getElem?_eq_getElem h]
theorem cellsW_one (ws : List Int) : (cellsW ws).toArray.all (·.oneCell') = true := by
  simp [cellsW, Value.oneCell']

theorem Da.cells_len (d : Da) (h : d.ok) : d.cells.length = 9 := by simp [Da.cells, h.2.2.2.1]
end Go.Proofs.YtcckipimfgmmdaaGreatDoor.V

namespace Go.Proofs.YtcckipimfgmmdaaGreatDoor.V
open Go.RowKit

theorem halves_any (n : Int) (w : World) (h : U64 n) :
    Calls Tryz.prog 176 #[.int .u64 n] w fun e w' => e = .returned (.tuple #[.int .u32 (lo n), .int .u32 (hi n)]) ∧ w' = w := by
  have HH : Hid (n / 4294967296 % 4294967296 = hi n) := by
    unfold Hid hi
    unfold U64 at h
    omega
  clear h
  go_enter Tryz.func176, Tryz.ntmps176
  go_wp2
  go_ret2
  rw [HH.out]
  exact ⟨rfl, rfl⟩

end Go.Proofs.YtcckipimfgmmdaaGreatDoor.V

namespace Go.Proofs.YtcckipimfgmmdaaGreatDoor.V
open Go.RowKit

def wordsTo (ws : List Int) (k : Nat) : List Int := ws.take (4 + 2 * k) ++ List.replicate (12 - 2 * k) 0

theorem wordsTo_all (ws : List Int) (h : ws.length = 16) : wordsTo ws 6 = ws := by
  unfold wordsTo
  rw [List.take_of_length_le (by omega)]
  simp

theorem wordsTo_set (n a p : Int) (g : List Int) (hg : g.length = 6) (k : Nat) (hk : k < 6) :
    ((cellsW (wordsTo (Da.mk n a p g).words k)).set (4 + 2 * k) (.int .u32 (lo (g.getD k 0)))).set (4 + 2 * k + 1) (.int .u32 (hi (g.getD k 0))) = cellsW (wordsTo (Da.mk n a p g).words (k + 1)) := by
  obtain ⟨x0, x1, x2, x3, x4, x5, rfl⟩ := six hg
  match k, hk with
  | 0, _ => rfl
  | 1, _ => rfl
  | 2, _ => rfl
  | 3, _ => rfl
  | 4, _ => rfl
  | 5, _ => rfl

set_option maxHeartbeats 800000 in
theorem split_any (d : Da) (w : World) (hd : d.ok) :
    Calls Tryz.prog 157 #[d.val] w fun e w' => e = .returned (valW d.words) ∧ Below w.heap.size w w' := by
  have HH : Hid (∀ (n : Int) (W : World), U64 n → Calls Tryz.prog 176 #[.int .u64 n] W fun e w' => e = .returned (.tuple #[.int .u32 (lo n), .int .u32 (hi n)]) ∧ w' = W) := fun n W h => halves_any n W h
  have HP : Hid (U64 d.p) := hd.2.2.1
  have HG : Hid (∀ z ∈ d.g, U64 z) := hd.2.2.2.2
  obtain ⟨n, a, p, g⟩ := d
  have hl := hd.2.2.2.1
  obtain ⟨x0, x1, x2, x3, x4, x5, rfl⟩ := six hl
  clear hd hl
  unfold Da.val Da.cells at *
  simp only [List.map_cons, List.map_nil] at *
  go_enter Tryz.func157, Tryz.ntmps157
  go_wp2_with (go_at_call 176; refine (HH.out _ _ HP.out).mono ?_; rintro e w2 ⟨rfl, rfl⟩)
  have B0 : Hid (∀ o1 o2 o3 : Obj, Below w.heap.size w (((w.alloc o1).alloc o2).alloc o3)) := fun o1 o2 o3 => (((Below.refl _ _).alloc (Nat.le_refl _) _).alloc (by rw [size_alloc']; omega) _).alloc (by rw [size_alloc', size_alloc']; omega) _
  go_loopw [22] (fun i wr => ∃ k : Nat, k ≤ 6 ∧ i = .int .i64 k ∧ Blk wr (w.heap.size + 1 + 1) 228 (cellsW (wordsTo (Da.mk n a p [x0, x1, x2, x3, x4, x5]).words k)) ∧ Blk wr (w.heap.size + 1) 228 (List.replicate 16 (.int .u32 0)) ∧ Below w.heap.size w wr) (fun i _ => 6 - (intOf i).toNat)
  case atStart =>
    refine ⟨0, by decide, rfl, ?_, ?_, B0.out _ _ _⟩
    · have := blk_new (((w.alloc (Obj.cells #[.int .u32 n, .int .u32 a, .int .u64 p, .int .u64 x0, .int .u64 x1, .int .u64 x2, .int .u64 x3, .int .u64 x4, .int .u64 x5] 27)).alloc (Obj.cells (List.replicate 16 (Value.int .u32 0)).toArray 228))) (cellsW (wordsTo (Da.mk n a p [x0, x1, x2, x3, x4, x5]).words 0)).toArray 228
      rw [size_alloc', size_alloc'] at this
      exact this
    · have := blk_new' w (Obj.cells #[.int .u32 n, .int .u32 a, .int .u64 p, .int .u64 x0, .int .u64 x1, .int .u64 x2, .int .u64 x3, .int .u64 x4, .int .u64 x5] 27) (List.replicate 16 (Value.int .u32 0)).toArray 228
      exact this.alloc _
  case round =>
    obtain ⟨k, hk, rfl, hb, hz, hbr⟩ := hrel
    by_cases hlt : k < 6
    · have HS : Hid (((cellsW (wordsTo (Da.mk n a p [x0, x1, x2, x3, x4, x5]).words k)).set (4 + 2 * k) (.int .u32 (lo ([x0, x1, x2, x3, x4, x5].getD k 0)))).set (4 + 2 * k + 1) (.int .u32 (hi ([x0, x1, x2, x3, x4, x5].getD k 0))) = cellsW (wordsTo (Da.mk n a p [x0, x1, x2, x3, x4, x5]).words (k + 1))) := wordsTo_set n a p _ rfl k hlt
      have HU : Hid (U64 ([x0, x1, x2, x3, x4, x5].getD k 0)) := by
        unfold Hid
        rw [List.getD_eq_getElem?_getD, List.getElem?_eq_getElem (show k < [x0, x1, x2, x3, x4, x5].length from hlt)]
        exact HG.out _ (List.getElem_mem (show k < [x0, x1, x2, x3, x4, x5].length from hlt))
      have hA : (#[.int .u64 x0, .int .u64 x1, .int .u64 x2, .int .u64 x3, .int .u64 x4, .int .u64 x5] : Array Value)[k]? = some (.int .u64 ([x0, x1, x2, x3, x4, x5].getD k 0)) := by
        match k, hlt with
        | 0, _ => rfl
        | 1, _ => rfl
        | 2, _ => rfl
        | 3, _ => rfl
        | 4, _ => rfl
        | 5, _ => rfl
      have hlen : (cellsW (wordsTo (Da.mk n a p [x0, x1, x2, x3, x4, x5]).words k)).length = 16 := by
        match k, hlt with
        | 0, _ => rfl
        | 1, _ => rfl
        | 2, _ => rfl
        | 3, _ => rfl
        | 4, _ => rfl
        | 5, _ => rfl
      generalize cellsW (wordsTo (Da.mk n a p [x0, x1, x2, x3, x4, x5]).words k) = L at *
      have hc1 := hb.cell (4 + 2 * k)
      rw [List.getElem?_eq_getElem (by omega)] at hc1
      have hc2 := hb.cell (4 + 2 * k + 1)
      rw [List.getElem?_eq_getElem (by omega)] at hc2
      have f1 := hb.f (4 + 2 * k)
      have f2 := hb.f (4 + 2 * k + 1)
      generalize L[4 + 2 * k]'_ = v1 at *
      generalize L[4 + 2 * k + 1]'_ = v2 at *
      have HB : Hid (Blk wr (w.heap.size + 1 + 1) 228 L) := hb
      have HZ : Hid (Blk wr (w.heap.size + 1) 228 (List.replicate 16 (Value.int IntKind.u32 0))) := hz
      clear hb hz hlen
      generalize [x0, x1, x2, x3, x4, x5].getD k 0 = z at *
      have hix : ∀ W : World, (Instr.index 25 (.agg #[.int .u64 x0, .int .u64 x1, .int .u64 x2, .int .u64 x3, .int .u64 x4, .int .u64 x5]) (.int .i64 k)).run Tryz.prog W = .ok (.int .u64 z) W := fun W => index_row 25 24 6 .i64 .u64 Tryz.underlying25 Tryz.underlying24 Tryz.sizeOf24 _ k z hlt hA W
      clear hA
      generalize (#[.int .u64 x0, .int .u64 x1, .int .u64 x2, .int .u64 x3, .int .u64 x4, .int .u64 x5] : Array Value) = A at *
      go_wp2_with (go_at_call 176; refine (HH.out _ _ HU.out).mono ?_; rintro e w2 ⟨rfl, rfl⟩)
      go_roundw
      case rel =>
        refine ⟨k + 1, by omega, by go_num, ?_, ?_, ?_⟩
        · rw [← HS.out]
          exact (HB.out.set _ _).set _ _
        · exact (HZ.out.other _ _ (by show w.heap.size + 1 ≠ w.heap.size + 1 + 1; omega)).other _ _ (by show w.heap.size + 1 ≠ w.heap.size + 1 + 1; omega)
        · exact (hbr.setCell (by show w.heap.size ≤ w.heap.size + 1 + 1; omega) _).setCell (by show w.heap.size ≤ w.heap.size + 1 + 1; omega) _
      case measure => simp [intOf]; omega
    · have hk6 : ¬ (k : Int) < 6 := by omega
      have hw : wordsTo (Da.mk n a p [x0, x1, x2, x3, x4, x5]).words k = (Da.mk n a p [x0, x1, x2, x3, x4, x5]).words := by
        obtain rfl : k = 6 := by omega
        exact wordsTo_all _ rfl
      rw [hw] at hb
      clear hw hlt hk
      obtain ⟨R, hR⟩ : ∃ R, R = cellsW (Da.mk n a p [x0, x1, x2, x3, x4, x5]).words := ⟨_, rfl⟩
      have h1 : R.toArray.all (·.oneCell') = true := by rw [hR]; exact cellsW_one _
      have hl : R.length = 16 := by rw [hR]; rfl
      have HV : Hid (valW (Da.mk n a p [x0, x1, x2, x3, x4, x5]).words = .agg R.toArray) := by rw [hR]; exact rfl
      rw [← hR] at hb
      clear hR
      have HB : Hid (Blk (wr.setRow (w.heap.size + 1) R.toArray) (w.heap.size + 1) 228 R) := hz.row R.toArray
      have HC : Hid (Below w.heap.size w (wr.setRow (w.heap.size + 1) R.toArray)) := below_setRow hbr (show w.heap.size ≤ w.heap.size + 1 by omega) R.toArray
      have HZ : Hid ((Tryz.prog.info? 228).map (·.size) = some R.toArray.size) := by unfold Hid; rw [Tryz.size228]; simp [hl]
      have HS : Hid ((List.replicate 16 (Value.int .u32 0)).toArray.size = R.toArray.size) := by unfold Hid; simp [hl]
      have hB1 : Hid (Blk wr (w.heap.size + 1 + 1) 228 R) := hb
      have hB2 : Hid (Blk wr (w.heap.size + 1) 228 (List.replicate 16 (.int .u32 0))) := hz
      have H1 : Hid (R.toArray.all (·.oneCell') = true) := h1
      clear hb hz h1 hl hbr
      go_wp2_with (first | (refine wpList_load_row rfl 228 (.tmp 3) rfl (w.heap.size + 1 + 1) rfl 228 R.toArray (0, 0) (.array 16 23) hB1.out Tryz.underlying228 rfl HZ.out ?_) | (refine wpList_store_row rfl 228 (.tmp 2) (.tmp 40) rfl (w.heap.size + 1) R.toArray rfl rfl 228 _ hB2.out HZ.out HS.out H1.out ?_; generalize wr.setRow (w.heap.size + 1) R.toArray = X at *))
      rw [HV.out]
      refine bodyPost_ret (v := .agg R.toArray) ?_ rfl ⟨rfl, HC.out⟩
      exact results_cell_row Tryz.results157 _ _ (w.heap.size + 1) 228 R.toArray (0, 0) (.array 16 23) rfl HB.out Tryz.underlying228 rfl HZ.out

end Go.Proofs.YtcckipimfgmmdaaGreatDoor.V

namespace Go.Proofs.YtcckipimfgmmdaaGreatDoor.V
open Go.RowKit

theorem valW_get (ws : List Int) (k : Nat) (hk : k < ws.length) : (cellsW ws).toArray[k]? = some (.int .u32 (ws.getD k 0)) := by
  rw [List.getElem?_toArray]
  exact cellsW_get ws k hk

end Go.Proofs.YtcckipimfgmmdaaGreatDoor.V

namespace Go.Proofs.YtcckipimfgmmdaaGreatDoor.V
open Go.RowKit

def ldv (d : Da) (m : Int) : Int := if m % 4 = 0 ∧ m < 64 then d.words.getD (m / 4).toNat 0 else 0
def lde (m : Int) : Int := if m % 4 = 0 ∧ m < 64 then 0 else 12

theorem ld_in (d : Da) (j : Nat) (hj : j < 16) : ldv d ((4 * j : Nat) : Int) = d.words.getD j 0 ∧ lde ((4 * j : Nat) : Int) = 0 := by
  have h : ((4 * j : Nat) : Int) % 4 = 0 ∧ ((4 * j : Nat) : Int) < 64 := by omega
  unfold ldv lde
  rw [if_pos h, if_pos h, show (((4 * j : Nat) : Int) / 4).toNat = j by omega]
  exact ⟨rfl, rfl⟩
theorem ld_out (d : Da) (m : Int) (h : ¬ (m % 4 = 0 ∧ m < 64)) : ldv d m = 0 ∧ lde m = 12 := by
  unfold ldv lde
  rw [if_neg h, if_neg h]
  exact ⟨rfl, rfl⟩

set_option maxHeartbeats 400000 in
theorem load_any (d : Da) (m : Int) (w : World) (hd : d.ok) (hm : U32 m) :
    Calls Tryz.prog 132 #[d.val, .int .u32 m] w fun e w' => e = .returned (.tuple #[.int .u32 (ldv d m), .int .i64 (lde m)]) ∧ Below w.heap.size w w' := by
  have hk2 : Hid (Below w.heap.size w (w.alloc (Obj.cells d.cells.toArray 27))) := (Below.refl _ _).alloc (Nat.le_refl _) _
  by_cases hc : m % 4 = 0 ∧ m < 64
  · have HL : Hid (d.words.length = 16) := words_len d hd
    have HC : Hid ((Tryz.prog.info? 27).map (·.size) = some d.cells.toArray.size) := by unfold Hid; rw [Tryz.size27]; simp [d.cells_len hd]
    have HG : Hid (∀ k, k < 16 → (cellsW d.words).toArray[k]? = some (.int .u32 (d.words.getD k 0))) := fun k hk => valW_get _ k (by rw [HL.out]; exact hk)
    have HS : Hid (∀ W : World, Calls Tryz.prog 157 #[.agg d.cells.toArray] W fun e w' => e = .returned (.agg (cellsW d.words).toArray) ∧ Below W.heap.size W w') := fun W => split_any d W hd
    obtain ⟨h0, h1⟩ := hm
    obtain ⟨j, hj, rfl⟩ : ∃ j : Nat, j < 16 ∧ m = ((4 * j : Nat) : Int) := ⟨(m / 4).toNat, by omega, by omega⟩
    obtain ⟨e1, e2⟩ := ld_in d j hj
    rw [e1, e2]
    have hix : ∀ W : World, (Instr.index 228 (.agg (cellsW d.words).toArray) (.int .u32 j)).run Tryz.prog W = .ok (.int .u32 (d.words.getD j 0)) W := fun W => index_row 228 23 16 .u32 .u32 Tryz.underlying228 Tryz.underlying23 Tryz.sizeOf23 _ j _ hj (HG.out j hj) W
    have hr : Int.tmod ((4 * j : Nat) : Int) 4 = 0 := by rw [Int.tmod_eq_emod_of_nonneg (by omega)]; omega
    have hq : Int.tdiv ((4 * j : Nat) : Int) 4 = (j : Int) := by rw [Int.tdiv_eq_ediv_of_nonneg (by omega)]; omega
    have hlt : ¬ (64 : Int) ≤ ((4 * j : Nat) : Int) := by omega
    have hB : Hid (Blk (w.alloc (Obj.cells d.cells.toArray 27)) w.heap.size 27 d.cells.toArray.toList) := blk_new w _ 27
    clear e1 e2 hc h0 h1 hd HL HG
    unfold Da.val
    generalize d.words.getD j 0 = x at *
    generalize d.cells.toArray = A at *
    generalize (cellsW d.words).toArray = R at *
    generalize hM : ((4 * j : Nat) : Int) = M at *
    clear hM
    go_enter Tryz.func132, Tryz.ntmps132
    go_wp2_with (first | (refine wpList_load_row rfl 27 (.tmp 2) rfl w.heap.size rfl 27 A (0, 0) _ hB.out Tryz.underlying27 rfl HC.out ?_) | (go_at_call 157; refine (HS.out _).mono ?_; rintro e w2 ⟨rfl, hb2⟩))
    go_ret2
    exact ⟨rfl, hk2.out.trans (hb2.mono hk2.out.size)⟩
  · obtain ⟨e1, e2⟩ := ld_out d m hc
    rw [e1, e2]
    obtain ⟨h0, h1⟩ := hm
    clear e1 e2 hd
    unfold Da.val
    generalize d.cells.toArray = A at *
    by_cases h4 : m % 4 = 0
    · have hr : Int.tmod m 4 = 0 := by rw [Int.tmod_eq_emod_of_nonneg (by omega)]; omega
      have hlt : (64 : Int) ≤ m := by omega
      clear hc h4 h0 h1
      go_enter Tryz.func132, Tryz.ntmps132
      go_wp2
      go_ret2
      exact ⟨rfl, hk2.out⟩
    · have hr : ¬ Int.tmod m 4 = 0 := by rw [Int.tmod_eq_emod_of_nonneg (by omega)]; omega
      clear hc h4 h0 h1
      go_enter Tryz.func132, Tryz.ntmps132
      go_wp2
      go_ret2
      exact ⟨rfl, hk2.out⟩

end Go.Proofs.YtcckipimfgmmdaaGreatDoor.V

namespace Go.Proofs.YtcckipimfgmmdaaGreatDoor.V

structure St where
  a : Int
  x : Int
  c : Int → Int
  ans : Int

def reckV (c a n : Int) : Int :=
  if (c == 4) = true then (a + n) % 4294967296 else if (c == 20) = true then (a - n) % 4294967296 else if (c == 36) = true then (a * n) % 4294967296 else if (c == 52) = true then a / n
  else if (c == 68) = true then bits .or .u32 a n else if (c == 84) = true then bits .and .u32 a n else if (c == 164) = true then bits .xor .u32 a n
  else if (c == 100) = true then (a * 2 ^ (n % 32).toNat) % 4294967296 else if (c == 116) = true then a / 2 ^ (n % 32).toNat else a

def holdsV (c a n : Int) : Bool :=
  if (c == 21) = true then a == n else if (c == 37) = true then decide (n < a) else if (c == 53) = true then decide (n ≤ a) else bits .and .u32 a n != 0

def othV (x : In) (s : St) : Int := if (x.c == kOf x.c) = true then x.k else s.x

def putC (c : Int → Int) (k v : Int) : Int → Int := fun j => if j = k then v else c j

def doV (d : Da) (x : In) (s : St) : St :=
  if (x.c == 32) = true then { s with a := ldv d x.k } else if (x.c == 0) = true then { s with a := x.k } else if (x.c == 1) = true then { s with x := x.k }
  else if (x.c == 96) = true then { s with a := s.c x.k } else if (x.c == 97) = true then { s with x := s.c x.k }
  else if (x.c == 2) = true then { s with c := putC s.c x.k s.a } else if (x.c == 3) = true then { s with c := putC s.c x.k s.x }
  else if (x.c == 7) = true then { s with x := s.a } else if (x.c == 135) = true then { s with a := s.x } else if (x.c == 132) = true then { s with a := (-s.a) % 4294967296 }
  else { s with a := reckV (kOf x.c) s.a (othV x s) }

def skipV (x : In) (s : St) : Int :=
  if jumpsB x.c = false then 0 else if (x.c == 5) = true then x.k else if holdsV (kOf x.c) s.a (othV x s) = true then x.t else x.f

def endV (x : In) (s : St) : Bool := isIn endL x.c || (x.c == 60 && s.x == 0)

def tellV (x : In) (s : St) : Int := if (x.c == 6) = true then x.k else if (x.c == 22) = true then s.a else 0

def St.ok (s : St) : Prop := U32 s.a ∧ U32 s.x ∧ U32 s.ans ∧ ∀ k, U32 (s.c k)

end Go.Proofs.YtcckipimfgmmdaaGreatDoor.V

namespace Go.Proofs.YtcckipimfgmmdaaGreatDoor.V
open Go.RowKit

theorem vmByK_any (c : Int) (w : World) : Calls Tryz.prog 134 #[.int .u16 c] w fun e w' => e = .returned (.int .u16 (kOf c)) ∧ w' = w := by
  go_enter Tryz.func134, Tryz.ntmps134
  go_wp2
  go_ret
  exact ⟨rfl, rfl⟩

set_option maxHeartbeats 400000 in
theorem holds_any (c a n : Int) (w : World) : Calls Tryz.prog 136 #[.int .u16 c, .int .u32 a, .int .u32 n] w fun e w' => e = .returned (.bool (holdsV c a n)) ∧ w' = w := by
  go_enter Tryz.func136, Tryz.ntmps136
  go_wp2
  all_goals (go_ret; exact ⟨ret_bool (by simp [holdsV, *]), rfl⟩)

set_option maxHeartbeats 400000 in
theorem reckon_any (c a n : Int) (w : World) (ha : U32 a) (hn : U32 n) (hz : (c == 52) = true → ¬ n = 0) : Calls Tryz.prog 133 #[.int .u16 c, .int .u32 a, .int .u32 n] w fun e w' => e = .returned (.int .u32 (reckV c a n)) ∧ w' = w := by
  obtain ⟨a0, a1⟩ := ha
  obtain ⟨n0, n1⟩ := hn
  have hq : a.tdiv n % 4294967296 = a / n := by
    rw [Int.tdiv_eq_ediv_of_nonneg a0]
    have h1 : 0 ≤ a / n := Int.ediv_nonneg a0 n0
    have h2 : a / n ≤ a := Int.ediv_le_self n a0
    omega
  go_enter Tryz.func133, Tryz.ntmps133
  go_wp2
  all_goals (go_ret; exact ⟨ret_int (by simp [reckV, *]), rfl⟩)

end Go.Proofs.YtcckipimfgmmdaaGreatDoor.V
