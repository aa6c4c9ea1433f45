/-
  What Check tells of any program: proved.
-/
import Derived.Test.YtcckipimfgmmdaaGreatDoorVOut
namespace Go.Proofs.YtcckipimfgmmdaaGreatDoor.V
open Go.RowKit

theorem ff_at (l : List In) (k n : Nat) (hk : k < l.length) (hn : n = l.length - 1 - k) (p : Int) : ff (l.drop k) p = if fault l[k] n = 0 then ff (l.drop (k + 1)) (p + 1) else (fault l[k] n, p) := by
  subst hn
  exact ff_drop_succ l k hk p

theorem In.at.below {x : In} {w w' : World} {b o : Nat} (h : x.at w b o) (hb : Below w.heap.size w w') : x.at w' b o := by
  obtain ⟨h1, h2, h3, h4⟩ := h
  have hlt : b < w.heap.size := World.block_lt_of_cell? w _ h1
  refine ⟨?_, ?_, ?_, ?_⟩
  · rw [hb.cell (p := ⟨b, o, none⟩) hlt]; exact h1
  · rw [hb.cell (p := ⟨b, o + 1, none⟩) hlt]; exact h2
  · rw [hb.cell (p := ⟨b, o + 2, none⟩) hlt]; exact h3
  · rw [hb.cell (p := ⟨b, o + 3, none⟩) hlt]; exact h4

theorem In.at.four {c t f k : Int} {w : World} {b : Nat} (h : In.at ⟨c, t, f, k⟩ w b 0) : w.cell? ⟨b, 0, none⟩ = some (.int .u16 c) ∧ w.cell? ⟨b, 1, none⟩ = some (.int .u8 t) ∧ w.cell? ⟨b, 2, none⟩ = some (.int .u8 f) ∧ w.cell? ⟨b, 3, none⟩ = some (.int .u32 k) := h

theorem at_new (w : World) (x : In) : x.at (w.alloc (Obj.cells #[.int .u16 x.c, .int .u8 x.t, .int .u8 x.f, .int .u32 x.k] 60)) w.heap.size 0 := by
  refine ⟨?_, ?_, ?_, ?_⟩ <;> simp

theorem ret_pair {a b c d : Int} (h : (a, b) = (c, d)) : Ending.returned (.tuple #[.int .i64 a, .int .i64 b]) = .returned (.tuple #[.int .i64 c, .int .i64 d]) := by
  cases h; rfl

set_option maxHeartbeats 4000000 in
theorem first_any (a : Option Addr) (len cap : Nat) (ins : List In) (w : World) (hlen : len ≤ 100000) (h : Ins w a len ins) :
    Calls Tryz.prog 38 #[.slice a len cap] w fun e w' => e = .returned (.tuple #[.int .i64 (ff ins 0).1, .int .i64 (ff ins 0).2]) ∧ Below w.heap.size w w' := by
  have hll := h.1
  have HF : Hid (∀ p, ff [] p = (0, -1)) := fun _ => rfl
  generalize hz : ff ins 0 = z
  obtain ⟨z1, z2⟩ := z
  have HZ : Hid (ff ins 0 = (z1, z2)) := hz
  clear hz
  dsimp only
  go_enter Tryz.func38, Tryz.ntmps38
  go_wp2
  go_step3
  go_wp2
  go_step3
  go_wp2
  go_loopw [2, 3, 10] (fun r2 r3 i wr => ∃ k : Nat, k ≤ len ∧ i = .int .i64 k ∧ ff (ins.drop k) k = (z1, z2) ∧ Below w.heap.size w wr) (fun _ _ i _ => len - (intOf i).toNat)
  case atStart => exact ⟨0, Nat.zero_le _, rfl, HZ.out, Below.refl _ _⟩
  case round =>
    obtain ⟨k, hk, rfl, hst, hbr⟩ := hrel
    by_cases hlt : k < len
    · have hir := h.below hbr
      obtain ⟨b, off, rfl, hc⟩ := hir.2.2 (by omega)
      obtain ⟨q1, q2, q3, q4⟩ := hc k ins[k] (List.getElem?_eq_getElem (by omega))
      have HO : Hid (ins[k].ok) := hir.2.1 ins[k] (List.getElem_mem (by omega))
      have HS : Hid (ff (ins.drop k) k = if fault ins[k] (len - 1 - k) = 0 then ff (ins.drop (k + 1)) (k + 1 : Nat) else (fault ins[k] (len - 1 - k), k)) := by
        exact ff_at ins k (len - 1 - k) (by omega) (by omega) k
      have HT : Hid (ff (ins.drop k) k = (z1, z2)) := hst
      clear hc hir h hst
      generalize ins[k] = x at *
      have hbh : (len : Int) - 1 - k = ((len - 1 - k : Nat) : Int) := by omega
      have HK : Hid (∀ W : World, Calls Tryz.prog 63 #[.int .u16 x.c] W fun e w' => e = .returned (.bool (knownB x.c)) ∧ Below W.heap.size W w') := fun W => known_any x.c W
      have HL : Hid (∀ W : World, Calls Tryz.prog 64 #[x.val] W fun e w' => e = .returned (.bool (loadsB x.c x.k)) ∧ Below W.heap.size W w') := fun W => loads_any x W HO.out
      have HR : Hid (∀ W : World, Calls Tryz.prog 65 #[x.val] W fun e w' => e = .returned (.bool (reckB x.c x.k)) ∧ Below W.heap.size W w') := fun W => reck_any x W HO.out
      have HU : Hid (∀ W : World, Calls Tryz.prog 66 #[x.val, .int .i64 ((len - 1 - k : Nat) : Int)] W fun e w' => e = .returned (.bool (outB x (len - 1 - k))) ∧ Below W.heap.size W w') := fun W => out_any x (len - 1 - k) W HO.out (by omega)
      have HE : Hid (∀ W : World, Calls Tryz.prog 67 #[.int .u16 x.c] W fun e w' => e = .returned (.bool (isIn endL x.c)) ∧ w' = W) := fun W => ends_any x.c W
      have HF : Hid (fault x (len - 1 - k) = if knownB x.c = false then 11 else if loadsB x.c x.k = true then 12 else if reckB x.c x.k = true then 13 else if outB x (len - 1 - k) = true then 14 else if len - 1 - k = 0 ∧ isIn endL x.c = false then 15 else 0) := rfl
      clear HO
      generalize outB x (len - 1 - k) = bo at *
      generalize fault x (len - 1 - k) = fx at *
      obtain ⟨xc, xt, xf, xk⟩ := x
      unfold In.val at *
      dsimp only at *
      generalize knownB xc = bk at *
      generalize loadsB xc xk = bl at *
      generalize reckB xc xk = br at *
      generalize isIn endL xc = be at *
      generalize len - 1 - k = nn at *
      have B0 := hbr.alloc hbr.size (Obj.cells #[.int .u16 xc, .int .u8 xt, .int .u8 xf, .int .u32 xk] 60)
      have A0 : In.at ⟨xc, xt, xf, xk⟩ (wr.alloc (Obj.cells #[.int .u16 xc, .int .u8 xt, .int .u8 xf, .int .u32 xk] 60)) wr.heap.size 0 := at_new wr ⟨xc, xt, xf, xk⟩
      have hi1 : (k : Int) < (len : Int) := by omega
      cases bk with
      | false =>
        have hf : fx = 11 := HF.out
        have HZ2 : Hid ((11, (k : Int)) = (z1, z2)) := by have := HS.out; rw [hf, if_neg (by decide)] at this; exact this.symm.trans HT.out
        clear HF HS HT HZ hf
        go_wp2_with (first | (go_at_call 63; refine (HK.out _).mono ?_; rintro e w1 ⟨rfl, b1⟩; have B1 := B0.trans (b1.mono B0.size); have A1 := A0.below b1; obtain ⟨p1, r1, s1, t1⟩ := A1.four) | (go_at_call 64; refine (HL.out _).mono ?_; rintro e w2 ⟨rfl, b2⟩; have B2 := B1.trans (b2.mono B1.size); have A2 := A1.below b2; obtain ⟨p2, r2, s2, t2⟩ := A2.four) | (go_at_call 65; refine (HR.out _).mono ?_; rintro e w3 ⟨rfl, b3⟩; have B3 := B2.trans (b3.mono B2.size); have A3 := A2.below b3; obtain ⟨p3, r3, s3, t3⟩ := A3.four) | (go_at_call 66; refine (HU.out _).mono ?_; rintro e w4 ⟨rfl, b4⟩; have B4 := B3.trans (b4.mono B3.size); have A4 := A3.below b4; obtain ⟨p4, r4, s4, t4⟩ := A4.four) | (go_at_call 67; refine (HE.out _).mono ?_; rintro e w5 ⟨rfl, rfl⟩))
        rw [Exit.noGoto_ret]
        go_ret2
        exact ⟨ret_pair HZ2.out, B1⟩
      | true =>
        cases bl with
        | true =>
          have hf : fx = 12 := HF.out
          have HZ2 : Hid ((12, (k : Int)) = (z1, z2)) := by have := HS.out; rw [hf, if_neg (by decide)] at this; exact this.symm.trans HT.out
          clear HF HS HT HZ hf
          go_wp2_with (first | (go_at_call 63; refine (HK.out _).mono ?_; rintro e w1 ⟨rfl, b1⟩; have B1 := B0.trans (b1.mono B0.size); have A1 := A0.below b1; obtain ⟨p1, r1, s1, t1⟩ := A1.four) | (go_at_call 64; refine (HL.out _).mono ?_; rintro e w2 ⟨rfl, b2⟩; have B2 := B1.trans (b2.mono B1.size); have A2 := A1.below b2; obtain ⟨p2, r2, s2, t2⟩ := A2.four) | (go_at_call 65; refine (HR.out _).mono ?_; rintro e w3 ⟨rfl, b3⟩; have B3 := B2.trans (b3.mono B2.size); have A3 := A2.below b3; obtain ⟨p3, r3, s3, t3⟩ := A3.four) | (go_at_call 66; refine (HU.out _).mono ?_; rintro e w4 ⟨rfl, b4⟩; have B4 := B3.trans (b4.mono B3.size); have A4 := A3.below b4; obtain ⟨p4, r4, s4, t4⟩ := A4.four) | (go_at_call 67; refine (HE.out _).mono ?_; rintro e w5 ⟨rfl, rfl⟩))
          rw [Exit.noGoto_ret]
          go_ret2
          exact ⟨ret_pair HZ2.out, B2⟩
        | false =>
          cases br with
          | true =>
            have hf : fx = 13 := HF.out
            have HZ2 : Hid ((13, (k : Int)) = (z1, z2)) := by have := HS.out; rw [hf, if_neg (by decide)] at this; exact this.symm.trans HT.out
            clear HF HS HT HZ hf
            go_wp2_with (first | (go_at_call 63; refine (HK.out _).mono ?_; rintro e w1 ⟨rfl, b1⟩; have B1 := B0.trans (b1.mono B0.size); have A1 := A0.below b1; obtain ⟨p1, r1, s1, t1⟩ := A1.four) | (go_at_call 64; refine (HL.out _).mono ?_; rintro e w2 ⟨rfl, b2⟩; have B2 := B1.trans (b2.mono B1.size); have A2 := A1.below b2; obtain ⟨p2, r2, s2, t2⟩ := A2.four) | (go_at_call 65; refine (HR.out _).mono ?_; rintro e w3 ⟨rfl, b3⟩; have B3 := B2.trans (b3.mono B2.size); have A3 := A2.below b3; obtain ⟨p3, r3, s3, t3⟩ := A3.four) | (go_at_call 66; refine (HU.out _).mono ?_; rintro e w4 ⟨rfl, b4⟩; have B4 := B3.trans (b4.mono B3.size); have A4 := A3.below b4; obtain ⟨p4, r4, s4, t4⟩ := A4.four) | (go_at_call 67; refine (HE.out _).mono ?_; rintro e w5 ⟨rfl, rfl⟩))
            rw [Exit.noGoto_ret]
            go_ret2
            exact ⟨ret_pair HZ2.out, B3⟩
          | false =>
            cases bo with
            | true =>
              have hf : fx = 14 := HF.out
              have HZ2 : Hid ((14, (k : Int)) = (z1, z2)) := by have := HS.out; rw [hf, if_neg (by decide)] at this; exact this.symm.trans HT.out
              clear HF HS HT HZ hf
              go_wp2_with (first | (go_at_call 63; refine (HK.out _).mono ?_; rintro e w1 ⟨rfl, b1⟩; have B1 := B0.trans (b1.mono B0.size); have A1 := A0.below b1; obtain ⟨p1, r1, s1, t1⟩ := A1.four) | (go_at_call 64; refine (HL.out _).mono ?_; rintro e w2 ⟨rfl, b2⟩; have B2 := B1.trans (b2.mono B1.size); have A2 := A1.below b2; obtain ⟨p2, r2, s2, t2⟩ := A2.four) | (go_at_call 65; refine (HR.out _).mono ?_; rintro e w3 ⟨rfl, b3⟩; have B3 := B2.trans (b3.mono B2.size); have A3 := A2.below b3; obtain ⟨p3, r3, s3, t3⟩ := A3.four) | (go_at_call 66; refine (HU.out _).mono ?_; rintro e w4 ⟨rfl, b4⟩; have B4 := B3.trans (b4.mono B3.size); have A4 := A3.below b4; obtain ⟨p4, r4, s4, t4⟩ := A4.four) | (go_at_call 67; refine (HE.out _).mono ?_; rintro e w5 ⟨rfl, rfl⟩))
              rw [Exit.noGoto_ret]
              go_ret2
              exact ⟨ret_pair HZ2.out, B4⟩
            | false =>
              by_cases hn0 : nn = 0
              · have hnz : ((nn : Int) == 0) = true := by rw [hn0]; rfl
                cases be with
                | false =>
                  have hf : fx = 15 := by rw [HF.out]; simp [hn0]
                  have HZ2 : Hid ((15, (k : Int)) = (z1, z2)) := by have := HS.out; rw [hf, if_neg (by decide)] at this; exact this.symm.trans HT.out
                  clear HF HS HT HZ hf hn0
                  go_wp2_with (first | (go_at_call 63; refine (HK.out _).mono ?_; rintro e w1 ⟨rfl, b1⟩; have B1 := B0.trans (b1.mono B0.size); have A1 := A0.below b1; obtain ⟨p1, r1, s1, t1⟩ := A1.four) | (go_at_call 64; refine (HL.out _).mono ?_; rintro e w2 ⟨rfl, b2⟩; have B2 := B1.trans (b2.mono B1.size); have A2 := A1.below b2; obtain ⟨p2, r2, s2, t2⟩ := A2.four) | (go_at_call 65; refine (HR.out _).mono ?_; rintro e w3 ⟨rfl, b3⟩; have B3 := B2.trans (b3.mono B2.size); have A3 := A2.below b3; obtain ⟨p3, r3, s3, t3⟩ := A3.four) | (go_at_call 66; refine (HU.out _).mono ?_; rintro e w4 ⟨rfl, b4⟩; have B4 := B3.trans (b4.mono B3.size); have A4 := A3.below b4; obtain ⟨p4, r4, s4, t4⟩ := A4.four) | (go_at_call 67; refine (HE.out _).mono ?_; rintro e w5 ⟨rfl, rfl⟩))
                  rw [Exit.noGoto_ret]
                  go_ret2
                  exact ⟨ret_pair HZ2.out, B4⟩
                | true =>
                  have hf : fx = 0 := by rw [HF.out]; simp
                  have HZ2 : Hid (ff (ins.drop (k + 1)) (k + 1 : Nat) = (z1, z2)) := by have := HS.out; rw [hf, if_pos rfl] at this; exact this.symm.trans HT.out
                  clear HF HS HT HZ hf hn0
                  go_wp2_with (first | (go_at_call 63; refine (HK.out _).mono ?_; rintro e w1 ⟨rfl, b1⟩; have B1 := B0.trans (b1.mono B0.size); have A1 := A0.below b1; obtain ⟨p1, r1, s1, t1⟩ := A1.four) | (go_at_call 64; refine (HL.out _).mono ?_; rintro e w2 ⟨rfl, b2⟩; have B2 := B1.trans (b2.mono B1.size); have A2 := A1.below b2; obtain ⟨p2, r2, s2, t2⟩ := A2.four) | (go_at_call 65; refine (HR.out _).mono ?_; rintro e w3 ⟨rfl, b3⟩; have B3 := B2.trans (b3.mono B2.size); have A3 := A2.below b3; obtain ⟨p3, r3, s3, t3⟩ := A3.four) | (go_at_call 66; refine (HU.out _).mono ?_; rintro e w4 ⟨rfl, b4⟩; have B4 := B3.trans (b4.mono B3.size); have A4 := A3.below b4; obtain ⟨p4, r4, s4, t4⟩ := A4.four) | (go_at_call 67; refine (HE.out _).mono ?_; rintro e w5 ⟨rfl, rfl⟩))
                  go_roundw
                  case rel => exact ⟨k + 1, by omega, by go_num, HZ2.out, B4⟩
                  case measure => simp [intOf]; omega
              · have hnz : ((nn : Int) == 0) = false := by rw [beq_eq_false_iff_ne]; omega
                have hf : fx = 0 := by rw [HF.out]; simp [hn0]
                have HZ2 : Hid (ff (ins.drop (k + 1)) (k + 1 : Nat) = (z1, z2)) := by have := HS.out; rw [hf, if_pos rfl] at this; exact this.symm.trans HT.out
                clear HF HS HT HZ hf hn0
                go_wp2_with (first | (go_at_call 63; refine (HK.out _).mono ?_; rintro e w1 ⟨rfl, b1⟩; have B1 := B0.trans (b1.mono B0.size); have A1 := A0.below b1; obtain ⟨p1, r1, s1, t1⟩ := A1.four) | (go_at_call 64; refine (HL.out _).mono ?_; rintro e w2 ⟨rfl, b2⟩; have B2 := B1.trans (b2.mono B1.size); have A2 := A1.below b2; obtain ⟨p2, r2, s2, t2⟩ := A2.four) | (go_at_call 65; refine (HR.out _).mono ?_; rintro e w3 ⟨rfl, b3⟩; have B3 := B2.trans (b3.mono B2.size); have A3 := A2.below b3; obtain ⟨p3, r3, s3, t3⟩ := A3.four) | (go_at_call 66; refine (HU.out _).mono ?_; rintro e w4 ⟨rfl, b4⟩; have B4 := B3.trans (b4.mono B3.size); have A4 := A3.below b4; obtain ⟨p4, r4, s4, t4⟩ := A4.four) | (go_at_call 67; refine (HE.out _).mono ?_; rintro e w5 ⟨rfl, rfl⟩))
                go_roundw
                case rel => exact ⟨k + 1, by omega, by go_num, HZ2.out, B4⟩
                case measure => simp [intOf]; omega
    · have HN : Hid ((0, -1) = (z1, z2)) := by rw [List.drop_eq_nil_of_le (by omega)] at hst; exact hst
      clear hst
      go_wp2
      rw [Exit.noGoto_ret]
      go_ret2
      exact ⟨ret_pair HN.out, hbr⟩

end Go.Proofs.YtcckipimfgmmdaaGreatDoor.V
