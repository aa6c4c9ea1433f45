/-
  Texts of this seat, joined: VOut, VFirst, VCheck.
-/
import Derived.Test.YtamioifoemklfaaJ1

namespace Go.Proofs.Ytamioifoemklfaa.V
open Go.RowKit

theorem skips_bd (x : In) (hx : x.ok) : (skipsL x).length ≤ 2 ∧ ∀ s ∈ skipsL x, 0 ≤ s ∧ s ≤ 4294967295 := by
  obtain ⟨c, t, f, k⟩ := x
  unfold In.ok at hx
  dsimp only at hx
  unfold skipsL
  dsimp only
  repeat' split
  all_goals (refine ⟨by simp, ?_⟩; intro s hs; simp at hs; try omega)

/-- is one of the numbers too great? -/
def anyOut (l : List Int) (n : Nat) : Bool := l.any (fun s => !insB s n)

theorem anyOut_take (l : List Int) (n k : Nat) (hk : k < l.length) : anyOut (l.take (k + 1)) n = (anyOut (l.take k) n || !insB (l.getD k 0) n) := by
  have e1 : l.take (k + 1) = l.take k ++ [l[k]] := by rw [List.take_add_one, List.getElem?_eq_getElem hk]; rfl
  have e2 : l.getD k 0 = l[k] := by simp [hk]
  rw [e1, e2]
  unfold anyOut
  rw [List.any_append, List.any_cons, List.any_nil, Bool.or_false]

theorem anyOut_get (l : List Int) (n k : Nat) (hk : k < l.length) (h : insB (l.getD k 0) n = false) : anyOut l n = true := by
  have e2 : l.getD k 0 = l[k] := by simp [hk]
  unfold anyOut
  rw [List.any_eq_true]
  exact ⟨l[k], List.getElem_mem hk, by rw [← e2, h]; rfl⟩

set_option maxHeartbeats 800000 in
theorem out_any (x : In) (n : Nat) (w : World) (hx : x.ok) (hn : n ≤ 1000000) :
    Calls Try.prog 44 #[x.val, .int .i64 n] w fun e w' => e = .returned (.bool (outB x n)) ∧ Below w.heap.size w w' := by
  obtain ⟨hl2, hbd⟩ := skips_bd x hx
  have HJ : Hid (∀ W : World, Calls Try.prog 62 #[.int .u16 x.c] W fun e w' => e = .returned (.bool (jumpsB x.c)) ∧ w' = W) := fun W => jumps_any x.c W
  have HK : Hid (∀ W : World, Calls Try.prog 63 #[x.val] W fun e w' => SkipsTold W w' e (skipsL x)) := fun W => skips_any x W hx
  have HB : Hid (∀ s ∈ skipsL x, 0 ≤ s ∧ s ≤ 4294967295) := hbd
  have HO : Hid (outB x n = (jumpsB x.c && anyOut (skipsL x) n)) := rfl
  clear hbd hx
  generalize skipsL x = sl at *
  generalize outB x n = ob at *
  obtain ⟨c, t, f, k⟩ := x
  unfold In.val at *
  dsimp only at *
  generalize jumpsB c = q at *
  have e1 : ∀ o, Below w.heap.size w (w.alloc o) := fun o => (Below.refl _ _).alloc (Nat.le_refl _) _
  cases q with
  | false =>
    have ho : Hid (ob = false) := HO.out
    clear HO
    go_enter Try.func44, Try.ntmps44
    go_wp2_with (go_at_call 62; refine (HJ.out _).mono ?_; rintro e w2 ⟨rfl, rfl⟩)
    go_ret
    exact ⟨ret_bool ho.out.symm, e1 _⟩
  | true =>
    have ho : Hid (ob = anyOut sl n) := by unfold Hid; rw [HO.out, Bool.true_and]
    clear HO
    go_enter Try.func44, Try.ntmps44
    go_wp2_with (first | (go_at_call 62; refine (HJ.out _).mono ?_; rintro e w2 ⟨rfl, rfl⟩) | (go_at_call 63; refine (HK.out _).mono ?_; rintro e w3 ⟨⟨a3, rfl, n3⟩, b3⟩))
    have hb := (e1 _).trans (b3.mono (by rw [size_alloc']; omega))
    have hll := n3.1
    go_loop [14] (fun i => ∃ k : Nat, k ≤ sl.length ∧ i = .int .i64 k ∧ anyOut (sl.take k) n = false) (fun i => sl.length - (intOf i).toNat)
    case atStart => exact ⟨0, Nat.zero_le _, rfl, rfl⟩
    case round =>
      obtain ⟨k, hk, rfl, hno⟩ := hrel
      have HN : Hid (anyOut (sl.take k) n = false) := hno
      clear hno
      by_cases hlt : k < sl.length
      · obtain ⟨b, off, rfl, hc⟩ := n3.2 (by omega)
        have hck := hc k hlt
        clear hc
        have hs := HB.out (sl.getD k 0) (by simp [hlt])
        have HT : Hid (anyOut (sl.take (k + 1)) n = (anyOut (sl.take k) n || !insB (sl.getD k 0) n)) := anyOut_take sl n k hlt
        have HG : Hid (insB (sl.getD k 0) n = false → anyOut sl n = true) := anyOut_get sl n k hlt
        have HW : Hid (∀ W : World, Calls Try.prog 64 #[.int .u32 (sl.getD k 0), .int .i64 n] W fun e w' => e = .returned (.bool (insB (sl.getD k 0) n)) ∧ w' = W) := fun W => within_any (sl.getD k 0) n W hs.1 hs.2 hn
        clear hs
        generalize insB (sl.getD k 0) n = ib at *
        generalize sl.getD k 0 = s at *
        cases ib with
        | true =>
          go_wp2_with (go_at_call 64; refine (HW.out _).mono ?_; rintro e w5 ⟨rfl, rfl⟩)
          go_round
          case rel => exact ⟨k + 1, by omega, by go_num, by rw [HT.out, HN.out]; rfl⟩
          case measure => simp [intOf]; omega
        | false =>
          have HG2 : Hid (anyOut sl n = true) := HG.out rfl
          go_wp2_with (go_at_call 64; refine (HW.out _).mono ?_; rintro e w5 ⟨rfl, rfl⟩)
          go_ret
          exact ⟨ret_bool (by rw [ho.out, HG2.out]), hb⟩
      · have HN2 : Hid (anyOut sl n = false) := by have := HN.out; rw [List.take_of_length_le (by omega)] at this; exact this
        clear n3
        go_wp2
        go_ret
        exact ⟨ret_bool (by rw [ho.out, HN2.out]), hb⟩

end Go.Proofs.Ytamioifoemklfaa.V

namespace Go.Proofs.Ytamioifoemklfaa.V
open Go.RowKit

theorem ff_at (l : List In) (k n : Nat) (hk : k < l.length) (hn : n = l.length - 1 - k) (p : Int) : ff (l.drop k) p = if fault l[k] n = 0 then ff (l.drop (k + 1)) (p + 1) else (fault l[k] n, p) := by
  subst hn
  exact ff_drop_succ l k hk p

theorem In.at.below {x : In} {w w' : World} {b o : Nat} (h : x.at w b o) (hb : Below w.heap.size w w') : x.at w' b o := by
  obtain ⟨h1, h2, h3, h4⟩ := h
  have hlt : b < w.heap.size := World.block_lt_of_cell? w _ h1
  refine ⟨?_, ?_, ?_, ?_⟩
  · rw [hb.cell (p := ⟨b, o, none⟩) hlt]; exact h1
  · rw [hb.cell (p := ⟨b, o + 1, none⟩) hlt]; exact h2
  · rw [hb.cell (p := ⟨b, o + 2, none⟩) hlt]; exact h3
  · rw [hb.cell (p := ⟨b, o + 3, none⟩) hlt]; exact h4

theorem In.at.four {c t f k : Int} {w : World} {b : Nat} (h : In.at ⟨c, t, f, k⟩ w b 0) : w.cell? ⟨b, 0, none⟩ = some (.int .u16 c) ∧ w.cell? ⟨b, 1, none⟩ = some (.int .u8 t) ∧ w.cell? ⟨b, 2, none⟩ = some (.int .u8 f) ∧ w.cell? ⟨b, 3, none⟩ = some (.int .u32 k) := h

theorem at_new (w : World) (x : In) : x.at (w.alloc (Obj.cells #[.int .u16 x.c, .int .u8 x.t, .int .u8 x.f, .int .u32 x.k] 56)) w.heap.size 0 := by
  refine ⟨?_, ?_, ?_, ?_⟩ <;> simp

theorem ret_pair {a b c d : Int} (h : (a, b) = (c, d)) : Ending.returned (.tuple #[.int .i64 a, .int .i64 b]) = .returned (.tuple #[.int .i64 c, .int .i64 d]) := by
  cases h; rfl

set_option maxHeartbeats 4000000 in
theorem first_any (a : Option Addr) (len cap : Nat) (ins : List In) (w : World) (hlen : len ≤ 100000) (h : Ins w a len ins) :
    Calls Try.prog 33 #[.slice a len cap] w fun e w' => e = .returned (.tuple #[.int .i64 (ff ins 0).1, .int .i64 (ff ins 0).2]) ∧ Below w.heap.size w w' := by
  have hll := h.1
  have HF : Hid (∀ p, ff [] p = (0, -1)) := fun _ => rfl
  generalize hz : ff ins 0 = z
  obtain ⟨z1, z2⟩ := z
  have HZ : Hid (ff ins 0 = (z1, z2)) := hz
  clear hz
  dsimp only
  go_enter Try.func33, Try.ntmps33
  go_wp2
  go_step3
  go_wp2
  go_step3
  go_wp2
  go_loopw [2, 3, 10] (fun r2 r3 i wr => ∃ k : Nat, k ≤ len ∧ i = .int .i64 k ∧ ff (ins.drop k) k = (z1, z2) ∧ Below w.heap.size w wr) (fun _ _ i _ => len - (intOf i).toNat)
  case atStart => exact ⟨0, Nat.zero_le _, rfl, HZ.out, Below.refl _ _⟩
  case round =>
    obtain ⟨k, hk, rfl, hst, hbr⟩ := hrel
    by_cases hlt : k < len
    · have hir := h.below hbr
      obtain ⟨b, off, rfl, hc⟩ := hir.2.2 (by omega)
      obtain ⟨q1, q2, q3, q4⟩ := hc k ins[k] (List.getElem?_eq_getElem (by omega))
      have HO : Hid (ins[k].ok) := hir.2.1 ins[k] (List.getElem_mem (by omega))
      have HS : Hid (ff (ins.drop k) k = if fault ins[k] (len - 1 - k) = 0 then ff (ins.drop (k + 1)) (k + 1 : Nat) else (fault ins[k] (len - 1 - k), k)) := by
        exact ff_at ins k (len - 1 - k) (by omega) (by omega) k
      have HT : Hid (ff (ins.drop k) k = (z1, z2)) := hst
      clear hc hir h hst
      generalize ins[k] = x at *
      have hbh : (len : Int) - 1 - k = ((len - 1 - k : Nat) : Int) := by omega
      have HK : Hid (∀ W : World, Calls Try.prog 41 #[.int .u16 x.c] W fun e w' => e = .returned (.bool (knownB x.c)) ∧ Below W.heap.size W w') := fun W => known_any x.c W
      have HL : Hid (∀ W : World, Calls Try.prog 42 #[x.val] W fun e w' => e = .returned (.bool (loadsB x.c x.k)) ∧ Below W.heap.size W w') := fun W => loads_any x W HO.out
      have HR : Hid (∀ W : World, Calls Try.prog 43 #[x.val] W fun e w' => e = .returned (.bool (reckB x.c x.k)) ∧ Below W.heap.size W w') := fun W => reck_any x W HO.out
      have HU : Hid (∀ W : World, Calls Try.prog 44 #[x.val, .int .i64 ((len - 1 - k : Nat) : Int)] W fun e w' => e = .returned (.bool (outB x (len - 1 - k))) ∧ Below W.heap.size W w') := fun W => out_any x (len - 1 - k) W HO.out (by omega)
      have HE : Hid (∀ W : World, Calls Try.prog 45 #[.int .u16 x.c] W fun e w' => e = .returned (.bool (isIn endL x.c)) ∧ w' = W) := fun W => ends_any x.c W
      have HF : Hid (fault x (len - 1 - k) = if knownB x.c = false then 11 else if loadsB x.c x.k = true then 12 else if reckB x.c x.k = true then 13 else if outB x (len - 1 - k) = true then 14 else if len - 1 - k = 0 ∧ isIn endL x.c = false then 15 else 0) := rfl
      clear HO
      generalize outB x (len - 1 - k) = bo at *
      generalize fault x (len - 1 - k) = fx at *
      obtain ⟨xc, xt, xf, xk⟩ := x
      unfold In.val at *
      dsimp only at *
      generalize knownB xc = bk at *
      generalize loadsB xc xk = bl at *
      generalize reckB xc xk = br at *
      generalize isIn endL xc = be at *
      generalize len - 1 - k = nn at *
      have B0 := hbr.alloc hbr.size (Obj.cells #[.int .u16 xc, .int .u8 xt, .int .u8 xf, .int .u32 xk] 56)
      have A0 : In.at ⟨xc, xt, xf, xk⟩ (wr.alloc (Obj.cells #[.int .u16 xc, .int .u8 xt, .int .u8 xf, .int .u32 xk] 56)) wr.heap.size 0 := at_new wr ⟨xc, xt, xf, xk⟩
      have hi1 : (k : Int) < (len : Int) := by omega
      cases bk with
      | false =>
        have hf : fx = 11 := HF.out
        have HZ2 : Hid ((11, (k : Int)) = (z1, z2)) := by have := HS.out; rw [hf, if_neg (by decide)] at this; exact this.symm.trans HT.out
        clear HF HS HT HZ hf
        go_wp2_with (first | (go_at_call 41; refine (HK.out _).mono ?_; rintro e w1 ⟨rfl, b1⟩; have B1 := B0.trans (b1.mono B0.size); have A1 := A0.below b1; obtain ⟨p1, r1, s1, t1⟩ := A1.four) | (go_at_call 42; refine (HL.out _).mono ?_; rintro e w2 ⟨rfl, b2⟩; have B2 := B1.trans (b2.mono B1.size); have A2 := A1.below b2; obtain ⟨p2, r2, s2, t2⟩ := A2.four) | (go_at_call 43; refine (HR.out _).mono ?_; rintro e w3 ⟨rfl, b3⟩; have B3 := B2.trans (b3.mono B2.size); have A3 := A2.below b3; obtain ⟨p3, r3, s3, t3⟩ := A3.four) | (go_at_call 44; refine (HU.out _).mono ?_; rintro e w4 ⟨rfl, b4⟩; have B4 := B3.trans (b4.mono B3.size); have A4 := A3.below b4; obtain ⟨p4, r4, s4, t4⟩ := A4.four) | (go_at_call 45; refine (HE.out _).mono ?_; rintro e w5 ⟨rfl, rfl⟩))
        rw [Exit.noGoto_ret]
        go_ret2
        exact ⟨ret_pair HZ2.out, B1⟩
      | true =>
        cases bl with
        | true =>
          have hf : fx = 12 := HF.out
          have HZ2 : Hid ((12, (k : Int)) = (z1, z2)) := by have := HS.out; rw [hf, if_neg (by decide)] at this; exact this.symm.trans HT.out
          clear HF HS HT HZ hf
          go_wp2_with (first | (go_at_call 41; refine (HK.out _).mono ?_; rintro e w1 ⟨rfl, b1⟩; have B1 := B0.trans (b1.mono B0.size); have A1 := A0.below b1; obtain ⟨p1, r1, s1, t1⟩ := A1.four) | (go_at_call 42; refine (HL.out _).mono ?_; rintro e w2 ⟨rfl, b2⟩; have B2 := B1.trans (b2.mono B1.size); have A2 := A1.below b2; obtain ⟨p2, r2, s2, t2⟩ := A2.four) | (go_at_call 43; refine (HR.out _).mono ?_; rintro e w3 ⟨rfl, b3⟩; have B3 := B2.trans (b3.mono B2.size); have A3 := A2.below b3; obtain ⟨p3, r3, s3, t3⟩ := A3.four) | (go_at_call 44; refine (HU.out _).mono ?_; rintro e w4 ⟨rfl, b4⟩; have B4 := B3.trans (b4.mono B3.size); have A4 := A3.below b4; obtain ⟨p4, r4, s4, t4⟩ := A4.four) | (go_at_call 45; refine (HE.out _).mono ?_; rintro e w5 ⟨rfl, rfl⟩))
          rw [Exit.noGoto_ret]
          go_ret2
          exact ⟨ret_pair HZ2.out, B2⟩
        | false =>
          cases br with
          | true =>
            have hf : fx = 13 := HF.out
            have HZ2 : Hid ((13, (k : Int)) = (z1, z2)) := by have := HS.out; rw [hf, if_neg (by decide)] at this; exact this.symm.trans HT.out
            clear HF HS HT HZ hf
            go_wp2_with (first | (go_at_call 41; refine (HK.out _).mono ?_; rintro e w1 ⟨rfl, b1⟩; have B1 := B0.trans (b1.mono B0.size); have A1 := A0.below b1; obtain ⟨p1, r1, s1, t1⟩ := A1.four) | (go_at_call 42; refine (HL.out _).mono ?_; rintro e w2 ⟨rfl, b2⟩; have B2 := B1.trans (b2.mono B1.size); have A2 := A1.below b2; obtain ⟨p2, r2, s2, t2⟩ := A2.four) | (go_at_call 43; refine (HR.out _).mono ?_; rintro e w3 ⟨rfl, b3⟩; have B3 := B2.trans (b3.mono B2.size); have A3 := A2.below b3; obtain ⟨p3, r3, s3, t3⟩ := A3.four) | (go_at_call 44; refine (HU.out _).mono ?_; rintro e w4 ⟨rfl, b4⟩; have B4 := B3.trans (b4.mono B3.size); have A4 := A3.below b4; obtain ⟨p4, r4, s4, t4⟩ := A4.four) | (go_at_call 45; refine (HE.out _).mono ?_; rintro e w5 ⟨rfl, rfl⟩))
            rw [Exit.noGoto_ret]
            go_ret2
            exact ⟨ret_pair HZ2.out, B3⟩
          | false =>
            cases bo with
            | true =>
              have hf : fx = 14 := HF.out
              have HZ2 : Hid ((14, (k : Int)) = (z1, z2)) := by have := HS.out; rw [hf, if_neg (by decide)] at this; exact this.symm.trans HT.out
              clear HF HS HT HZ hf
              go_wp2_with (first | (go_at_call 41; refine (HK.out _).mono ?_; rintro e w1 ⟨rfl, b1⟩; have B1 := B0.trans (b1.mono B0.size); have A1 := A0.below b1; obtain ⟨p1, r1, s1, t1⟩ := A1.four) | (go_at_call 42; refine (HL.out _).mono ?_; rintro e w2 ⟨rfl, b2⟩; have B2 := B1.trans (b2.mono B1.size); have A2 := A1.below b2; obtain ⟨p2, r2, s2, t2⟩ := A2.four) | (go_at_call 43; refine (HR.out _).mono ?_; rintro e w3 ⟨rfl, b3⟩; have B3 := B2.trans (b3.mono B2.size); have A3 := A2.below b3; obtain ⟨p3, r3, s3, t3⟩ := A3.four) | (go_at_call 44; refine (HU.out _).mono ?_; rintro e w4 ⟨rfl, b4⟩; have B4 := B3.trans (b4.mono B3.size); have A4 := A3.below b4; obtain ⟨p4, r4, s4, t4⟩ := A4.four) | (go_at_call 45; refine (HE.out _).mono ?_; rintro e w5 ⟨rfl, rfl⟩))
              rw [Exit.noGoto_ret]
              go_ret2
              exact ⟨ret_pair HZ2.out, B4⟩
            | false =>
              by_cases hn0 : nn = 0
              · have hnz : ((nn : Int) == 0) = true := by rw [hn0]; rfl
                cases be with
                | false =>
                  have hf : fx = 15 := by rw [HF.out]; simp [hn0]
                  have HZ2 : Hid ((15, (k : Int)) = (z1, z2)) := by have := HS.out; rw [hf, if_neg (by decide)] at this; exact this.symm.trans HT.out
                  clear HF HS HT HZ hf hn0
                  go_wp2_with (first | (go_at_call 41; refine (HK.out _).mono ?_; rintro e w1 ⟨rfl, b1⟩; have B1 := B0.trans (b1.mono B0.size); have A1 := A0.below b1; obtain ⟨p1, r1, s1, t1⟩ := A1.four) | (go_at_call 42; refine (HL.out _).mono ?_; rintro e w2 ⟨rfl, b2⟩; have B2 := B1.trans (b2.mono B1.size); have A2 := A1.below b2; obtain ⟨p2, r2, s2, t2⟩ := A2.four) | (go_at_call 43; refine (HR.out _).mono ?_; rintro e w3 ⟨rfl, b3⟩; have B3 := B2.trans (b3.mono B2.size); have A3 := A2.below b3; obtain ⟨p3, r3, s3, t3⟩ := A3.four) | (go_at_call 44; refine (HU.out _).mono ?_; rintro e w4 ⟨rfl, b4⟩; have B4 := B3.trans (b4.mono B3.size); have A4 := A3.below b4; obtain ⟨p4, r4, s4, t4⟩ := A4.four) | (go_at_call 45; refine (HE.out _).mono ?_; rintro e w5 ⟨rfl, rfl⟩))
                  rw [Exit.noGoto_ret]
                  go_ret2
                  exact ⟨ret_pair HZ2.out, B4⟩
                | true =>
                  have hf : fx = 0 := by rw [HF.out]; simp
                  have HZ2 : Hid (ff (ins.drop (k + 1)) (k + 1 : Nat) = (z1, z2)) := by have := HS.out; rw [hf, if_pos rfl] at this; exact this.symm.trans HT.out
                  clear HF HS HT HZ hf hn0
                  go_wp2_with (first | (go_at_call 41; refine (HK.out _).mono ?_; rintro e w1 ⟨rfl, b1⟩; have B1 := B0.trans (b1.mono B0.size); have A1 := A0.below b1; obtain ⟨p1, r1, s1, t1⟩ := A1.four) | (go_at_call 42; refine (HL.out _).mono ?_; rintro e w2 ⟨rfl, b2⟩; have B2 := B1.trans (b2.mono B1.size); have A2 := A1.below b2; obtain ⟨p2, r2, s2, t2⟩ := A2.four) | (go_at_call 43; refine (HR.out _).mono ?_; rintro e w3 ⟨rfl, b3⟩; have B3 := B2.trans (b3.mono B2.size); have A3 := A2.below b3; obtain ⟨p3, r3, s3, t3⟩ := A3.four) | (go_at_call 44; refine (HU.out _).mono ?_; rintro e w4 ⟨rfl, b4⟩; have B4 := B3.trans (b4.mono B3.size); have A4 := A3.below b4; obtain ⟨p4, r4, s4, t4⟩ := A4.four) | (go_at_call 45; refine (HE.out _).mono ?_; rintro e w5 ⟨rfl, rfl⟩))
                  go_roundw
                  case rel => exact ⟨k + 1, by omega, by go_num, HZ2.out, B4⟩
                  case measure => simp [intOf]; omega
              · have hnz : ((nn : Int) == 0) = false := by rw [beq_eq_false_iff_ne]; omega
                have hf : fx = 0 := by rw [HF.out]; simp [hn0]
                have HZ2 : Hid (ff (ins.drop (k + 1)) (k + 1 : Nat) = (z1, z2)) := by have := HS.out; rw [hf, if_pos rfl] at this; exact this.symm.trans HT.out
                clear HF HS HT HZ hf hn0
                go_wp2_with (first | (go_at_call 41; refine (HK.out _).mono ?_; rintro e w1 ⟨rfl, b1⟩; have B1 := B0.trans (b1.mono B0.size); have A1 := A0.below b1; obtain ⟨p1, r1, s1, t1⟩ := A1.four) | (go_at_call 42; refine (HL.out _).mono ?_; rintro e w2 ⟨rfl, b2⟩; have B2 := B1.trans (b2.mono B1.size); have A2 := A1.below b2; obtain ⟨p2, r2, s2, t2⟩ := A2.four) | (go_at_call 43; refine (HR.out _).mono ?_; rintro e w3 ⟨rfl, b3⟩; have B3 := B2.trans (b3.mono B2.size); have A3 := A2.below b3; obtain ⟨p3, r3, s3, t3⟩ := A3.four) | (go_at_call 44; refine (HU.out _).mono ?_; rintro e w4 ⟨rfl, b4⟩; have B4 := B3.trans (b4.mono B3.size); have A4 := A3.below b4; obtain ⟨p4, r4, s4, t4⟩ := A4.four) | (go_at_call 45; refine (HE.out _).mono ?_; rintro e w5 ⟨rfl, rfl⟩))
                go_roundw
                case rel => exact ⟨k + 1, by omega, by go_num, HZ2.out, B4⟩
                case measure => simp [intOf]; omega
    · have HN : Hid ((0, -1) = (z1, z2)) := by rw [List.drop_eq_nil_of_le (by omega)] at hst; exact hst
      clear hst
      go_wp2
      rw [Exit.noGoto_ret]
      go_ret2
      exact ⟨ret_pair HN.out, hbr⟩

end Go.Proofs.Ytamioifoemklfaa.V

namespace Go.Proofs.Ytamioifoemklfaa.V
open Go.RowKit

/-- what Check and the document's Check tell. -/
def Told (w w' : World) (e : Ending) (p : Int × Int) : Prop := e = .returned (.tuple #[.int .i64 p.1, .int .i64 p.2]) ∧ Below w.heap.size w w'

set_option maxHeartbeats 400000 in
theorem check_any (a : Option Addr) (len cap : Nat) (ins : List In) (w : World) (hlen : len ≤ maxLen) (h : Ins w a len ins) :
    Calls Try.prog 22 #[.slice a len cap] w fun e w' => Told w w' e (chk ins) := by
  have hll := h.1
  unfold maxLen at hlen
  by_cases h0 : len = 0
  · have hc : Hid (chk ins = (10, 0)) := by unfold Hid chk; rw [if_pos (by omega)]
    subst h0
    generalize chk ins = p at *
    clear h hll
    go_enter Try.func22, Try.ntmps22
    go_wp2
    go_ret2
    rw [hc.out]
    exact ⟨rfl, Below.refl _ _⟩
  · by_cases h4 : 4096 < len
    · have hc : Hid (chk ins = (4, 4096)) := by unfold Hid chk; rw [if_neg (by omega), if_pos (by omega)]
      generalize chk ins = p at *
      clear h hll
      have hz : ¬ (len : Int) = 0 := by omega
      have hd : decide ((4096 : Int) < (len : Int)) = true := by simp; omega
      go_enter Try.func22, Try.ntmps22
      go_wp2
      go_ret2
      rw [hc.out]
      exact ⟨rfl, Below.refl _ _⟩
    · have hc : Hid (chk ins = ff ins 0) := by unfold Hid chk; rw [if_neg (by omega), if_neg (by omega)]
      have HF : Hid (∀ W : World, W = w → Calls Try.prog 33 #[.slice a len cap] W fun e w' => e = .returned (.tuple #[.int .i64 (ff ins 0).1, .int .i64 (ff ins 0).2]) ∧ Below W.heap.size W w') := fun W e => e ▸ first_any a len cap ins w (by omega) h
      generalize chk ins = p at *
      generalize ff ins 0 = q at *
      clear h hll
      have hz : ¬ (len : Int) = 0 := by omega
      have hd : decide ((4096 : Int) < (len : Int)) = false := by simp; omega
      go_enter Try.func22, Try.ntmps22
      go_wp2_with (go_at_call 33; refine (HF.out _ rfl).mono ?_; rintro e w1 ⟨rfl, b1⟩)
      go_ret2
      rw [hc.out]
      exact ⟨rfl, b1⟩

end Go.Proofs.Ytamioifoemklfaa.V
