/-
  The law ParseBlanks, walked: true for every text.
-/
import Derived.Test.YtdjjlccpmfhkiaaDoorAwake
import Derived.Laws.Concat
namespace Go.Proofs.YtdjjlccpmfhkiaaDoor
open Go.RowKit

theorem bar_app (l m : List UInt8) : bar l ++ bar m = bar (l ++ m) := ByteArray.mk_append_mk l m

theorem wide_len {l : List UInt8} {last : Nat} {ts : List Tok} (h : Ch l last ts) : (wide ts).length + last ≤ 5 * ts.length + l.length ∧ ts.length + last ≤ l.length + 1 := by
  induction h using Ch.ind with
  | fin h => simp [wide, spc]; omega
  | @tok last x y r h hx hr ih =>
    have h1 := hx.ne
    rw [wide_cons]
    simp [spc] at ih ⊢
    omega

theorem wide_take {ts : List Tok} (k : Nat) (hk : k < ts.length) : wide (ts.take (k + 1)) = wide (ts.take k) ++ (spc ++ ts[k].t) := by
  rw [← wide_snoc, List.take_succ_eq_append_getElem hk]

theorem wide_le (ts : List Tok) (k : Nat) : (wide (ts.take k)).length ≤ (wide ts).length := by
  conv => rhs; rw [← List.take_append_drop k ts]
  unfold wide
  rw [List.flatMap_append, List.length_append]
  omega

theorem sm_of {l : List UInt8} {d : Ac} {rs : List Rl} (h : prs l = .ok (d, rs)) : Sm rs := by
  obtain ⟨_, h1, h2⟩ := prs_bound h
  dsimp only at h1 h2
  refine ⟨by omega, fun r hr => ?_⟩
  have h3 := (h2 r hr).n16
  have h4 := (h2 r hr).c8
  omega

set_option maxRecDepth 8000 in
set_option maxHeartbeats 4000000 in
theorem parseBlanks_walk (s : ByteArray) (w : World) (hv : Vars w) :
    Calls Tryd.prog 7 #[.string s] w fun e w' => e = .returned (.bool true) ∧ Below w.heap.size w w' := by
  have HV : Hid (Vars w) := hv
  have HW : Hid (∀ W, Vars W → Calls Tryd.prog 9 #[] W fun e w' => e = .returned (.bool true) ∧ Below W.heap.size W w') := awake_any
  clear hv
  by_cases hlong : 1500 < s.size
  · have h1 : decide ((1500 : Int) < s.size) = true := by simp; omega
    go_enter Tryd.func7, Tryd.ntmps7
    go_wp2_with (go_at_call 9; refine (HW.out _ HV.out).mono ?_; rintro e w1 ⟨rfl, b1⟩)
    go_ret
    exact ⟨rfl, b1⟩
  · have h1 : decide ((1500 : Int) < s.size) = false := by simp; omega
    have HA : Hid (∀ W, Vars W → Calls Tryd.prog 13 #[.string s] W fun e w' => Below W.heap.size W w' ∧ Told W.heap.size (all (lst s)) e w') := fun W h => all_any s W h
    have HP : Hid (∀ W, Vars W → Calls Tryd.prog 10 #[.string s] W fun e w' => Below W.heap.size W w' ∧ Par2 (prs (lst s)) e w') := fun W h => parse2 s W h
    have hll : (lst s).length ≤ 1500 := by rw [lst_length]; omega
    rcases hA : all (lst s) with ⟨c, p⟩ | ts
    · rw [hA] at HA
      have hc0 := (all_code hA).1
      have hc : ((c : Int) == 0) = false := by rw [beq_eq_false_iff_ne]; omega
      have hcn : ((c : Int) != 0) = true := by rw [bne, hc]; rfl
      clear hA hlong hll hc0 HP
      go_enter Tryd.func7, Tryd.ntmps7
      go_wp2_with (first | (go_at_call 9; refine (HW.out _ HV.out).mono ?_; rintro e w1 ⟨rfl, b1⟩; have V1 : Hid (Vars w1) := HV.out.below b1) | (go_at_call 13; refine (HA.out _ V1.out).mono ?_; rintro e w3 ⟨b3, rfl⟩))
      go_ret
      exact ⟨rfl, b1.trans (b3.mono b1.size)⟩
    · rw [hA] at HA
      have hch := all_ch hA
      have hwl : (wide ts).length ≤ 9006 := by have := wide_len hch; omega
      have hlen : ts.length ≤ 1501 := by have := wide_len hch; omega
      have HJ : Hid (∀ k, (wide (ts.take k)).length ≤ 9006) := fun k => Nat.le_trans (wide_le ts k) hwl
      have HPW : Hid (∀ W, Vars W → Calls Tryd.prog 10 #[.string (bar (wide ts))] W fun e w' => Below W.heap.size W w' ∧ Par2 (prs (wide ts)) e w') := fun W h => by have := parse2 (bar (wide ts)) W h; rw [lst_bar] at this; exact this
      have HPr : Hid ((wide ts).length ≤ 8192 → (∃ v, prs (lst s) = .ok v ∧ prs (wide ts) = .ok v ∧ Sm v.2) ∨ ∃ c p q, prs (lst s) = .error (c, p) ∧ prs (wide ts) = .error (c, q)) := by
        intro h
        rcases prs_wide hA h with ⟨v, h1, h2⟩ | h1
        · exact .inl ⟨v, h1, h2, sm_of h1⟩
        · exact .inr h1
      clear hA hlong hll hch hwl
      go_enter Tryd.func7, Tryd.ntmps7
      go_wp2_with fail
      refine (HW.out _ HV.out).mono ?_
      rintro e w1 ⟨rfl, b1⟩
      have V1 : Hid (Vars w1) := HV.out.below b1
      go_wp2_with fail
      refine (HA.out _ V1.out).mono ?_
      rintro e w2 ⟨b2, v, rfl, ho⟩
      obtain ⟨a, ca, rfl, hT⟩ := owns_toks ho
      have T1 : Hid (Toks w2 a ts.length ts) := hT
      have B2 : Hid (Below w.heap.size w w2) := b1.trans (b2.mono b1.size)
      have V2 : Hid (Vars w2) := V1.out.below b2
      clear ho hT b2 b1
      go_wp2_with fail
      go_loop [7, 8] (fun va vi => ∃ k : Nat, va = .string (bar (wide (ts.take k))) ∧ vi = .int .i64 k ∧ k ≤ ts.length) (fun _ vi => ts.length - (intOf vi).toNat)
      case atStart => exact ⟨0, rfl, rfl, Nat.zero_le _⟩
      case round =>
        obtain ⟨k, rfl, rfl, hk⟩ := hrel
        by_cases hlt : k < ts.length
        · obtain ⟨g, rfl, hc⟩ := T1.out.2 (by omega)
          have p3 := (hc k ts[k] (List.getElem?_eq_getElem hlt)).2.2.1
          have hi1 : (k : Int) < (ts.length : Int) := by omega
          have HJ1 : Hid (bar (wide (ts.take (k + 1))) = bar (wide (ts.take k)) ++ ⟨#[35, 32, 59, 10, 32]⟩ ++ bar ts[k].t) := by
            show _ = _
            rw [wide_take k hlt, show (⟨#[35, 32, 59, 10, 32]⟩ : ByteArray) = bar spc from rfl, bar_app, bar_app]
            simp
          have hz1 : (bar (wide (ts.take k))).size ≤ 9006 := by have := HJ.out k; rw [bar_size]; omega
          have hz2 : (bar ts[k].t).size ≤ 9006 := by
            have := HJ.out (k + 1)
            rw [wide_take k hlt] at this
            simp at this
            rw [bar_size]
            omega
          have hz3 : (bar (wide (ts.take k)) ++ ⟨#[35, 32, 59, 10, 32]⟩).size ≤ 9011 := by rw [ByteArray.size_append]; have : (⟨#[35, 32, 59, 10, 32]⟩ : ByteArray).size = 5 := rfl; omega
          clear hc
          generalize ts[k].t = xt at *
          generalize bar (wide (ts.take k)) = A at *
          generalize bar xt = B at *
          go_wp2
          go_round
          case rel => exact ⟨k + 1, by rw [HJ1.out], by go_num, hlt⟩
          case measure => simp [intOf]; omega
        · obtain rfl : k = ts.length := by omega
          rw [List.take_length]
          have hge : ¬ (ts.length : Int) < (ts.length : Int) := by omega
          have hbs : (bar (wide ts)).size = (wide ts).length := bar_size _
          by_cases hL : 8192 < (wide ts).length
          · have hd : decide ((8192 : Int) < ((bar (wide ts)).size : Int)) = true := by rw [hbs]; simp; omega
            clear hbs
            go_wp2_with fail
            go_ret
            exact ⟨rfl, B2.out⟩
          · have hd : decide ((8192 : Int) < ((bar (wide ts)).size : Int)) = false := by rw [hbs]; simp; omega
            have hR := HPr.out (by omega)
            clear hbs hL HJ HPr
            generalize bar (wide ts) = bw at *
            generalize prs (wide ts) = R2 at *
            generalize prs (lst s) = R1 at *
            obtain ⟨⟨d, rs⟩, rfl, rfl, hsm⟩ | ⟨c, p, q, rfl, rfl⟩ := hR
            · have HSm : Hid (Sm rs) := hsm
              clear hsm
              go_wp2_with fail
              refine (HP.out _ V2.out).mono ?_
              rintro e w3 ⟨b3, v3, rv3, hr3, rfl, hV3⟩
              obtain ⟨a3, c3, rfl⟩ : ∃ a c, v3 = .slice a rv3.length c := by obtain ⟨a, c, e, _⟩ := hV3; exact ⟨a, c, e⟩
              have hal : Below w3.heap.size w3 (w3.alloc (Obj.cells #[.int .i64 d.k, .int .i64 d.a, .slice a3 rv3.length c3] 27)) := (Below.refl _ _).alloc (Nat.le_refl _) _
              have V3 : Hid (Vars (w3.alloc (Obj.cells #[.int .i64 d.k, .int .i64 d.a, .slice a3 rv3.length c3] 27))) := (V2.out.below b3).below hal
              have B3 : Hid (Below w.heap.size w (w3.alloc (Obj.cells #[.int .i64 d.k, .int .i64 d.a, .slice a3 rv3.length c3] 27))) := (B2.out.trans (b3.mono B2.out.size)).trans (hal.mono (Nat.le_trans B2.out.size b3.size))
              have S3 : Hid (RlsV (w3.alloc (Obj.cells #[.int .i64 d.k, .int .i64 d.a, .slice a3 rv3.length c3] 27)) (.slice a3 rv3.length c3) rv3) := hV3.below hal
              have K3 : Hid (Blk (w3.alloc (Obj.cells #[.int .i64 d.k, .int .i64 d.a, .slice a3 rv3.length c3] 27)) w3.heap.size 27 (rulL d.k d.a (.slice a3 rv3.length c3))) := blk_new w3 _ 27
              clear hV3 b3 hal
              go_wp2_with fail
              generalize w3.alloc (Obj.cells #[.int .i64 d.k, .int .i64 d.a, .slice a3 rv3.length c3] 27) = X3 at *
              generalize w3.heap.size = N3 at *
              refine (HPW.out _ V3.out).mono ?_
              rintro e w4 ⟨b4, v4, rv4, hr4, rfl, hV4⟩
              obtain ⟨a4, c4, rfl⟩ : ∃ a c, v4 = .slice a rv4.length c := by obtain ⟨a, c, e, _⟩ := hV4; exact ⟨a, c, e⟩
              have hal : Below w4.heap.size w4 (w4.alloc (Obj.cells #[.int .i64 d.k, .int .i64 d.a, .slice a4 rv4.length c4] 27)) := (Below.refl _ _).alloc (Nat.le_refl _) _
              have B4 : Hid (Below w.heap.size w (w4.alloc (Obj.cells #[.int .i64 d.k, .int .i64 d.a, .slice a4 rv4.length c4] 27))) := (B3.out.trans (b4.mono B3.out.size)).trans (hal.mono (Nat.le_trans B3.out.size b4.size))
              have S4 : Hid (RlsV (w4.alloc (Obj.cells #[.int .i64 d.k, .int .i64 d.a, .slice a4 rv4.length c4] 27)) (.slice a4 rv4.length c4) rv4) := hV4.below hal
              have S34 : Hid (RlsV (w4.alloc (Obj.cells #[.int .i64 d.k, .int .i64 d.a, .slice a4 rv4.length c4] 27)) (.slice a3 rv3.length c3) rv3) := (S3.out.below b4).below hal
              have K4 : Hid (Blk (w4.alloc (Obj.cells #[.int .i64 d.k, .int .i64 d.a, .slice a4 rv4.length c4] 27)) w4.heap.size 27 (rulL d.k d.a (.slice a4 rv4.length c4))) := blk_new w4 _ 27
              have K34 := (K3.out.over b4).over hal
              have t0 : (w4.alloc (Obj.cells #[.int .i64 d.k, .int .i64 d.a, .slice a4 rv4.length c4] 27)).cell? ⟨N3, 0, none⟩ = some (.int .i64 d.k) := K34.cell 0
              have t1 : (w4.alloc (Obj.cells #[.int .i64 d.k, .int .i64 d.a, .slice a4 rv4.length c4] 27)).cell? ⟨N3, 1, none⟩ = some (.int .i64 d.a) := K34.cell 1
              have t2 : (w4.alloc (Obj.cells #[.int .i64 d.k, .int .i64 d.a, .slice a4 rv4.length c4] 27)).cell? ⟨N3, 2, none⟩ = some (.slice a3 rv3.length c3) := K34.cell 2
              have HS : Hid (Calls Tryd.prog 12 #[.agg #[.int .i64 d.k, .int .i64 d.a, .slice a3 rv3.length c3], .agg #[.int .i64 d.k, .int .i64 d.a, .slice a4 rv4.length c4]] (w4.alloc (Obj.cells #[.int .i64 d.k, .int .i64 d.a, .slice a4 rv4.length c4] 27)) fun e w' => e = .returned (.bool true) ∧ Below (w4.alloc (Obj.cells #[.int .i64 d.k, .int .i64 d.a, .slice a4 rv4.length c4] 27)).heap.size (w4.alloc (Obj.cells #[.int .i64 d.k, .int .i64 d.a, .slice a4 rv4.length c4] 27)) w') :=
                same_any _ d.k d.a _ _ rv3 rv4 S34.out S4.out (hr3.symm.trans hr4) (by rw [← hr3]; exact HSm.out)
              clear hV4 b4 hal K34 K4 K3 S34 S3 S4 V3
              go_wp2_with fail
              refine HS.out.mono ?_
              rintro e w5 ⟨rfl, b5⟩
              go_wp2_with fail
              go_ret
              exact ⟨rfl, B4.out.trans (b5.mono B4.out.size)⟩
            · have hsm : Sm (List.map Rv.r []) := ⟨by decide, fun r hr => by cases hr⟩
              have HSm : Hid (Sm (List.map Rv.r [])) := hsm
              clear hsm
              go_wp2_with fail
              refine (HP.out _ V2.out).mono ?_
              rintro e w3 ⟨b3, rfl⟩
              have hal : Below w3.heap.size w3 (w3.alloc (Obj.cells #[.int .i64 0, .int .i64 0, .slice none 0 0] 27)) := (Below.refl _ _).alloc (Nat.le_refl _) _
              have V3 : Hid (Vars (w3.alloc (Obj.cells #[.int .i64 0, .int .i64 0, .slice none 0 0] 27))) := (V2.out.below b3).below hal
              have B3 : Hid (Below w.heap.size w (w3.alloc (Obj.cells #[.int .i64 0, .int .i64 0, .slice none 0 0] 27))) := (B2.out.trans (b3.mono B2.out.size)).trans (hal.mono (Nat.le_trans B2.out.size b3.size))
              have K3 : Hid (Blk (w3.alloc (Obj.cells #[.int .i64 0, .int .i64 0, .slice none 0 0] 27)) w3.heap.size 27 (rulL 0 0 (.slice none 0 0))) := blk_new w3 _ 27
              clear b3 hal
              go_wp2_with fail
              generalize w3.alloc (Obj.cells #[.int .i64 0, .int .i64 0, .slice none 0 0] 27) = X3 at *
              generalize w3.heap.size = N3 at *
              refine (HPW.out _ V3.out).mono ?_
              rintro e w4 ⟨b4, rfl⟩
              have hal : Below w4.heap.size w4 (w4.alloc (Obj.cells #[.int .i64 0, .int .i64 0, .slice none 0 0] 27)) := (Below.refl _ _).alloc (Nat.le_refl _) _
              have B4 : Hid (Below w.heap.size w (w4.alloc (Obj.cells #[.int .i64 0, .int .i64 0, .slice none 0 0] 27))) := (B3.out.trans (b4.mono B3.out.size)).trans (hal.mono (Nat.le_trans B3.out.size b4.size))
              have K34 := (K3.out.over b4).over hal
              have t0 : (w4.alloc (Obj.cells #[.int .i64 0, .int .i64 0, .slice none 0 0] 27)).cell? ⟨N3, 0, none⟩ = some (.int .i64 0) := K34.cell 0
              have t1 : (w4.alloc (Obj.cells #[.int .i64 0, .int .i64 0, .slice none 0 0] 27)).cell? ⟨N3, 1, none⟩ = some (.int .i64 0) := K34.cell 1
              have t2 : (w4.alloc (Obj.cells #[.int .i64 0, .int .i64 0, .slice none 0 0] 27)).cell? ⟨N3, 2, none⟩ = some (.slice none 0 0) := K34.cell 2
              have HS : Hid (∀ W, Calls Tryd.prog 12 #[.agg #[.int .i64 0, .int .i64 0, .slice none 0 0], .agg #[.int .i64 0, .int .i64 0, .slice none 0 0]] W fun e w' => e = .returned (.bool true) ∧ Below W.heap.size W w') :=
                fun W => same_any W 0 0 _ _ [] [] (rlsV_nil W) (rlsV_nil W) rfl HSm.out
              clear b4 hal K34 K3 V3
              go_wp2_with fail
              refine (HS.out _).mono ?_
              rintro e w5 ⟨rfl, b5⟩
              go_wp2_with fail
              go_ret
              exact ⟨rfl, B4.out.trans (b5.mono B4.out.size)⟩

end Go.Proofs.YtdjjlccpmfhkiaaDoor
