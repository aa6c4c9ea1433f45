/-
  The law ParseReads, walked: true for every text.
-/
import Derived.Test.YtdjjlccpmfhkiaaDoorDPar2
import Derived.Test.YtdjjlccpmfhkiaaDoorAwake
namespace Go.Proofs.YtdjjlccpmfhkiaaDoor
open Go.RowKit


set_option maxRecDepth 8000 in
set_option maxHeartbeats 4000000 in
theorem parseReads_walk (s : ByteArray) (w : World) (hv : Vars w) :
    Calls Tryd.prog 3 #[.string s] w fun e w' => e = .returned (.bool true) ∧ Below w.heap.size w w' := by
  have HV : Hid (Vars w) := hv
  have HW : Hid (∀ W, Vars W → Calls Tryd.prog 9 #[] W fun e w' => e = .returned (.bool true) ∧ Below W.heap.size W w') := awake_any
  clear hv
  by_cases hlong : 8300 < s.size
  · have h1 : decide ((8300 : Int) < s.size) = true := by simp; omega
    go_enter Tryd.func3, Tryd.ntmps3
    go_wp2_with (go_at_call 9; refine (HW.out _ HV.out).mono ?_; rintro e w1 ⟨rfl, b1⟩)
    go_ret
    exact ⟨rfl, b1⟩
  · have h1 : decide ((8300 : Int) < s.size) = false := by simp; omega
    have HP : Hid (∀ W, Vars W → Calls Tryd.prog 10 #[.string s] W fun e w' => Below W.heap.size W w' ∧ Par2 (prs (lst s)) e w') := fun W h => parse2 s W h
    have HPD : Hid (∀ W, Calls Tryd.prog 11 #[.string s] W fun e w' => Below W.heap.size W w' ∧ Par2 (prs (lst s)) e w') := fun W => Doc.dparse_any s W
    have hR : (∃ v, prs (lst s) = .ok v ∧ Sm v.2) ∨ ∃ c p, prs (lst s) = .error (c, p) := by
      rcases h : prs (lst s) with ⟨c, p⟩ | ⟨d, rs⟩
      · exact .inr ⟨c, p, rfl⟩
      · exact .inl ⟨_, rfl, sm_of h⟩
    clear hlong
    generalize prs (lst s) = R1 at *
    go_enter Tryd.func3, Tryd.ntmps3
    go_wp2_with fail
    refine (HW.out _ HV.out).mono ?_
    rintro e w1 ⟨rfl, b1⟩
    have V1 : Hid (Vars w1) := HV.out.below b1
    obtain ⟨⟨d, rs⟩, rfl, hsm⟩ | ⟨c, p, rfl⟩ := hR
    · have HSm : Hid (Sm rs) := hsm
      clear hsm
      go_wp2_with fail
      refine (HP.out _ V1.out).mono ?_
      rintro e w3 ⟨b3, v3, rv3, hr3, rfl, hV3⟩
      obtain ⟨a3, c3, rfl⟩ : ∃ a c, v3 = .slice a rv3.length c := by obtain ⟨a, c, e, _⟩ := hV3; exact ⟨a, c, e⟩
      have hal : Below w3.heap.size w3 (w3.alloc (Obj.cells #[.int .i64 d.k, .int .i64 d.a, .slice a3 rv3.length c3] 27)) := (Below.refl _ _).alloc (Nat.le_refl _) _
      have B3 : Hid (Below w.heap.size w (w3.alloc (Obj.cells #[.int .i64 d.k, .int .i64 d.a, .slice a3 rv3.length c3] 27))) := (b1.trans (b3.mono b1.size)).trans (hal.mono (Nat.le_trans b1.size b3.size))
      have S3 : Hid (RlsV (w3.alloc (Obj.cells #[.int .i64 d.k, .int .i64 d.a, .slice a3 rv3.length c3] 27)) (.slice a3 rv3.length c3) rv3) := hV3.below hal
      have K3 : Hid (Blk (w3.alloc (Obj.cells #[.int .i64 d.k, .int .i64 d.a, .slice a3 rv3.length c3] 27)) w3.heap.size 27 (rulL d.k d.a (.slice a3 rv3.length c3))) := blk_new w3 _ 27
      clear hV3 b3 hal
      go_wp2_with fail
      generalize w3.alloc (Obj.cells #[.int .i64 d.k, .int .i64 d.a, .slice a3 rv3.length c3] 27) = X3 at *
      generalize w3.heap.size = N3 at *
      refine (HPD.out _).mono ?_
      rintro e w4 ⟨b4, v4, rv4, hr4, rfl, hV4⟩
      obtain ⟨a4, c4, rfl⟩ : ∃ a c, v4 = .slice a rv4.length c := by obtain ⟨a, c, e, _⟩ := hV4; exact ⟨a, c, e⟩
      have hal : Below w4.heap.size w4 (w4.alloc (Obj.cells #[.int .i64 d.k, .int .i64 d.a, .slice a4 rv4.length c4] 27)) := (Below.refl _ _).alloc (Nat.le_refl _) _
      have B4 : Hid (Below w.heap.size w (w4.alloc (Obj.cells #[.int .i64 d.k, .int .i64 d.a, .slice a4 rv4.length c4] 27))) := (B3.out.trans (b4.mono B3.out.size)).trans (hal.mono (Nat.le_trans B3.out.size b4.size))
      have S4 : Hid (RlsV (w4.alloc (Obj.cells #[.int .i64 d.k, .int .i64 d.a, .slice a4 rv4.length c4] 27)) (.slice a4 rv4.length c4) rv4) := hV4.below hal
      have S34 : Hid (RlsV (w4.alloc (Obj.cells #[.int .i64 d.k, .int .i64 d.a, .slice a4 rv4.length c4] 27)) (.slice a3 rv3.length c3) rv3) := (S3.out.below b4).below hal
      have K4 : Hid (Blk (w4.alloc (Obj.cells #[.int .i64 d.k, .int .i64 d.a, .slice a4 rv4.length c4] 27)) w4.heap.size 27 (rulL d.k d.a (.slice a4 rv4.length c4))) := blk_new w4 _ 27
      have K34 := (K3.out.over b4).over hal
      have t0 : (w4.alloc (Obj.cells #[.int .i64 d.k, .int .i64 d.a, .slice a4 rv4.length c4] 27)).cell? ⟨N3, 0, none⟩ = some (.int .i64 d.k) := K34.cell 0
      have t1 : (w4.alloc (Obj.cells #[.int .i64 d.k, .int .i64 d.a, .slice a4 rv4.length c4] 27)).cell? ⟨N3, 1, none⟩ = some (.int .i64 d.a) := K34.cell 1
      have t2 : (w4.alloc (Obj.cells #[.int .i64 d.k, .int .i64 d.a, .slice a4 rv4.length c4] 27)).cell? ⟨N3, 2, none⟩ = some (.slice a3 rv3.length c3) := K34.cell 2
      have HS : Hid (Calls Tryd.prog 12 #[.agg #[.int .i64 d.k, .int .i64 d.a, .slice a3 rv3.length c3], .agg #[.int .i64 d.k, .int .i64 d.a, .slice a4 rv4.length c4]] (w4.alloc (Obj.cells #[.int .i64 d.k, .int .i64 d.a, .slice a4 rv4.length c4] 27)) fun e w' => e = .returned (.bool true) ∧ Below (w4.alloc (Obj.cells #[.int .i64 d.k, .int .i64 d.a, .slice a4 rv4.length c4] 27)).heap.size (w4.alloc (Obj.cells #[.int .i64 d.k, .int .i64 d.a, .slice a4 rv4.length c4] 27)) w') :=
        same_any _ d.k d.a _ _ rv3 rv4 S34.out S4.out (hr3.symm.trans hr4) (by rw [← hr3]; exact HSm.out)
      clear hV4 b4 hal K34 K4 K3 S34 S3 S4
      go_wp2_with fail
      refine HS.out.mono ?_
      rintro e w5 ⟨rfl, b5⟩
      go_wp2_with fail
      go_ret
      exact ⟨rfl, B4.out.trans (b5.mono B4.out.size)⟩
    · have hsm : Sm (List.map Rv.r []) := ⟨by decide, fun r hr => by cases hr⟩
      have HSm : Hid (Sm (List.map Rv.r [])) := hsm
      clear hsm
      go_wp2_with fail
      refine (HP.out _ V1.out).mono ?_
      rintro e w3 ⟨b3, rfl⟩
      have hal : Below w3.heap.size w3 (w3.alloc (Obj.cells #[.int .i64 0, .int .i64 0, .slice none 0 0] 27)) := (Below.refl _ _).alloc (Nat.le_refl _) _
      have B3 : Hid (Below w.heap.size w (w3.alloc (Obj.cells #[.int .i64 0, .int .i64 0, .slice none 0 0] 27))) := (b1.trans (b3.mono b1.size)).trans (hal.mono (Nat.le_trans b1.size b3.size))
      have K3 : Hid (Blk (w3.alloc (Obj.cells #[.int .i64 0, .int .i64 0, .slice none 0 0] 27)) w3.heap.size 27 (rulL 0 0 (.slice none 0 0))) := blk_new w3 _ 27
      clear b3 hal
      go_wp2_with fail
      generalize w3.alloc (Obj.cells #[.int .i64 0, .int .i64 0, .slice none 0 0] 27) = X3 at *
      generalize w3.heap.size = N3 at *
      refine (HPD.out _).mono ?_
      rintro e w4 ⟨b4, rfl⟩
      have hal : Below w4.heap.size w4 (w4.alloc (Obj.cells #[.int .i64 0, .int .i64 0, .slice none 0 0] 27)) := (Below.refl _ _).alloc (Nat.le_refl _) _
      have B4 : Hid (Below w.heap.size w (w4.alloc (Obj.cells #[.int .i64 0, .int .i64 0, .slice none 0 0] 27))) := (B3.out.trans (b4.mono B3.out.size)).trans (hal.mono (Nat.le_trans B3.out.size b4.size))
      have K34 := (K3.out.over b4).over hal
      have t0 : (w4.alloc (Obj.cells #[.int .i64 0, .int .i64 0, .slice none 0 0] 27)).cell? ⟨N3, 0, none⟩ = some (.int .i64 0) := K34.cell 0
      have t1 : (w4.alloc (Obj.cells #[.int .i64 0, .int .i64 0, .slice none 0 0] 27)).cell? ⟨N3, 1, none⟩ = some (.int .i64 0) := K34.cell 1
      have t2 : (w4.alloc (Obj.cells #[.int .i64 0, .int .i64 0, .slice none 0 0] 27)).cell? ⟨N3, 2, none⟩ = some (.slice none 0 0) := K34.cell 2
      have HS : Hid (∀ W, Calls Tryd.prog 12 #[.agg #[.int .i64 0, .int .i64 0, .slice none 0 0], .agg #[.int .i64 0, .int .i64 0, .slice none 0 0]] W fun e w' => e = .returned (.bool true) ∧ Below W.heap.size W w') :=
        fun W => same_any W 0 0 _ _ [] [] (rlsV_nil W) (rlsV_nil W) rfl HSm.out
      clear b4 hal K34 K3
      go_wp2_with fail
      refine (HS.out _).mono ?_
      rintro e w5 ⟨rfl, b5⟩
      go_wp2_with fail
      go_ret
      exact ⟨rfl, B4.out.trans (b5.mono B4.out.size)⟩

end Go.Proofs.YtdjjlccpmfhkiaaDoor
