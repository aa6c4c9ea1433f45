/-
  Why any rules mean nothing: the law's walk.
-/
import Derived.Test.YtimclfdecdappaaRCheck
import Derived.Test.YtimclfdecdappaaAwake
import Derived.Test.YtimclfdecdappaaSLight
namespace Go.Proofs.Ytimclfdecdappaa
open Go.RowKit

theorem lt_sml {l : List Xr} (h : Lt l) : Sml l := by
  refine ⟨by have := h.1; omega, fun x hx => ?_⟩
  obtain ⟨h1, h2, h3⟩ := h.2 x hx
  exact ⟨by omega, by omega, fun s hs => by have := h3 s hs; omega⟩
theorem sml_small {l : List Xr} (h : Sml l) : ∀ x ∈ l, x.r.names.length ≤ 9000000 ∧ x.r.conds.length ≤ 9000000 := fun x hx => ⟨(h.2 x hx).1, (h.2 x hx).2.1⟩

set_option maxRecDepth 8000 in
set_option maxHeartbeats 2000000 in
theorem checks_walk (w : World) (k a : Int) (v : Value) (l : List Xr) (h : RlR w v l) :
    Calls Try.prog 4 #[.agg #[.int .i64 k, .int .i64 a, v]] w fun e w' => e = .returned (.bool true) ∧ Below w.heap.size w w' := by
  obtain ⟨p1, c1, rfl⟩ : ∃ p c, v = .slice p l.length c := by obtain ⟨p, c, e, _⟩ := h; exact ⟨p, c, e⟩
  have be : Below w.heap.size w (w.alloc (Obj.cells #[.int .i64 k, .int .i64 a, .slice p1 l.length c1] 33)) := (Below.refl _ _).alloc (Nat.le_refl _) _
  have BE : Hid (Below w.heap.size w (w.alloc (Obj.cells #[.int .i64 k, .int .i64 a, .slice p1 l.length c1] 33))) := be
  have HK : Hid (Blk (w.alloc (Obj.cells #[.int .i64 k, .int .i64 a, .slice p1 l.length c1] 33)) w.heap.size 33 [.int .i64 k, .int .i64 a, .slice p1 l.length c1]) := blk_new w _ _
  have SN : Hid (RlR (w.alloc (Obj.cells #[.int .i64 k, .int .i64 a, .slice p1 l.length c1] 33)) (.slice p1 l.length c1) l) := h.below be
  have HA : Hid (∀ W, Calls Try.prog 9 #[] W fun e w' => e = .returned (.bool true) ∧ Below W.heap.size W w') := awake_any
  have HL : Hid (∀ W, RlR W (.slice p1 l.length c1) l → Calls Try.prog 14 #[.agg #[.int .i64 k, .int .i64 a, .slice p1 l.length c1]] W fun e w' => LightR W l e w') := fun W h => light_any W k a _ l h
  have H1 : Hid (Lt l → ∀ W, RlR W (.slice p1 l.length c1) l → Calls Try.prog 15 #[.agg #[.int .i64 k, .int .i64 a, .slice p1 l.length c1]] W fun e w' => e = .returned (.tuple #[.int .i64 (checkP k a (l.map Xr.r)).1, .int .i64 (checkP k a (l.map Xr.r)).2]) ∧ Below W.heap.size W w') := fun hL W h => check_any W k a _ l h (lt_sml hL).1 (sml_small (lt_sml hL))
  have H2 : Hid (Lt l → ∀ W, RlR W (.slice p1 l.length c1) l → Calls Try.prog 16 #[.agg #[.int .i64 k, .int .i64 a, .slice p1 l.length c1]] W fun e w' => e = .returned (.tuple #[.int .i64 (checkP k a (l.map Xr.r)).1, .int .i64 (checkP k a (l.map Xr.r)).2]) ∧ Below W.heap.size W w') := fun hL W h => rcheck_any W k a _ l h (lt_sml hL)
  clear h be
  generalize (checkP k a (l.map Xr.r)).1 = r1 at *
  generalize (checkP k a (l.map Xr.r)).2 = r2 at *
  go_enter Try.func4, Try.ntmps4
  go_wp2_with fail
  generalize (w.alloc (Obj.cells #[.int .i64 k, .int .i64 a, .slice p1 l.length c1] 33)) = X at *
  refine (HA.out _).mono ?_
  rintro e w1 ⟨rfl, b1⟩
  have t0 : w1.cell? ⟨w.heap.size, 0, none⟩ = some (.int .i64 k) := (HK.out.over b1).cell 0
  have t1 : w1.cell? ⟨w.heap.size, 1, none⟩ = some (.int .i64 a) := (HK.out.over b1).cell 1
  have t2 : w1.cell? ⟨w.heap.size, 2, none⟩ = some (.slice p1 l.length c1) := (HK.out.over b1).cell 2
  have K1 : Hid (Blk w1 w.heap.size 33 [.int .i64 k, .int .i64 a, .slice p1 l.length c1]) := HK.out.over b1
  have S1 : Hid (RlR w1 (.slice p1 l.length c1) l) := SN.out.below b1
  have B1 : Hid (Below w.heap.size w w1) := BE.out.trans (b1.mono BE.out.size)
  clear b1 BE HK SN
  go_wp2_with fail
  clear t0 t1 t2
  refine (HL.out _ S1.out).mono ?_
  rintro e w2 ⟨bb, rfl, b2, hbb⟩
  have HBB : Hid (bb = true → Lt l) := hbb
  have t0 : w2.cell? ⟨w.heap.size, 0, none⟩ = some (.int .i64 k) := (K1.out.over b2).cell 0
  have t1 : w2.cell? ⟨w.heap.size, 1, none⟩ = some (.int .i64 a) := (K1.out.over b2).cell 1
  have t2 : w2.cell? ⟨w.heap.size, 2, none⟩ = some (.slice p1 l.length c1) := (K1.out.over b2).cell 2
  have K2 : Hid (Blk w2 w.heap.size 33 [.int .i64 k, .int .i64 a, .slice p1 l.length c1]) := K1.out.over b2
  have S2 : Hid (RlR w2 (.slice p1 l.length c1) l) := S1.out.below b2
  have B2 : Hid (Below w.heap.size w w2) := B1.out.trans (b2.mono B1.out.size)
  clear b2 B1 K1 S1 hbb
  cases bb with
  | false =>
    go_wp2_with fail
    go_ret
    exact ⟨rfl, B2.out⟩
  | true =>
    have HLt : Hid (Lt l) := HBB.out rfl
    go_wp2_with fail
    clear t0 t1 t2
    refine (H1.out HLt.out _ S2.out).mono ?_
    rintro e w3 ⟨rfl, b3⟩
    have t0 : w3.cell? ⟨w.heap.size, 0, none⟩ = some (.int .i64 k) := (K2.out.over b3).cell 0
    have t1 : w3.cell? ⟨w.heap.size, 1, none⟩ = some (.int .i64 a) := (K2.out.over b3).cell 1
    have t2 : w3.cell? ⟨w.heap.size, 2, none⟩ = some (.slice p1 l.length c1) := (K2.out.over b3).cell 2
    have S3 : Hid (RlR w3 (.slice p1 l.length c1) l) := S2.out.below b3
    have B3 : Hid (Below w.heap.size w w3) := B2.out.trans (b3.mono B2.out.size)
    clear b3 B2 S2
    go_wp2_with fail
    clear t0 t1 t2
    refine (H2.out HLt.out _ S3.out).mono ?_
    rintro e w4 ⟨rfl, b4⟩
    have B4 : Hid (Below w.heap.size w w4) := B3.out.trans (b4.mono B3.out.size)
    clear b4 B3
    go_wp2_with fail
    go_ret
    exact ⟨rfl, B4.out⟩

end Go.Proofs.Ytimclfdecdappaa
