/-
  A call is allowed.
-/
import Derived.Test.YtimclfdecdappaaDecide
namespace Go.Proofs.Ytimclfdecdappaa
open Go.RowKit

/-- are two acts the same? -/
def sameA (k a k' a' : Int) : Bool := k == k' && a == a'
theorem sameA_self (k a : Int) : sameA k a k a = true := by simp [sameA]

theorem equalIn_act (k a k' a' : Int) (w : World) : (Op.equalIn 10000 30 (.agg #[.int .i64 k, .int .i64 a]) (.agg #[.int .i64 k', .int .i64 a'])).run Try.prog w = .ok (sameA k a k' a') w := by
  have u3 := Try.underlying3
  have a3 := Try.isAgg3
  have z3 := Try.sizeOf3
  have hS : Try.prog.underlying 30 = some (.struct (Try.prog.fieldsOf 30)) := by kernel_rfl
  have hp : Try.prog.stoodInHeld 30 = false := by kernel_rfl
  rw [show (10000 : Nat) = 9999 + 1 from rfl, run_equalIn_agg w 9999 30 _ _ hS hp]
  simp only [Program.fieldsOf, Try.underlying30]
  go_simp
  unfold sameA
  by_cases h1 : k = k' <;> by_cases h2 : a = a' <;> simp [h1, h2]

def wWrite : ByteArray := ⟨#[119, 114, 105, 116, 101]⟩
def awR : Xl := ⟨8, 0, [wWrite], []⟩
def awD : Da := ⟨1, 3221225534, 0, [0, 0, 0, 0, 0, 0]⟩
def awD2 : Da := ⟨1, 0, 0, [0, 0, 0, 0, 0, 0]⟩
theorem aw1 : decA awD 1 0 [awR] = (8, 0) := by kernel_rfl
theorem aw2 : decE 1 0 [awR] = 0 := by kernel_rfl
theorem aw3 : decA awD2 1 0 [awR] = (1, 0) := by kernel_rfl
theorem zeros_ok : ∀ z ∈ [(0 : Int), 0, 0, 0, 0, 0], U64 z := by
  intro z hz
  have : z = 0 := by simpa using hz
  subst this
  exact ⟨by decide, by decide⟩
theorem awD_ok : awD.ok := ⟨⟨by decide, by decide⟩, ⟨by decide, by decide⟩, ⟨by decide, by decide⟩, rfl, zeros_ok⟩
theorem awD2_ok : awD2.ok := ⟨⟨by decide, by decide⟩, ⟨by decide, by decide⟩, ⟨by decide, by decide⟩, rfl, zeros_ok⟩

def awX (g : Nat) : Xr := ⟨awR, .slice (some ⟨g, 0, none⟩) 1 1, .slice none 0 0⟩

/-- the rules as they lie. -/
theorem aw_rules (w : World) : RlR (((w.alloc (Obj.cells #[.string wWrite] 9)).alloc (Obj.cells #[.int .i64 8, .int .i64 0, .slice (some ⟨w.heap.size, 0, none⟩) 1 1, .slice none 0 0] 52)).alloc (Obj.cells #[.int .i64 1, .int .i64 0, .slice (some ⟨w.heap.size + 1, 0, none⟩) 1 1] 33)) (.slice (some ⟨w.heap.size + 1, 0, none⟩) 1 1) [awX w.heap.size] ∧ Below w.heap.size w (((w.alloc (Obj.cells #[.string wWrite] 9)).alloc (Obj.cells #[.int .i64 8, .int .i64 0, .slice (some ⟨w.heap.size, 0, none⟩) 1 1, .slice none 0 0] 52)).alloc (Obj.cells #[.int .i64 1, .int .i64 0, .slice (some ⟨w.heap.size + 1, 0, none⟩) 1 1] 33)) ∧ Blk (((w.alloc (Obj.cells #[.string wWrite] 9)).alloc (Obj.cells #[.int .i64 8, .int .i64 0, .slice (some ⟨w.heap.size, 0, none⟩) 1 1, .slice none 0 0] 52)).alloc (Obj.cells #[.int .i64 1, .int .i64 0, .slice (some ⟨w.heap.size + 1, 0, none⟩) 1 1] 33)) (w.heap.size + 1 + 1) 33 [.int .i64 1, .int .i64 0, .slice (some ⟨w.heap.size + 1, 0, none⟩) 1 1] := by
  have k0 : Blk (((w.alloc (Obj.cells #[.string wWrite] 9)).alloc (Obj.cells #[.int .i64 8, .int .i64 0, .slice (some ⟨w.heap.size, 0, none⟩) 1 1, .slice none 0 0] 52)).alloc (Obj.cells #[.int .i64 1, .int .i64 0, .slice (some ⟨w.heap.size + 1, 0, none⟩) 1 1] 33)) w.heap.size 9 [.string wWrite] := ((blk_new w _ 9).alloc _).alloc _
  have k1 : Blk (((w.alloc (Obj.cells #[.string wWrite] 9)).alloc (Obj.cells #[.int .i64 8, .int .i64 0, .slice (some ⟨w.heap.size, 0, none⟩) 1 1, .slice none 0 0] 52)).alloc (Obj.cells #[.int .i64 1, .int .i64 0, .slice (some ⟨w.heap.size + 1, 0, none⟩) 1 1] 33)) (w.heap.size + 1) 52 [.int .i64 8, .int .i64 0, .slice (some ⟨w.heap.size, 0, none⟩) 1 1, .slice none 0 0] := (blk_new' w _ _ 52).alloc _
  have k2 := blk_new' (w.alloc (Obj.cells #[.string wWrite] 9)) (Obj.cells #[.int .i64 8, .int .i64 0, .slice (some ⟨w.heap.size, 0, none⟩) 1 1, .slice none 0 0] 52) #[.int .i64 1, .int .i64 0, .slice (some ⟨w.heap.size + 1, 0, none⟩) 1 1] 33
  rw [size_alloc'] at k2
  refine ⟨⟨some ⟨w.heap.size + 1, 0, none⟩, 1, rfl, Nat.le_refl _, by decide, fun _ => ⟨_, 0, rfl, fun i x hi => ?_⟩, fun x hx => ?_⟩, (room_below w _ _).alloc (room_below w _ _).size _, k2⟩
  · cases i with
    | zero =>
      simp at hi
      subst hi
      exact ⟨k1.cell 0, k1.cell 1, k1.cell 2, k1.cell 3⟩
    | succ i => simp at hi
  · obtain rfl : x = awX w.heap.size := by simpa using hx
    refine ⟨⟨some ⟨w.heap.size, 0, none⟩, 1, rfl, Nat.le_refl _, by decide, fun _ => ⟨_, 0, rfl, fun i x hi => ?_⟩⟩, none, 0, rfl, Nat.le_refl _, by decide, fun h => absurd h (by show ¬ 0 < ([] : List Xc).length; decide)⟩
    cases i with
    | zero =>
      have : x = wWrite := by
        have h2 : some wWrite = some x := hi
        cases h2; rfl
      subst this
      exact k0.cell 0
    | succ i =>
      have h2 : (none : Option ByteArray) = some x := hi
      cases h2

set_option maxRecDepth 8000 in
theorem awake_any (w : World) : Calls Try.prog 9 #[] w fun e w' => e = .returned (.bool true) ∧ Below w.heap.size w w' := by
  have hr := aw_rules w
  have HR : Hid (RlR (((w.alloc (Obj.cells #[.string wWrite] 9)).alloc (Obj.cells #[.int .i64 8, .int .i64 0, .slice (some ⟨w.heap.size, 0, none⟩) 1 1, .slice none 0 0] 52)).alloc (Obj.cells #[.int .i64 1, .int .i64 0, .slice (some ⟨w.heap.size + 1, 0, none⟩) 1 1] 33)) (.slice (some ⟨w.heap.size + 1, 0, none⟩) 1 1) [awX w.heap.size]) := hr.1
  have HB : Hid (Below w.heap.size w (((w.alloc (Obj.cells #[.string wWrite] 9)).alloc (Obj.cells #[.int .i64 8, .int .i64 0, .slice (some ⟨w.heap.size, 0, none⟩) 1 1, .slice none 0 0] 52)).alloc (Obj.cells #[.int .i64 1, .int .i64 0, .slice (some ⟨w.heap.size + 1, 0, none⟩) 1 1] 33))) := hr.2.1
  have HK : Hid (Blk (((w.alloc (Obj.cells #[.string wWrite] 9)).alloc (Obj.cells #[.int .i64 8, .int .i64 0, .slice (some ⟨w.heap.size, 0, none⟩) 1 1, .slice none 0 0] 52)).alloc (Obj.cells #[.int .i64 1, .int .i64 0, .slice (some ⟨w.heap.size + 1, 0, none⟩) 1 1] 33)) (w.heap.size + 1 + 1) 33 [.int .i64 1, .int .i64 0, .slice (some ⟨w.heap.size + 1, 0, none⟩) 1 1]) := hr.2.2
  have HD : Hid (∀ W, RlR W (.slice (some ⟨w.heap.size + 1, 0, none⟩) 1 1) [awX w.heap.size] → Calls Try.prog 17 #[.agg #[.int .i64 1, .int .i64 0, .slice (some ⟨w.heap.size + 1, 0, none⟩) 1 1], .agg awD.cells.toArray] W fun e w' => e = .returned (.tuple #[.agg #[.int .i64 8, .int .i64 0], .int .i64 0]) ∧ Below W.heap.size W w') := fun W h => by
    have := decide_any W 1 0 _ [awX w.heap.size] awD h (by simp) (fun x hx => by obtain rfl : x = awX w.heap.size := (by simpa using hx); exact ⟨by show ([wWrite] : List ByteArray).length ≤ 9000000; decide, by show ([] : List Xc).length ≤ 9000000; decide⟩) awD_ok
    rw [show [awX w.heap.size].map Xr.r = [awR] from rfl, aw1, aw2] at this
    exact this
  have HD2 : Hid (∀ W, RlR W (.slice (some ⟨w.heap.size + 1, 0, none⟩) 1 1) [awX w.heap.size] → Calls Try.prog 17 #[.agg #[.int .i64 1, .int .i64 0, .slice (some ⟨w.heap.size + 1, 0, none⟩) 1 1], .agg awD2.cells.toArray] W fun e w' => e = .returned (.tuple #[.agg #[.int .i64 1, .int .i64 0], .int .i64 0]) ∧ Below W.heap.size W w') := fun W h => by
    have := decide_any W 1 0 _ [awX w.heap.size] awD2 h (by simp) (fun x hx => by obtain rfl : x = awX w.heap.size := (by simpa using hx); exact ⟨by show ([wWrite] : List ByteArray).length ≤ 9000000; decide, by show ([] : List Xc).length ≤ 9000000; decide⟩) awD2_ok
    rw [show [awX w.heap.size].map Xr.r = [awR] from rfl, aw3, aw2] at this
    exact this
  have hq1 : ∀ W : World, (Op.equalIn 10000 30 (.agg #[.int .i64 8, .int .i64 0]) (.agg #[.int .i64 8, .int .i64 0])).run Try.prog W = .ok true W := fun W => equalIn_act 8 0 8 0 W
  have hq2 : ∀ W : World, (Op.equalIn 10000 30 (.agg #[.int .i64 1, .int .i64 0]) (.agg #[.int .i64 1, .int .i64 0])).run Try.prog W = .ok true W := fun W => equalIn_act 1 0 1 0 W
  clear hr
  unfold awX at *
  generalize hww : wWrite = ww at *
  go_enter Try.func9, Try.ntmps9
  go_wp2_with fail
  rw [show (⟨#[119, 114, 105, 116, 101]⟩ : ByteArray) = ww from hww]
  generalize (((w.alloc (Obj.cells #[.string ww] 9)).alloc (Obj.cells #[.int .i64 8, .int .i64 0, .slice (some ⟨w.heap.size, 0, none⟩) 1 1, .slice none 0 0] 52)).alloc (Obj.cells #[.int .i64 1, .int .i64 0, .slice (some ⟨w.heap.size + 1, 0, none⟩) 1 1] 33)) = X at *
  refine (HD.out _ HR.out).mono ?_
  rintro e w1 ⟨rfl, b1⟩
  have S1 : Hid (RlR (w1.alloc (Obj.cells #[.int .i64 8, .int .i64 0] 30)) (.slice (some ⟨w.heap.size + 1, 0, none⟩) 1 1) [⟨awR, .slice (some ⟨w.heap.size, 0, none⟩) 1 1, .slice none 0 0⟩]) := (HR.out.below b1).below (below_new w1 _)
  have K1 := (HK.out.over b1).alloc (Obj.cells #[.int .i64 8, .int .i64 0] 30)
  have t0 : (w1.alloc (Obj.cells #[.int .i64 8, .int .i64 0] 30)).cell? ⟨w.heap.size + 1 + 1, 0, none⟩ = some (.int .i64 1) := K1.cell 0
  have t1 : (w1.alloc (Obj.cells #[.int .i64 8, .int .i64 0] 30)).cell? ⟨w.heap.size + 1 + 1, 1, none⟩ = some (.int .i64 0) := K1.cell 1
  have t2 : (w1.alloc (Obj.cells #[.int .i64 8, .int .i64 0] 30)).cell? ⟨w.heap.size + 1 + 1, 2, none⟩ = some (.slice (some ⟨w.heap.size + 1, 0, none⟩) 1 1) := K1.cell 2
  have BA : Hid (Below w.heap.size w (w1.alloc (Obj.cells #[.int .i64 8, .int .i64 0] 30))) := (HB.out.trans (b1.mono HB.out.size)).alloc (HB.out.trans (b1.mono HB.out.size)).size _
  have KA : Hid (Blk (w1.alloc (Obj.cells #[.int .i64 8, .int .i64 0] 30)) w1.heap.size 30 [.int .i64 8, .int .i64 0]) := blk_new w1 _ _
  clear b1 K1 HB HR HK
  go_wp2_with fail
  generalize (w1.alloc (Obj.cells #[.int .i64 8, .int .i64 0] 30)) = Y at *
  refine (HD2.out _ S1.out).mono ?_
  rintro e w2 ⟨rfl, b2⟩
  have K3 := (KA.out.over b2).alloc (Obj.cells #[.int .i64 1, .int .i64 0] 30)
  have K4 := blk_new w2 #[.int .i64 1, .int .i64 0] 30
  have s0 : (w2.alloc (Obj.cells #[.int .i64 1, .int .i64 0] 30)).cell? ⟨w1.heap.size, 0, none⟩ = some (.int .i64 8) := K3.cell 0
  have s1 : (w2.alloc (Obj.cells #[.int .i64 1, .int .i64 0] 30)).cell? ⟨w1.heap.size, 1, none⟩ = some (.int .i64 0) := K3.cell 1
  have BB : Hid (Below w.heap.size w (w2.alloc (Obj.cells #[.int .i64 1, .int .i64 0] 30))) := (BA.out.trans (b2.mono BA.out.size)).alloc (BA.out.trans (b2.mono BA.out.size)).size _
  clear b2 K3 K4
  go_wp2_with fail
  go_ret
  exact ⟨rfl, BB.out⟩

end Go.Proofs.Ytimclfdecdappaa
