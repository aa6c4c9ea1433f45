/-
  Where any instruction of any program goes on, by the document's own words: proved.
-/
import Derived.Test.YtfdnhdijogphiaaNext
namespace Go.Proofs.Ytfdnhdijogphiaa
open Go.RowKit

theorem refNext_out (a : Option Addr) (len cap : Nat) (i : Int) (w : World) (hi : i < 0 ∨ (len : Int) ≤ i) :
    Calls Try.prog 14 #[.slice a len cap, .int .i64 i] w fun e w' => NextTold w w' e [] := by
  by_cases h0 : i < 0
  · clear hi
    go_enter Try.func14, Try.ntmps14
    go_wp2
    go_ret
    exact ⟨Below.refl _ _, _, rfl, rfl, .inl ⟨rfl, rfl⟩⟩
  · have h1 : (len : Int) ≤ i := by omega
    have h2 : 0 ≤ i := by omega
    clear hi
    go_enter Try.func14, Try.ntmps14
    go_wp2
    go_ret
    exact ⟨Below.refl _ _, _, rfl, rfl, .inl ⟨rfl, rfl⟩⟩

theorem led_next (x : In) (i p : Nat) (h : i < p) : led x i (p + 1 - i - 1) = led x i (p - i - 1) ++ (if leads x ((p - i - 1 : Nat) : Int) = true then [(p : Int)] else []) := by
  have e : p + 1 - i - 1 = (p - i - 1) + 1 := by omega
  have e2 : (i : Int) + 1 + ((p - i - 1 : Nat) : Int) = (p : Int) := by omega
  rw [e]
  show led x i (p - i - 1) ++ _ = _
  rw [e2]

set_option maxHeartbeats 2000000 in
theorem refNext_in (b off len cap i : Nat) (x : In) (w : World) (hlen : len ≤ 100000) (hi : i < len) (hx : x.ok) (hat : x.at w b (off + i * 4)) :
    Calls Try.prog 14 #[.slice (some ⟨b, off, none⟩) len cap, .int .i64 i] w fun e w' => NextTold w w' e (led x i (len - 1 - i)) := by
  have HJ : Hid (∀ W : World, Calls Try.prog 19 #[.int .u16 x.c] W fun e w' => e = .returned (.bool (isIn jumpL x.c)) ∧ w' = W) := fun W => refJumps_any x.c W
  have HE : Hid (∀ W : World, Calls Try.prog 20 #[.int .u16 x.c] W fun e w' => e = .returned (.bool (isIn endL x.c)) ∧ w' = W) := fun W => refEnds_any x.c W
  have HL : Hid (∀ p : Nat, i < p → led x i (p + 1 - i - 1) = led x i (p - i - 1) ++ (if leads x ((p - i - 1 : Nat) : Int) = true then [(p : Int)] else [])) := fun p h => led_next x i p h
  have HM : Hid (∀ m : Nat, (led x i m).length ≤ m) := fun m => led_len x i m
  have HD : Hid (∀ far : Int, leads x far = if x.c = 5 then far == x.k else if isIn jumpL x.c = true then (far == x.t || far == x.f) else if isIn endL x.c = true then false else far == 0) := fun far => rfl
  have HZ : Hid (led x i 0 = []) := rfl
  generalize led x i = ld at *
  generalize leads x = lds at *
  obtain ⟨c, t, f, k⟩ := x
  obtain ⟨-, ⟨ht0, ht1⟩, ⟨hf0, hf1⟩, ⟨hk0, hk1⟩⟩ := hx
  have A0 : In.at ⟨c, t, f, k⟩ (w.alloc (Obj.cells #[.int .u16 c, .int .u8 t, .int .u8 f, .int .u32 k] 36)) w.heap.size 0 := at_new w ⟨c, t, f, k⟩
  obtain ⟨q1, q2, q3, q4⟩ := hat
  dsimp only at *
  have et : IntKind.u64.wrap t = t := by rw [IntKind.wrap_u64]; omega
  have ef : IntKind.u64.wrap f = f := by rw [IntKind.wrap_u64]; omega
  have ek : IntKind.u64.wrap k = k := by rw [IntKind.wrap_u64]; omega
  have hi1 : (i : Int) < (len : Int) := by omega
  generalize isIn jumpL c = bj at *
  generalize isIn endL c = be at *
  have B0 : Below w.heap.size w (w.alloc (Obj.cells #[.int .u16 c, .int .u8 t, .int .u8 f, .int .u32 k] 36)) := (Below.refl _ _).alloc (Nat.le_refl _) _
  generalize hW1 : w.alloc (Obj.cells #[.int .u16 c, .int .u8 t, .int .u8 f, .int .u32 k] 36) = w1 at *
  have HW1 : Hid (w.alloc (Obj.cells #[.int .u16 c, .int .u8 t, .int .u8 f, .int .u32 k] 36) = w1) := hW1
  have hs1 : Hid (w1.heap.size = w.heap.size + 1) := by unfold Hid; rw [← hW1, size_alloc']
  clear hW1
  have hd0 : decide ((i : Int) < 0) = false := by simp
  have hd1 : decide (len ≤ i) = false := by simp; omega
  have hd2 : ¬ len ≤ i := by omega
  go_enter Try.func14, Try.ntmps14
  go_wp2
  rw [HW1.out]
  go_loopw [5, 7] (fun v j wr => ∃ p : Nat, i < p ∧ p ≤ len ∧ j = .int .i64 p ∧ wr.ownsRow w1.heap.size 3 1 v (ld (p - i - 1)).length (cellsN (ld (p - i - 1))) ∧ Below w1.heap.size w1 wr) (fun _ j _ => len - (intOf j).toNat)
  case atStart => exact ⟨i + 1, by omega, by omega, by go_num, by rw [show i + 1 - i - 1 = 0 from by omega, HZ.out]; exact ⟨rfl, .inl ⟨rfl, rfl⟩⟩, Below.refl _ _⟩
  case round =>
    obtain ⟨p, hip, hpl, rfl, ho, hbr⟩ := hrel
    by_cases hlt : p < len
    · have A := A0.below hbr
      obtain ⟨p1, p2, p3, p4⟩ := A.four
      clear A
      have HN : Hid (ld (p + 1 - i - 1) = ld (p - i - 1) ++ (if lds ((p - i - 1 : Nat) : Int) = true then [(p : Int)] else [])) := HL.out p hip
      have HD2 := HD.out ((p - i - 1 : Nat) : Int)
      have HQ : Hid (lds ((p - i - 1 : Nat) : Int) = _) := HD2
      have hgl : Hid ((ld (p - i - 1)).length ≤ 100000) := by have := HM.out (p - i - 1); unfold Hid; omega
      have hfar : (p : Int) - i - 1 = ((p - i - 1 : Nat) : Int) := by omega
      have hmb : Hid (p - i - 1 ≤ 100000) := by unfold Hid; omega
      clear HD2 HD HL HM
      generalize hld2 : ld (p + 1 - i - 1) = g2 at *
      have HG2 : Hid (ld (p + 1 - i - 1) = g2) := hld2
      clear hld2
      generalize ld (p - i - 1) = g at *
      generalize lds ((p - i - 1 : Nat) : Int) = b0 at *
      generalize p - i - 1 = m at *
      have ew : IntKind.u64.wrap (m : Int) = m := by have := hmb.out; rw [IntKind.wrap_u64]; omega
      have hpl1 : (p : Int) < (len : Int) := by omega
      have hbs := hbr.size
      by_cases h5 : c = 5
      · subst h5
        by_cases hm : (m : Int) = k
        · have hb : b0 = true := by rw [HQ.out]; simp [hm]
          have hm2 : ((m : Int) == k) = true := by simp [hm]
          subst hb
          clear HQ hm
          go_wp2_with (first | (go_at_call 19; refine (HJ.out _).mono ?_; rintro e w2 ⟨rfl, rfl⟩) | (go_at_call 20; refine (HE.out _).mono ?_; rintro e w2 ⟨rfl, rfl⟩) | (at_builtin; refine append_int rfl (.tmp 64) (.tmp 66) rfl w1.heap.size _ g.length g rfl (ho.alloc _) (p : Int) _ rfl (new_int _ _) (by have := hgl.out; omega) (by rw [size_alloc']; omega) ?_; intro v4 w4 ho4 hg4))
          go_roundw
          case rel =>
            have hb3 := hbr.alloc hbs (Obj.cells #[.int .i64 (p : Int)] 3)
            exact ⟨p + 1, by omega, by omega, by go_num, by rw [HG2.out, HN.out]; simp only [if_true, List.length_append]; exact ho4, hb3.grown hg4 hb3.size (owns_block ho)⟩
          case measure => simp [intOf]; omega
        · have hb : b0 = false := by rw [HQ.out]; simp [hm]
          have hm2 : ((m : Int) == k) = false := by simp [hm]
          subst hb
          clear HQ hm
          go_wp2_with (first | (go_at_call 19; refine (HJ.out _).mono ?_; rintro e w2 ⟨rfl, rfl⟩) | (go_at_call 20; refine (HE.out _).mono ?_; rintro e w2 ⟨rfl, rfl⟩))
          go_roundw
          case rel => exact ⟨p + 1, by omega, by omega, by go_num, by rw [HG2.out, HN.out]; simp only [Bool.false_eq_true, if_false, List.append_nil]; exact ho, hbr⟩
          case measure => simp [intOf]; omega
      · cases bj with
        | true =>
          by_cases hmt : (m : Int) = t
          · have hb : b0 = true := by rw [HQ.out]; simp [h5, hmt]
            have hm2 : ((m : Int) == t) = true := by simp [hmt]
            subst hb
            clear HQ hmt
            go_wp2_with (first | (go_at_call 19; refine (HJ.out _).mono ?_; rintro e w2 ⟨rfl, rfl⟩) | (go_at_call 20; refine (HE.out _).mono ?_; rintro e w2 ⟨rfl, rfl⟩) | (at_builtin; refine append_int rfl (.tmp 64) (.tmp 66) rfl w1.heap.size _ g.length g rfl (ho.alloc _) (p : Int) _ rfl (new_int _ _) (by have := hgl.out; omega) (by rw [size_alloc']; omega) ?_; intro v4 w4 ho4 hg4))
            go_roundw
            case rel =>
              have hb3 := hbr.alloc hbs (Obj.cells #[.int .i64 (p : Int)] 3)
              exact ⟨p + 1, by omega, by omega, by go_num, by rw [HG2.out, HN.out]; simp only [if_true, List.length_append]; exact ho4, hb3.grown hg4 hb3.size (owns_block ho)⟩
            case measure => simp [intOf]; omega
          · have hm2 : ((m : Int) == t) = false := by simp [hmt]
            by_cases hmf : (m : Int) = f
            · have hb : b0 = true := by rw [HQ.out]; simp [h5, hmf]
              have hm3 : ((m : Int) == f) = true := by simp [hmf]
              subst hb
              clear HQ hmf hmt
              go_wp2_with (first | (go_at_call 19; refine (HJ.out _).mono ?_; rintro e w2 ⟨rfl, rfl⟩) | (go_at_call 20; refine (HE.out _).mono ?_; rintro e w2 ⟨rfl, rfl⟩) | (at_builtin; refine append_int rfl (.tmp 64) (.tmp 66) rfl w1.heap.size _ g.length g rfl (ho.alloc _) (p : Int) _ rfl (new_int _ _) (by have := hgl.out; omega) (by rw [size_alloc']; omega) ?_; intro v4 w4 ho4 hg4))
              go_roundw
              case rel =>
                have hb3 := hbr.alloc hbs (Obj.cells #[.int .i64 (p : Int)] 3)
                exact ⟨p + 1, by omega, by omega, by go_num, by rw [HG2.out, HN.out]; simp only [if_true, List.length_append]; exact ho4, hb3.grown hg4 hb3.size (owns_block ho)⟩
              case measure => simp [intOf]; omega
            · have hb : b0 = false := by rw [HQ.out]; simp [h5, hmt, hmf]
              have hm3 : ((m : Int) == f) = false := by simp [hmf]
              subst hb
              clear HQ hmf hmt
              go_wp2_with (first | (go_at_call 19; refine (HJ.out _).mono ?_; rintro e w2 ⟨rfl, rfl⟩) | (go_at_call 20; refine (HE.out _).mono ?_; rintro e w2 ⟨rfl, rfl⟩))
              go_roundw
              case rel => exact ⟨p + 1, by omega, by omega, by go_num, by rw [HG2.out, HN.out]; simp only [Bool.false_eq_true, if_false, List.append_nil]; exact ho, hbr⟩
              case measure => simp [intOf]; omega
        | false =>
          cases be with
          | true =>
            have hb : b0 = false := by rw [HQ.out]; simp [h5]
            subst hb
            clear HQ
            go_wp2_with (first | (go_at_call 19; refine (HJ.out _).mono ?_; rintro e w2 ⟨rfl, rfl⟩) | (go_at_call 20; refine (HE.out _).mono ?_; rintro e w2 ⟨rfl, rfl⟩))
            go_roundw
            case rel => exact ⟨p + 1, by omega, by omega, by go_num, by rw [HG2.out, HN.out]; simp only [Bool.false_eq_true, if_false, List.append_nil]; exact ho, hbr⟩
            case measure => simp [intOf]; omega
          | false =>
            by_cases hm : (m : Int) = 0
            · have hb : b0 = true := by rw [HQ.out]; simp [h5, hm]
              have hm2 : ((m : Int) == 0) = true := by simp [hm]
              subst hb
              clear HQ hm
              go_wp2_with (first | (go_at_call 19; refine (HJ.out _).mono ?_; rintro e w2 ⟨rfl, rfl⟩) | (go_at_call 20; refine (HE.out _).mono ?_; rintro e w2 ⟨rfl, rfl⟩) | (at_builtin; refine append_int rfl (.tmp 64) (.tmp 66) rfl w1.heap.size _ g.length g rfl (ho.alloc _) (p : Int) _ rfl (new_int _ _) (by have := hgl.out; omega) (by rw [size_alloc']; omega) ?_; intro v4 w4 ho4 hg4))
              go_roundw
              case rel =>
                have hb3 := hbr.alloc hbs (Obj.cells #[.int .i64 (p : Int)] 3)
                exact ⟨p + 1, by omega, by omega, by go_num, by rw [HG2.out, HN.out]; simp only [if_true, List.length_append]; exact ho4, hb3.grown hg4 hb3.size (owns_block ho)⟩
              case measure => simp [intOf]; omega
            · have hb : b0 = false := by rw [HQ.out]; simp [h5]; omega
              have hm2 : ((m : Int) == 0) = false := by simp; omega
              subst hb
              clear HQ hm
              go_wp2_with (first | (go_at_call 19; refine (HJ.out _).mono ?_; rintro e w2 ⟨rfl, rfl⟩) | (go_at_call 20; refine (HE.out _).mono ?_; rintro e w2 ⟨rfl, rfl⟩))
              go_roundw
              case rel => exact ⟨p + 1, by omega, by omega, by go_num, by rw [HG2.out, HN.out]; simp only [Bool.false_eq_true, if_false, List.append_nil]; exact ho, hbr⟩
              case measure => simp [intOf]; omega
    · obtain rfl : p = len := by omega
      have hsz : w.heap.size ≤ w1.heap.size := by have := hs1.out; omega
      go_wp2
      go_ret
      exact ⟨B0.trans (hbr.mono hsz), _, rfl, owns_lower (by rw [show p - 1 - i = p - i - 1 from by omega]; exact ho) hsz⟩

end Go.Proofs.Ytfdnhdijogphiaa
