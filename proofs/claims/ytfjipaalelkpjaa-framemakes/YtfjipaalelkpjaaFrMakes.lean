/-
  The walk of FrameMakes.
-/
import Derived.Test.YtfjipaalelkpjaaFrDrain
namespace Go.Proofs.Ytfjipaalelkpjaa
open Go.RowKit D

set_option maxRecDepth 100000 in
set_option maxHeartbeats 4000000 in
theorem makes_walk (w : World) (v : Value) (l : List Int) (h : PcV w v l) :
    Calls Try.prog 3 #[v] w fun e w' => e = .returned (.bool true) ∧ Below w.heap.size w w' := by
  obtain ⟨a, cap, rfl, hb, hao⟩ := h
  have HB : Hid (Bs w a l.length l) := hb
  clear hb
  rcases Nat.lt_or_ge 2000 l.length with h2 | h2
  · generalize l.length = len at *
    have h21 : (2000 : Int) < (len : Int) := by omega
    go_enter Try.func3, Try.ntmps3
    go_wp2_with (go_at_call 9; refine (awake_any _).mono ?_; rintro e w1 ⟨rfl, hb1⟩)
    go_ret
    exact ⟨rfl, hb1⟩
  · rcases Nat.eq_zero_or_pos l.length with h0 | h0
    · have hz := D.run_convert_bytes_zero
      rw [h0] at HB ⊢
      go_enter Try.func3, Try.ntmps3
      go_wp2_with (first
        | (go_at_call 9; refine (awake_any _).mono ?_; rintro e w1 ⟨rfl, hb1⟩)
        | (go_at_call 10; refine (frame_none a cap _).mono ?_; rintro e w2 ⟨rfl, rfl⟩)
        | (go_at_call 11; refine (rframe_none a cap _).mono ?_; rintro e w3 ⟨rfl, rfl⟩))
      go_ret
      exact ⟨rfl, by assumption⟩
    · rcases Nat.lt_or_ge 512 l.length with h5 | h5
      · have hz := D.run_convert_bytes_zero
        have h21 : ¬ (2000 : Int) < (l.length : Int) := by omega
        generalize l.length = len at *
        go_enter Try.func3, Try.ntmps3
        go_wp2_with (first
          | (go_at_call 9; refine (awake_any _).mono ?_; rintro e w1 ⟨rfl, hb1⟩)
          | (go_at_call 10; refine (frame_long a len cap _ h5).mono ?_; rintro e w2 ⟨rfl, rfl⟩)
          | (go_at_call 11; refine (rframe_long a len cap _ h5).mono ?_; rintro e w3 ⟨rfl, rfl⟩))
        go_ret
        exact ⟨rfl, by assumption⟩
      · have h21 : ¬ (2000 : Int) < (l.length : Int) := by omega
        generalize l.length = len at *
        go_enter Try.func3, Try.ntmps3
        go_upto_region 6 with (first
          | (go_at_call 9; refine (awake_any _).mono ?_; rintro e w1 ⟨rfl, hb1⟩)
          | (go_at_call 10; refine (frame_any a len cap l _ h0 h5 (HB.out.below hb1)).mono ?_; rintro e w2 ⟨u2, rfl, hu2, hb2, _⟩; have hb3 := hb1.trans (hb2.mono hb1.size))
          | (go_at_call 11; refine (rframe_any a len cap l _ h0 h5 (HB.out.below hb3)).mono ?_; rintro e w4 ⟨u4, rfl, hu4, hb4, _⟩; have hb5 := hb3.trans (hb4.mono hb3.size)))
        have t1 := text_wt (hu2.over hb4)
        have t2 := text_wt hu4
        generalize strOfNums (frm sm l) = st at *
        have hbq : (st.toList == st.toList) = true := beq_self_eq_true _
        go_wp2
        go_ret
        exact ⟨rfl, hb5⟩

end Go.Proofs.Ytfjipaalelkpjaa
