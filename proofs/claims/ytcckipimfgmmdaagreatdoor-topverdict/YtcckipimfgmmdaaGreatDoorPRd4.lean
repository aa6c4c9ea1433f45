/-
  The reader: numbers and acts.
-/
import Derived.Test.YtcckipimfgmmdaaGreatDoorPRd3
namespace Go.Proofs.YtcckipimfgmmdaaGreatDoor.P
open Go.RowKit

theorem drop_at {ts : List Tok} {n : Nat} (hn : n < ts.length) : ts.drop n = ts[n] :: ts.drop (n + 1) := List.drop_eq_getElem_cons hn
theorem not_of {a : Bool} (h : a = false) : ¬ a = true := by rw [h]; decide
theorem isN_4 {x : Tok} (h : isN x = true) : ¬ x.k = 4 := by
  simp [isN] at h
  omega
theorem isA_4 {x : Tok} (h : isA x = true) : ¬ x.k = 4 := by
  simp [isA] at h
  omega
theorem isG_4 {x : Tok} (h : isG x = true) : ¬ x.k = 4 := by
  simp [isG] at h
  omega
theorem isO_4 {x : Tok} (h : isO x = true) : ¬ x.k = 4 := by
  simp [isO] at h
  omega
theorem isS_4 {x : Tok} {t : List UInt8} (h : isS x t = true) : ¬ x.k = 4 := by
  simp [isS] at h
  omega
theorem isW_4 {x : Tok} {t : List UInt8} (h : isW x t = true) : ¬ x.k = 4 := by
  simp [isW] at h
  omega

/-- what is told of a token that is looked at. -/
theorem next_at' (w : World) (b g cap n : Nat) (ts : List Tok) (h : Rd w b g cap ts n) (hn : n < ts.length) :
    Calls Tryz.prog 46 #[.pointer (some ⟨b, 0, none⟩)] w fun e w' => e = .returned (.agg #[.int .i64 ts[n].k, .int .i64 ts[n].at', .string (bar ts[n].t), .int .u64 ts[n].n]) ∧ Below w.heap.size w w' := next_any w b g cap n ts h hn
theorem pass_at (w : World) (b g cap n : Nat) (ts : List Tok) (h : Rd w b g cap ts n) (hn : n < ts.length) (hn1 : n + 1 < ts.length) :
    Calls Tryz.prog 79 #[.pointer (some ⟨b, 0, none⟩)] w fun e w' => e = .returned (.agg #[.int .i64 ts[n].k, .int .i64 ts[n].at', .string (bar ts[n].t), .int .u64 ts[n].n]) ∧ Bt b w w' ∧ Rd w' b g cap ts (n + 1) := pass_any w b g cap n ts h hn hn1
theorem needs_flt (w : World) (b g cap n : Nat) (ts : List Tok) (h : Rd w b g cap ts n) (hn : n < ts.length) (c : Nat) :
    Calls Tryz.prog 76 #[.pointer (some ⟨b, 0, none⟩), .bool false, .int .i64 c] w fun e w' => e = .panicked (fltC c ts[n].at') ∧ Below w.heap.size w w' := needs_no w b g cap n ts h hn c

set_option maxHeartbeats 2000000 in
theorem number_no (w : World) (b g cap n : Nat) (ts : List Tok) (h : Rd w b g cap ts n) (hn : n < ts.length) (most : Int) (hs : isN ts[n] = false) :
    Calls Tryz.prog 81 #[.pointer (some ⟨b, 0, none⟩), .int .u64 most] w fun e w' => e = .panicked (fltC 7 ts[n].at') ∧ Below w.heap.size w w' := by
  have HR : Hid (Rd w b g cap ts n) := h
  have HN : Hid (Calls Tryz.prog 46 #[.pointer (some ⟨b, 0, none⟩)] w fun e w' => e = .returned (.agg #[.int .i64 ts[n].k, .int .i64 ts[n].at', .string (bar ts[n].t), .int .u64 ts[n].n]) ∧ Below w.heap.size w w') := next_at' w b g cap n ts h hn
  have HF : Hid (∀ W, Rd W b g cap ts n → Calls Tryz.prog 76 #[.pointer (some ⟨b, 0, none⟩), .bool false, .int .i64 7] W fun e w' => e = .panicked (fltC 7 ts[n].at') ∧ Below W.heap.size W w') := fun W hW => needs_flt W b g cap n ts hW hn 7
  have h0 := fld0
  have hk : ((ts[n].k : Int) == 2) = false := by
    rw [beq_eq_false_iff_ne]
    simp [isN] at hs
    omega
  clear h hs
  generalize ts[n] = x at *
  obtain ⟨xk, xa, xt, xn⟩ := x
  dsimp only at *
  generalize fltC 7 xa = F at *
  go_enter Tryz.func81, Tryz.ntmps81
  go_wp2_with (first | (go_at_call 46; refine HN.out.mono ?_; rintro e w1 ⟨rfl, b1⟩) | (go_at_call 76; refine (HF.out _ (HR.out.over b1)).mono ?_; rintro e w2 ⟨rfl, b2⟩))
  exact ⟨rfl, rfl, b1.trans (b2.mono b1.size)⟩

set_option maxHeartbeats 2000000 in
theorem number_big (w : World) (b g cap n : Nat) (ts : List Tok) (h : Rd w b g cap ts n) (hn : n < ts.length) (most : Int) (hs : isN ts[n] = true) (hm : most < (ts[n].n : Int)) :
    Calls Tryz.prog 81 #[.pointer (some ⟨b, 0, none⟩), .int .u64 most] w fun e w' => e = .panicked (fltC 6 ts[n].at') ∧ Below w.heap.size w w' := by
  have HR : Hid (Rd w b g cap ts n) := h
  have HN : Hid (∀ W, Rd W b g cap ts n → Calls Tryz.prog 46 #[.pointer (some ⟨b, 0, none⟩)] W fun e w' => e = .returned (.agg #[.int .i64 ts[n].k, .int .i64 ts[n].at', .string (bar ts[n].t), .int .u64 ts[n].n]) ∧ Below W.heap.size W w') := fun W hW => next_at' W b g cap n ts hW hn
  have HF : Hid (∀ W, Rd W b g cap ts n → Calls Tryz.prog 76 #[.pointer (some ⟨b, 0, none⟩), .bool false, .int .i64 6] W fun e w' => e = .panicked (fltC 6 ts[n].at') ∧ Below W.heap.size W w') := fun W hW => needs_flt W b g cap n ts hW hn 6
  have h0 := fld0
  have h3 := fld3
  have hk : ((ts[n].k : Int) == 2) = true := by
    rw [beq_iff_eq]
    simp [isN] at hs
    omega
  have hd : decide ((ts[n].n : Int) ≤ most) = false := by simp; omega
  clear h hs
  generalize ts[n] = x at *
  obtain ⟨xk, xa, xt, xn⟩ := x
  dsimp only at *
  generalize fltC 6 xa = F at *
  go_enter Tryz.func81, Tryz.ntmps81
  go_wp2_with fail
  refine (HN.out _ HR.out).mono ?_
  rintro e w1 ⟨rfl, b1⟩
  go_wp2_with (go_at_call 76; refine (needs_ok _ b 7).mono ?_; rintro e w2 ⟨rfl, hw2⟩; subst w2)
  refine (HN.out _ (HR.out.over b1)).mono ?_
  rintro e w2 ⟨rfl, b2⟩
  go_wp2_with (go_at_call 76; refine (HF.out _ ((HR.out.over b1).over b2)).mono ?_; rintro e w3 ⟨rfl, b3⟩)
  exact ⟨rfl, rfl, (b1.trans (b2.mono b1.size)).trans (b3.mono (Nat.le_trans b1.size b2.size))⟩

set_option maxHeartbeats 2000000 in
theorem number_ok (w : World) (b g cap n : Nat) (ts : List Tok) (h : Rd w b g cap ts n) (hn : n < ts.length) (hn1 : n + 1 < ts.length) (most : Int) (hs : isN ts[n] = true) (hm : (ts[n].n : Int) ≤ most) :
    Calls Tryz.prog 81 #[.pointer (some ⟨b, 0, none⟩), .int .u64 most] w fun e w' => e = .returned (.int .u64 ts[n].n) ∧ Bt b w w' ∧ Rd w' b g cap ts (n + 1) := by
  have HR : Hid (Rd w b g cap ts n) := h
  have HN : Hid (∀ W, Rd W b g cap ts n → Calls Tryz.prog 46 #[.pointer (some ⟨b, 0, none⟩)] W fun e w' => e = .returned (.agg #[.int .i64 ts[n].k, .int .i64 ts[n].at', .string (bar ts[n].t), .int .u64 ts[n].n]) ∧ Below W.heap.size W w') := fun W hW => next_at' W b g cap n ts hW hn
  have HP : Hid (∀ W, Rd W b g cap ts n → Calls Tryz.prog 79 #[.pointer (some ⟨b, 0, none⟩)] W fun e w' => e = .returned (.agg #[.int .i64 ts[n].k, .int .i64 ts[n].at', .string (bar ts[n].t), .int .u64 ts[n].n]) ∧ Bt b W w' ∧ Rd w' b g cap ts (n + 1)) := fun W hW => pass_at W b g cap n ts hW hn hn1
  have h0 := fld0
  have h3 := fld3
  have hk : ((ts[n].k : Int) == 2) = true := by
    rw [beq_iff_eq]
    simp [isN] at hs
    omega
  have hd : decide ((ts[n].n : Int) ≤ most) = true := by simp; omega
  clear h hs
  generalize ts[n] = x at *
  obtain ⟨xk, xa, xt, xn⟩ := x
  dsimp only at *
  go_enter Tryz.func81, Tryz.ntmps81
  go_wp2_with fail
  refine (HN.out _ HR.out).mono ?_
  rintro e w1 ⟨rfl, b1⟩
  go_wp2_with (go_at_call 76; refine (needs_ok _ b 7).mono ?_; rintro e w2 ⟨rfl, hw2⟩; subst w2)
  refine (HN.out _ (HR.out.over b1)).mono ?_
  rintro e w2 ⟨rfl, b2⟩
  go_wp2_with (first | (go_at_call 76; refine (needs_ok _ b 6).mono ?_; rintro e w3 ⟨rfl, hw3⟩; subst w3) | (go_at_call 79; refine (HP.out _ ((HR.out.over b1).over b2)).mono ?_; rintro e w3 ⟨rfl, b3, P3⟩))
  go_ret
  exact ⟨rfl, ((Bt.of b1).over b2).trans b3, P3⟩

end Go.Proofs.YtcckipimfgmmdaaGreatDoor.P
