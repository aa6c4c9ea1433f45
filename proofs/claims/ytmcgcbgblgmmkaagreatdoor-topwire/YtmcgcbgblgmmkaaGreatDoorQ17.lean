/-
  PRd5.
-/
import Derived.Test.YtmcgcbgblgmmkaaGreatDoorQ16
set_option maxRecDepth 8000
set_option maxHeartbeats 4000000
namespace Go.Proofs.YtmcgcbgblgmmkaaGreatDoor.P
open M (bar)
open Go.RowKit
theorem Tryz.sizeAct : (Tryz.prog.info? 55).map (·.size) = some 2 := by kernel_rfl
def actV (k a : Int) : Value := .agg #[.int .i64 k, .int .i64 a]
def actL (k a : Int) : List Value := [.int .i64 k, .int .i64 a]
theorem actL_size (k a : Int) : (Tryz.prog.info? 55).map (·.size) = some (actL k a).toArray.size := Tryz.sizeAct
theorem actL_one (k a : Int) : (actL k a).toArray.all (·.oneCell') = true := by simp [actL, Value.oneCell']
def Dsc {α : Type} (r : Except (Nat × Nat) (α × List Tok)) (V : α -> Value) (b g cap : Nat) (ts : List Tok) (e : Ending) (w' : World) : Prop :=
 match r with
 | .error (c, p) => e = .panicked (fltC c p)
 | .ok (v, q) => ∃ m, q = ts.drop m /\ m < ts.length /\ e = .returned (V v) /\ Rd w' b g cap ts m
def acV (a : Ac) : Value := actV a.k a.a
theorem act_bad (w : World) (b g cap n : Nat) (ts : List Tok) (h : Rd w b g cap ts n) (hn : n < ts.length) (hk : kindOf ts[n].t = 0) :
  Calls Tryz.prog 70 #[.pointer (some ⟨b, 0, none⟩)] w fun e w' => Bt b w w' /\ e = .panicked (fltC 7 ts[n].at') := by
 have A0 : Hid (Kr w b g cap ts n 55 (actL 0 0) (w.alloc (Obj.cells #[.int .i64 0, .int .i64 0] 55))) := kr_new h hn 55 _
 have HN : Hid (∀ W, Rd W b g cap ts n -> Calls Tryz.prog 71 #[.pointer (some ⟨b, 0, none⟩)] W fun e w' => e = .returned (.agg #[.int .i64 ts[n].k, .int .i64 ts[n].at', .string (bar ts[n].t), .int .u64 ts[n].n]) /\ Below W.heap.size W w') := fun W hW => next_at' W b g cap n ts hW hn
 have HK : Hid (∀ W : World, Calls Tryz.prog 104 #[.string (bar ts[n].t)] W fun e w' => e = .returned (.int .i64 (kindOf ts[n].t)) /\ w' = W) := fun W => kind_any ts[n].t W
 have h2 := fld2
 have HF : Hid (∀ W, Rd W b g cap ts n -> Calls Tryz.prog 102 #[.pointer (some ⟨b, 0, none⟩), .bool false, .int .i64 7] W fun e w' => e = .panicked (fltC 7 ts[n].at') /\ Below W.heap.size W w') := fun W hW => needs_flt W b g cap n ts hW hn 7
 rw [hk] at HK
 clear hk
 clear h
 generalize ts[n] = x at *
 obtain ⟨xk, xa, xt, xn⟩ := x
 dsimp only at *
 generalize fltC 7 xa = F at *
 go_enter Tryz.func70, Tryz.ntmps70
 go_wp2_with fail
 generalize w.alloc (Obj.cells #[.int .i64 0, .int .i64 0] 55) = W0 at *
 go_wp2_with (first | (go_at_call 71; refine (HN.out _ A0.out.rd).mono ?_; rintro e w1 ⟨rfl, b1⟩; have A1 : Hid (Kr w b g cap ts n 55 (actL 0 0) w1) := A0.out.over b1) | (go_at_call 104; refine (HK.out _).mono ?_; rintro e w2 ⟨rfl, hw2⟩; subst w2) | (go_at_call 102; refine (HF.out _ A1.out.rd).mono ?_; rintro e w2 ⟨rfl, b2⟩))
 exact ⟨rfl, (A1.out.over b2).bt, rfl⟩
theorem act_plain (w : World) (b g cap n : Nat) (ts : List Tok) (h : Rd w b g cap ts n) (hn : n < ts.length) (hn1 : n + 1 < ts.length) (hk0 : ¬ kindOf ts[n].t = 0) (h3 : numK (kindOf ts[n].t) = false) :
  Calls Tryz.prog 70 #[.pointer (some ⟨b, 0, none⟩)] w fun e w' => Bt b w w' /\ e = .returned (actV (kindOf ts[n].t) 0) /\ Rd w' b g cap ts (n + 1) := by
 have A0 : Hid (Kr w b g cap ts n 55 (actL 0 0) (w.alloc (Obj.cells #[.int .i64 0, .int .i64 0] 55))) := kr_new h hn 55 _
 have HN : Hid (∀ W, Rd W b g cap ts n -> Calls Tryz.prog 71 #[.pointer (some ⟨b, 0, none⟩)] W fun e w' => e = .returned (.agg #[.int .i64 ts[n].k, .int .i64 ts[n].at', .string (bar ts[n].t), .int .u64 ts[n].n]) /\ Below W.heap.size W w') := fun W hW => next_at' W b g cap n ts hW hn
 have HK : Hid (∀ W : World, Calls Tryz.prog 104 #[.string (bar ts[n].t)] W fun e w' => e = .returned (.int .i64 (kindOf ts[n].t)) /\ w' = W) := fun W => kind_any ts[n].t W
 have h2 := fld2
 have HG : Hid (∀ W : World, Calls Tryz.prog 106 #[.int .i64 (kindOf ts[n].t)] W fun e w' => e = .returned (.bool (numK (kindOf ts[n].t))) /\ w' = W) := fun W => has_any _ W
 have HP : Hid (∀ W, Rd W b g cap ts n -> Calls Tryz.prog 105 #[.pointer (some ⟨b, 0, none⟩)] W fun e w' => e = .returned (.agg #[.int .i64 ts[n].k, .int .i64 ts[n].at', .string (bar ts[n].t), .int .u64 ts[n].n]) /\ Bt b W w' /\ Rd w' b g cap ts (n + 1)) := fun W hW => pass_at W b g cap n ts hW hn hn1
 have hk : ((kindOf ts[n].t : Int) == 0) = false := by
  rw [beq_eq_false_iff_ne]
  omega
 have hk' : ¬ (kindOf ts[n].t : Int) = 0 := beq_eq_false_iff_ne.1 hk
 have hkn : ((kindOf ts[n].t : Int) != 0) = true := by rw [bne, hk]; rfl
 rw [h3] at HG
 clear h3 hk0
 clear h
 generalize ts[n] = x at *
 obtain ⟨xk, xa, xt, xn⟩ := x
 dsimp only at *
 generalize kindOf xt = K at *
 go_enter Tryz.func70, Tryz.ntmps70
 go_wp2_with fail
 generalize w.alloc (Obj.cells #[.int .i64 0, .int .i64 0] 55) = W0 at *
 go_wp2_with (first | (go_at_call 71; refine (HN.out _ A0.out.rd).mono ?_; rintro e w1 ⟨rfl, b1⟩; have A1 : Hid (Kr w b g cap ts n 55 (actL 0 0) w1) := A0.out.over b1) | (go_at_call 104; refine (HK.out _).mono ?_; rintro e w2 ⟨rfl, hw2⟩; subst w2) | (go_at_call 102; refine (needs_ok _ b 7).mono ?_; rintro e w2 ⟨rfl, hw2⟩; subst w2) | (go_at_call 105; refine (HP.out _ A1.out.rd).mono ?_; rintro e w2 ⟨rfl, b2, P2⟩; have A2 : Hid (Kr w b g cap ts (n + 1) 55 (actL 0 0) w2) := A1.out.on b2 P2) | (go_at_call 106; refine (HG.out _).mono ?_; rintro e w3 ⟨rfl, hw3⟩; subst w3) | (refine at_op' (.store 55 (.tmp 2) (.tmp 18)) rfl ?_; refine wpList_store_row rfl 55 (.tmp 2) (.tmp 18) rfl w.heap.size (actL K 0).toArray rfl rfl 55 _ A2.out.blk (actL_size _ _) rfl (actL_one _ _) ?_))
 refine bodyPost_ret (v := actV K 0) ?_ rfl ⟨(A2.out.row (actL K 0)).bt, rfl, (A2.out.row (actL K 0)).rd⟩
 exact results_cell_row Tryz.results70 _ _ w.heap.size 55 (actL K 0).toArray (0, 0) _ rfl (A2.out.row (actL K 0)).blk Tryz.underlying55 rfl (actL_size _ _)
theorem act_no (w : World) (b g cap n : Nat) (ts : List Tok) (h : Rd w b g cap ts n) (hn : n < ts.length) (hn1 : n + 1 < ts.length) (hk0 : ¬ kindOf ts[n].t = 0) (h3 : numK (kindOf ts[n].t) = true) (h4 : isN ts[n + 1] = false) :
  Calls Tryz.prog 70 #[.pointer (some ⟨b, 0, none⟩)] w fun e w' => Bt b w w' /\ e = .panicked (fltC 7 ts[n + 1].at') := by
 have A0 : Hid (Kr w b g cap ts n 55 (actL 0 0) (w.alloc (Obj.cells #[.int .i64 0, .int .i64 0] 55))) := kr_new h hn 55 _
 have HN : Hid (∀ W, Rd W b g cap ts n -> Calls Tryz.prog 71 #[.pointer (some ⟨b, 0, none⟩)] W fun e w' => e = .returned (.agg #[.int .i64 ts[n].k, .int .i64 ts[n].at', .string (bar ts[n].t), .int .u64 ts[n].n]) /\ Below W.heap.size W w') := fun W hW => next_at' W b g cap n ts hW hn
 have HK : Hid (∀ W : World, Calls Tryz.prog 104 #[.string (bar ts[n].t)] W fun e w' => e = .returned (.int .i64 (kindOf ts[n].t)) /\ w' = W) := fun W => kind_any ts[n].t W
 have h2 := fld2
 have HG : Hid (∀ W : World, Calls Tryz.prog 106 #[.int .i64 (kindOf ts[n].t)] W fun e w' => e = .returned (.bool (numK (kindOf ts[n].t))) /\ w' = W) := fun W => has_any _ W
 have HP : Hid (∀ W, Rd W b g cap ts n -> Calls Tryz.prog 105 #[.pointer (some ⟨b, 0, none⟩)] W fun e w' => e = .returned (.agg #[.int .i64 ts[n].k, .int .i64 ts[n].at', .string (bar ts[n].t), .int .u64 ts[n].n]) /\ Bt b W w' /\ Rd w' b g cap ts (n + 1)) := fun W hW => pass_at W b g cap n ts hW hn hn1
 have hk : ((kindOf ts[n].t : Int) == 0) = false := by
  rw [beq_eq_false_iff_ne]
  omega
 have hk' : ¬ (kindOf ts[n].t : Int) = 0 := beq_eq_false_iff_ne.1 hk
 have hkn : ((kindOf ts[n].t : Int) != 0) = true := by rw [bne, hk]; rfl
 rw [h3] at HG
 have HM : Hid (∀ W, Rd W b g cap ts (n + 1) -> Calls Tryz.prog 107 #[.pointer (some ⟨b, 0, none⟩), .int .u64 65535] W fun e w' => e = .panicked (fltC 7 ts[n + 1].at') /\ Below W.heap.size W w') := fun W hW => number_no W b g cap (n + 1) ts hW hn1 65535 h4
 clear h3 hk0 h4
 generalize fltC 7 ts[n + 1].at' = F at *
 clear h
 generalize ts[n] = x at *
 obtain ⟨xk, xa, xt, xn⟩ := x
 dsimp only at *
 generalize kindOf xt = K at *
 go_enter Tryz.func70, Tryz.ntmps70
 go_wp2_with fail
 generalize w.alloc (Obj.cells #[.int .i64 0, .int .i64 0] 55) = W0 at *
 go_wp2_with (first | (go_at_call 71; refine (HN.out _ A0.out.rd).mono ?_; rintro e w1 ⟨rfl, b1⟩; have A1 : Hid (Kr w b g cap ts n 55 (actL 0 0) w1) := A0.out.over b1) | (go_at_call 104; refine (HK.out _).mono ?_; rintro e w2 ⟨rfl, hw2⟩; subst w2) | (go_at_call 102; refine (needs_ok _ b 7).mono ?_; rintro e w2 ⟨rfl, hw2⟩; subst w2) | (go_at_call 105; refine (HP.out _ A1.out.rd).mono ?_; rintro e w2 ⟨rfl, b2, P2⟩; have A2 : Hid (Kr w b g cap ts (n + 1) 55 (actL 0 0) w2) := A1.out.on b2 P2) | (go_at_call 106; refine (HG.out _).mono ?_; rintro e w3 ⟨rfl, hw3⟩; subst w3) | (go_at_call 107; refine (HM.out _ A2.out.rd).mono ?_; rintro e w4 ⟨rfl, b4⟩))
 exact ⟨rfl, (A2.out.over b4).bt, rfl⟩
theorem act_big (w : World) (b g cap n : Nat) (ts : List Tok) (h : Rd w b g cap ts n) (hn : n < ts.length) (hn1 : n + 1 < ts.length) (hk0 : ¬ kindOf ts[n].t = 0) (h3 : numK (kindOf ts[n].t) = true) (h4 : isN ts[n + 1] = true) (h5 : 65535 < ts[n + 1].n) :
  Calls Tryz.prog 70 #[.pointer (some ⟨b, 0, none⟩)] w fun e w' => Bt b w w' /\ e = .panicked (fltC 6 ts[n + 1].at') := by
 have A0 : Hid (Kr w b g cap ts n 55 (actL 0 0) (w.alloc (Obj.cells #[.int .i64 0, .int .i64 0] 55))) := kr_new h hn 55 _
 have HN : Hid (∀ W, Rd W b g cap ts n -> Calls Tryz.prog 71 #[.pointer (some ⟨b, 0, none⟩)] W fun e w' => e = .returned (.agg #[.int .i64 ts[n].k, .int .i64 ts[n].at', .string (bar ts[n].t), .int .u64 ts[n].n]) /\ Below W.heap.size W w') := fun W hW => next_at' W b g cap n ts hW hn
 have HK : Hid (∀ W : World, Calls Tryz.prog 104 #[.string (bar ts[n].t)] W fun e w' => e = .returned (.int .i64 (kindOf ts[n].t)) /\ w' = W) := fun W => kind_any ts[n].t W
 have h2 := fld2
 have HG : Hid (∀ W : World, Calls Tryz.prog 106 #[.int .i64 (kindOf ts[n].t)] W fun e w' => e = .returned (.bool (numK (kindOf ts[n].t))) /\ w' = W) := fun W => has_any _ W
 have HP : Hid (∀ W, Rd W b g cap ts n -> Calls Tryz.prog 105 #[.pointer (some ⟨b, 0, none⟩)] W fun e w' => e = .returned (.agg #[.int .i64 ts[n].k, .int .i64 ts[n].at', .string (bar ts[n].t), .int .u64 ts[n].n]) /\ Bt b W w' /\ Rd w' b g cap ts (n + 1)) := fun W hW => pass_at W b g cap n ts hW hn hn1
 have hk : ((kindOf ts[n].t : Int) == 0) = false := by
  rw [beq_eq_false_iff_ne]
  omega
 have hk' : ¬ (kindOf ts[n].t : Int) = 0 := beq_eq_false_iff_ne.1 hk
 have hkn : ((kindOf ts[n].t : Int) != 0) = true := by rw [bne, hk]; rfl
 rw [h3] at HG
 have HM : Hid (∀ W, Rd W b g cap ts (n + 1) -> Calls Tryz.prog 107 #[.pointer (some ⟨b, 0, none⟩), .int .u64 65535] W fun e w' => e = .panicked (fltC 6 ts[n + 1].at') /\ Below W.heap.size W w') := fun W hW => number_big W b g cap (n + 1) ts hW hn1 65535 h4 (by omega)
 clear h3 hk0 h4 h5
 generalize fltC 6 ts[n + 1].at' = F at *
 clear h
 generalize ts[n] = x at *
 obtain ⟨xk, xa, xt, xn⟩ := x
 dsimp only at *
 generalize kindOf xt = K at *
 go_enter Tryz.func70, Tryz.ntmps70
 go_wp2_with fail
 generalize w.alloc (Obj.cells #[.int .i64 0, .int .i64 0] 55) = W0 at *
 go_wp2_with (first | (go_at_call 71; refine (HN.out _ A0.out.rd).mono ?_; rintro e w1 ⟨rfl, b1⟩; have A1 : Hid (Kr w b g cap ts n 55 (actL 0 0) w1) := A0.out.over b1) | (go_at_call 104; refine (HK.out _).mono ?_; rintro e w2 ⟨rfl, hw2⟩; subst w2) | (go_at_call 102; refine (needs_ok _ b 7).mono ?_; rintro e w2 ⟨rfl, hw2⟩; subst w2) | (go_at_call 105; refine (HP.out _ A1.out.rd).mono ?_; rintro e w2 ⟨rfl, b2, P2⟩; have A2 : Hid (Kr w b g cap ts (n + 1) 55 (actL 0 0) w2) := A1.out.on b2 P2) | (go_at_call 106; refine (HG.out _).mono ?_; rintro e w3 ⟨rfl, hw3⟩; subst w3) | (go_at_call 107; refine (HM.out _ A2.out.rd).mono ?_; rintro e w4 ⟨rfl, b4⟩))
 exact ⟨rfl, (A2.out.over b4).bt, rfl⟩
theorem act_ok (w : World) (b g cap n : Nat) (ts : List Tok) (h : Rd w b g cap ts n) (hn : n < ts.length) (hn1 : n + 1 < ts.length) (hk0 : ¬ kindOf ts[n].t = 0) (h3 : numK (kindOf ts[n].t) = true) (hn2 : n + 1 + 1 < ts.length) (h4 : isN ts[n + 1] = true) (h5 : ts[n + 1].n <= 65535) :
  Calls Tryz.prog 70 #[.pointer (some ⟨b, 0, none⟩)] w fun e w' => Bt b w w' /\ e = .returned (actV (kindOf ts[n].t) ts[n + 1].n) /\ Rd w' b g cap ts (n + 1 + 1) := by
 have A0 : Hid (Kr w b g cap ts n 55 (actL 0 0) (w.alloc (Obj.cells #[.int .i64 0, .int .i64 0] 55))) := kr_new h hn 55 _
 have HN : Hid (∀ W, Rd W b g cap ts n -> Calls Tryz.prog 71 #[.pointer (some ⟨b, 0, none⟩)] W fun e w' => e = .returned (.agg #[.int .i64 ts[n].k, .int .i64 ts[n].at', .string (bar ts[n].t), .int .u64 ts[n].n]) /\ Below W.heap.size W w') := fun W hW => next_at' W b g cap n ts hW hn
 have HK : Hid (∀ W : World, Calls Tryz.prog 104 #[.string (bar ts[n].t)] W fun e w' => e = .returned (.int .i64 (kindOf ts[n].t)) /\ w' = W) := fun W => kind_any ts[n].t W
 have h2 := fld2
 have HG : Hid (∀ W : World, Calls Tryz.prog 106 #[.int .i64 (kindOf ts[n].t)] W fun e w' => e = .returned (.bool (numK (kindOf ts[n].t))) /\ w' = W) := fun W => has_any _ W
 have HP : Hid (∀ W, Rd W b g cap ts n -> Calls Tryz.prog 105 #[.pointer (some ⟨b, 0, none⟩)] W fun e w' => e = .returned (.agg #[.int .i64 ts[n].k, .int .i64 ts[n].at', .string (bar ts[n].t), .int .u64 ts[n].n]) /\ Bt b W w' /\ Rd w' b g cap ts (n + 1)) := fun W hW => pass_at W b g cap n ts hW hn hn1
 have hk : ((kindOf ts[n].t : Int) == 0) = false := by
  rw [beq_eq_false_iff_ne]
  omega
 have hk' : ¬ (kindOf ts[n].t : Int) = 0 := beq_eq_false_iff_ne.1 hk
 have hkn : ((kindOf ts[n].t : Int) != 0) = true := by rw [bne, hk]; rfl
 rw [h3] at HG
 have HM : Hid (∀ W, Rd W b g cap ts (n + 1) -> Calls Tryz.prog 107 #[.pointer (some ⟨b, 0, none⟩), .int .u64 65535] W fun e w' => e = .returned (.int .u64 ts[n + 1].n) /\ Bt b W w' /\ Rd w' b g cap ts (n + 1 + 1)) := fun W hW => number_ok W b g cap (n + 1) ts hW hn1 hn2 65535 h4 (by omega)
 have hN : ((ts[n + 1].n : Nat) : Int) <= 65535 := by omega
 clear h3 hk0 h4 h5
 generalize ts[n + 1].n = N at *
 clear h
 generalize ts[n] = x at *
 obtain ⟨xk, xa, xt, xn⟩ := x
 dsimp only at *
 generalize kindOf xt = K at *
 go_enter Tryz.func70, Tryz.ntmps70
 go_wp2_with fail
 generalize w.alloc (Obj.cells #[.int .i64 0, .int .i64 0] 55) = W0 at *
 go_wp2_with (first | (go_at_call 71; refine (HN.out _ A0.out.rd).mono ?_; rintro e w1 ⟨rfl, b1⟩; have A1 : Hid (Kr w b g cap ts n 55 (actL 0 0) w1) := A0.out.over b1) | (go_at_call 104; refine (HK.out _).mono ?_; rintro e w2 ⟨rfl, hw2⟩; subst w2) | (go_at_call 102; refine (needs_ok _ b 7).mono ?_; rintro e w2 ⟨rfl, hw2⟩; subst w2) | (go_at_call 105; refine (HP.out _ A1.out.rd).mono ?_; rintro e w2 ⟨rfl, b2, P2⟩; have A2 : Hid (Kr w b g cap ts (n + 1) 55 (actL 0 0) w2) := A1.out.on b2 P2) | (go_at_call 106; refine (HG.out _).mono ?_; rintro e w3 ⟨rfl, hw3⟩; subst w3) | (go_at_call 107; refine (HM.out _ A2.out.rd).mono ?_; rintro e w4 ⟨rfl, b4, P4⟩; have A4 : Hid (Kr w b g cap ts (n + 1 + 1) 55 (actL 0 0) w4) := A2.out.on b4 P4) | (refine at_op' (.store 55 (.tmp 2) (.tmp 23)) rfl ?_; refine wpList_store_row rfl 55 (.tmp 2) (.tmp 23) rfl w.heap.size (actL K N).toArray rfl rfl 55 _ A4.out.blk (actL_size _ _) rfl (actL_one _ _) ?_))
 refine bodyPost_ret (v := actV K N) ?_ rfl ⟨(A4.out.row (actL K N)).bt, rfl, (A4.out.row (actL K N)).rd⟩
 exact results_cell_row Tryz.results70 _ _ w.heap.size 55 (actL K N).toArray (0, 0) _ rfl (A4.out.row (actL K N)).blk Tryz.underlying55 rfl (actL_size _ _)
theorem act_any (w : World) (b g cap n : Nat) (ts : List Tok) (hT : Tks ts) (h : Rd w b g cap ts n) (hn : n < ts.length) :
  Calls Tryz.prog 70 #[.pointer (some ⟨b, 0, none⟩)] w fun e w' => Bt b w w' /\ Dsc (actD (ts.drop n)) acV b g cap ts e w' := by
 have hA := (hT.tk n hn).isA
 rw [drop_at hn]
 simp only [actD]
 rcases Bool.eq_false_or_eq_true (isA ts[n]) with h1 | h1
 ·have hn1 := hT.nx n hn (isA_4 h1)
  have hk : ¬ kindOf ts[n].t = 0 := by
   rw [h1] at hA
   simpa using hA
  rw [if_pos h1]
  rcases Bool.eq_false_or_eq_true (numK (kindOf ts[n].t)) with h3 | h3
  ·rw [if_pos h3, drop_at hn1]
   simp only
   rcases Bool.eq_false_or_eq_true (isN ts[n + 1]) with h4 | h4
   ·rw [if_pos h4]
    by_cases h5 : 65535 < ts[n + 1].n
    ·rw [if_pos h5]
     exact act_big w b g cap n ts h hn hn1 hk h3 h4 h5
    ·rw [if_neg h5]
     have hn2 := hT.nx (n + 1) hn1 (isN_4 h4)
     refine (act_ok w b g cap n ts h hn hn1 hk h3 hn2 h4 (by omega)).mono ?_
     rintro e w' ⟨hb, rfl, hp⟩
     exact ⟨hb, _, rfl, hn2, rfl, hp⟩
   ·rw [if_neg (not_of h4)]
    exact act_no w b g cap n ts h hn hn1 hk h3 h4
  ·rw [if_neg (not_of h3)]
   refine (act_plain w b g cap n ts h hn hn1 hk h3).mono ?_
   rintro e w' ⟨hb, rfl, hp⟩
   exact ⟨hb, _, rfl, hn1, rfl, hp⟩
 ·have hk : kindOf ts[n].t = 0 := by
   rw [h1] at hA
   simpa using hA
  rw [if_neg (not_of h1)]
  exact act_bad w b g cap n ts h hn hk
end Go.Proofs.YtmcgcbgblgmmkaaGreatDoor.P
