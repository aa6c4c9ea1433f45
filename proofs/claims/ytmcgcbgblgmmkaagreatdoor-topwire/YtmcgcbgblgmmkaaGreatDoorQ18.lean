/-
  PRd6.
-/
import Derived.Test.YtmcgcbgblgmmkaaGreatDoorQ17
set_option maxRecDepth 8000
set_option maxHeartbeats 4000000
namespace Go.Proofs.YtmcgcbgblgmmkaaGreatDoor.P
open M (bar lst)
open Go.RowKit
theorem Tryz.sizeCond : (Tryz.prog.info? 222).map (·.size) = some 4 := by kernel_rfl
def condL (a o m v : Int) : List Value := [.int .i64 a, .int .i64 o, .int .u64 m, .int .u64 v]
def condV (a o m v : Int) : Value := .agg #[.int .i64 a, .int .i64 o, .int .u64 m, .int .u64 v]
theorem condL_size (a o m v : Int) : (Tryz.prog.info? 222).map (·.size) = some (condL a o m v).toArray.size := Tryz.sizeCond
theorem condL_one (a o m v : Int) : (condL a o m v).toArray.all (·.oneCell') = true := by simp [condL, Value.oneCell']
theorem cond_bad (w : World) (b g cap n : Nat) (ts : List Tok) (k : Nat) (h : Rd w b g cap ts n) (hn : n < ts.length)  (hk : argOf ts[n].t = 0) :
  Calls Tryz.prog 140 #[.pointer (some ⟨b, 0, none⟩), .int .i64 k] w fun e w' => Bt b w w' /\ e = .panicked (fltC 7 ts[n].at') := by
 have hn0 := hn
 obtain ⟨x0, hx0⟩ : ∃ x, x = ts[n] := ⟨_, rfl⟩
 have A0 : Hid (Kr w b g cap ts n 222 (condL 0 0 0 0) (w.alloc (Obj.cells #[.int .i64 0, .int .i64 0, .int .u64 0, .int .u64 0] 222))) := kr_new h hn 222 _
 have h2 := fld2
 have HN0 : Hid (∀ W, Rd W b g cap ts (n) -> Calls Tryz.prog 71 #[.pointer (some ⟨b, 0, none⟩)] W fun e w' => e = .returned (.agg #[.int .i64 x0.k, .int .i64 x0.at', .string (bar x0.t), .int .u64 x0.n]) /\ Below W.heap.size W w') := fun W hW => by subst hx0; exact next_at' W b g cap (n) ts hW hn0
 have HF : Hid (∀ W, Rd W b g cap ts (n) -> Calls Tryz.prog 102 #[.pointer (some ⟨b, 0, none⟩), .bool false, .int .i64 7] W fun e w' => e = .panicked (fltC 7 x0.at') /\ Below W.heap.size W w') := fun W hW => by subst hx0; exact needs_flt W b g cap (n) ts hW hn0 7
 have HA : Hid (∀ W : World, Calls Tryz.prog 168 #[.string (bar x0.t)] W fun e w' => e = .returned (.int .i64 (-1)) /\ Below W.heap.size W w') := fun W => by have := arg_any x0.t W; rw [hx0, hk] at this; rw [hx0]; exact this
 rw [<- hx0]
 clear hk hx0
 generalize fltC 7 x0.at' = F at *
 clear h 
 go_enter Tryz.func140, Tryz.ntmps140
 go_wp2_with fail
 generalize (w.alloc (Obj.cells #[.int .i64 0, .int .i64 0, .int .u64 0, .int .u64 0] 222)) = W0 at *
 refine (HN0.out _ A0.out.rd).mono ?_
 rintro e w1 ⟨rfl, b1⟩
 have A1 : Hid (Kr w b g cap ts (n) 222 (condL 0 0 0 0) w1) := A0.out.over b1
 clear b1 A0
 go_wp2_with fail
 refine (HA.out _).mono ?_
 rintro e w2 ⟨rfl, b2⟩
 have A2 : Hid (Kr w b g cap ts (n) 222 (condL 0 0 0 0) w2) := A1.out.over b2
 clear b2 A1
 go_wp2_with fail
 refine (HF.out _ A2.out.rd).mono ?_
 rintro e w3 ⟨rfl, b3⟩
 go_wp2_with fail
 exact ⟨rfl, (A2.out.over b3).bt, rfl⟩
theorem cond_full (w : World) (b g cap n : Nat) (ts : List Tok) (k : Nat) (h : Rd w b g cap ts n) (hn : n < ts.length)  (hk : ¬ argOf ts[n].t = 0) (hj : 8 <= k) :
  Calls Tryz.prog 140 #[.pointer (some ⟨b, 0, none⟩), .int .i64 k] w fun e w' => Bt b w w' /\ e = .panicked (fltC 4 ts[n].at') := by
 have hn0 := hn
 obtain ⟨x0, hx0⟩ : ∃ x, x = ts[n] := ⟨_, rfl⟩
 have A0 : Hid (Kr w b g cap ts n 222 (condL 0 0 0 0) (w.alloc (Obj.cells #[.int .i64 0, .int .i64 0, .int .u64 0, .int .u64 0] 222))) := kr_new h hn 222 _
 have h2 := fld2
 have HN0 : Hid (∀ W, Rd W b g cap ts (n) -> Calls Tryz.prog 71 #[.pointer (some ⟨b, 0, none⟩)] W fun e w' => e = .returned (.agg #[.int .i64 x0.k, .int .i64 x0.at', .string (bar x0.t), .int .u64 x0.n]) /\ Below W.heap.size W w') := fun W hW => by subst hx0; exact next_at' W b g cap (n) ts hW hn0
 have HF : Hid (∀ W, Rd W b g cap ts (n) -> Calls Tryz.prog 102 #[.pointer (some ⟨b, 0, none⟩), .bool false, .int .i64 4] W fun e w' => e = .panicked (fltC 4 x0.at') /\ Below W.heap.size W w') := fun W hW => by subst hx0; exact needs_flt W b g cap (n) ts hW hn0 4
 have HA : Hid (∀ W : World, Calls Tryz.prog 168 #[.string (bar x0.t)] W fun e w' => e = .returned (.int .i64 (argOf x0.t - 1 : Nat)) /\ Below W.heap.size W w') := fun W => by have := arg_any x0.t W; rw [show ((argOf x0.t : Int) - 1) = ((argOf x0.t - 1 : Nat) : Int) by rw [hx0]; omega] at this; exact this
 have hd : decide ((k : Int) < 8) = false := by simp; omega
 have hge : (0 : Int) <= ((argOf x0.t - 1 : Nat) : Int) := by omega
 rw [<- hx0]
 clear hk hx0 hj
 generalize fltC 4 x0.at' = F at *
 generalize argOf x0.t - 1 = G at *
 clear h 
 go_enter Tryz.func140, Tryz.ntmps140
 go_wp2_with fail
 generalize (w.alloc (Obj.cells #[.int .i64 0, .int .i64 0, .int .u64 0, .int .u64 0] 222)) = W0 at *
 refine (HN0.out _ A0.out.rd).mono ?_
 rintro e w1 ⟨rfl, b1⟩
 have A1 : Hid (Kr w b g cap ts (n) 222 (condL 0 0 0 0) w1) := A0.out.over b1
 clear b1 A0
 go_wp2_with fail
 refine (HA.out _).mono ?_
 rintro e w2 ⟨rfl, b2⟩
 have A2 : Hid (Kr w b g cap ts (n) 222 (condL 0 0 0 0) w2) := A1.out.over b2
 clear b2 A1
 go_wp2_with fail
 refine (needs_ok _ b 7).mono ?_
 rintro e w3 ⟨rfl, hw3⟩
 subst w3
 go_wp2_with fail
 refine (HF.out _ A2.out.rd).mono ?_
 rintro e w4 ⟨rfl, b4⟩
 go_wp2_with fail
 exact ⟨rfl, (A2.out.over b4).bt, rfl⟩
theorem cond_a0 (w : World) (b g cap n : Nat) (ts : List Tok) (k : Nat) (h : Rd w b g cap ts n) (hn : n < ts.length) (hn1 : n + 1 < ts.length) (hn2 : n + 1 + 1 < ts.length) (hk : ¬ argOf ts[n].t = 0) (hj : k < 8) (hI : (ts[n + 1].t == lst ⟨#[38]⟩) = true) (hN2 : isN ts[n + 1 + 1] = false) :
  Calls Tryz.prog 140 #[.pointer (some ⟨b, 0, none⟩), .int .i64 k] w fun e w' => Bt b w w' /\ e = .panicked (fltC 7 ts[n + 1 + 1].at') := by
 have hn0 := hn
 obtain ⟨x0, hx0⟩ : ∃ x, x = ts[n] := ⟨_, rfl⟩
 obtain ⟨x2, hx2⟩ : ∃ x, x = ts[n + 1 + 1] := ⟨_, rfl⟩
 have A0 : Hid (Kr w b g cap ts n 222 (condL 0 0 0 0) (w.alloc (Obj.cells #[.int .i64 0, .int .i64 0, .int .u64 0, .int .u64 0] 222))) := kr_new h hn 222 _
 have h2 := fld2
 have HN0 : Hid (∀ W, Rd W b g cap ts (n) -> Calls Tryz.prog 71 #[.pointer (some ⟨b, 0, none⟩)] W fun e w' => e = .returned (.agg #[.int .i64 x0.k, .int .i64 x0.at', .string (bar x0.t), .int .u64 x0.n]) /\ Below W.heap.size W w') := fun W hW => by subst hx0; exact next_at' W b g cap (n) ts hW hn0
 have HA : Hid (∀ W : World, Calls Tryz.prog 168 #[.string (bar x0.t)] W fun e w' => e = .returned (.int .i64 (argOf x0.t - 1 : Nat)) /\ Below W.heap.size W w') := fun W => by have := arg_any x0.t W; rw [show ((argOf x0.t : Int) - 1) = ((argOf x0.t - 1 : Nat) : Int) by rw [hx0]; omega] at this; exact this
 have HP0 : Hid (∀ W, Rd W b g cap ts (n) -> Calls Tryz.prog 105 #[.pointer (some ⟨b, 0, none⟩)] W fun e w' => e = .returned (.agg #[.int .i64 x0.k, .int .i64 x0.at', .string (bar x0.t), .int .u64 x0.n]) /\ Bt b W w' /\ Rd w' b g cap ts (n + 1)) := fun W hW => by subst hx0; exact pass_at W b g cap (n) ts hW hn0 hn1
 have hd : decide ((k : Int) < 8) = true := by simp; omega
 have hge : (0 : Int) <= ((argOf x0.t - 1 : Nat) : Int) := by omega
 have HI : Hid (∀ W, Rd W b g cap ts (n + 1) -> Calls Tryz.prog 103 #[.pointer (some ⟨b, 0, none⟩), .string ⟨#[38]⟩] W fun e w' => e = .returned (.bool true) /\ Bt b W w' /\ Rd w' b g cap ts (n + 1 + 1)) := fun W hW => passIf_ok W b g cap (n + 1) ts hW hn1 hn2 _ hI
 have HM2 : Hid (∀ W, Rd W b g cap ts (n + 1 + 1) -> Calls Tryz.prog 107 #[.pointer (some ⟨b, 0, none⟩), .int .u64 18446744073709551615] W fun e w' => e = .panicked (fltC 7 x2.at') /\ Below W.heap.size W w') := fun W hW => by subst hx2; exact number_no W b g cap (n + 1 + 1) ts hW hn2 _ hN2
 rw [<- hx2]
 clear hk hj hI hx0 hx2 hN2
 generalize fltC 7 x2.at' = F at *
 generalize argOf x0.t - 1 = G at *
 clear h 
 go_enter Tryz.func140, Tryz.ntmps140
 go_wp2_with fail
 generalize (w.alloc (Obj.cells #[.int .i64 0, .int .i64 0, .int .u64 0, .int .u64 0] 222)) = W0 at *
 refine (HN0.out _ A0.out.rd).mono ?_
 rintro e w1 ⟨rfl, b1⟩
 have A1 : Hid (Kr w b g cap ts (n) 222 (condL 0 0 0 0) w1) := A0.out.over b1
 clear b1 A0
 go_wp2_with fail
 refine (HA.out _).mono ?_
 rintro e w2 ⟨rfl, b2⟩
 have A2 : Hid (Kr w b g cap ts (n) 222 (condL 0 0 0 0) w2) := A1.out.over b2
 clear b2 A1
 go_wp2_with fail
 refine (needs_ok _ b 7).mono ?_
 rintro e w3 ⟨rfl, hw3⟩
 subst w3
 go_wp2_with fail
 refine (needs_ok _ b 4).mono ?_
 rintro e w4 ⟨rfl, hw4⟩
 subst w4
 go_wp2_with fail
 refine (HP0.out _ A2.out.rd).mono ?_
 rintro e w5 ⟨rfl, b5, P5⟩
 have A3 : Hid (Kr w b g cap ts (n + 1) 222 (condL 0 0 0 0) w5) := A2.out.on b5 P5
 clear b5 P5 A2
 obtain ⟨X, hX⟩ : ∃ X, (w5.alloc (Obj.cells #[.int .i64 G, .int .i64 0, .int .u64 18446744073709551615, .int .u64 0] 222)) = X := ⟨_, rfl⟩
 have HX : Hid ((w5.alloc (Obj.cells #[.int .i64 G, .int .i64 0, .int .u64 18446744073709551615, .int .u64 0] 222)) = X) := hX
 obtain ⟨r, hr⟩ : ∃ r, r = w5.heap.size := ⟨_, rfl⟩
 have A4 : Hid (Kq w b g cap ts (n + 1) 222 (condL 0 0 0 0) r 222 (condL G 0 18446744073709551615 0) X) := by show Kq w b g cap ts (n + 1) 222 (condL 0 0 0 0) r 222 (condL G 0 18446744073709551615 0) X; rw [<- hX, hr]; exact A3.out.new 222 _
 clear hX A3
 go_wp2_with (refine switch_world' HX.out ?_)
 rw [<- hr]
 clear hr HX
 refine (HI.out _ A4.out.rd).mono ?_
 rintro e w6 ⟨rfl, b6, P6⟩
 have A5 : Hid (Kq w b g cap ts (n + 1 + 1) 222 (condL 0 0 0 0) r 222 (condL G 0 18446744073709551615 0) w6) := A4.out.on b6 P6
 clear b6 P6 A4
 go_wp2_with fail
 refine (HM2.out _ A5.out.rd).mono ?_
 rintro e w7 ⟨rfl, b7⟩
 go_wp2_with fail
 exact ⟨rfl, (A5.out.over b7).kr.bt, rfl⟩
theorem cond_a1 (w : World) (b g cap n : Nat) (ts : List Tok) (k : Nat) (h : Rd w b g cap ts n) (hn : n < ts.length) (hn1 : n + 1 < ts.length) (hn2 : n + 1 + 1 < ts.length) (hn3 : n + 1 + 1 + 1 < ts.length) (hk : ¬ argOf ts[n].t = 0) (hj : k < 8) (hI : (ts[n + 1].t == lst ⟨#[38]⟩) = true) (hN2 : isN ts[n + 1 + 1] = true) (hU2 : ts[n + 1 + 1].n < 18446744073709551616) (hO : opOf ts[n + 1 + 1 + 1].t = 0) :
  Calls Tryz.prog 140 #[.pointer (some ⟨b, 0, none⟩), .int .i64 k] w fun e w' => Bt b w w' /\ e = .panicked (fltC 7 ts[n + 1 + 1 + 1].at') := by
 have hn0 := hn
 obtain ⟨x0, hx0⟩ : ∃ x, x = ts[n] := ⟨_, rfl⟩
 obtain ⟨x2, hx2⟩ : ∃ x, x = ts[n + 1 + 1] := ⟨_, rfl⟩
 obtain ⟨x3, hx3⟩ : ∃ x, x = ts[n + 1 + 1 + 1] := ⟨_, rfl⟩
 have A0 : Hid (Kr w b g cap ts n 222 (condL 0 0 0 0) (w.alloc (Obj.cells #[.int .i64 0, .int .i64 0, .int .u64 0, .int .u64 0] 222))) := kr_new h hn 222 _
 have h2 := fld2
 have HN0 : Hid (∀ W, Rd W b g cap ts (n) -> Calls Tryz.prog 71 #[.pointer (some ⟨b, 0, none⟩)] W fun e w' => e = .returned (.agg #[.int .i64 x0.k, .int .i64 x0.at', .string (bar x0.t), .int .u64 x0.n]) /\ Below W.heap.size W w') := fun W hW => by subst hx0; exact next_at' W b g cap (n) ts hW hn0
 have HA : Hid (∀ W : World, Calls Tryz.prog 168 #[.string (bar x0.t)] W fun e w' => e = .returned (.int .i64 (argOf x0.t - 1 : Nat)) /\ Below W.heap.size W w') := fun W => by have := arg_any x0.t W; rw [show ((argOf x0.t : Int) - 1) = ((argOf x0.t - 1 : Nat) : Int) by rw [hx0]; omega] at this; exact this
 have HP0 : Hid (∀ W, Rd W b g cap ts (n) -> Calls Tryz.prog 105 #[.pointer (some ⟨b, 0, none⟩)] W fun e w' => e = .returned (.agg #[.int .i64 x0.k, .int .i64 x0.at', .string (bar x0.t), .int .u64 x0.n]) /\ Bt b W w' /\ Rd w' b g cap ts (n + 1)) := fun W hW => by subst hx0; exact pass_at W b g cap (n) ts hW hn0 hn1
 have hd : decide ((k : Int) < 8) = true := by simp; omega
 have hge : (0 : Int) <= ((argOf x0.t - 1 : Nat) : Int) := by omega
 have HI : Hid (∀ W, Rd W b g cap ts (n + 1) -> Calls Tryz.prog 103 #[.pointer (some ⟨b, 0, none⟩), .string ⟨#[38]⟩] W fun e w' => e = .returned (.bool true) /\ Bt b W w' /\ Rd w' b g cap ts (n + 1 + 1)) := fun W hW => passIf_ok W b g cap (n + 1) ts hW hn1 hn2 _ hI
 have HM2 : Hid (∀ W, Rd W b g cap ts (n + 1 + 1) -> Calls Tryz.prog 107 #[.pointer (some ⟨b, 0, none⟩), .int .u64 18446744073709551615] W fun e w' => e = .returned (.int .u64 x2.n) /\ Bt b W w' /\ Rd w' b g cap ts (n + 1 + 1 + 1)) := fun W hW => by subst hx2; exact number_ok W b g cap (n + 1 + 1) ts hW hn2 hn3 _ hN2 (by have := hU2; omega)
 have HN3 : Hid (∀ W, Rd W b g cap ts (n + 1 + 1 + 1) -> Calls Tryz.prog 71 #[.pointer (some ⟨b, 0, none⟩)] W fun e w' => e = .returned (.agg #[.int .i64 x3.k, .int .i64 x3.at', .string (bar x3.t), .int .u64 x3.n]) /\ Below W.heap.size W w') := fun W hW => by subst hx3; exact next_at' W b g cap (n + 1 + 1 + 1) ts hW hn3
 have HO : Hid (∀ W : World, Calls Tryz.prog 169 #[.string (bar x3.t)] W fun e w' => e = .returned (.int .i64 (opOf x3.t)) /\ w' = W) := fun W => op_any _ W
 have HF : Hid (∀ W, Rd W b g cap ts (n + 1 + 1 + 1) -> Calls Tryz.prog 102 #[.pointer (some ⟨b, 0, none⟩), .bool false, .int .i64 7] W fun e w' => e = .panicked (fltC 7 x3.at') /\ Below W.heap.size W w') := fun W hW => by subst hx3; exact needs_flt W b g cap (n + 1 + 1 + 1) ts hW hn3 7
 rw [show opOf x3.t = 0 by rw [hx3]; exact hO] at HO
 rw [<- hx3]
 clear hk hj hI hx0 hx2 hx3 hN2 hU2 hO
 generalize fltC 7 x3.at' = F at *
 generalize argOf x0.t - 1 = G at *
 clear h 
 go_enter Tryz.func140, Tryz.ntmps140
 go_wp2_with fail
 generalize (w.alloc (Obj.cells #[.int .i64 0, .int .i64 0, .int .u64 0, .int .u64 0] 222)) = W0 at *
 refine (HN0.out _ A0.out.rd).mono ?_
 rintro e w1 ⟨rfl, b1⟩
 have A1 : Hid (Kr w b g cap ts (n) 222 (condL 0 0 0 0) w1) := A0.out.over b1
 clear b1 A0
 go_wp2_with fail
 refine (HA.out _).mono ?_
 rintro e w2 ⟨rfl, b2⟩
 have A2 : Hid (Kr w b g cap ts (n) 222 (condL 0 0 0 0) w2) := A1.out.over b2
 clear b2 A1
 go_wp2_with fail
 refine (needs_ok _ b 7).mono ?_
 rintro e w3 ⟨rfl, hw3⟩
 subst w3
 go_wp2_with fail
 refine (needs_ok _ b 4).mono ?_
 rintro e w4 ⟨rfl, hw4⟩
 subst w4
 go_wp2_with fail
 refine (HP0.out _ A2.out.rd).mono ?_
 rintro e w5 ⟨rfl, b5, P5⟩
 have A3 : Hid (Kr w b g cap ts (n + 1) 222 (condL 0 0 0 0) w5) := A2.out.on b5 P5
 clear b5 P5 A2
 obtain ⟨X, hX⟩ : ∃ X, (w5.alloc (Obj.cells #[.int .i64 G, .int .i64 0, .int .u64 18446744073709551615, .int .u64 0] 222)) = X := ⟨_, rfl⟩
 have HX : Hid ((w5.alloc (Obj.cells #[.int .i64 G, .int .i64 0, .int .u64 18446744073709551615, .int .u64 0] 222)) = X) := hX
 obtain ⟨r, hr⟩ : ∃ r, r = w5.heap.size := ⟨_, rfl⟩
 have A4 : Hid (Kq w b g cap ts (n + 1) 222 (condL 0 0 0 0) r 222 (condL G 0 18446744073709551615 0) X) := by show Kq w b g cap ts (n + 1) 222 (condL 0 0 0 0) r 222 (condL G 0 18446744073709551615 0) X; rw [<- hX, hr]; exact A3.out.new 222 _
 clear hX A3
 go_wp2_with (refine switch_world' HX.out ?_)
 rw [<- hr]
 clear hr HX
 refine (HI.out _ A4.out.rd).mono ?_
 rintro e w6 ⟨rfl, b6, P6⟩
 have A5 : Hid (Kq w b g cap ts (n + 1 + 1) 222 (condL 0 0 0 0) r 222 (condL G 0 18446744073709551615 0) w6) := A4.out.on b6 P6
 clear b6 P6 A4
 go_wp2_with fail
 refine (HM2.out _ A5.out.rd).mono ?_
 rintro e w7 ⟨rfl, b7, P7⟩
 have A6 : Hid (Kq w b g cap ts (n + 1 + 1 + 1) 222 (condL 0 0 0 0) r 222 (condL G 0 18446744073709551615 0) w7) := A5.out.on b7 P7
 clear b7 P7 A5
 have c8 : w7.cell? ⟨r, 2, none⟩ = some _ := A6.out.blk.cell 2
 have f8 := A6.out.blk.f 2
 obtain ⟨Z8, hZ⟩ : ∃ Z, w7.setCell ⟨r, 2, none⟩ (.int .u64 x2.n) = Z := ⟨_, rfl⟩
 have HZ8 : Hid (w7.setCell ⟨r, 2, none⟩ (.int .u64 x2.n) = Z8) := hZ
 have A7 : Hid (Kq w b g cap ts (n + 1 + 1 + 1) 222 (condL 0 0 0 0) r 222 (condL G 0 x2.n 0) Z8) := by show Kq w b g cap ts (n + 1 + 1 + 1) 222 (condL 0 0 0 0) r 222 (condL G 0 x2.n 0) Z8; rw [<- hZ]; exact A6.out.set 2 _
 clear hZ A6
 go_wp2_with (refine switch_world' HZ8.out ?_)
 refine (HN3.out _ A7.out.rd).mono ?_
 rintro e w9 ⟨rfl, b9⟩
 have A8 : Hid (Kq w b g cap ts (n + 1 + 1 + 1) 222 (condL 0 0 0 0) r 222 (condL G 0 x2.n 0) w9) := A7.out.over b9
 clear b9 A7
 go_wp2_with fail
 refine (HO.out _).mono ?_
 rintro e w10 ⟨rfl, hw10⟩
 subst w10
 have c11 : w9.cell? ⟨r, 1, none⟩ = some _ := A8.out.blk.cell 1
 have f11 := A8.out.blk.f 1
 obtain ⟨Z11, hZ⟩ : ∃ Z, w9.setCell ⟨r, 1, none⟩ (.int .i64 0) = Z := ⟨_, rfl⟩
 have HZ11 : Hid (w9.setCell ⟨r, 1, none⟩ (.int .i64 0) = Z11) := hZ
 have A9 : Hid (Kq w b g cap ts (n + 1 + 1 + 1) 222 (condL 0 0 0 0) r 222 (condL G 0 x2.n 0) Z11) := by show Kq w b g cap ts (n + 1 + 1 + 1) 222 (condL 0 0 0 0) r 222 (condL G 0 x2.n 0) Z11; rw [<- hZ]; exact A8.out.set 1 _
 clear hZ A8
 have d1 : Z11.cell? ⟨r, 1, none⟩ = some (.int .i64 0) := A9.out.blk.cell 1
 go_wp2_with (refine switch_world' HZ11.out ?_)
 refine (HF.out _ A9.out.rd).mono ?_
 rintro e w12 ⟨rfl, b12⟩
 go_wp2_with fail
 exact ⟨rfl, (A9.out.over b12).kr.bt, rfl⟩
theorem cond_a2 (w : World) (b g cap n : Nat) (ts : List Tok) (k : Nat) (h : Rd w b g cap ts n) (hn : n < ts.length) (hn1 : n + 1 < ts.length) (hn2 : n + 1 + 1 < ts.length) (hn3 : n + 1 + 1 + 1 < ts.length) (hn4 : n + 1 + 1 + 1 + 1 < ts.length) (hk : ¬ argOf ts[n].t = 0) (hj : k < 8) (hI : (ts[n + 1].t == lst ⟨#[38]⟩) = true) (hN2 : isN ts[n + 1 + 1] = true) (hU2 : ts[n + 1 + 1].n < 18446744073709551616) (hO : ¬ opOf ts[n + 1 + 1 + 1].t = 0) (hN4 : isN ts[n + 1 + 1 + 1 + 1] = false) :
  Calls Tryz.prog 140 #[.pointer (some ⟨b, 0, none⟩), .int .i64 k] w fun e w' => Bt b w w' /\ e = .panicked (fltC 7 ts[n + 1 + 1 + 1 + 1].at') := by
 have hn0 := hn
 obtain ⟨x0, hx0⟩ : ∃ x, x = ts[n] := ⟨_, rfl⟩
 obtain ⟨x2, hx2⟩ : ∃ x, x = ts[n + 1 + 1] := ⟨_, rfl⟩
 obtain ⟨x3, hx3⟩ : ∃ x, x = ts[n + 1 + 1 + 1] := ⟨_, rfl⟩
 obtain ⟨x4, hx4⟩ : ∃ x, x = ts[n + 1 + 1 + 1 + 1] := ⟨_, rfl⟩
 have A0 : Hid (Kr w b g cap ts n 222 (condL 0 0 0 0) (w.alloc (Obj.cells #[.int .i64 0, .int .i64 0, .int .u64 0, .int .u64 0] 222))) := kr_new h hn 222 _
 have h2 := fld2
 have HN0 : Hid (∀ W, Rd W b g cap ts (n) -> Calls Tryz.prog 71 #[.pointer (some ⟨b, 0, none⟩)] W fun e w' => e = .returned (.agg #[.int .i64 x0.k, .int .i64 x0.at', .string (bar x0.t), .int .u64 x0.n]) /\ Below W.heap.size W w') := fun W hW => by subst hx0; exact next_at' W b g cap (n) ts hW hn0
 have HA : Hid (∀ W : World, Calls Tryz.prog 168 #[.string (bar x0.t)] W fun e w' => e = .returned (.int .i64 (argOf x0.t - 1 : Nat)) /\ Below W.heap.size W w') := fun W => by have := arg_any x0.t W; rw [show ((argOf x0.t : Int) - 1) = ((argOf x0.t - 1 : Nat) : Int) by rw [hx0]; omega] at this; exact this
 have HP0 : Hid (∀ W, Rd W b g cap ts (n) -> Calls Tryz.prog 105 #[.pointer (some ⟨b, 0, none⟩)] W fun e w' => e = .returned (.agg #[.int .i64 x0.k, .int .i64 x0.at', .string (bar x0.t), .int .u64 x0.n]) /\ Bt b W w' /\ Rd w' b g cap ts (n + 1)) := fun W hW => by subst hx0; exact pass_at W b g cap (n) ts hW hn0 hn1
 have hd : decide ((k : Int) < 8) = true := by simp; omega
 have hge : (0 : Int) <= ((argOf x0.t - 1 : Nat) : Int) := by omega
 have HI : Hid (∀ W, Rd W b g cap ts (n + 1) -> Calls Tryz.prog 103 #[.pointer (some ⟨b, 0, none⟩), .string ⟨#[38]⟩] W fun e w' => e = .returned (.bool true) /\ Bt b W w' /\ Rd w' b g cap ts (n + 1 + 1)) := fun W hW => passIf_ok W b g cap (n + 1) ts hW hn1 hn2 _ hI
 have HM2 : Hid (∀ W, Rd W b g cap ts (n + 1 + 1) -> Calls Tryz.prog 107 #[.pointer (some ⟨b, 0, none⟩), .int .u64 18446744073709551615] W fun e w' => e = .returned (.int .u64 x2.n) /\ Bt b W w' /\ Rd w' b g cap ts (n + 1 + 1 + 1)) := fun W hW => by subst hx2; exact number_ok W b g cap (n + 1 + 1) ts hW hn2 hn3 _ hN2 (by have := hU2; omega)
 have HN3 : Hid (∀ W, Rd W b g cap ts (n + 1 + 1 + 1) -> Calls Tryz.prog 71 #[.pointer (some ⟨b, 0, none⟩)] W fun e w' => e = .returned (.agg #[.int .i64 x3.k, .int .i64 x3.at', .string (bar x3.t), .int .u64 x3.n]) /\ Below W.heap.size W w') := fun W hW => by subst hx3; exact next_at' W b g cap (n + 1 + 1 + 1) ts hW hn3
 have HO : Hid (∀ W : World, Calls Tryz.prog 169 #[.string (bar x3.t)] W fun e w' => e = .returned (.int .i64 (opOf x3.t)) /\ w' = W) := fun W => op_any _ W
 have hz : ((opOf x3.t : Int) == 0) = false := by rw [beq_eq_false_iff_ne, hx3]; omega
 have hzn : ((opOf x3.t : Int) != 0) = true := by rw [bne, hz]; rfl
 have HP3 : Hid (∀ W, Rd W b g cap ts (n + 1 + 1 + 1) -> Calls Tryz.prog 105 #[.pointer (some ⟨b, 0, none⟩)] W fun e w' => e = .returned (.agg #[.int .i64 x3.k, .int .i64 x3.at', .string (bar x3.t), .int .u64 x3.n]) /\ Bt b W w' /\ Rd w' b g cap ts (n + 1 + 1 + 1 + 1)) := fun W hW => by subst hx3; exact pass_at W b g cap (n + 1 + 1 + 1) ts hW hn3 hn4
 have HM4 : Hid (∀ W, Rd W b g cap ts (n + 1 + 1 + 1 + 1) -> Calls Tryz.prog 107 #[.pointer (some ⟨b, 0, none⟩), .int .u64 18446744073709551615] W fun e w' => e = .panicked (fltC 7 x4.at') /\ Below W.heap.size W w') := fun W hW => by subst hx4; exact number_no W b g cap (n + 1 + 1 + 1 + 1) ts hW hn4 _ hN4
 rw [<- hx4]
 clear hk hj hI hx0 hx2 hx3 hx4 hN2 hU2 hO hN4
 generalize fltC 7 x4.at' = F at *
 generalize argOf x0.t - 1 = G at *
 generalize opOf x3.t = O at *
 clear h 
 go_enter Tryz.func140, Tryz.ntmps140
 go_wp2_with fail
 generalize (w.alloc (Obj.cells #[.int .i64 0, .int .i64 0, .int .u64 0, .int .u64 0] 222)) = W0 at *
 refine (HN0.out _ A0.out.rd).mono ?_
 rintro e w1 ⟨rfl, b1⟩
 have A1 : Hid (Kr w b g cap ts (n) 222 (condL 0 0 0 0) w1) := A0.out.over b1
 clear b1 A0
 go_wp2_with fail
 refine (HA.out _).mono ?_
 rintro e w2 ⟨rfl, b2⟩
 have A2 : Hid (Kr w b g cap ts (n) 222 (condL 0 0 0 0) w2) := A1.out.over b2
 clear b2 A1
 go_wp2_with fail
 refine (needs_ok _ b 7).mono ?_
 rintro e w3 ⟨rfl, hw3⟩
 subst w3
 go_wp2_with fail
 refine (needs_ok _ b 4).mono ?_
 rintro e w4 ⟨rfl, hw4⟩
 subst w4
 go_wp2_with fail
 refine (HP0.out _ A2.out.rd).mono ?_
 rintro e w5 ⟨rfl, b5, P5⟩
 have A3 : Hid (Kr w b g cap ts (n + 1) 222 (condL 0 0 0 0) w5) := A2.out.on b5 P5
 clear b5 P5 A2
 obtain ⟨X, hX⟩ : ∃ X, (w5.alloc (Obj.cells #[.int .i64 G, .int .i64 0, .int .u64 18446744073709551615, .int .u64 0] 222)) = X := ⟨_, rfl⟩
 have HX : Hid ((w5.alloc (Obj.cells #[.int .i64 G, .int .i64 0, .int .u64 18446744073709551615, .int .u64 0] 222)) = X) := hX
 obtain ⟨r, hr⟩ : ∃ r, r = w5.heap.size := ⟨_, rfl⟩
 have A4 : Hid (Kq w b g cap ts (n + 1) 222 (condL 0 0 0 0) r 222 (condL G 0 18446744073709551615 0) X) := by show Kq w b g cap ts (n + 1) 222 (condL 0 0 0 0) r 222 (condL G 0 18446744073709551615 0) X; rw [<- hX, hr]; exact A3.out.new 222 _
 clear hX A3
 go_wp2_with (refine switch_world' HX.out ?_)
 rw [<- hr]
 clear hr HX
 refine (HI.out _ A4.out.rd).mono ?_
 rintro e w6 ⟨rfl, b6, P6⟩
 have A5 : Hid (Kq w b g cap ts (n + 1 + 1) 222 (condL 0 0 0 0) r 222 (condL G 0 18446744073709551615 0) w6) := A4.out.on b6 P6
 clear b6 P6 A4
 go_wp2_with fail
 refine (HM2.out _ A5.out.rd).mono ?_
 rintro e w7 ⟨rfl, b7, P7⟩
 have A6 : Hid (Kq w b g cap ts (n + 1 + 1 + 1) 222 (condL 0 0 0 0) r 222 (condL G 0 18446744073709551615 0) w7) := A5.out.on b7 P7
 clear b7 P7 A5
 have c8 : w7.cell? ⟨r, 2, none⟩ = some _ := A6.out.blk.cell 2
 have f8 := A6.out.blk.f 2
 obtain ⟨Z8, hZ⟩ : ∃ Z, w7.setCell ⟨r, 2, none⟩ (.int .u64 x2.n) = Z := ⟨_, rfl⟩
 have HZ8 : Hid (w7.setCell ⟨r, 2, none⟩ (.int .u64 x2.n) = Z8) := hZ
 have A7 : Hid (Kq w b g cap ts (n + 1 + 1 + 1) 222 (condL 0 0 0 0) r 222 (condL G 0 x2.n 0) Z8) := by show Kq w b g cap ts (n + 1 + 1 + 1) 222 (condL 0 0 0 0) r 222 (condL G 0 x2.n 0) Z8; rw [<- hZ]; exact A6.out.set 2 _
 clear hZ A6
 go_wp2_with (refine switch_world' HZ8.out ?_)
 refine (HN3.out _ A7.out.rd).mono ?_
 rintro e w9 ⟨rfl, b9⟩
 have A8 : Hid (Kq w b g cap ts (n + 1 + 1 + 1) 222 (condL 0 0 0 0) r 222 (condL G 0 x2.n 0) w9) := A7.out.over b9
 clear b9 A7
 go_wp2_with fail
 refine (HO.out _).mono ?_
 rintro e w10 ⟨rfl, hw10⟩
 subst w10
 have c11 : w9.cell? ⟨r, 1, none⟩ = some _ := A8.out.blk.cell 1
 have f11 := A8.out.blk.f 1
 obtain ⟨Z11, hZ⟩ : ∃ Z, w9.setCell ⟨r, 1, none⟩ (.int .i64 O) = Z := ⟨_, rfl⟩
 have HZ11 : Hid (w9.setCell ⟨r, 1, none⟩ (.int .i64 O) = Z11) := hZ
 have A9 : Hid (Kq w b g cap ts (n + 1 + 1 + 1) 222 (condL 0 0 0 0) r 222 (condL G O x2.n 0) Z11) := by show Kq w b g cap ts (n + 1 + 1 + 1) 222 (condL 0 0 0 0) r 222 (condL G O x2.n 0) Z11; rw [<- hZ]; exact A8.out.set 1 _
 clear hZ A8
 have d1 : Z11.cell? ⟨r, 1, none⟩ = some (.int .i64 O) := A9.out.blk.cell 1
 go_wp2_with (refine switch_world' HZ11.out ?_)
 refine (needs_ok _ b 7).mono ?_
 rintro e w12 ⟨rfl, hw12⟩
 subst w12
 go_wp2_with fail
 refine (HP3.out _ A9.out.rd).mono ?_
 rintro e w13 ⟨rfl, b13, P13⟩
 have A10 : Hid (Kq w b g cap ts (n + 1 + 1 + 1 + 1) 222 (condL 0 0 0 0) r 222 (condL G O x2.n 0) w13) := A9.out.on b13 P13
 clear b13 P13 A9
 go_wp2_with fail
 refine (HM4.out _ A10.out.rd).mono ?_
 rintro e w14 ⟨rfl, b14⟩
 go_wp2_with fail
 exact ⟨rfl, (A10.out.over b14).kr.bt, rfl⟩
theorem cond_a3 (w : World) (b g cap n : Nat) (ts : List Tok) (k : Nat) (h : Rd w b g cap ts n) (hn : n < ts.length) (hn1 : n + 1 < ts.length) (hn2 : n + 1 + 1 < ts.length) (hn3 : n + 1 + 1 + 1 < ts.length) (hn4 : n + 1 + 1 + 1 + 1 < ts.length) (hn5 : n + 1 + 1 + 1 + 1 + 1 < ts.length) (hk : ¬ argOf ts[n].t = 0) (hj : k < 8) (hI : (ts[n + 1].t == lst ⟨#[38]⟩) = true) (hN2 : isN ts[n + 1 + 1] = true) (hU2 : ts[n + 1 + 1].n < 18446744073709551616) (hO : ¬ opOf ts[n + 1 + 1 + 1].t = 0) (hN4 : isN ts[n + 1 + 1 + 1 + 1] = true) (hU4 : ts[n + 1 + 1 + 1 + 1].n < 18446744073709551616) :
  Calls Tryz.prog 140 #[.pointer (some ⟨b, 0, none⟩), .int .i64 k] w fun e w' => Bt b w w' /\ e = .returned (condV (argOf ts[n].t - 1 : Nat) (opOf ts[n + 1 + 1 + 1].t) (ts[n + 1 + 1].n : Nat) ts[n + 1 + 1 + 1 + 1].n) /\ Rd w' b g cap ts (n + 1 + 1 + 1 + 1 + 1) := by
 have hn0 := hn
 obtain ⟨x0, hx0⟩ : ∃ x, x = ts[n] := ⟨_, rfl⟩
 obtain ⟨x2, hx2⟩ : ∃ x, x = ts[n + 1 + 1] := ⟨_, rfl⟩
 obtain ⟨x3, hx3⟩ : ∃ x, x = ts[n + 1 + 1 + 1] := ⟨_, rfl⟩
 obtain ⟨x4, hx4⟩ : ∃ x, x = ts[n + 1 + 1 + 1 + 1] := ⟨_, rfl⟩
 have A0 : Hid (Kr w b g cap ts n 222 (condL 0 0 0 0) (w.alloc (Obj.cells #[.int .i64 0, .int .i64 0, .int .u64 0, .int .u64 0] 222))) := kr_new h hn 222 _
 have h2 := fld2
 have HN0 : Hid (∀ W, Rd W b g cap ts (n) -> Calls Tryz.prog 71 #[.pointer (some ⟨b, 0, none⟩)] W fun e w' => e = .returned (.agg #[.int .i64 x0.k, .int .i64 x0.at', .string (bar x0.t), .int .u64 x0.n]) /\ Below W.heap.size W w') := fun W hW => by subst hx0; exact next_at' W b g cap (n) ts hW hn0
 have HA : Hid (∀ W : World, Calls Tryz.prog 168 #[.string (bar x0.t)] W fun e w' => e = .returned (.int .i64 (argOf x0.t - 1 : Nat)) /\ Below W.heap.size W w') := fun W => by have := arg_any x0.t W; rw [show ((argOf x0.t : Int) - 1) = ((argOf x0.t - 1 : Nat) : Int) by rw [hx0]; omega] at this; exact this
 have HP0 : Hid (∀ W, Rd W b g cap ts (n) -> Calls Tryz.prog 105 #[.pointer (some ⟨b, 0, none⟩)] W fun e w' => e = .returned (.agg #[.int .i64 x0.k, .int .i64 x0.at', .string (bar x0.t), .int .u64 x0.n]) /\ Bt b W w' /\ Rd w' b g cap ts (n + 1)) := fun W hW => by subst hx0; exact pass_at W b g cap (n) ts hW hn0 hn1
 have hd : decide ((k : Int) < 8) = true := by simp; omega
 have hge : (0 : Int) <= ((argOf x0.t - 1 : Nat) : Int) := by omega
 have HI : Hid (∀ W, Rd W b g cap ts (n + 1) -> Calls Tryz.prog 103 #[.pointer (some ⟨b, 0, none⟩), .string ⟨#[38]⟩] W fun e w' => e = .returned (.bool true) /\ Bt b W w' /\ Rd w' b g cap ts (n + 1 + 1)) := fun W hW => passIf_ok W b g cap (n + 1) ts hW hn1 hn2 _ hI
 have HM2 : Hid (∀ W, Rd W b g cap ts (n + 1 + 1) -> Calls Tryz.prog 107 #[.pointer (some ⟨b, 0, none⟩), .int .u64 18446744073709551615] W fun e w' => e = .returned (.int .u64 x2.n) /\ Bt b W w' /\ Rd w' b g cap ts (n + 1 + 1 + 1)) := fun W hW => by subst hx2; exact number_ok W b g cap (n + 1 + 1) ts hW hn2 hn3 _ hN2 (by have := hU2; omega)
 have HN3 : Hid (∀ W, Rd W b g cap ts (n + 1 + 1 + 1) -> Calls Tryz.prog 71 #[.pointer (some ⟨b, 0, none⟩)] W fun e w' => e = .returned (.agg #[.int .i64 x3.k, .int .i64 x3.at', .string (bar x3.t), .int .u64 x3.n]) /\ Below W.heap.size W w') := fun W hW => by subst hx3; exact next_at' W b g cap (n + 1 + 1 + 1) ts hW hn3
 have HO : Hid (∀ W : World, Calls Tryz.prog 169 #[.string (bar x3.t)] W fun e w' => e = .returned (.int .i64 (opOf x3.t)) /\ w' = W) := fun W => op_any _ W
 have hz : ((opOf x3.t : Int) == 0) = false := by rw [beq_eq_false_iff_ne, hx3]; omega
 have hzn : ((opOf x3.t : Int) != 0) = true := by rw [bne, hz]; rfl
 have HP3 : Hid (∀ W, Rd W b g cap ts (n + 1 + 1 + 1) -> Calls Tryz.prog 105 #[.pointer (some ⟨b, 0, none⟩)] W fun e w' => e = .returned (.agg #[.int .i64 x3.k, .int .i64 x3.at', .string (bar x3.t), .int .u64 x3.n]) /\ Bt b W w' /\ Rd w' b g cap ts (n + 1 + 1 + 1 + 1)) := fun W hW => by subst hx3; exact pass_at W b g cap (n + 1 + 1 + 1) ts hW hn3 hn4
 have HM4 : Hid (∀ W, Rd W b g cap ts (n + 1 + 1 + 1 + 1) -> Calls Tryz.prog 107 #[.pointer (some ⟨b, 0, none⟩), .int .u64 18446744073709551615] W fun e w' => e = .returned (.int .u64 x4.n) /\ Bt b W w' /\ Rd w' b g cap ts (n + 1 + 1 + 1 + 1 + 1)) := fun W hW => by subst hx4; exact number_ok W b g cap (n + 1 + 1 + 1 + 1) ts hW hn4 hn5 _ hN4 (by have := hU4; omega)
 rw [<- hx0, <- hx2, <- hx3, <- hx4]
 clear hk hj hI hx0 hx2 hx3 hx4 hN2 hU2 hO hN4 hU4
 generalize argOf x0.t - 1 = G at *
 generalize opOf x3.t = O at *
 clear h 
 go_enter Tryz.func140, Tryz.ntmps140
 go_wp2_with fail
 generalize (w.alloc (Obj.cells #[.int .i64 0, .int .i64 0, .int .u64 0, .int .u64 0] 222)) = W0 at *
 refine (HN0.out _ A0.out.rd).mono ?_
 rintro e w1 ⟨rfl, b1⟩
 have A1 : Hid (Kr w b g cap ts (n) 222 (condL 0 0 0 0) w1) := A0.out.over b1
 clear b1 A0
 go_wp2_with fail
 refine (HA.out _).mono ?_
 rintro e w2 ⟨rfl, b2⟩
 have A2 : Hid (Kr w b g cap ts (n) 222 (condL 0 0 0 0) w2) := A1.out.over b2
 clear b2 A1
 go_wp2_with fail
 refine (needs_ok _ b 7).mono ?_
 rintro e w3 ⟨rfl, hw3⟩
 subst w3
 go_wp2_with fail
 refine (needs_ok _ b 4).mono ?_
 rintro e w4 ⟨rfl, hw4⟩
 subst w4
 go_wp2_with fail
 refine (HP0.out _ A2.out.rd).mono ?_
 rintro e w5 ⟨rfl, b5, P5⟩
 have A3 : Hid (Kr w b g cap ts (n + 1) 222 (condL 0 0 0 0) w5) := A2.out.on b5 P5
 clear b5 P5 A2
 obtain ⟨X, hX⟩ : ∃ X, (w5.alloc (Obj.cells #[.int .i64 G, .int .i64 0, .int .u64 18446744073709551615, .int .u64 0] 222)) = X := ⟨_, rfl⟩
 have HX : Hid ((w5.alloc (Obj.cells #[.int .i64 G, .int .i64 0, .int .u64 18446744073709551615, .int .u64 0] 222)) = X) := hX
 obtain ⟨r, hr⟩ : ∃ r, r = w5.heap.size := ⟨_, rfl⟩
 have A4 : Hid (Kq w b g cap ts (n + 1) 222 (condL 0 0 0 0) r 222 (condL G 0 18446744073709551615 0) X) := by show Kq w b g cap ts (n + 1) 222 (condL 0 0 0 0) r 222 (condL G 0 18446744073709551615 0) X; rw [<- hX, hr]; exact A3.out.new 222 _
 clear hX A3
 go_wp2_with (refine switch_world' HX.out ?_)
 rw [<- hr]
 clear hr HX
 refine (HI.out _ A4.out.rd).mono ?_
 rintro e w6 ⟨rfl, b6, P6⟩
 have A5 : Hid (Kq w b g cap ts (n + 1 + 1) 222 (condL 0 0 0 0) r 222 (condL G 0 18446744073709551615 0) w6) := A4.out.on b6 P6
 clear b6 P6 A4
 go_wp2_with fail
 refine (HM2.out _ A5.out.rd).mono ?_
 rintro e w7 ⟨rfl, b7, P7⟩
 have A6 : Hid (Kq w b g cap ts (n + 1 + 1 + 1) 222 (condL 0 0 0 0) r 222 (condL G 0 18446744073709551615 0) w7) := A5.out.on b7 P7
 clear b7 P7 A5
 have c8 : w7.cell? ⟨r, 2, none⟩ = some _ := A6.out.blk.cell 2
 have f8 := A6.out.blk.f 2
 obtain ⟨Z8, hZ⟩ : ∃ Z, w7.setCell ⟨r, 2, none⟩ (.int .u64 x2.n) = Z := ⟨_, rfl⟩
 have HZ8 : Hid (w7.setCell ⟨r, 2, none⟩ (.int .u64 x2.n) = Z8) := hZ
 have A7 : Hid (Kq w b g cap ts (n + 1 + 1 + 1) 222 (condL 0 0 0 0) r 222 (condL G 0 x2.n 0) Z8) := by show Kq w b g cap ts (n + 1 + 1 + 1) 222 (condL 0 0 0 0) r 222 (condL G 0 x2.n 0) Z8; rw [<- hZ]; exact A6.out.set 2 _
 clear hZ A6
 go_wp2_with (refine switch_world' HZ8.out ?_)
 refine (HN3.out _ A7.out.rd).mono ?_
 rintro e w9 ⟨rfl, b9⟩
 have A8 : Hid (Kq w b g cap ts (n + 1 + 1 + 1) 222 (condL 0 0 0 0) r 222 (condL G 0 x2.n 0) w9) := A7.out.over b9
 clear b9 A7
 go_wp2_with fail
 refine (HO.out _).mono ?_
 rintro e w10 ⟨rfl, hw10⟩
 subst w10
 have c11 : w9.cell? ⟨r, 1, none⟩ = some _ := A8.out.blk.cell 1
 have f11 := A8.out.blk.f 1
 obtain ⟨Z11, hZ⟩ : ∃ Z, w9.setCell ⟨r, 1, none⟩ (.int .i64 O) = Z := ⟨_, rfl⟩
 have HZ11 : Hid (w9.setCell ⟨r, 1, none⟩ (.int .i64 O) = Z11) := hZ
 have A9 : Hid (Kq w b g cap ts (n + 1 + 1 + 1) 222 (condL 0 0 0 0) r 222 (condL G O x2.n 0) Z11) := by show Kq w b g cap ts (n + 1 + 1 + 1) 222 (condL 0 0 0 0) r 222 (condL G O x2.n 0) Z11; rw [<- hZ]; exact A8.out.set 1 _
 clear hZ A8
 have d1 : Z11.cell? ⟨r, 1, none⟩ = some (.int .i64 O) := A9.out.blk.cell 1
 go_wp2_with (refine switch_world' HZ11.out ?_)
 refine (needs_ok _ b 7).mono ?_
 rintro e w12 ⟨rfl, hw12⟩
 subst w12
 go_wp2_with fail
 refine (HP3.out _ A9.out.rd).mono ?_
 rintro e w13 ⟨rfl, b13, P13⟩
 have A10 : Hid (Kq w b g cap ts (n + 1 + 1 + 1 + 1) 222 (condL 0 0 0 0) r 222 (condL G O x2.n 0) w13) := A9.out.on b13 P13
 clear b13 P13 A9
 go_wp2_with fail
 refine (HM4.out _ A10.out.rd).mono ?_
 rintro e w14 ⟨rfl, b14, P14⟩
 have A11 : Hid (Kq w b g cap ts (n + 1 + 1 + 1 + 1 + 1) 222 (condL 0 0 0 0) r 222 (condL G O x2.n 0) w14) := A10.out.on b14 P14
 clear b14 P14 A10
 have c15 : w14.cell? ⟨r, 3, none⟩ = some _ := A11.out.blk.cell 3
 have f15 := A11.out.blk.f 3
 obtain ⟨Z15, hZ⟩ : ∃ Z, w14.setCell ⟨r, 3, none⟩ (.int .u64 x4.n) = Z := ⟨_, rfl⟩
 have HZ15 : Hid (w14.setCell ⟨r, 3, none⟩ (.int .u64 x4.n) = Z15) := hZ
 have A12 : Hid (Kq w b g cap ts (n + 1 + 1 + 1 + 1 + 1) 222 (condL 0 0 0 0) r 222 (condL G O x2.n x4.n) Z15) := by show Kq w b g cap ts (n + 1 + 1 + 1 + 1 + 1) 222 (condL 0 0 0 0) r 222 (condL G O x2.n x4.n) Z15; rw [<- hZ]; exact A11.out.set 3 _
 clear hZ A11
 go_wp2_with (first | (refine switch_world' HZ15.out ?_) | (refine at_op' (.load 222 (.tmp 6)) rfl ?_; refine wpList_load_row rfl 222 (.tmp 6) rfl r rfl 222 (condL G O x2.n x4.n).toArray (0, 0) _ A12.out.blk Tryz.underlying222 rfl (condL_size _ _ _ _) ?_) | (refine at_op' (.store 222 (.tmp 4) (.tmp 43)) rfl ?_; refine wpList_store_row rfl 222 (.tmp 4) (.tmp 43) rfl w.heap.size (condL G O x2.n x4.n).toArray rfl rfl 222 _ A12.out.kr.blk (condL_size _ _ _ _) rfl (condL_one _ _ _ _) ?_))
 refine bodyPost_ret (v := .agg (condL G O x2.n x4.n).toArray) ?_ rfl ⟨(A12.out.row (condL G O x2.n x4.n)).kr.bt, rfl, (A12.out.row (condL G O x2.n x4.n)).rd⟩
 exact results_cell_row Tryz.results140 _ _ w.heap.size 222 (condL G O x2.n x4.n).toArray (0, 0) _ rfl (A12.out.row (condL G O x2.n x4.n)).kr.blk Tryz.underlying222 rfl (condL_size _ _ _ _)
theorem cond_b0 (w : World) (b g cap n : Nat) (ts : List Tok) (k : Nat) (h : Rd w b g cap ts n) (hn : n < ts.length) (hn1 : n + 1 < ts.length) (hk : ¬ argOf ts[n].t = 0) (hj : k < 8) (hI : (ts[n + 1].t == lst ⟨#[38]⟩) = false) (hO : opOf ts[n + 1].t = 0) :
  Calls Tryz.prog 140 #[.pointer (some ⟨b, 0, none⟩), .int .i64 k] w fun e w' => Bt b w w' /\ e = .panicked (fltC 7 ts[n + 1].at') := by
 have hn0 := hn
 obtain ⟨x0, hx0⟩ : ∃ x, x = ts[n] := ⟨_, rfl⟩
 obtain ⟨x1, hx1⟩ : ∃ x, x = ts[n + 1] := ⟨_, rfl⟩
 have A0 : Hid (Kr w b g cap ts n 222 (condL 0 0 0 0) (w.alloc (Obj.cells #[.int .i64 0, .int .i64 0, .int .u64 0, .int .u64 0] 222))) := kr_new h hn 222 _
 have h2 := fld2
 have HN0 : Hid (∀ W, Rd W b g cap ts (n) -> Calls Tryz.prog 71 #[.pointer (some ⟨b, 0, none⟩)] W fun e w' => e = .returned (.agg #[.int .i64 x0.k, .int .i64 x0.at', .string (bar x0.t), .int .u64 x0.n]) /\ Below W.heap.size W w') := fun W hW => by subst hx0; exact next_at' W b g cap (n) ts hW hn0
 have HA : Hid (∀ W : World, Calls Tryz.prog 168 #[.string (bar x0.t)] W fun e w' => e = .returned (.int .i64 (argOf x0.t - 1 : Nat)) /\ Below W.heap.size W w') := fun W => by have := arg_any x0.t W; rw [show ((argOf x0.t : Int) - 1) = ((argOf x0.t - 1 : Nat) : Int) by rw [hx0]; omega] at this; exact this
 have HP0 : Hid (∀ W, Rd W b g cap ts (n) -> Calls Tryz.prog 105 #[.pointer (some ⟨b, 0, none⟩)] W fun e w' => e = .returned (.agg #[.int .i64 x0.k, .int .i64 x0.at', .string (bar x0.t), .int .u64 x0.n]) /\ Bt b W w' /\ Rd w' b g cap ts (n + 1)) := fun W hW => by subst hx0; exact pass_at W b g cap (n) ts hW hn0 hn1
 have hd : decide ((k : Int) < 8) = true := by simp; omega
 have hge : (0 : Int) <= ((argOf x0.t - 1 : Nat) : Int) := by omega
 have HI : Hid (∀ W, Rd W b g cap ts (n + 1) -> Calls Tryz.prog 103 #[.pointer (some ⟨b, 0, none⟩), .string ⟨#[38]⟩] W fun e w' => e = .returned (.bool false) /\ Below W.heap.size W w') := fun W hW => passIf_no W b g cap (n + 1) ts hW hn1 _ hI
 have HN1 : Hid (∀ W, Rd W b g cap ts (n + 1) -> Calls Tryz.prog 71 #[.pointer (some ⟨b, 0, none⟩)] W fun e w' => e = .returned (.agg #[.int .i64 x1.k, .int .i64 x1.at', .string (bar x1.t), .int .u64 x1.n]) /\ Below W.heap.size W w') := fun W hW => by subst hx1; exact next_at' W b g cap (n + 1) ts hW hn1
 have HO : Hid (∀ W : World, Calls Tryz.prog 169 #[.string (bar x1.t)] W fun e w' => e = .returned (.int .i64 (opOf x1.t)) /\ w' = W) := fun W => op_any _ W
 have HF : Hid (∀ W, Rd W b g cap ts (n + 1) -> Calls Tryz.prog 102 #[.pointer (some ⟨b, 0, none⟩), .bool false, .int .i64 7] W fun e w' => e = .panicked (fltC 7 x1.at') /\ Below W.heap.size W w') := fun W hW => by subst hx1; exact needs_flt W b g cap (n + 1) ts hW hn1 7
 rw [show opOf x1.t = 0 by rw [hx1]; exact hO] at HO
 rw [<- hx1]
 clear hk hj hI hx0 hx1 hO
 generalize fltC 7 x1.at' = F at *
 generalize argOf x0.t - 1 = G at *
 clear h 
 go_enter Tryz.func140, Tryz.ntmps140
 go_wp2_with fail
 generalize (w.alloc (Obj.cells #[.int .i64 0, .int .i64 0, .int .u64 0, .int .u64 0] 222)) = W0 at *
 refine (HN0.out _ A0.out.rd).mono ?_
 rintro e w1 ⟨rfl, b1⟩
 have A1 : Hid (Kr w b g cap ts (n) 222 (condL 0 0 0 0) w1) := A0.out.over b1
 clear b1 A0
 go_wp2_with fail
 refine (HA.out _).mono ?_
 rintro e w2 ⟨rfl, b2⟩
 have A2 : Hid (Kr w b g cap ts (n) 222 (condL 0 0 0 0) w2) := A1.out.over b2
 clear b2 A1
 go_wp2_with fail
 refine (needs_ok _ b 7).mono ?_
 rintro e w3 ⟨rfl, hw3⟩
 subst w3
 go_wp2_with fail
 refine (needs_ok _ b 4).mono ?_
 rintro e w4 ⟨rfl, hw4⟩
 subst w4
 go_wp2_with fail
 refine (HP0.out _ A2.out.rd).mono ?_
 rintro e w5 ⟨rfl, b5, P5⟩
 have A3 : Hid (Kr w b g cap ts (n + 1) 222 (condL 0 0 0 0) w5) := A2.out.on b5 P5
 clear b5 P5 A2
 obtain ⟨X, hX⟩ : ∃ X, (w5.alloc (Obj.cells #[.int .i64 G, .int .i64 0, .int .u64 18446744073709551615, .int .u64 0] 222)) = X := ⟨_, rfl⟩
 have HX : Hid ((w5.alloc (Obj.cells #[.int .i64 G, .int .i64 0, .int .u64 18446744073709551615, .int .u64 0] 222)) = X) := hX
 obtain ⟨r, hr⟩ : ∃ r, r = w5.heap.size := ⟨_, rfl⟩
 have A4 : Hid (Kq w b g cap ts (n + 1) 222 (condL 0 0 0 0) r 222 (condL G 0 18446744073709551615 0) X) := by show Kq w b g cap ts (n + 1) 222 (condL 0 0 0 0) r 222 (condL G 0 18446744073709551615 0) X; rw [<- hX, hr]; exact A3.out.new 222 _
 clear hX A3
 go_wp2_with (refine switch_world' HX.out ?_)
 rw [<- hr]
 clear hr HX
 refine (HI.out _ A4.out.rd).mono ?_
 rintro e w6 ⟨rfl, b6⟩
 have A5 : Hid (Kq w b g cap ts (n + 1) 222 (condL 0 0 0 0) r 222 (condL G 0 18446744073709551615 0) w6) := A4.out.over b6
 clear b6 A4
 go_wp2_with fail
 refine (HN1.out _ A5.out.rd).mono ?_
 rintro e w7 ⟨rfl, b7⟩
 have A6 : Hid (Kq w b g cap ts (n + 1) 222 (condL 0 0 0 0) r 222 (condL G 0 18446744073709551615 0) w7) := A5.out.over b7
 clear b7 A5
 go_wp2_with fail
 refine (HO.out _).mono ?_
 rintro e w8 ⟨rfl, hw8⟩
 subst w8
 have c9 : w7.cell? ⟨r, 1, none⟩ = some _ := A6.out.blk.cell 1
 have f9 := A6.out.blk.f 1
 obtain ⟨Z9, hZ⟩ : ∃ Z, w7.setCell ⟨r, 1, none⟩ (.int .i64 0) = Z := ⟨_, rfl⟩
 have HZ9 : Hid (w7.setCell ⟨r, 1, none⟩ (.int .i64 0) = Z9) := hZ
 have A7 : Hid (Kq w b g cap ts (n + 1) 222 (condL 0 0 0 0) r 222 (condL G 0 18446744073709551615 0) Z9) := by show Kq w b g cap ts (n + 1) 222 (condL 0 0 0 0) r 222 (condL G 0 18446744073709551615 0) Z9; rw [<- hZ]; exact A6.out.set 1 _
 clear hZ A6
 have d1 : Z9.cell? ⟨r, 1, none⟩ = some (.int .i64 0) := A7.out.blk.cell 1
 go_wp2_with (refine switch_world' HZ9.out ?_)
 refine (HF.out _ A7.out.rd).mono ?_
 rintro e w10 ⟨rfl, b10⟩
 go_wp2_with fail
 exact ⟨rfl, (A7.out.over b10).kr.bt, rfl⟩
theorem cond_b1 (w : World) (b g cap n : Nat) (ts : List Tok) (k : Nat) (h : Rd w b g cap ts n) (hn : n < ts.length) (hn1 : n + 1 < ts.length) (hn2 : n + 1 + 1 < ts.length) (hk : ¬ argOf ts[n].t = 0) (hj : k < 8) (hI : (ts[n + 1].t == lst ⟨#[38]⟩) = false) (hO : ¬ opOf ts[n + 1].t = 0) (hN2 : isN ts[n + 1 + 1] = false) :
  Calls Tryz.prog 140 #[.pointer (some ⟨b, 0, none⟩), .int .i64 k] w fun e w' => Bt b w w' /\ e = .panicked (fltC 7 ts[n + 1 + 1].at') := by
 have hn0 := hn
 obtain ⟨x0, hx0⟩ : ∃ x, x = ts[n] := ⟨_, rfl⟩
 obtain ⟨x1, hx1⟩ : ∃ x, x = ts[n + 1] := ⟨_, rfl⟩
 obtain ⟨x2, hx2⟩ : ∃ x, x = ts[n + 1 + 1] := ⟨_, rfl⟩
 have A0 : Hid (Kr w b g cap ts n 222 (condL 0 0 0 0) (w.alloc (Obj.cells #[.int .i64 0, .int .i64 0, .int .u64 0, .int .u64 0] 222))) := kr_new h hn 222 _
 have h2 := fld2
 have HN0 : Hid (∀ W, Rd W b g cap ts (n) -> Calls Tryz.prog 71 #[.pointer (some ⟨b, 0, none⟩)] W fun e w' => e = .returned (.agg #[.int .i64 x0.k, .int .i64 x0.at', .string (bar x0.t), .int .u64 x0.n]) /\ Below W.heap.size W w') := fun W hW => by subst hx0; exact next_at' W b g cap (n) ts hW hn0
 have HA : Hid (∀ W : World, Calls Tryz.prog 168 #[.string (bar x0.t)] W fun e w' => e = .returned (.int .i64 (argOf x0.t - 1 : Nat)) /\ Below W.heap.size W w') := fun W => by have := arg_any x0.t W; rw [show ((argOf x0.t : Int) - 1) = ((argOf x0.t - 1 : Nat) : Int) by rw [hx0]; omega] at this; exact this
 have HP0 : Hid (∀ W, Rd W b g cap ts (n) -> Calls Tryz.prog 105 #[.pointer (some ⟨b, 0, none⟩)] W fun e w' => e = .returned (.agg #[.int .i64 x0.k, .int .i64 x0.at', .string (bar x0.t), .int .u64 x0.n]) /\ Bt b W w' /\ Rd w' b g cap ts (n + 1)) := fun W hW => by subst hx0; exact pass_at W b g cap (n) ts hW hn0 hn1
 have hd : decide ((k : Int) < 8) = true := by simp; omega
 have hge : (0 : Int) <= ((argOf x0.t - 1 : Nat) : Int) := by omega
 have HI : Hid (∀ W, Rd W b g cap ts (n + 1) -> Calls Tryz.prog 103 #[.pointer (some ⟨b, 0, none⟩), .string ⟨#[38]⟩] W fun e w' => e = .returned (.bool false) /\ Below W.heap.size W w') := fun W hW => passIf_no W b g cap (n + 1) ts hW hn1 _ hI
 have HN1 : Hid (∀ W, Rd W b g cap ts (n + 1) -> Calls Tryz.prog 71 #[.pointer (some ⟨b, 0, none⟩)] W fun e w' => e = .returned (.agg #[.int .i64 x1.k, .int .i64 x1.at', .string (bar x1.t), .int .u64 x1.n]) /\ Below W.heap.size W w') := fun W hW => by subst hx1; exact next_at' W b g cap (n + 1) ts hW hn1
 have HO : Hid (∀ W : World, Calls Tryz.prog 169 #[.string (bar x1.t)] W fun e w' => e = .returned (.int .i64 (opOf x1.t)) /\ w' = W) := fun W => op_any _ W
 have hz : ((opOf x1.t : Int) == 0) = false := by rw [beq_eq_false_iff_ne, hx1]; omega
 have hzn : ((opOf x1.t : Int) != 0) = true := by rw [bne, hz]; rfl
 have HP1 : Hid (∀ W, Rd W b g cap ts (n + 1) -> Calls Tryz.prog 105 #[.pointer (some ⟨b, 0, none⟩)] W fun e w' => e = .returned (.agg #[.int .i64 x1.k, .int .i64 x1.at', .string (bar x1.t), .int .u64 x1.n]) /\ Bt b W w' /\ Rd w' b g cap ts (n + 1 + 1)) := fun W hW => by subst hx1; exact pass_at W b g cap (n + 1) ts hW hn1 hn2
 have HM2 : Hid (∀ W, Rd W b g cap ts (n + 1 + 1) -> Calls Tryz.prog 107 #[.pointer (some ⟨b, 0, none⟩), .int .u64 18446744073709551615] W fun e w' => e = .panicked (fltC 7 x2.at') /\ Below W.heap.size W w') := fun W hW => by subst hx2; exact number_no W b g cap (n + 1 + 1) ts hW hn2 _ hN2
 rw [<- hx2]
 clear hk hj hI hx0 hx1 hx2 hO hN2
 generalize fltC 7 x2.at' = F at *
 generalize argOf x0.t - 1 = G at *
 generalize opOf x1.t = O at *
 clear h 
 go_enter Tryz.func140, Tryz.ntmps140
 go_wp2_with fail
 generalize (w.alloc (Obj.cells #[.int .i64 0, .int .i64 0, .int .u64 0, .int .u64 0] 222)) = W0 at *
 refine (HN0.out _ A0.out.rd).mono ?_
 rintro e w1 ⟨rfl, b1⟩
 have A1 : Hid (Kr w b g cap ts (n) 222 (condL 0 0 0 0) w1) := A0.out.over b1
 clear b1 A0
 go_wp2_with fail
 refine (HA.out _).mono ?_
 rintro e w2 ⟨rfl, b2⟩
 have A2 : Hid (Kr w b g cap ts (n) 222 (condL 0 0 0 0) w2) := A1.out.over b2
 clear b2 A1
 go_wp2_with fail
 refine (needs_ok _ b 7).mono ?_
 rintro e w3 ⟨rfl, hw3⟩
 subst w3
 go_wp2_with fail
 refine (needs_ok _ b 4).mono ?_
 rintro e w4 ⟨rfl, hw4⟩
 subst w4
 go_wp2_with fail
 refine (HP0.out _ A2.out.rd).mono ?_
 rintro e w5 ⟨rfl, b5, P5⟩
 have A3 : Hid (Kr w b g cap ts (n + 1) 222 (condL 0 0 0 0) w5) := A2.out.on b5 P5
 clear b5 P5 A2
 obtain ⟨X, hX⟩ : ∃ X, (w5.alloc (Obj.cells #[.int .i64 G, .int .i64 0, .int .u64 18446744073709551615, .int .u64 0] 222)) = X := ⟨_, rfl⟩
 have HX : Hid ((w5.alloc (Obj.cells #[.int .i64 G, .int .i64 0, .int .u64 18446744073709551615, .int .u64 0] 222)) = X) := hX
 obtain ⟨r, hr⟩ : ∃ r, r = w5.heap.size := ⟨_, rfl⟩
 have A4 : Hid (Kq w b g cap ts (n + 1) 222 (condL 0 0 0 0) r 222 (condL G 0 18446744073709551615 0) X) := by show Kq w b g cap ts (n + 1) 222 (condL 0 0 0 0) r 222 (condL G 0 18446744073709551615 0) X; rw [<- hX, hr]; exact A3.out.new 222 _
 clear hX A3
 go_wp2_with (refine switch_world' HX.out ?_)
 rw [<- hr]
 clear hr HX
 refine (HI.out _ A4.out.rd).mono ?_
 rintro e w6 ⟨rfl, b6⟩
 have A5 : Hid (Kq w b g cap ts (n + 1) 222 (condL 0 0 0 0) r 222 (condL G 0 18446744073709551615 0) w6) := A4.out.over b6
 clear b6 A4
 go_wp2_with fail
 refine (HN1.out _ A5.out.rd).mono ?_
 rintro e w7 ⟨rfl, b7⟩
 have A6 : Hid (Kq w b g cap ts (n + 1) 222 (condL 0 0 0 0) r 222 (condL G 0 18446744073709551615 0) w7) := A5.out.over b7
 clear b7 A5
 go_wp2_with fail
 refine (HO.out _).mono ?_
 rintro e w8 ⟨rfl, hw8⟩
 subst w8
 have c9 : w7.cell? ⟨r, 1, none⟩ = some _ := A6.out.blk.cell 1
 have f9 := A6.out.blk.f 1
 obtain ⟨Z9, hZ⟩ : ∃ Z, w7.setCell ⟨r, 1, none⟩ (.int .i64 O) = Z := ⟨_, rfl⟩
 have HZ9 : Hid (w7.setCell ⟨r, 1, none⟩ (.int .i64 O) = Z9) := hZ
 have A7 : Hid (Kq w b g cap ts (n + 1) 222 (condL 0 0 0 0) r 222 (condL G O 18446744073709551615 0) Z9) := by show Kq w b g cap ts (n + 1) 222 (condL 0 0 0 0) r 222 (condL G O 18446744073709551615 0) Z9; rw [<- hZ]; exact A6.out.set 1 _
 clear hZ A6
 have d1 : Z9.cell? ⟨r, 1, none⟩ = some (.int .i64 O) := A7.out.blk.cell 1
 go_wp2_with (refine switch_world' HZ9.out ?_)
 refine (needs_ok _ b 7).mono ?_
 rintro e w10 ⟨rfl, hw10⟩
 subst w10
 go_wp2_with fail
 refine (HP1.out _ A7.out.rd).mono ?_
 rintro e w11 ⟨rfl, b11, P11⟩
 have A8 : Hid (Kq w b g cap ts (n + 1 + 1) 222 (condL 0 0 0 0) r 222 (condL G O 18446744073709551615 0) w11) := A7.out.on b11 P11
 clear b11 P11 A7
 go_wp2_with fail
 refine (HM2.out _ A8.out.rd).mono ?_
 rintro e w12 ⟨rfl, b12⟩
 go_wp2_with fail
 exact ⟨rfl, (A8.out.over b12).kr.bt, rfl⟩
theorem cond_b2 (w : World) (b g cap n : Nat) (ts : List Tok) (k : Nat) (h : Rd w b g cap ts n) (hn : n < ts.length) (hn1 : n + 1 < ts.length) (hn2 : n + 1 + 1 < ts.length) (hn3 : n + 1 + 1 + 1 < ts.length) (hk : ¬ argOf ts[n].t = 0) (hj : k < 8) (hI : (ts[n + 1].t == lst ⟨#[38]⟩) = false) (hO : ¬ opOf ts[n + 1].t = 0) (hN2 : isN ts[n + 1 + 1] = true) (hU2 : ts[n + 1 + 1].n < 18446744073709551616) :
  Calls Tryz.prog 140 #[.pointer (some ⟨b, 0, none⟩), .int .i64 k] w fun e w' => Bt b w w' /\ e = .returned (condV (argOf ts[n].t - 1 : Nat) (opOf ts[n + 1].t) 18446744073709551615 ts[n + 1 + 1].n) /\ Rd w' b g cap ts (n + 1 + 1 + 1) := by
 have hn0 := hn
 obtain ⟨x0, hx0⟩ : ∃ x, x = ts[n] := ⟨_, rfl⟩
 obtain ⟨x1, hx1⟩ : ∃ x, x = ts[n + 1] := ⟨_, rfl⟩
 obtain ⟨x2, hx2⟩ : ∃ x, x = ts[n + 1 + 1] := ⟨_, rfl⟩
 have A0 : Hid (Kr w b g cap ts n 222 (condL 0 0 0 0) (w.alloc (Obj.cells #[.int .i64 0, .int .i64 0, .int .u64 0, .int .u64 0] 222))) := kr_new h hn 222 _
 have h2 := fld2
 have HN0 : Hid (∀ W, Rd W b g cap ts (n) -> Calls Tryz.prog 71 #[.pointer (some ⟨b, 0, none⟩)] W fun e w' => e = .returned (.agg #[.int .i64 x0.k, .int .i64 x0.at', .string (bar x0.t), .int .u64 x0.n]) /\ Below W.heap.size W w') := fun W hW => by subst hx0; exact next_at' W b g cap (n) ts hW hn0
 have HA : Hid (∀ W : World, Calls Tryz.prog 168 #[.string (bar x0.t)] W fun e w' => e = .returned (.int .i64 (argOf x0.t - 1 : Nat)) /\ Below W.heap.size W w') := fun W => by have := arg_any x0.t W; rw [show ((argOf x0.t : Int) - 1) = ((argOf x0.t - 1 : Nat) : Int) by rw [hx0]; omega] at this; exact this
 have HP0 : Hid (∀ W, Rd W b g cap ts (n) -> Calls Tryz.prog 105 #[.pointer (some ⟨b, 0, none⟩)] W fun e w' => e = .returned (.agg #[.int .i64 x0.k, .int .i64 x0.at', .string (bar x0.t), .int .u64 x0.n]) /\ Bt b W w' /\ Rd w' b g cap ts (n + 1)) := fun W hW => by subst hx0; exact pass_at W b g cap (n) ts hW hn0 hn1
 have hd : decide ((k : Int) < 8) = true := by simp; omega
 have hge : (0 : Int) <= ((argOf x0.t - 1 : Nat) : Int) := by omega
 have HI : Hid (∀ W, Rd W b g cap ts (n + 1) -> Calls Tryz.prog 103 #[.pointer (some ⟨b, 0, none⟩), .string ⟨#[38]⟩] W fun e w' => e = .returned (.bool false) /\ Below W.heap.size W w') := fun W hW => passIf_no W b g cap (n + 1) ts hW hn1 _ hI
 have HN1 : Hid (∀ W, Rd W b g cap ts (n + 1) -> Calls Tryz.prog 71 #[.pointer (some ⟨b, 0, none⟩)] W fun e w' => e = .returned (.agg #[.int .i64 x1.k, .int .i64 x1.at', .string (bar x1.t), .int .u64 x1.n]) /\ Below W.heap.size W w') := fun W hW => by subst hx1; exact next_at' W b g cap (n + 1) ts hW hn1
 have HO : Hid (∀ W : World, Calls Tryz.prog 169 #[.string (bar x1.t)] W fun e w' => e = .returned (.int .i64 (opOf x1.t)) /\ w' = W) := fun W => op_any _ W
 have hz : ((opOf x1.t : Int) == 0) = false := by rw [beq_eq_false_iff_ne, hx1]; omega
 have hzn : ((opOf x1.t : Int) != 0) = true := by rw [bne, hz]; rfl
 have HP1 : Hid (∀ W, Rd W b g cap ts (n + 1) -> Calls Tryz.prog 105 #[.pointer (some ⟨b, 0, none⟩)] W fun e w' => e = .returned (.agg #[.int .i64 x1.k, .int .i64 x1.at', .string (bar x1.t), .int .u64 x1.n]) /\ Bt b W w' /\ Rd w' b g cap ts (n + 1 + 1)) := fun W hW => by subst hx1; exact pass_at W b g cap (n + 1) ts hW hn1 hn2
 have HM2 : Hid (∀ W, Rd W b g cap ts (n + 1 + 1) -> Calls Tryz.prog 107 #[.pointer (some ⟨b, 0, none⟩), .int .u64 18446744073709551615] W fun e w' => e = .returned (.int .u64 x2.n) /\ Bt b W w' /\ Rd w' b g cap ts (n + 1 + 1 + 1)) := fun W hW => by subst hx2; exact number_ok W b g cap (n + 1 + 1) ts hW hn2 hn3 _ hN2 (by have := hU2; omega)
 rw [<- hx0, <- hx1, <- hx2]
 clear hk hj hI hx0 hx1 hx2 hO hN2 hU2
 generalize argOf x0.t - 1 = G at *
 generalize opOf x1.t = O at *
 clear h 
 go_enter Tryz.func140, Tryz.ntmps140
 go_wp2_with fail
 generalize (w.alloc (Obj.cells #[.int .i64 0, .int .i64 0, .int .u64 0, .int .u64 0] 222)) = W0 at *
 refine (HN0.out _ A0.out.rd).mono ?_
 rintro e w1 ⟨rfl, b1⟩
 have A1 : Hid (Kr w b g cap ts (n) 222 (condL 0 0 0 0) w1) := A0.out.over b1
 clear b1 A0
 go_wp2_with fail
 refine (HA.out _).mono ?_
 rintro e w2 ⟨rfl, b2⟩
 have A2 : Hid (Kr w b g cap ts (n) 222 (condL 0 0 0 0) w2) := A1.out.over b2
 clear b2 A1
 go_wp2_with fail
 refine (needs_ok _ b 7).mono ?_
 rintro e w3 ⟨rfl, hw3⟩
 subst w3
 go_wp2_with fail
 refine (needs_ok _ b 4).mono ?_
 rintro e w4 ⟨rfl, hw4⟩
 subst w4
 go_wp2_with fail
 refine (HP0.out _ A2.out.rd).mono ?_
 rintro e w5 ⟨rfl, b5, P5⟩
 have A3 : Hid (Kr w b g cap ts (n + 1) 222 (condL 0 0 0 0) w5) := A2.out.on b5 P5
 clear b5 P5 A2
 obtain ⟨X, hX⟩ : ∃ X, (w5.alloc (Obj.cells #[.int .i64 G, .int .i64 0, .int .u64 18446744073709551615, .int .u64 0] 222)) = X := ⟨_, rfl⟩
 have HX : Hid ((w5.alloc (Obj.cells #[.int .i64 G, .int .i64 0, .int .u64 18446744073709551615, .int .u64 0] 222)) = X) := hX
 obtain ⟨r, hr⟩ : ∃ r, r = w5.heap.size := ⟨_, rfl⟩
 have A4 : Hid (Kq w b g cap ts (n + 1) 222 (condL 0 0 0 0) r 222 (condL G 0 18446744073709551615 0) X) := by show Kq w b g cap ts (n + 1) 222 (condL 0 0 0 0) r 222 (condL G 0 18446744073709551615 0) X; rw [<- hX, hr]; exact A3.out.new 222 _
 clear hX A3
 go_wp2_with (refine switch_world' HX.out ?_)
 rw [<- hr]
 clear hr HX
 refine (HI.out _ A4.out.rd).mono ?_
 rintro e w6 ⟨rfl, b6⟩
 have A5 : Hid (Kq w b g cap ts (n + 1) 222 (condL 0 0 0 0) r 222 (condL G 0 18446744073709551615 0) w6) := A4.out.over b6
 clear b6 A4
 go_wp2_with fail
 refine (HN1.out _ A5.out.rd).mono ?_
 rintro e w7 ⟨rfl, b7⟩
 have A6 : Hid (Kq w b g cap ts (n + 1) 222 (condL 0 0 0 0) r 222 (condL G 0 18446744073709551615 0) w7) := A5.out.over b7
 clear b7 A5
 go_wp2_with fail
 refine (HO.out _).mono ?_
 rintro e w8 ⟨rfl, hw8⟩
 subst w8
 have c9 : w7.cell? ⟨r, 1, none⟩ = some _ := A6.out.blk.cell 1
 have f9 := A6.out.blk.f 1
 obtain ⟨Z9, hZ⟩ : ∃ Z, w7.setCell ⟨r, 1, none⟩ (.int .i64 O) = Z := ⟨_, rfl⟩
 have HZ9 : Hid (w7.setCell ⟨r, 1, none⟩ (.int .i64 O) = Z9) := hZ
 have A7 : Hid (Kq w b g cap ts (n + 1) 222 (condL 0 0 0 0) r 222 (condL G O 18446744073709551615 0) Z9) := by show Kq w b g cap ts (n + 1) 222 (condL 0 0 0 0) r 222 (condL G O 18446744073709551615 0) Z9; rw [<- hZ]; exact A6.out.set 1 _
 clear hZ A6
 have d1 : Z9.cell? ⟨r, 1, none⟩ = some (.int .i64 O) := A7.out.blk.cell 1
 go_wp2_with (refine switch_world' HZ9.out ?_)
 refine (needs_ok _ b 7).mono ?_
 rintro e w10 ⟨rfl, hw10⟩
 subst w10
 go_wp2_with fail
 refine (HP1.out _ A7.out.rd).mono ?_
 rintro e w11 ⟨rfl, b11, P11⟩
 have A8 : Hid (Kq w b g cap ts (n + 1 + 1) 222 (condL 0 0 0 0) r 222 (condL G O 18446744073709551615 0) w11) := A7.out.on b11 P11
 clear b11 P11 A7
 go_wp2_with fail
 refine (HM2.out _ A8.out.rd).mono ?_
 rintro e w12 ⟨rfl, b12, P12⟩
 have A9 : Hid (Kq w b g cap ts (n + 1 + 1 + 1) 222 (condL 0 0 0 0) r 222 (condL G O 18446744073709551615 0) w12) := A8.out.on b12 P12
 clear b12 P12 A8
 have c13 : w12.cell? ⟨r, 3, none⟩ = some _ := A9.out.blk.cell 3
 have f13 := A9.out.blk.f 3
 obtain ⟨Z13, hZ⟩ : ∃ Z, w12.setCell ⟨r, 3, none⟩ (.int .u64 x2.n) = Z := ⟨_, rfl⟩
 have HZ13 : Hid (w12.setCell ⟨r, 3, none⟩ (.int .u64 x2.n) = Z13) := hZ
 have A10 : Hid (Kq w b g cap ts (n + 1 + 1 + 1) 222 (condL 0 0 0 0) r 222 (condL G O 18446744073709551615 x2.n) Z13) := by show Kq w b g cap ts (n + 1 + 1 + 1) 222 (condL 0 0 0 0) r 222 (condL G O 18446744073709551615 x2.n) Z13; rw [<- hZ]; exact A9.out.set 3 _
 clear hZ A9
 go_wp2_with (first | (refine switch_world' HZ13.out ?_) | (refine at_op' (.load 222 (.tmp 6)) rfl ?_; refine wpList_load_row rfl 222 (.tmp 6) rfl r rfl 222 (condL G O 18446744073709551615 x2.n).toArray (0, 0) _ A10.out.blk Tryz.underlying222 rfl (condL_size _ _ _ _) ?_) | (refine at_op' (.store 222 (.tmp 4) (.tmp 43)) rfl ?_; refine wpList_store_row rfl 222 (.tmp 4) (.tmp 43) rfl w.heap.size (condL G O 18446744073709551615 x2.n).toArray rfl rfl 222 _ A10.out.kr.blk (condL_size _ _ _ _) rfl (condL_one _ _ _ _) ?_))
 refine bodyPost_ret (v := .agg (condL G O 18446744073709551615 x2.n).toArray) ?_ rfl ⟨(A10.out.row (condL G O 18446744073709551615 x2.n)).kr.bt, rfl, (A10.out.row (condL G O 18446744073709551615 x2.n)).rd⟩
 exact results_cell_row Tryz.results140 _ _ w.heap.size 222 (condL G O 18446744073709551615 x2.n).toArray (0, 0) _ rfl (A10.out.row (condL G O 18446744073709551615 x2.n)).kr.blk Tryz.underlying222 rfl (condL_size _ _ _ _)
def cdV (c : Cd) : Value := condV c.arg c.op c.mask c.val
theorem and_at {ts : List Tok} (hT : Tks ts) (n : Nat) (hn : n < ts.length) : isS ts[n] [38] = (ts[n].t == lst ⟨#[38]⟩) := (hT.tk n hn).isS 38 [] (by decide) (by decide)
theorem cond_any (w : World) (b g cap n : Nat) (ts : List Tok) (k : Nat) (hT : Tks ts) (h : Rd w b g cap ts n) (hn : n < ts.length) :
  Calls Tryz.prog 140 #[.pointer (some ⟨b, 0, none⟩), .int .i64 k] w fun e w' => Bt b w w' /\ Dsc (condD k (ts.drop n)) cdV b g cap ts e w' := by
 have hG := (hT.tk n hn).isG
 rw [drop_at hn]
 simp only [condD]
 rcases Bool.eq_false_or_eq_true (isG ts[n]) with h1 | h1
 ·have hn1 := hT.nx n hn (isG_4 h1)
  have hk : ¬ argOf ts[n].t = 0 := by
   rw [h1] at hG
   simpa using hG
  rw [if_pos h1]
  by_cases h2 : 8 <= k
  ·rw [if_pos h2]
   exact cond_full w b g cap n ts k h hn hk h2
  ·have hj : k < 8 := by omega
   rw [if_neg h2, drop_at hn1]
   simp only
   have hI := and_at hT (n + 1) hn1
   rcases Bool.eq_false_or_eq_true (isS ts[n + 1] [38]) with h3 | h3
   ·rw [if_pos h3]
    rw [h3] at hI
    have hn2 := hT.nx (n + 1) hn1 (isS_4 h3)
    rw [drop_at hn2]
    rcases Bool.eq_false_or_eq_true (isN ts[n + 1 + 1]) with h4 | h4
    ·have hn3 := hT.nx (n + 1 + 1) hn2 (isN_4 h4)
     have hU2 := (hT.tk (n + 1 + 1) hn2).n
     simp only [numD, if_pos h4, tailD]
     rw [drop_at hn3]
     have hO := (hT.tk (n + 1 + 1 + 1) hn3).isO
     rcases Bool.eq_false_or_eq_true (isO ts[n + 1 + 1 + 1]) with h5 | h5
     ·have hn4 := hT.nx (n + 1 + 1 + 1) hn3 (isO_4 h5)
      have ho : ¬ opOf ts[n + 1 + 1 + 1].t = 0 := by
       rw [h5] at hO
       simpa using hO
      simp only [opD, if_pos h5]
      rw [drop_at hn4]
      rcases Bool.eq_false_or_eq_true (isN ts[n + 1 + 1 + 1 + 1]) with h6 | h6
      ·have hn5 := hT.nx (n + 1 + 1 + 1 + 1) hn4 (isN_4 h6)
       simp only [if_pos h6]
       refine (cond_a3 w b g cap n ts k h hn hn1 hn2 hn3 hn4 hn5 hk hj hI.symm h4 hU2 ho h6 (hT.tk _ hn4).n).mono ?_
       rintro e w' ⟨hb, rfl, hp⟩
       exact ⟨hb, _, rfl, hn5, rfl, hp⟩
      ·simp only [if_neg (not_of h6)]
       exact cond_a2 w b g cap n ts k h hn hn1 hn2 hn3 hn4 hk hj hI.symm h4 hU2 ho h6
     ·have ho : opOf ts[n + 1 + 1 + 1].t = 0 := by
       rw [h5] at hO
       simpa using hO
      simp only [opD, if_neg (not_of h5)]
      exact cond_a1 w b g cap n ts k h hn hn1 hn2 hn3 hk hj hI.symm h4 hU2 ho
    ·simp only [numD, if_neg (not_of h4)]
     exact cond_a0 w b g cap n ts k h hn hn1 hn2 hk hj hI.symm h4
   ·rw [if_neg (not_of h3)]
    rw [h3] at hI
    have hO := (hT.tk (n + 1) hn1).isO
    rcases Bool.eq_false_or_eq_true (isO ts[n + 1]) with h5 | h5
    ·have hn4 := hT.nx (n + 1) hn1 (isO_4 h5)
     have ho : ¬ opOf ts[n + 1].t = 0 := by
      rw [h5] at hO
      simpa using hO
     simp only [tailD, opD, if_pos h5]
     rw [drop_at hn4]
     rcases Bool.eq_false_or_eq_true (isN ts[n + 1 + 1]) with h6 | h6
     ·have hn5 := hT.nx (n + 1 + 1) hn4 (isN_4 h6)
      simp only [numD, if_pos h6]
      refine (cond_b2 w b g cap n ts k h hn hn1 hn4 hn5 hk hj hI.symm ho h6 (hT.tk _ hn4).n).mono ?_
      rintro e w' ⟨hb, rfl, hp⟩
      exact ⟨hb, _, rfl, hn5, rfl, hp⟩
     ·simp only [numD, if_neg (not_of h6)]
      exact cond_b1 w b g cap n ts k h hn hn1 hn4 hk hj hI.symm ho h6
    ·have ho : opOf ts[n + 1].t = 0 := by
      rw [h5] at hO
      simpa using hO
     simp only [tailD, opD, if_neg (not_of h5)]
     exact cond_b0 w b g cap n ts k h hn hn1 hk hj hI.symm ho
 ·have hk : argOf ts[n].t = 0 := by
   rw [h1] at hG
   simpa using hG
  rw [if_neg (not_of h1)]
  exact cond_bad w b g cap n ts k h hn hk
end Go.Proofs.YtmcgcbgblgmmkaaGreatDoor.P
