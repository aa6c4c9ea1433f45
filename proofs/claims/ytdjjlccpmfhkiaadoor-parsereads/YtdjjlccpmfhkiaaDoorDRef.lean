/-
  The document's answer for rules: the tokens' place, and what is asked of it.
-/
import Derived.Test.YtdjjlccpmfhkiaaDoorRd
import Derived.Test.YtdjjlccpmfhkiaaDoorPDesc
import Derived.BigQuiet
import Derived.Deep.RegionHeld3
namespace Go.Proofs.YtdjjlccpmfhkiaaDoor.Doc
open Go.RowKit

/-- the tokens' place: the tokens, how far, what is wrong and where. -/
structure Pc (w : World) (b g cap : Nat) (ts : List Tok) (n : Nat) (c p : Int) : Prop where
  blk : Blk w b 54 [.slice (some ⟨g, 0, none⟩) ts.length cap, .int .i64 n, .int .i64 c, .int .i64 p]
  tok : Toks w (some ⟨g, 0, none⟩) ts.length ts
  ne : g ≠ b
  len : ts.length ≤ 100000

section
variable {w w' : World} {b g cap n : Nat} {ts : List Tok} {c p : Int}
theorem Pc.over (h : Pc w b g cap ts n c p) (hb : Below w.heap.size w w') : Pc w' b g cap ts n c p := ⟨h.blk.over hb, h.tok.below hb, h.ne, h.len⟩
theorem Pc.at (h : Pc w b g cap ts n c p) (hn : n < ts.length) : ts[n].at w g (n * 4) := by
  obtain ⟨g', e, hc⟩ := h.tok.2 (by omega)
  cases e
  exact hc n ts[n] (List.getElem?_eq_getElem hn)
theorem Pc.set (h : Pc w b g cap ts n c p) (n' : Nat) : Pc (w.setCell ⟨b, 1, none⟩ (.int .i64 n')) b g cap ts n' c p :=
  ⟨h.blk.set 1 _, h.tok.bt ((Bt.refl b w).setCell 1 _) h.ne, h.ne, h.len⟩
theorem Pc.wrong (h : Pc w b g cap ts n c p) (c' p' : Int) : Pc ((w.setCell ⟨b, 2, none⟩ (.int .i64 c')).setCell ⟨b, 3, none⟩ (.int .i64 p')) b g cap ts n c' p' :=
  ⟨(h.blk.set 2 _).set 3 _, h.tok.bt (((Bt.refl b w).setCell 2 _).setCell 3 _) h.ne, h.ne, h.len⟩
end

set_option maxHeartbeats 2000000 in
theorem is_at (w : World) (b g cap n : Nat) (ts : List Tok) (c p : Int) (h : Pc w b g cap ts n c p) (hn : n < ts.length) (k : Nat) (t : List UInt8) :
    Calls Tryd.prog 18 #[.pointer (some ⟨b, 0, none⟩), .int .i64 k, .string (bar t)] w fun e w' => e = .returned (.bool (ts[n].k == k && ts[n].t == t)) ∧ Below w.heap.size w w' := by
  obtain ⟨x0, x1, x2, x3⟩ := h.at hn
  have c0 : w.cell? ⟨b, 0, none⟩ = some (.slice (some ⟨g, 0, none⟩) ts.length cap) := h.blk.cell 0
  have c1 : w.cell? ⟨b, 1, none⟩ = some (.int .i64 n) := h.blk.cell 1
  have hi : (n : Int) < (ts.length : Int) := by omega
  generalize ts[n] = x at *
  obtain ⟨xk, xa, xt, xn⟩ := x
  dsimp only at *
  clear h
  rcases Bool.eq_false_or_eq_true (xk == k) with hk | hk
  · have hk2 : ((xk : Int) == (k : Int)) = true := by
      rw [beq_iff_eq] at hk ⊢
      omega
    have HQ : Hid (((bar xt).toList == (bar t).toList) = (xk == k && xt == t)) := by
      show _ = _
      rw [hk, ByteArray.toList_eq, ByteArray.toList_eq]
      show ((lst (bar xt)) == (lst (bar t))) = _
      rw [lst_bar, lst_bar]
      rfl
    generalize bar xt = bx at *
    generalize bar t = bt at *
    clear hk
    go_enter Tryd.func18, Tryd.ntmps18
    go_wp2
    go_quiet (fail)
    go_wp2
    go_ret
    exact ⟨by rw [← HQ.out]; rfl, below_drewN _ _⟩
  · have hk2 : ((xk : Int) == (k : Int)) = false := by
      rw [beq_eq_false_iff_ne] at hk ⊢
      omega
    rw [hk]
    generalize bar xt = bx at *
    generalize bar t = bt at *
    clear hk
    go_enter Tryd.func18, Tryd.ntmps18
    go_wp2
    go_quiet (fail)
    go_wp2
    go_ret
    exact ⟨rfl, below_drewN _ _⟩

set_option maxHeartbeats 2000000 in
theorem fail_at (w : World) (b g cap n : Nat) (ts : List Tok) (c : Int) (h : Pc w b g cap ts n 0 0) (hn : n < ts.length) :
    Calls Tryd.prog 19 #[.pointer (some ⟨b, 0, none⟩), .int .i64 c] w fun e w' => e = .returned (.tuple #[]) ∧ Bt b w w' ∧ Pc w' b g cap ts n c ts[n].at' := by
  obtain ⟨x0, x1, x2, x3⟩ := h.at hn
  have c0 : w.cell? ⟨b, 0, none⟩ = some (.slice (some ⟨g, 0, none⟩) ts.length cap) := h.blk.cell 0
  have c1 : w.cell? ⟨b, 1, none⟩ = some (.int .i64 n) := h.blk.cell 1
  have c2 : w.cell? ⟨b, 2, none⟩ = some (.int .i64 0) := h.blk.cell 2
  have c3 : w.cell? ⟨b, 3, none⟩ = some (.int .i64 0) := h.blk.cell 3
  have f2 := h.blk.f 2
  have f3 := h.blk.f 3
  have hi : (n : Int) < (ts.length : Int) := by omega
  have hne : g ≠ b := h.ne
  have HP : Hid (Pc w b g cap ts n 0 0) := h
  have HB2 : Hid (Blk (w.setCell ⟨b, 2, none⟩ (.int .i64 c)) b 54 [.slice (some ⟨g, 0, none⟩) ts.length cap, .int .i64 n, .int .i64 c, .int .i64 0]) := h.blk.set 2 _
  have d0 : (w.setCell ⟨b, 2, none⟩ (.int .i64 c)).cell? ⟨b, 0, none⟩ = some (.slice (some ⟨g, 0, none⟩) ts.length cap) := HB2.out.cell 0
  have d1 : (w.setCell ⟨b, 2, none⟩ (.int .i64 c)).cell? ⟨b, 1, none⟩ = some (.int .i64 n) := HB2.out.cell 1
  have d3 : (w.setCell ⟨b, 2, none⟩ (.int .i64 c)).cell? ⟨b, 3, none⟩ = some (.int .i64 0) := HB2.out.cell 3
  have df : (w.setCell ⟨b, 2, none⟩ (.int .i64 c)).frozen? ⟨b, 3, none⟩ = false := HB2.out.f 3
  have dx : (w.setCell ⟨b, 2, none⟩ (.int .i64 c)).cell? ⟨g, n * 4 + 1, none⟩ = some (.int .i64 ts[n].at') := ((Bt.refl b w).setCell 2 _).cell x1 hne
  have HX : Hid (Bt b w ((w.setCell ⟨b, 2, none⟩ (.int .i64 c)).setCell ⟨b, 3, none⟩ (.int .i64 ts[n].at')) ∧ Pc ((w.setCell ⟨b, 2, none⟩ (.int .i64 c)).setCell ⟨b, 3, none⟩ (.int .i64 ts[n].at')) b g cap ts n c ts[n].at') :=
    ⟨((Bt.refl b w).setCell 2 _).setCell 3 _, h.wrong c ts[n].at'⟩
  have HK : Hid (((w.setCell ⟨b, 2, none⟩ (.int .i64 c)).setCell ⟨b, 3, none⟩ (.int .i64 ts[n].at')).cell? ⟨b, 0, none⟩ = some (.slice (some ⟨g, 0, none⟩) ts.length cap) ∧ ((w.setCell ⟨b, 2, none⟩ (.int .i64 c)).setCell ⟨b, 3, none⟩ (.int .i64 ts[n].at')).cell? ⟨b, 1, none⟩ = some (.int .i64 n) ∧ ((w.setCell ⟨b, 2, none⟩ (.int .i64 c)).setCell ⟨b, 3, none⟩ (.int .i64 ts[n].at')).cell? ⟨g, n * 4 + 1, none⟩ = some (.int .i64 ts[n].at')) :=
    ⟨(HB2.out.set 3 _).cell 0, (HB2.out.set 3 _).cell 1, HX.out.1.cell x1 hne⟩
  generalize ts[n].at' = xa at *
  clear h x0 x1 x2 x3 HP HB2
  go_enter Tryd.func19, Tryd.ntmps19
  go_wp2
  clear c0 c1 c2 c3 f2 f3
  generalize w.setCell ⟨b, 2, none⟩ (.int .i64 c) = X at *
  go_region_held3 (fun Y => Y.cell? ⟨b, 0, none⟩ = some (.slice (some ⟨g, 0, none⟩) ts.length cap) ∧ Y.cell? ⟨b, 1, none⟩ = some (.int .i64 n) ∧ Y.cell? ⟨g, n * 4 + 1, none⟩ = some (.int .i64 xa)) (first | assumption | exact HK.out | go_keep) (fail)
  all_goals
    go_wp2
    go_end0
    exact ⟨rfl, HX.out.1.over (Below.refl _ _).drew, HX.out.2.over (Below.refl _ _).drew⟩

set_option maxHeartbeats 2000000 in
theorem sign_ok (w : World) (b g cap n : Nat) (ts : List Tok) (h : Pc w b g cap ts n 0 0) (hn : n < ts.length) (t : List UInt8) (hs : isS ts[n] t = true) :
    Calls Tryd.prog 21 #[.pointer (some ⟨b, 0, none⟩), .string (bar t)] w fun e w' => e = .returned (.tuple #[]) ∧ Bt b w w' ∧ Pc w' b g cap ts (n + 1) 0 0 := by
  have HI : Hid (Calls Tryd.prog 18 #[.pointer (some ⟨b, 0, none⟩), .int .i64 3, .string (bar t)] w fun e w' => e = .returned (.bool true) ∧ Below w.heap.size w w') := by
    have := is_at w b g cap n ts 0 0 h hn 3 t
    unfold isS at hs
    rw [hs] at this
    exact this
  have hl : (n : Int) ≤ 100000 := by have := h.len; omega
  go_enter Tryd.func21, Tryd.ntmps21
  go_wp2_with (go_at_call 18; refine HI.out.mono ?_; rintro e w1 ⟨rfl, b1⟩; have P1 : Hid (Pc w1 b g cap ts n 0 0) := h.over b1; have c1 : w1.cell? ⟨b, 1, none⟩ = some (.int .i64 n) := P1.out.blk.cell 1; have f1 := P1.out.blk.f 1)
  go_end0
  exact ⟨rfl, (Bt.of b1).setCell 1 _, by have := P1.out.set (n + 1); exact this⟩

set_option maxHeartbeats 2000000 in
theorem sign_no (w : World) (b g cap n : Nat) (ts : List Tok) (h : Pc w b g cap ts n 0 0) (hn : n < ts.length) (t : List UInt8) (hs : isS ts[n] t = false) :
    Calls Tryd.prog 21 #[.pointer (some ⟨b, 0, none⟩), .string (bar t)] w fun e w' => e = .returned (.tuple #[]) ∧ Bt b w w' ∧ Pc w' b g cap ts n 7 ts[n].at' := by
  have HI : Hid (Calls Tryd.prog 18 #[.pointer (some ⟨b, 0, none⟩), .int .i64 3, .string (bar t)] w fun e w' => e = .returned (.bool false) ∧ Below w.heap.size w w') := by
    have := is_at w b g cap n ts 0 0 h hn 3 t
    unfold isS at hs
    rw [hs] at this
    exact this
  go_enter Tryd.func21, Tryd.ntmps21
  go_wp2_with (first | (go_at_call 18; refine HI.out.mono ?_; rintro e w1 ⟨rfl, b1⟩; have P1 : Hid (Pc w1 b g cap ts n 0 0) := h.over b1) | (go_at_call 19; refine (fail_at w1 b g cap n ts 7 P1.out hn).mono ?_; rintro e w2 ⟨rfl, b2, P2⟩))
  refine bodyPost_ret (results_none rfl _ _ _) rfl ?_
  exact ⟨rfl, (Bt.of b1).trans b2, P2⟩

/-- a token, copied into a block of its own. -/
structure Tc (w : World) (b g cap : Nat) (ts : List Tok) (n : Nat) (x : Tok) (X : World) : Prop where
  pc : Pc X b g cap ts n 0 0
  blk : Blk X w.heap.size 39 x.cells
  bt : Bt b w X
  ne : w.heap.size ≠ b

theorem tc_new {w : World} {b g cap n : Nat} {ts : List Tok} (h : Pc w b g cap ts n 0 0) (x : Tok) : Tc w b g cap ts n x (w.alloc (Obj.cells #[.int .i64 x.k, .int .i64 x.at', .string (bar x.t), .int .u64 x.n] 39)).drew := by
  have hb : Below w.heap.size w (w.alloc (Obj.cells #[.int .i64 x.k, .int .i64 x.at', .string (bar x.t), .int .u64 x.n] 39)).drew := ((Below.refl _ _).alloc (Nat.le_refl _) _).drew
  exact ⟨h.over hb, blk_new w _ 39, .of hb, by have := h.blk.lt; omega⟩

theorem Tc.facts {w X : World} {b g cap n : Nat} {ts : List Tok} {x : Tok} (h : Tc w b g cap ts n x X) :
    X.cell? ⟨w.heap.size, 0, none⟩ = some (.int .i64 x.k) ∧ X.cell? ⟨w.heap.size, 3, none⟩ = some (.int .u64 x.n) ∧ X.cell? ⟨b, 1, none⟩ = some (.int .i64 n) ∧ X.frozen? ⟨b, 1, none⟩ = false ∧ Bt b w X ∧
      ((X.setCell ⟨b, 1, none⟩ (.int .i64 ((n : Int) + 1))).cell? ⟨w.heap.size, 3, none⟩ = some (.int .u64 x.n) ∧ Bt b w (X.setCell ⟨b, 1, none⟩ (.int .i64 ((n : Int) + 1))) ∧ Pc (X.setCell ⟨b, 1, none⟩ (.int .i64 ((n : Int) + 1))) b g cap ts (n + 1) 0 0) := by
  refine ⟨h.blk.cell 0, h.blk.cell 3, h.pc.blk.cell 1, h.pc.blk.f 1, h.bt, ?_, h.bt.setCell 1 _, h.pc.set (n + 1)⟩
  exact ((Bt.refl b X).setCell 1 _).cell (a := ⟨w.heap.size, 3, none⟩) (h.blk.cell 3) h.ne

set_option maxHeartbeats 4000000 in
theorem number_ok (w : World) (b g cap n : Nat) (ts : List Tok) (h : Pc w b g cap ts n 0 0) (hn : n < ts.length) (hs : isN ts[n] = true) :
    Calls Tryd.prog 37 #[.pointer (some ⟨b, 0, none⟩)] w fun e w' => e = .returned (.int .u64 ts[n].n) ∧ Bt b w w' ∧ Pc w' b g cap ts (n + 1) 0 0 := by
  obtain ⟨x0, x1, x2, x3⟩ := h.at hn
  have c0 : w.cell? ⟨b, 0, none⟩ = some (.slice (some ⟨g, 0, none⟩) ts.length cap) := h.blk.cell 0
  have c1 : w.cell? ⟨b, 1, none⟩ = some (.int .i64 n) := h.blk.cell 1
  have hi : (n : Int) < (ts.length : Int) := by omega
  have hl : (n : Int) ≤ 100000 := by have := h.len; omega
  have hk : ((ts[n].k : Int) == 2) = true := by
    simp [isN] at hs
    rw [hs]
    rfl
  have HP : Hid (Pc w b g cap ts n 0 0) := h
  generalize ts[n] = x at *
  obtain ⟨xk, xa, xt, xn⟩ := x
  dsimp only at *
  clear h hs
  have hb : Below w.heap.size w (w.alloc (Obj.cells #[.int .i64 0, .int .i64 0, .string ⟨#[]⟩, .int .u64 0] 39)) := (Below.refl _ _).alloc (Nat.le_refl _) _
  have hlb := World.block_lt_of_cell? w _ c0
  have hlg := World.block_lt_of_cell? w _ x0
  have d0 := (hb.cell (p := ⟨b, 0, none⟩) hlb).trans c0
  have d1 := (hb.cell (p := ⟨b, 1, none⟩) hlb).trans c1
  have y0 := (hb.cell (p := ⟨g, n * 4, none⟩) hlg).trans x0
  have y1 := (hb.cell (p := ⟨g, n * 4 + 1, none⟩) hlg).trans x1
  have y2 := (hb.cell (p := ⟨g, n * 4 + 2, none⟩) hlg).trans x2
  have y3 := (hb.cell (p := ⟨g, n * 4 + 3, none⟩) hlg).trans x3
  clear hb hlb hlg
  have HT : Hid (Tc w b g cap ts n ⟨xk, xa, xt, xn⟩ (w.alloc (Obj.cells #[.int .i64 xk, .int .i64 xa, .string (bar xt), .int .u64 xn] 39)).drew) := tc_new HP.out ⟨xk, xa, xt, xn⟩
  go_enter Tryd.func37, Tryd.ntmps37
  go_wp2
  go_region
  all_goals
    obtain ⟨e0, e3, e1, ef, hbt, hset⟩ := HT.out.facts
    have HS : Hid _ := hset
    have HBT : Hid _ := hbt
    clear c0 c1 x0 x1 x2 x3 d0 d1 y0 y1 y2 y3 HT hbt hset
    dsimp only at e0 e3
    generalize (w.alloc (Obj.cells #[.int .i64 xk, .int .i64 xa, .string (bar xt), .int .u64 xn] 39)).drew = X at *
    obtain ⟨z3, hz1, hz2⟩ := HS.out
    have HZ1 : Hid _ := hz1
    have HZ2 : Hid _ := hz2
    clear HS hz1 hz2
    dsimp only at z3
    go_wp2
    go_ret
    exact ⟨rfl, HZ1.out, HZ2.out⟩

set_option maxHeartbeats 4000000 in
theorem number_no (w : World) (b g cap n : Nat) (ts : List Tok) (h : Pc w b g cap ts n 0 0) (hn : n < ts.length) (hs : isN ts[n] = false) :
    Calls Tryd.prog 37 #[.pointer (some ⟨b, 0, none⟩)] w fun e w' => e = .returned (.int .u64 0) ∧ Bt b w w' ∧ Pc w' b g cap ts n 7 ts[n].at' := by
  obtain ⟨x0, x1, x2, x3⟩ := h.at hn
  have c0 : w.cell? ⟨b, 0, none⟩ = some (.slice (some ⟨g, 0, none⟩) ts.length cap) := h.blk.cell 0
  have c1 : w.cell? ⟨b, 1, none⟩ = some (.int .i64 n) := h.blk.cell 1
  have hi : (n : Int) < (ts.length : Int) := by omega
  have hk : ¬ (ts[n].k : Int) = 2 := by
    simp [isN] at hs
    omega
  have hk2 : ((ts[n].k : Int) == 2) = false := by rw [beq_eq_false_iff_ne]; exact hk
  have HP : Hid (Pc w b g cap ts n 0 0) := h
  have HF : Hid (∀ W, Pc W b g cap ts n 0 0 → Calls Tryd.prog 19 #[.pointer (some ⟨b, 0, none⟩), .int .i64 7] W fun e w' => e = .returned (.tuple #[]) ∧ Bt b W w' ∧ Pc w' b g cap ts n 7 ts[n].at') := fun W hW => fail_at W b g cap n ts 7 hW hn
  generalize ts[n] = x at *
  obtain ⟨xk, xa, xt, xn⟩ := x
  dsimp only at *
  clear h hs
  have hb : Below w.heap.size w (w.alloc (Obj.cells #[.int .i64 0, .int .i64 0, .string ⟨#[]⟩, .int .u64 0] 39)) := (Below.refl _ _).alloc (Nat.le_refl _) _
  have hlb := World.block_lt_of_cell? w _ c0
  have hlg := World.block_lt_of_cell? w _ x0
  have d0 := (hb.cell (p := ⟨b, 0, none⟩) hlb).trans c0
  have d1 := (hb.cell (p := ⟨b, 1, none⟩) hlb).trans c1
  have y0 := (hb.cell (p := ⟨g, n * 4, none⟩) hlg).trans x0
  have y1 := (hb.cell (p := ⟨g, n * 4 + 1, none⟩) hlg).trans x1
  have y2 := (hb.cell (p := ⟨g, n * 4 + 2, none⟩) hlg).trans x2
  have y3 := (hb.cell (p := ⟨g, n * 4 + 3, none⟩) hlg).trans x3
  clear hb hlb hlg
  have HT : Hid (Tc w b g cap ts n ⟨xk, xa, xt, xn⟩ (w.alloc (Obj.cells #[.int .i64 xk, .int .i64 xa, .string (bar xt), .int .u64 xn] 39)).drew) := tc_new HP.out ⟨xk, xa, xt, xn⟩
  go_enter Tryd.func37, Tryd.ntmps37
  go_wp2
  go_region
  all_goals
    obtain ⟨e0, e3, e1, ef, hbt, hset⟩ := HT.out.facts
    have HBT : Hid _ := hbt
    have HPC : Hid (Pc _ b g cap ts n 0 0) := HT.out.pc
    clear c0 c1 x0 x1 x2 x3 d0 d1 y0 y1 y2 y3 HT hbt hset
    dsimp only at e0 e3
    generalize (w.alloc (Obj.cells #[.int .i64 xk, .int .i64 xa, .string (bar xt), .int .u64 xn] 39)).drew = X at *
    go_wp2_with (go_at_call 19; refine (HF.out _ HPC.out).mono ?_; rintro e w2 ⟨rfl, b2, P2⟩)
    go_ret
    exact ⟨rfl, HBT.out.trans b2, P2⟩

/-- the words of acts, and the signs of ops, from 1 on. -/
def wordsL : List (List UInt8) := [[], wKill, wThread, wTrap, wErrno, wNotify, wTrace, wLog, wAllow]
def opsL : List (List UInt8) := [[], [61, 61], [33, 61], [60], [60, 61], [62], [62, 61]]

theorem kind_hit (t : List UInt8) (k : Nat) (h1 : 1 ≤ k) (hb : ∀ j, 1 ≤ j → j < k → ¬ wordsL[j]? = some t) (hk : wordsL[k]? = some t) : kindOf t = k := by
  match k, h1, hb, hk with
  | 1, _, _, hk => cases hk; rfl
  | 2, _, _, hk => cases hk; rfl
  | 3, _, _, hk => cases hk; rfl
  | 4, _, _, hk => cases hk; rfl
  | 5, _, _, hk => cases hk; rfl
  | 6, _, _, hk => cases hk; rfl
  | 7, _, _, hk => cases hk; rfl
  | 8, _, _, hk => cases hk; rfl
  | k + 9, _, _, hk => simp [wordsL] at hk
theorem kind_miss (t : List UInt8) (hb : ∀ j, 1 ≤ j → j < 9 → ¬ wordsL[j]? = some t) : kindOf t = 0 := by
  have n : ∀ (j : Nat) (p : List UInt8), 1 ≤ j → j < 9 → wordsL[j]? = some p → ¬ t = p := fun j p h1 h2 h3 e => hb j h1 h2 (by rw [e]; exact h3)
  unfold kindOf
  rw [if_neg (n 1 _ (by decide) (by decide) rfl), if_neg (n 2 _ (by decide) (by decide) rfl), if_neg (n 3 _ (by decide) (by decide) rfl), if_neg (n 4 _ (by decide) (by decide) rfl), if_neg (n 5 _ (by decide) (by decide) rfl), if_neg (n 6 _ (by decide) (by decide) rfl), if_neg (n 7 _ (by decide) (by decide) rfl), if_neg (n 8 _ (by decide) (by decide) rfl)]
theorem op_hit (t : List UInt8) (k : Nat) (h1 : 1 ≤ k) (hk : opsL[k]? = some t) : opOf t = k := by
  match k, h1, hk with
  | 1, _, hk => cases hk; rfl
  | 2, _, hk => cases hk; rfl
  | 3, _, hk => cases hk; rfl
  | 4, _, hk => cases hk; rfl
  | 5, _, hk => cases hk; rfl
  | 6, _, hk => cases hk; rfl
  | k + 7, _, hk => simp [opsL] at hk
theorem op_miss (t : List UInt8) (hb : ∀ j, 1 ≤ j → j < 7 → ¬ opsL[j]? = some t) : opOf t = 0 := by
  have n : ∀ (j : Nat) (p : List UInt8), 1 ≤ j → j < 7 → opsL[j]? = some p → ¬ t = p := fun j p h1 h2 h3 e => hb j h1 h2 (by rw [e]; exact h3)
  unfold opOf
  rw [if_neg (n 1 _ (by decide) (by decide) rfl), if_neg (n 2 _ (by decide) (by decide) rfl), if_neg (n 3 _ (by decide) (by decide) rfl), if_neg (n 4 _ (by decide) (by decide) rfl), if_neg (n 5 _ (by decide) (by decide) rfl), if_neg (n 6 _ (by decide) (by decide) rfl)]

/-- texts in a block. -/
def Tx (w : World) (b : Nat) (L : List (List UInt8)) : Prop := ∀ i p, L[i]? = some p → w.cell? ⟨b, i, none⟩ = some (.string (bar p))

theorem tx_new (w : World) (L : List (List UInt8)) (o : Obj) (ho : o = .cells (L.map fun p => Value.string (bar p)).toArray 9) : Tx (w.alloc o) w.heap.size L := by
  subst ho
  intro i p hp
  rw [(blk_new w _ 9).cell i]
  simp [hp]

theorem Tx.below {w w' : World} {b : Nat} {L : List (List UInt8)} (h : Tx w b L) (hb : Below w.heap.size w w') : Tx w' b L := by
  intro i p hp
  rw [hb.cell (p := ⟨b, i, none⟩) (World.block_lt_of_cell? w _ (h i p hp))]
  exact h i p hp

set_option maxHeartbeats 2000000 in
theorem kind_at (t : List UInt8) (w : World) :
    Calls Tryd.prog 36 #[.string (bar t)] w fun e w' => e = .returned (.int .i64 (kindOf t)) ∧ Below w.heap.size w w' := by
  have HX : Hid (Tx (w.alloc (Obj.cells #[.string ⟨#[]⟩, .string ⟨#[107, 105, 108, 108]⟩, .string ⟨#[116, 104, 114, 101, 97, 100]⟩, .string ⟨#[116, 114, 97, 112]⟩, .string ⟨#[101, 114, 114, 110, 111]⟩, .string ⟨#[110, 111, 116, 105, 102, 121]⟩, .string ⟨#[116, 114, 97, 99, 101]⟩, .string ⟨#[108, 111, 103]⟩, .string ⟨#[97, 108, 108, 111, 119]⟩] 9)) w.heap.size wordsL) := tx_new w wordsL _ rfl
  have HB : Hid (Below w.heap.size w (w.alloc (Obj.cells #[.string ⟨#[]⟩, .string ⟨#[107, 105, 108, 108]⟩, .string ⟨#[116, 104, 114, 101, 97, 100]⟩, .string ⟨#[116, 114, 97, 112]⟩, .string ⟨#[101, 114, 114, 110, 111]⟩, .string ⟨#[110, 111, 116, 105, 102, 121]⟩, .string ⟨#[116, 114, 97, 99, 101]⟩, .string ⟨#[108, 111, 103]⟩, .string ⟨#[97, 108, 108, 111, 119]⟩] 9))) := (Below.refl _ _).alloc (Nat.le_refl _) _
  have HT : Hid (∀ p : List UInt8, ((bar p).toList == (bar t).toList) = decide (p = t)) := by
    intro p
    rw [ByteArray.toList_eq, ByteArray.toList_eq]
    show ((lst (bar p)) == (lst (bar t))) = _
    rw [lst_bar, lst_bar, Bool.eq_iff_iff]
    simp
  generalize hR : kindOf t = R
  have HR : Hid (kindOf t = R) := hR
  clear hR
  go_enter Tryd.func36, Tryd.ntmps36
  go_wp2
  generalize w.alloc (Obj.cells #[.string ⟨#[]⟩, .string ⟨#[107, 105, 108, 108]⟩, .string ⟨#[116, 104, 114, 101, 97, 100]⟩, .string ⟨#[116, 114, 97, 112]⟩, .string ⟨#[101, 114, 114, 110, 111]⟩, .string ⟨#[110, 111, 116, 105, 102, 121]⟩, .string ⟨#[116, 114, 97, 99, 101]⟩, .string ⟨#[108, 111, 103]⟩, .string ⟨#[97, 108, 108, 111, 119]⟩] 9) = X at *
  go_loop [2, 4] (fun r i => ∃ k : Nat, 1 ≤ k ∧ k ≤ 9 ∧ i = .int .i64 k ∧ Hid (∀ j, 1 ≤ j → j < k → ¬ wordsL[j]? = some t)) (fun _ i => 9 - (intOf i).toNat)
  case atStart => exact ⟨1, Nat.le_refl _, by omega, rfl, fun j h1 h2 => by omega⟩
  case round =>
    obtain ⟨k, hk1, hk9, rfl, HF⟩ := hrel
    by_cases hlt : k < 9
    · obtain ⟨p, hp⟩ : ∃ p, wordsL[k]? = some p := ⟨_, List.getElem?_eq_getElem (show k < wordsL.length from hlt)⟩
      have hc := HX.out k p hp
      have hq := HT.out p
      have HPP : Hid (wordsL[k]? = some p) := hp
      clear hp
      by_cases hpt : p = t
      · rw [decide_eq_true hpt] at hq
        have HE : Hid (R = k) := by
          show _ = _
          rw [← HR.out]
          exact kind_hit t k hk1 HF.out (by rw [HPP.out, hpt])
        clear hpt
        generalize bar p = bp at *
        generalize bar t = bt at *
        go_wp2
        go_ret
        exact ⟨by rw [HE.out]; rfl, HB.out⟩
      · rw [decide_eq_false hpt] at hq
        have HN : Hid (∀ j, 1 ≤ j → j < k + 1 → ¬ wordsL[j]? = some t) := by
          intro j h1 h2 h3
          rcases Nat.lt_or_ge j k with h | h
          · exact HF.out j h1 h h3
          · obtain rfl : j = k := by omega
            rw [HPP.out] at h3
            cases h3
            exact hpt rfl
        clear hpt
        generalize bar p = bp at *
        generalize bar t = bt at *
        go_wp2
        go_round
        case rel => exact ⟨k + 1, by omega, by omega, by go_num, HN⟩
        case measure => simp [intOf]; omega
    · have hge : ¬ (k : Int) < 9 := by omega
      have HE : Hid (R = 0) := by
        show _ = _
        rw [← HR.out]
        exact kind_miss t (fun j h1 h2 => HF.out j h1 (by omega))
      go_wp2
      go_ret
      exact ⟨by rw [HE.out]; rfl, HB.out⟩

set_option maxHeartbeats 2000000 in
theorem op_at (w : World) (b g cap n : Nat) (ts : List Tok) (h : Pc w b g cap ts n 0 0) (hn : n < ts.length) :
    Calls Tryd.prog 56 #[.pointer (some ⟨b, 0, none⟩)] w fun e w' => Bt b w w' ∧ (isO ts[n] = true → e = .returned (.int .i64 (opOf ts[n].t)) ∧ Pc w' b g cap ts (n + 1) 0 0) ∧ (isO ts[n] = false → e = .returned (.int .i64 0) ∧ Pc w' b g cap ts n 7 ts[n].at') := by
  have HX : Hid (Tx (w.alloc (Obj.cells #[.string ⟨#[]⟩, .string ⟨#[61, 61]⟩, .string ⟨#[33, 61]⟩, .string ⟨#[60]⟩, .string ⟨#[60, 61]⟩, .string ⟨#[62]⟩, .string ⟨#[62, 61]⟩] 9)) w.heap.size opsL) := tx_new w opsL _ rfl
  have HB : Hid (Below w.heap.size w (w.alloc (Obj.cells #[.string ⟨#[]⟩, .string ⟨#[61, 61]⟩, .string ⟨#[33, 61]⟩, .string ⟨#[60]⟩, .string ⟨#[60, 61]⟩, .string ⟨#[62]⟩, .string ⟨#[62, 61]⟩] 9))) := (Below.refl _ _).alloc (Nat.le_refl _) _
  have HP : Hid (Pc (w.alloc (Obj.cells #[.string ⟨#[]⟩, .string ⟨#[61, 61]⟩, .string ⟨#[33, 61]⟩, .string ⟨#[60]⟩, .string ⟨#[60, 61]⟩, .string ⟨#[62]⟩, .string ⟨#[62, 61]⟩] 9)) b g cap ts n 0 0) := h.over HB.out
  have HI : Hid (∀ W (t : List UInt8), Pc W b g cap ts n 0 0 → Calls Tryd.prog 18 #[.pointer (some ⟨b, 0, none⟩), .int .i64 3, .string (bar t)] W fun e w' => e = .returned (.bool (isS ts[n] t)) ∧ Below W.heap.size W w') := fun W t hW => is_at W b g cap n ts 0 0 hW hn 3 t
  have HF : Hid (∀ W, Pc W b g cap ts n 0 0 → Calls Tryd.prog 19 #[.pointer (some ⟨b, 0, none⟩), .int .i64 7] W fun e w' => e = .returned (.tuple #[]) ∧ Bt b W w' ∧ Pc w' b g cap ts n 7 ts[n].at') := fun W hW => fail_at W b g cap n ts 7 hW hn
  have hl : (n : Int) ≤ 100000 := by have := h.len; omega
  have HN0 : Hid (isO ts[n] = true → ts[n].k = 3) := by
    intro h
    simp [isO] at h
    exact h.1
  clear h
  generalize ts[n] = x at *
  go_enter Tryd.func56, Tryd.ntmps56
  go_wp2
  generalize w.alloc (Obj.cells #[.string ⟨#[]⟩, .string ⟨#[61, 61]⟩, .string ⟨#[33, 61]⟩, .string ⟨#[60]⟩, .string ⟨#[60, 61]⟩, .string ⟨#[62]⟩, .string ⟨#[62, 61]⟩] 9) = X at *
  go_loopw [2, 4] (fun r i wr => ∃ k : Nat, 1 ≤ k ∧ k ≤ 7 ∧ i = .int .i64 k ∧ Below X.heap.size X wr ∧ Hid (∀ j t, 1 ≤ j → j < k → opsL[j]? = some t → isS x t = false)) (fun _ i _ => 7 - (intOf i).toNat)
  case atStart => exact ⟨1, Nat.le_refl _, by omega, rfl, Below.refl _ _, fun j t h1 h2 => by omega⟩
  case round =>
    obtain ⟨k, hk1, hk7, rfl, hb, HG⟩ := hrel
    have PR : Hid (Pc wr b g cap ts n 0 0) := HP.out.over hb
    have BR : Hid (Below w.heap.size w wr) := HB.out.trans (hb.mono HB.out.size)
    have BX : Hid (Below X.heap.size X wr) := hb
    by_cases hlt : k < 7
    · obtain ⟨p, hp⟩ : ∃ p, opsL[k]? = some p := ⟨_, List.getElem?_eq_getElem (show k < opsL.length from hlt)⟩
      have hc := (HX.out.below hb) k p hp
      have HPP : Hid (opsL[k]? = some p) := hp
      have HIp : Hid (Calls Tryd.prog 18 #[.pointer (some ⟨b, 0, none⟩), .int .i64 3, .string (bar p)] wr fun e w' => e = .returned (.bool (isS x p)) ∧ Below wr.heap.size wr w') := HI.out wr p PR.out
      clear hp hb
      rcases Bool.eq_false_or_eq_true (isS x p) with hq | hq
      · have HE : Hid (isO x = true ∧ opOf x.t = k) := by
          have h2 : x.k = 3 ∧ x.t = p := by simpa [isS] using hq
          have h3 : opOf x.t = k := by rw [h2.2]; exact op_hit p k hk1 HPP.out
          refine ⟨?_, h3⟩
          simp [isO, h2.1, h3]
          omega
        generalize bar p = bp at *
        go_wp2_with (go_at_call 18; refine HIp.out.mono ?_; rintro e w2 ⟨rfl, b2⟩; rw [hq]; have P2 : Hid (Pc w2 b g cap ts n 0 0) := PR.out.over b2; have c1 : w2.cell? ⟨b, 1, none⟩ = some (.int .i64 n) := P2.out.blk.cell 1; have f1 := P2.out.blk.f 1; have B2 : Hid (Below w.heap.size w w2) := BR.out.trans (b2.mono BR.out.size))
        go_ret
        exact ⟨(Bt.of B2.out).setCell 1 _, fun _ => ⟨by rw [HE.out.2]; rfl, P2.out.set (n + 1)⟩, fun h => by rw [HE.out.1] at h; cases h⟩
      · have HN : Hid (∀ j t, 1 ≤ j → j < k + 1 → opsL[j]? = some t → isS x t = false) := by
          intro j t h1 h2 h3
          rcases Nat.lt_or_ge j k with h | h
          · exact HG.out j t h1 h h3
          · obtain rfl : j = k := by omega
            rw [HPP.out] at h3
            cases h3
            exact hq
        generalize bar p = bp at *
        go_wp2_with (go_at_call 18; refine HIp.out.mono ?_; rintro e w2 ⟨rfl, b2⟩; rw [hq])
        go_roundw
        case rel => exact ⟨k + 1, by omega, by omega, by go_num, BX.out.trans (b2.mono BX.out.size), HN⟩
        case measure => simp [intOf]; omega
    · have hge : ¬ (k : Int) < 7 := by omega
      have HE : Hid (isO x = false) := by
        rcases Bool.eq_false_or_eq_true (isO x) with h | h
        · exfalso
          have h3 := HN0.out h
          have h0 : opOf x.t = 0 := op_miss x.t (fun j h1 h2 h4 => by
            have := HG.out j x.t h1 (by omega) h4
            simp [isS, h3] at this)
          simp [isO, h0] at h
        · exact h
      clear hb
      go_wp2_with (go_at_call 19; refine (HF.out _ PR.out).mono ?_; rintro e w2 ⟨rfl, b2, P2⟩)
      go_ret
      refine ⟨(Bt.of BR.out).trans b2, fun h => ?_, fun _ => ⟨rfl, P2⟩⟩
      rw [HE.out] at h
      cases h

end Go.Proofs.YtdjjlccpmfhkiaaDoor.Doc
