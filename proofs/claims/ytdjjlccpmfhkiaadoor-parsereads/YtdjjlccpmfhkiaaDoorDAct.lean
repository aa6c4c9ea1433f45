/-
  The document's answer for rules: acts.
-/
import Derived.Test.YtdjjlccpmfhkiaaDoorDRef
import Derived.Test.YtdjjlccpmfhkiaaDoorRd5
namespace Go.Proofs.YtdjjlccpmfhkiaaDoor.Doc
open Go.RowKit


theorem Pc.setRow {w : World} {b g cap n r : Nat} {ts : List Tok} {c p : Int} (h : Pc w b g cap ts n c p) (hb : r ≠ b) (hg : r ≠ g) (cs : Array Value) : Pc (w.setRow r cs) b g cap ts n c p := by
  refine ⟨?_, ?_, h.ne, h.len⟩
  · unfold Blk
    rw [setRow_other _ _ _ _ (Ne.symm hb)]
    exact h.blk
  · refine ⟨h.tok.1, fun h0 => ?_⟩
    obtain ⟨g', e, hc⟩ := h.tok.2 h0
    cases e
    have k : ∀ j v, w.cell? ⟨g, j, none⟩ = some v → (w.setRow r cs).cell? ⟨g, j, none⟩ = some v := by
      intro j v hv
      rw [World.cell?_of_block (w := w) (setRow_other w r g cs (Ne.symm hg))]
      exact hv
    exact ⟨g, rfl, fun i x hx => ⟨k _ _ (hc i x hx).1, k _ _ (hc i x hx).2.1, k _ _ (hc i x hx).2.2.1, k _ _ (hc i x hx).2.2.2⟩⟩

theorem Pc.lt {w : World} {b g cap n : Nat} {ts : List Tok} {c p : Int} (h : Pc w b g cap ts n c p) (hn : n < ts.length) : g < w.heap.size ∧ b < w.heap.size := ⟨World.block_lt_of_cell? w _ (h.at hn).1, h.blk.lt⟩

/-- an act's cells, in a block of its own, and the place. -/
structure Ax (w : World) (b g cap : Nat) (ts : List Tok) (m : Nat) (c p : Int) (l : List Value) (X : World) : Prop where
  pc : Pc X b g cap ts m c p
  blk : Blk X w.heap.size 24 l
  bt : Bt b w X
  ne : w.heap.size ≠ b
  ng : w.heap.size ≠ g

section
variable {w X Y : World} {b g cap m m' : Nat} {ts : List Tok} {c p c' p' : Int} {l : List Value}
theorem Ax.over (h : Ax w b g cap ts m c p l X) (hb : Below X.heap.size X Y) : Ax w b g cap ts m c p l Y := ⟨h.pc.over hb, h.blk.over hb, h.bt.over hb, h.ne, h.ng⟩
theorem Ax.on (h : Ax w b g cap ts m c p l X) (hb : Bt b X Y) (hp : Pc Y b g cap ts m' c' p') : Ax w b g cap ts m' c' p' l Y := ⟨hp, hb.blk h.blk h.ne, h.bt.trans hb, h.ne, h.ng⟩
theorem Ax.next (h : Ax w b g cap ts m c p l X) : Ax w b g cap ts (m + 1) c p l (X.setCell ⟨b, 1, none⟩ (.int .i64 ((m : Int) + 1))) := h.on ((Bt.refl b X).setCell 1 _) (h.pc.set (m + 1))
theorem Ax.row (h : Ax w b g cap ts m c p l X) (l' : List Value) : Ax w b g cap ts m c p l' (X.setRow w.heap.size l'.toArray) := ⟨h.pc.setRow h.ne h.ng _, h.blk.row _, h.bt.setRow (Nat.le_refl _) _, h.ne, h.ng⟩
end

theorem ax_new {w : World} {b g cap n : Nat} {ts : List Tok} (h : Pc w b g cap ts n 0 0) (hn : n < ts.length) : Ax w b g cap ts n 0 0 [.int .i64 0, .int .i64 0] (w.alloc (Obj.cells #[.int .i64 0, .int .i64 0] 24)) := by
  have hb : Below w.heap.size w (w.alloc (Obj.cells #[.int .i64 0, .int .i64 0] 24)) := (Below.refl _ _).alloc (Nat.le_refl _) _
  have hl := h.lt hn
  exact ⟨h.over hb, blk_new w _ _, .of hb, by omega, by omega⟩

set_option maxRecDepth 4000 in
set_option maxHeartbeats 4000000 in
/-- no act stands there. -/
theorem act_bad (w : World) (b g cap n : Nat) (ts : List Tok) (h : Pc w b g cap ts n 0 0) (hn : n < ts.length) (hs : isA ts[n] = false) :
    Calls Tryd.prog 20 #[.pointer (some ⟨b, 0, none⟩)] w fun e w' => e = .returned (actV 0 0) ∧ Bt b w w' ∧ Pc w' b g cap ts n 7 ts[n].at' := by
  have A0 : Hid (Ax w b g cap ts n 0 0 (actL 0 0) (w.alloc (Obj.cells #[.int .i64 0, .int .i64 0] 24))) := ax_new h hn
  obtain ⟨x0, x1, x2, x3⟩ := A0.out.pc.at hn
  have c0 : (w.alloc (Obj.cells #[.int .i64 0, .int .i64 0] 24)).cell? ⟨b, 0, none⟩ = some (.slice (some ⟨g, 0, none⟩) ts.length cap) := A0.out.pc.blk.cell 0
  have c1 : (w.alloc (Obj.cells #[.int .i64 0, .int .i64 0] 24)).cell? ⟨b, 1, none⟩ = some (.int .i64 n) := A0.out.pc.blk.cell 1
  have hi : (n : Int) < (ts.length : Int) := by omega
  have hl : (n : Int) ≤ 100000 := by have := h.len; omega
  have HK : Hid (∀ W : World, Calls Tryd.prog 36 #[.string (bar ts[n].t)] W fun e w' => e = .returned (.int .i64 (kindOf ts[n].t)) ∧ Below W.heap.size W w') := fun W => kind_at ts[n].t W
  have HF : Hid (∀ W, Pc W b g cap ts n 0 0 → Calls Tryd.prog 19 #[.pointer (some ⟨b, 0, none⟩), .int .i64 7] W fun e w' => e = .returned (.tuple #[]) ∧ Bt b W w' ∧ Pc w' b g cap ts n 7 ts[n].at') := fun W hW => fail_at W b g cap (n) ts 7 hW hn
  have HS : ¬ ts[n].k = 1 ∨ kindOf ts[n].t = 0 := by
    simp [isA] at hs
    by_cases h1 : ts[n].k = 1
    · exact .inr (hs h1)
    · exact .inl h1
  clear hs h
  generalize kindOf ts[n].t = K at *
  generalize hx : ts[n] = x at *
  obtain ⟨xk, xa, xt, xn⟩ := x
  dsimp only at *
  clear hx
  go_enter Tryd.func20, Tryd.ntmps20
  go_wp2
  have HR0 : Hid (w.heap.size < (w.alloc (Obj.cells #[.int .i64 0, .int .i64 0] 24)).heap.size) := by show _ < _; rw [size_alloc']; omega
  generalize w.alloc (Obj.cells #[.int .i64 0, .int .i64 0] 24) = W0 at *
  have hb : Below W0.heap.size W0 (W0.alloc (Obj.cells #[.int .i64 0, .int .i64 0, .string ⟨#[]⟩, .int .u64 0] 39)) := (Below.refl _ _).alloc (Nat.le_refl _) _
  have hlb := World.block_lt_of_cell? W0 _ c0
  have hlg := World.block_lt_of_cell? W0 _ x0
  have d0 := (hb.cell (p := ⟨b, 0, none⟩) hlb).trans c0
  have d1 := (hb.cell (p := ⟨b, 1, none⟩) hlb).trans c1
  have y0 := (hb.cell (p := ⟨g, n * 4, none⟩) hlg).trans x0
  have y1 := (hb.cell (p := ⟨g, n * 4 + 1, none⟩) hlg).trans x1
  have y2 := (hb.cell (p := ⟨g, n * 4 + 2, none⟩) hlg).trans x2
  have y3 := (hb.cell (p := ⟨g, n * 4 + 3, none⟩) hlg).trans x3
  clear hb hlb hlg
  have A1 : Hid (Ax w b g cap ts n 0 0 (actL 0 0) (W0.alloc (Obj.cells #[.int .i64 xk, .int .i64 xa, .string (bar xt), .int .u64 xn] 39)).drew) := A0.out.over (((Below.refl _ _).alloc (Nat.le_refl _) _).drew)
  have D1 : Hid (Blk (W0.alloc (Obj.cells #[.int .i64 xk, .int .i64 xa, .string (bar xt), .int .u64 xn] 39)).drew W0.heap.size 39 [.int .i64 xk, .int .i64 xa, .string (bar xt), .int .u64 xn]) := blk_new W0 _ 39
  have e2 : (W0.alloc (Obj.cells #[.int .i64 xk, .int .i64 xa, .string (bar xt), .int .u64 xn] 39)).drew.cell? ⟨W0.heap.size, 2, none⟩ = some (.string (bar xt)) := D1.out.cell 2
  go_region
  all_goals
    clear c0 c1 x0 x1 x2 x3 d0 d1 y0 y1 y2 y3 A0
    generalize (W0.alloc (Obj.cells #[.int .i64 xk, .int .i64 xa, .string (bar xt), .int .u64 xn] 39)).drew = X at *
    generalize W0.heap.size = r3 at *
    generalize bar xt = bx at *
    rcases (show (¬ (xk : Int) = 1 ∧ ((xk : Int) == 1) = false) ∨ (xk : Int) = 1 ∧ (K : Int) = 0 from by
      by_cases h1 : xk = 1
      · right
        rcases HS with h | h
        · exact absurd h1 h
        · exact ⟨by omega, by omega⟩
      · left
        exact ⟨by omega, by rw [beq_eq_false_iff_ne]; omega⟩) with ⟨hk1, hk2⟩ | ⟨hk1, hk2⟩
    · clear HS
      go_wp2_with (first | (go_at_call 36; refine (HK.out _).mono ?_; rintro e w1 ⟨rfl, b1⟩; have A2 : Hid (Ax w b g cap ts n 0 0 (actL 0 0) w1) := A1.out.over b1; have g0 : w1.cell? ⟨r3, 0, none⟩ = some (.int .i64 xk) := (D1.out.over b1).cell 0; have g1 : w1.cell? ⟨b, 1, none⟩ = some (.int .i64 n) := A2.out.pc.blk.cell 1; have gf := A2.out.pc.blk.f 1) | (go_at_call 19; refine (HF.out _ A2.out.pc).mono ?_; rintro e w2 ⟨rfl, b2, P2⟩; have A3 : Hid (Ax w b g cap ts n 7 xa (actL 0 0) w2) := A2.out.on b2 P2) | (refine at_op' (.store 24 (.tmp 2) (.tmp 28)) rfl ?_; refine wpList_store_row rfl 24 (.tmp 2) (.tmp 28) rfl w.heap.size (actL 0 0).toArray rfl rfl 24 _ A3.out.blk (actL_size _ _) rfl (actL_one _ _) ?_))
      refine bodyPost_ret (v := actV (0) (0)) ?_ rfl ⟨rfl, (A3.out.row (actL (0) (0))).bt, (A3.out.row (actL (0) (0))).pc⟩
      exact results_cell_row Tryd.results20 _ _ w.heap.size 24 (actL (0) (0)).toArray (0, 0) _ rfl (A3.out.row (actL (0) (0))).blk Tryd.underlying24 rfl (actL_size _ _)
    · clear HS
      go_wp2_with (first | (go_at_call 36; refine (HK.out _).mono ?_; rintro e w1 ⟨rfl, b1⟩; have A2 : Hid (Ax w b g cap ts n 0 0 (actL 0 0) w1) := A1.out.over b1; have g0 : w1.cell? ⟨r3, 0, none⟩ = some (.int .i64 xk) := (D1.out.over b1).cell 0; have g1 : w1.cell? ⟨b, 1, none⟩ = some (.int .i64 n) := A2.out.pc.blk.cell 1; have gf := A2.out.pc.blk.f 1) | (go_at_call 19; refine (HF.out _ A2.out.pc).mono ?_; rintro e w2 ⟨rfl, b2, P2⟩; have A3 : Hid (Ax w b g cap ts n 7 xa (actL 0 0) w2) := A2.out.on b2 P2) | (refine at_op' (.store 24 (.tmp 2) (.tmp 28)) rfl ?_; refine wpList_store_row rfl 24 (.tmp 2) (.tmp 28) rfl w.heap.size (actL 0 0).toArray rfl rfl 24 _ A3.out.blk (actL_size _ _) rfl (actL_one _ _) ?_))
      refine bodyPost_ret (v := actV (0) (0)) ?_ rfl ⟨rfl, (A3.out.row (actL (0) (0))).bt, (A3.out.row (actL (0) (0))).pc⟩
      exact results_cell_row Tryd.results20 _ _ w.heap.size 24 (actL (0) (0)).toArray (0, 0) _ rfl (A3.out.row (actL (0) (0))).blk Tryd.underlying24 rfl (actL_size _ _)

set_option maxRecDepth 4000 in
set_option maxHeartbeats 4000000 in
/-- an act without a number. -/
theorem act_plain (w : World) (b g cap n : Nat) (ts : List Tok) (h : Pc w b g cap ts n 0 0) (hn : n < ts.length) (hs : isA ts[n] = true) (hk : numK (kindOf ts[n].t) = false) :
    Calls Tryd.prog 20 #[.pointer (some ⟨b, 0, none⟩)] w fun e w' => e = .returned (actV (kindOf ts[n].t) 0) ∧ Bt b w w' ∧ Pc w' b g cap ts (n + 1) 0 0 := by
  have A0 : Hid (Ax w b g cap ts n 0 0 (actL 0 0) (w.alloc (Obj.cells #[.int .i64 0, .int .i64 0] 24))) := ax_new h hn
  obtain ⟨x0, x1, x2, x3⟩ := A0.out.pc.at hn
  have c0 : (w.alloc (Obj.cells #[.int .i64 0, .int .i64 0] 24)).cell? ⟨b, 0, none⟩ = some (.slice (some ⟨g, 0, none⟩) ts.length cap) := A0.out.pc.blk.cell 0
  have c1 : (w.alloc (Obj.cells #[.int .i64 0, .int .i64 0] 24)).cell? ⟨b, 1, none⟩ = some (.int .i64 n) := A0.out.pc.blk.cell 1
  have hi : (n : Int) < (ts.length : Int) := by omega
  have hl : (n : Int) ≤ 100000 := by have := h.len; omega
  have HK : Hid (∀ W : World, Calls Tryd.prog 36 #[.string (bar ts[n].t)] W fun e w' => e = .returned (.int .i64 (kindOf ts[n].t)) ∧ Below W.heap.size W w') := fun W => kind_at ts[n].t W
  have HS : Hid ((ts[n].k : Int) = 1 ∧ ¬ (kindOf ts[n].t : Int) = 0) := by
    show _ ∧ _
    simp [isA] at hs
    omega
  have HQ : Hid (¬ (kindOf ts[n].t : Int) = 3 ∧ ¬ (kindOf ts[n].t : Int) = 4 ∧ ¬ (kindOf ts[n].t : Int) = 6) := by
    show _ ∧ _
    simp [numK] at hk
    omega
  clear hs h hk
  generalize kindOf ts[n].t = K at *
  generalize hx : ts[n] = x at *
  obtain ⟨xk, xa, xt, xn⟩ := x
  dsimp only at *
  clear hx
  go_enter Tryd.func20, Tryd.ntmps20
  go_wp2
  have HR0 : Hid (w.heap.size < (w.alloc (Obj.cells #[.int .i64 0, .int .i64 0] 24)).heap.size) := by show _ < _; rw [size_alloc']; omega
  generalize w.alloc (Obj.cells #[.int .i64 0, .int .i64 0] 24) = W0 at *
  have hb : Below W0.heap.size W0 (W0.alloc (Obj.cells #[.int .i64 0, .int .i64 0, .string ⟨#[]⟩, .int .u64 0] 39)) := (Below.refl _ _).alloc (Nat.le_refl _) _
  have hlb := World.block_lt_of_cell? W0 _ c0
  have hlg := World.block_lt_of_cell? W0 _ x0
  have d0 := (hb.cell (p := ⟨b, 0, none⟩) hlb).trans c0
  have d1 := (hb.cell (p := ⟨b, 1, none⟩) hlb).trans c1
  have y0 := (hb.cell (p := ⟨g, n * 4, none⟩) hlg).trans x0
  have y1 := (hb.cell (p := ⟨g, n * 4 + 1, none⟩) hlg).trans x1
  have y2 := (hb.cell (p := ⟨g, n * 4 + 2, none⟩) hlg).trans x2
  have y3 := (hb.cell (p := ⟨g, n * 4 + 3, none⟩) hlg).trans x3
  clear hb hlb hlg
  have A1 : Hid (Ax w b g cap ts n 0 0 (actL 0 0) (W0.alloc (Obj.cells #[.int .i64 xk, .int .i64 xa, .string (bar xt), .int .u64 xn] 39)).drew) := A0.out.over (((Below.refl _ _).alloc (Nat.le_refl _) _).drew)
  have D1 : Hid (Blk (W0.alloc (Obj.cells #[.int .i64 xk, .int .i64 xa, .string (bar xt), .int .u64 xn] 39)).drew W0.heap.size 39 [.int .i64 xk, .int .i64 xa, .string (bar xt), .int .u64 xn]) := blk_new W0 _ 39
  have e2 : (W0.alloc (Obj.cells #[.int .i64 xk, .int .i64 xa, .string (bar xt), .int .u64 xn] 39)).drew.cell? ⟨W0.heap.size, 2, none⟩ = some (.string (bar xt)) := D1.out.cell 2
  go_region
  all_goals
    clear c0 c1 x0 x1 x2 x3 d0 d1 y0 y1 y2 y3 A0
    generalize (W0.alloc (Obj.cells #[.int .i64 xk, .int .i64 xa, .string (bar xt), .int .u64 xn] 39)).drew = X at *
    generalize W0.heap.size = r3 at *
    generalize bar xt = bx at *
    obtain ⟨hs1, hs2⟩ := HS.out
    obtain ⟨q3, q4, q6⟩ := HQ.out
    have r3' : ((K : Int) != 3) = true := by rw [bne_iff_ne]; exact q3
    have r4' : ((K : Int) != 4) = true := by rw [bne_iff_ne]; exact q4
    have r6' : ((K : Int) != 6) = true := by rw [bne_iff_ne]; exact q6
    have r0' : ((K : Int) == 0) = false := by rw [beq_eq_false_iff_ne]; exact hs2
    go_wp2_with (first | (go_at_call 36; refine (HK.out _).mono ?_; rintro e w1 ⟨rfl, b1⟩; have A2 : Hid (Ax w b g cap ts n 0 0 (actL 0 0) w1) := A1.out.over b1; have g0 : w1.cell? ⟨r3, 0, none⟩ = some (.int .i64 xk) := (D1.out.over b1).cell 0; have g1 : w1.cell? ⟨b, 1, none⟩ = some (.int .i64 n) := A2.out.pc.blk.cell 1; have gf := A2.out.pc.blk.f 1; have A3 : Hid (Ax w b g cap ts (n + 1) 0 0 (actL 0 0) (w1.setCell ⟨b, 1, none⟩ (.int .i64 ((n : Int) + 1)))) := A2.out.next) | (refine at_op' (.store 24 (.tmp 2) (.tmp 47)) rfl ?_; refine wpList_store_row rfl 24 (.tmp 2) (.tmp 47) rfl w.heap.size (actL K 0).toArray rfl rfl 24 _ A3.out.blk (actL_size _ _) rfl (actL_one _ _) ?_))
    refine bodyPost_ret (v := actV (K) (0)) ?_ rfl ⟨rfl, (A3.out.row (actL (K) (0))).bt, (A3.out.row (actL (K) (0))).pc⟩
    exact results_cell_row Tryd.results20 _ _ w.heap.size 24 (actL (K) (0)).toArray (0, 0) _ rfl (A3.out.row (actL (K) (0))).blk Tryd.underlying24 rfl (actL_size _ _)

set_option maxRecDepth 4000 in
set_option maxHeartbeats 4000000 in
/-- an act whose number is too great. -/
theorem act_big (w : World) (b g cap n : Nat) (ts : List Tok) (h : Pc w b g cap ts n 0 0) (hn : n < ts.length) (hs : isA ts[n] = true) (hk : numK (kindOf ts[n].t) = true) (hn1 : n + 1 < ts.length) (hy : isN ts[n + 1] = true) (hb : 65535 < ts[n + 1].n) :
    Calls Tryd.prog 20 #[.pointer (some ⟨b, 0, none⟩)] w fun e w' => e = .returned (actV 0 0) ∧ Bt b w w' ∧ Pc w' b g cap ts (n + 1) 6 ts[n + 1].at' := by
  have A0 : Hid (Ax w b g cap ts n 0 0 (actL 0 0) (w.alloc (Obj.cells #[.int .i64 0, .int .i64 0] 24))) := ax_new h hn
  obtain ⟨x0, x1, x2, x3⟩ := A0.out.pc.at hn
  have c0 : (w.alloc (Obj.cells #[.int .i64 0, .int .i64 0] 24)).cell? ⟨b, 0, none⟩ = some (.slice (some ⟨g, 0, none⟩) ts.length cap) := A0.out.pc.blk.cell 0
  have c1 : (w.alloc (Obj.cells #[.int .i64 0, .int .i64 0] 24)).cell? ⟨b, 1, none⟩ = some (.int .i64 n) := A0.out.pc.blk.cell 1
  have hi : (n : Int) < (ts.length : Int) := by omega
  have hl : (n : Int) ≤ 100000 := by have := h.len; omega
  have HK : Hid (∀ W : World, Calls Tryd.prog 36 #[.string (bar ts[n].t)] W fun e w' => e = .returned (.int .i64 (kindOf ts[n].t)) ∧ Below W.heap.size W w') := fun W => kind_at ts[n].t W
  have HS : Hid ((ts[n].k : Int) = 1 ∧ ¬ (kindOf ts[n].t : Int) = 0) := by
    show _ ∧ _
    simp [isA] at hs
    omega
  have HF : Hid (∀ W, Pc W b g cap ts (n + 1) 0 0 → Calls Tryd.prog 19 #[.pointer (some ⟨b, 0, none⟩), .int .i64 6] W fun e w' => e = .returned (.tuple #[]) ∧ Bt b W w' ∧ Pc w' b g cap ts (n + 1) 6 ts[n + 1].at') := fun W hW => fail_at W b g cap (n + 1) ts 6 hW hn1
  have q2 : ((ts[n + 1].k : Int) == 2) = true := by
    simp [isN] at hy
    rw [hy]
    rfl
  have qb : (65535 : Int) < (ts[n + 1].n : Int) := by omega
  clear hy hb
  have HQ : Hid ((kindOf ts[n].t : Int) = 3 ∨ (kindOf ts[n].t : Int) = 4 ∨ (kindOf ts[n].t : Int) = 6) := by
    show _ ∨ _
    simp [numK] at hk
    omega
  have hi2 : ((n + 1 : Nat) : Int) < (ts.length : Int) := by omega
  have H1 : Hid (n + 1 < ts.length) := hn1
  have HZ : Hid (∀ W, Pc W b g cap ts (n + 1) 0 0 → W.cell? ⟨g, (n + 1) * 4, none⟩ = some (.int .i64 (ts[n + 1].k)) ∧ W.cell? ⟨g, (n + 1) * 4 + 3, none⟩ = some (.int .u64 (ts[n + 1].n))) := fun W hW => ⟨(hW.at hn1).1, (hW.at hn1).2.2.2⟩
  clear hs h hk
  generalize ts[n + 1] = y at *
  obtain ⟨yk, ya, yt, yn⟩ := y
  dsimp only at *
  generalize hm' : n + 1 = m at *
  have hm : Hid (n + 1 = m) := hm'
  clear hm'
  generalize kindOf ts[n].t = K at *
  generalize hx : ts[n] = x at *
  obtain ⟨xk, xa, xt, xn⟩ := x
  dsimp only at *
  clear hx
  go_enter Tryd.func20, Tryd.ntmps20
  go_wp2
  have HR0 : Hid (w.heap.size < (w.alloc (Obj.cells #[.int .i64 0, .int .i64 0] 24)).heap.size) := by show _ < _; rw [size_alloc']; omega
  generalize w.alloc (Obj.cells #[.int .i64 0, .int .i64 0] 24) = W0 at *
  have hb : Below W0.heap.size W0 (W0.alloc (Obj.cells #[.int .i64 0, .int .i64 0, .string ⟨#[]⟩, .int .u64 0] 39)) := (Below.refl _ _).alloc (Nat.le_refl _) _
  have hlb := World.block_lt_of_cell? W0 _ c0
  have hlg := World.block_lt_of_cell? W0 _ x0
  have d0 := (hb.cell (p := ⟨b, 0, none⟩) hlb).trans c0
  have d1 := (hb.cell (p := ⟨b, 1, none⟩) hlb).trans c1
  have y0 := (hb.cell (p := ⟨g, n * 4, none⟩) hlg).trans x0
  have y1 := (hb.cell (p := ⟨g, n * 4 + 1, none⟩) hlg).trans x1
  have y2 := (hb.cell (p := ⟨g, n * 4 + 2, none⟩) hlg).trans x2
  have y3 := (hb.cell (p := ⟨g, n * 4 + 3, none⟩) hlg).trans x3
  clear hb hlb hlg
  have A1 : Hid (Ax w b g cap ts n 0 0 (actL 0 0) (W0.alloc (Obj.cells #[.int .i64 xk, .int .i64 xa, .string (bar xt), .int .u64 xn] 39)).drew) := A0.out.over (((Below.refl _ _).alloc (Nat.le_refl _) _).drew)
  have D1 : Hid (Blk (W0.alloc (Obj.cells #[.int .i64 xk, .int .i64 xa, .string (bar xt), .int .u64 xn] 39)).drew W0.heap.size 39 [.int .i64 xk, .int .i64 xa, .string (bar xt), .int .u64 xn]) := blk_new W0 _ 39
  have e2 : (W0.alloc (Obj.cells #[.int .i64 xk, .int .i64 xa, .string (bar xt), .int .u64 xn] 39)).drew.cell? ⟨W0.heap.size, 2, none⟩ = some (.string (bar xt)) := D1.out.cell 2
  go_region
  all_goals
    clear c0 c1 x0 x1 x2 x3 d0 d1 y0 y1 y2 y3 A0
    generalize (W0.alloc (Obj.cells #[.int .i64 xk, .int .i64 xa, .string (bar xt), .int .u64 xn] 39)).drew = X at *
    generalize W0.heap.size = r3 at *
    generalize bar xt = bx at *
    obtain ⟨hs1, hs2⟩ := HS.out
    have r0' : ((K : Int) == 0) = false := by rw [beq_eq_false_iff_ne]; exact hs2
    rcases (show ((K : Int) != 3) = false ∨ (¬ (K : Int) = 3 ∧ ((K : Int) != 3) = true) ∧ ((K : Int) != 4) = false ∨ (¬ (K : Int) = 3 ∧ ((K : Int) != 3) = true) ∧ (¬ (K : Int) = 4 ∧ ((K : Int) != 4) = true) ∧ ((K : Int) != 6) = false from by
      rcases HQ.out with h | h | h <;> rw [h] <;> decide) with h3 | ⟨⟨h3, h3'⟩, h4⟩ | ⟨⟨h3, h3'⟩, ⟨h4, h4'⟩, h6⟩
    all_goals
      clear HQ HS
      go_wp2_with (first | (go_at_call 36; refine (HK.out _).mono ?_; rintro e w1 ⟨rfl, b1⟩; have A2 : Hid (Ax w b g cap ts n 0 0 (actL 0 0) w1) := A1.out.over b1; have g0 : w1.cell? ⟨r3, 0, none⟩ = some (.int .i64 xk) := (D1.out.over b1).cell 0; have g1 : w1.cell? ⟨b, 1, none⟩ = some (.int .i64 n) := A2.out.pc.blk.cell 1; have gf := A2.out.pc.blk.f 1; have A3 : Hid (Ax w b g cap ts m 0 0 (actL 0 0) (w1.setCell ⟨b, 1, none⟩ (.int .i64 ((n : Int) + 1)))) := (by have q := A2.out.next; rw [hm.out] at q; exact q)))
      obtain ⟨z0, z3⟩ := HZ.out _ A3.out.pc
      have z4 : (w1.setCell ⟨b, 1, none⟩ (.int .i64 ((n : Int) + 1))).cell? ⟨b, 0, none⟩ = some (.slice (some ⟨g, 0, none⟩) ts.length cap) := A3.out.pc.blk.cell 0
      have z5 : (w1.setCell ⟨b, 1, none⟩ (.int .i64 ((n : Int) + 1))).cell? ⟨b, 1, none⟩ = some (.int .i64 m) := A3.out.pc.blk.cell 1
      clear g0 g1 gf A2 b1 D1 A1 e2
      generalize w1.setCell ⟨b, 1, none⟩ (.int .i64 ((n : Int) + 1)) = Y at *
      go_quiet (fail)
      have A4 : Hid (Ax w b g cap ts m 0 0 (actL 0 0) (Y.drewN nq)) := A3.out.over (below_drewN _ _)
      clear A3 z0 z3 z4 z5 HZ
      generalize Y.drewN nq = Z at *
      go_wp2_with (first | (go_at_call 19; refine (HF.out _ A4.out.pc).mono ?_; rintro e w2 ⟨rfl, b2, P2⟩; have A5 : Hid (Ax w b g cap ts m 6 ya (actL 0 0) w2) := A4.out.on b2 P2) | (refine at_op' (.store 24 (.tmp 2) (.tmp 76)) rfl ?_; refine wpList_store_row rfl 24 (.tmp 2) (.tmp 76) rfl w.heap.size (actL 0 0).toArray rfl rfl 24 _ A5.out.blk (actL_size _ _) rfl (actL_one _ _) ?_))
      refine bodyPost_ret (v := actV (0) (0)) ?_ rfl ⟨rfl, (A5.out.row (actL (0) (0))).bt, (A5.out.row (actL (0) (0))).pc⟩
      exact results_cell_row Tryd.results20 _ _ w.heap.size 24 (actL (0) (0)).toArray (0, 0) _ rfl (A5.out.row (actL (0) (0))).blk Tryd.underlying24 rfl (actL_size _ _)

set_option maxRecDepth 4000 in
set_option maxHeartbeats 4000000 in
/-- an act with its number. -/
theorem act_ok (w : World) (b g cap n : Nat) (ts : List Tok) (h : Pc w b g cap ts n 0 0) (hn : n < ts.length) (hs : isA ts[n] = true) (hk : numK (kindOf ts[n].t) = true) (hn1 : n + 1 < ts.length) (hy : isN ts[n + 1] = true) (hb : ts[n + 1].n ≤ 65535) :
    Calls Tryd.prog 20 #[.pointer (some ⟨b, 0, none⟩)] w fun e w' => e = .returned (actV (kindOf ts[n].t) ts[n + 1].n) ∧ Bt b w w' ∧ Pc w' b g cap ts (n + 1 + 1) 0 0 := by
  have A0 : Hid (Ax w b g cap ts n 0 0 (actL 0 0) (w.alloc (Obj.cells #[.int .i64 0, .int .i64 0] 24))) := ax_new h hn
  obtain ⟨x0, x1, x2, x3⟩ := A0.out.pc.at hn
  have c0 : (w.alloc (Obj.cells #[.int .i64 0, .int .i64 0] 24)).cell? ⟨b, 0, none⟩ = some (.slice (some ⟨g, 0, none⟩) ts.length cap) := A0.out.pc.blk.cell 0
  have c1 : (w.alloc (Obj.cells #[.int .i64 0, .int .i64 0] 24)).cell? ⟨b, 1, none⟩ = some (.int .i64 n) := A0.out.pc.blk.cell 1
  have hi : (n : Int) < (ts.length : Int) := by omega
  have hl : (n : Int) ≤ 100000 := by have := h.len; omega
  have HK : Hid (∀ W : World, Calls Tryd.prog 36 #[.string (bar ts[n].t)] W fun e w' => e = .returned (.int .i64 (kindOf ts[n].t)) ∧ Below W.heap.size W w') := fun W => kind_at ts[n].t W
  have HS : Hid ((ts[n].k : Int) = 1 ∧ ¬ (kindOf ts[n].t : Int) = 0) := by
    show _ ∧ _
    simp [isA] at hs
    omega
  have HF : Hid (∀ W, Pc W b g cap ts (n + 1) 0 0 → Calls Tryd.prog 37 #[.pointer (some ⟨b, 0, none⟩)] W fun e w' => e = .returned (.int .u64 ts[n + 1].n) ∧ Bt b W w' ∧ Pc w' b g cap ts (n + 1 + 1) 0 0) := fun W hW => number_ok W b g cap (n + 1) ts hW hn1 hy
  have q2 : ((ts[n + 1].k : Int) == 2) = true := by
    simp [isN] at hy
    rw [hy]
    rfl
  have qb : ¬ (65535 : Int) < (ts[n + 1].n : Int) := by omega
  have qc : (ts[n + 1].n : Int) ≤ 65535 := by omega
  clear hy hb
  have HQ : Hid ((kindOf ts[n].t : Int) = 3 ∨ (kindOf ts[n].t : Int) = 4 ∨ (kindOf ts[n].t : Int) = 6) := by
    show _ ∨ _
    simp [numK] at hk
    omega
  have hi2 : ((n + 1 : Nat) : Int) < (ts.length : Int) := by omega
  have H1 : Hid (n + 1 < ts.length) := hn1
  have HZ : Hid (∀ W, Pc W b g cap ts (n + 1) 0 0 → W.cell? ⟨g, (n + 1) * 4, none⟩ = some (.int .i64 (ts[n + 1].k)) ∧ W.cell? ⟨g, (n + 1) * 4 + 3, none⟩ = some (.int .u64 (ts[n + 1].n))) := fun W hW => ⟨(hW.at hn1).1, (hW.at hn1).2.2.2⟩
  clear hs h hk
  generalize ts[n + 1] = y at *
  obtain ⟨yk, ya, yt, yn⟩ := y
  dsimp only at *
  generalize hm' : n + 1 = m at *
  have hm : Hid (n + 1 = m) := hm'
  clear hm'
  generalize kindOf ts[n].t = K at *
  generalize hx : ts[n] = x at *
  obtain ⟨xk, xa, xt, xn⟩ := x
  dsimp only at *
  clear hx
  go_enter Tryd.func20, Tryd.ntmps20
  go_wp2
  have HR0 : Hid (w.heap.size < (w.alloc (Obj.cells #[.int .i64 0, .int .i64 0] 24)).heap.size) := by show _ < _; rw [size_alloc']; omega
  generalize w.alloc (Obj.cells #[.int .i64 0, .int .i64 0] 24) = W0 at *
  have hb : Below W0.heap.size W0 (W0.alloc (Obj.cells #[.int .i64 0, .int .i64 0, .string ⟨#[]⟩, .int .u64 0] 39)) := (Below.refl _ _).alloc (Nat.le_refl _) _
  have hlb := World.block_lt_of_cell? W0 _ c0
  have hlg := World.block_lt_of_cell? W0 _ x0
  have d0 := (hb.cell (p := ⟨b, 0, none⟩) hlb).trans c0
  have d1 := (hb.cell (p := ⟨b, 1, none⟩) hlb).trans c1
  have y0 := (hb.cell (p := ⟨g, n * 4, none⟩) hlg).trans x0
  have y1 := (hb.cell (p := ⟨g, n * 4 + 1, none⟩) hlg).trans x1
  have y2 := (hb.cell (p := ⟨g, n * 4 + 2, none⟩) hlg).trans x2
  have y3 := (hb.cell (p := ⟨g, n * 4 + 3, none⟩) hlg).trans x3
  clear hb hlb hlg
  have A1 : Hid (Ax w b g cap ts n 0 0 (actL 0 0) (W0.alloc (Obj.cells #[.int .i64 xk, .int .i64 xa, .string (bar xt), .int .u64 xn] 39)).drew) := A0.out.over (((Below.refl _ _).alloc (Nat.le_refl _) _).drew)
  have D1 : Hid (Blk (W0.alloc (Obj.cells #[.int .i64 xk, .int .i64 xa, .string (bar xt), .int .u64 xn] 39)).drew W0.heap.size 39 [.int .i64 xk, .int .i64 xa, .string (bar xt), .int .u64 xn]) := blk_new W0 _ 39
  have e2 : (W0.alloc (Obj.cells #[.int .i64 xk, .int .i64 xa, .string (bar xt), .int .u64 xn] 39)).drew.cell? ⟨W0.heap.size, 2, none⟩ = some (.string (bar xt)) := D1.out.cell 2
  go_region
  all_goals
    clear c0 c1 x0 x1 x2 x3 d0 d1 y0 y1 y2 y3 A0
    generalize (W0.alloc (Obj.cells #[.int .i64 xk, .int .i64 xa, .string (bar xt), .int .u64 xn] 39)).drew = X at *
    generalize W0.heap.size = r3 at *
    generalize bar xt = bx at *
    obtain ⟨hs1, hs2⟩ := HS.out
    have r0' : ((K : Int) == 0) = false := by rw [beq_eq_false_iff_ne]; exact hs2
    rcases (show ((K : Int) != 3) = false ∨ (¬ (K : Int) = 3 ∧ ((K : Int) != 3) = true) ∧ ((K : Int) != 4) = false ∨ (¬ (K : Int) = 3 ∧ ((K : Int) != 3) = true) ∧ (¬ (K : Int) = 4 ∧ ((K : Int) != 4) = true) ∧ ((K : Int) != 6) = false from by
      rcases HQ.out with h | h | h <;> rw [h] <;> decide) with h3 | ⟨⟨h3, h3'⟩, h4⟩ | ⟨⟨h3, h3'⟩, ⟨h4, h4'⟩, h6⟩
    all_goals
      clear HQ HS
      go_wp2_with (first | (go_at_call 36; refine (HK.out _).mono ?_; rintro e w1 ⟨rfl, b1⟩; have A2 : Hid (Ax w b g cap ts n 0 0 (actL 0 0) w1) := A1.out.over b1; have g0 : w1.cell? ⟨r3, 0, none⟩ = some (.int .i64 xk) := (D1.out.over b1).cell 0; have g1 : w1.cell? ⟨b, 1, none⟩ = some (.int .i64 n) := A2.out.pc.blk.cell 1; have gf := A2.out.pc.blk.f 1; have A3 : Hid (Ax w b g cap ts m 0 0 (actL 0 0) (w1.setCell ⟨b, 1, none⟩ (.int .i64 ((n : Int) + 1)))) := (by have q := A2.out.next; rw [hm.out] at q; exact q)))
      obtain ⟨z0, z3⟩ := HZ.out _ A3.out.pc
      have z4 : (w1.setCell ⟨b, 1, none⟩ (.int .i64 ((n : Int) + 1))).cell? ⟨b, 0, none⟩ = some (.slice (some ⟨g, 0, none⟩) ts.length cap) := A3.out.pc.blk.cell 0
      have z5 : (w1.setCell ⟨b, 1, none⟩ (.int .i64 ((n : Int) + 1))).cell? ⟨b, 1, none⟩ = some (.int .i64 m) := A3.out.pc.blk.cell 1
      clear g0 g1 gf A2 b1 D1 A1 e2
      generalize w1.setCell ⟨b, 1, none⟩ (.int .i64 ((n : Int) + 1)) = Y at *
      go_quiet (fail)
      have A4 : Hid (Ax w b g cap ts m 0 0 (actL 0 0) (Y.drewN nq)) := A3.out.over (below_drewN _ _)
      clear A3 z0 z3 z4 z5 HZ
      generalize Y.drewN nq = Z at *
      go_wp2_with (first | (go_at_call 37; refine (HF.out _ A4.out.pc).mono ?_; rintro e w2 ⟨rfl, b2, P2⟩; have A5 : Hid (Ax w b g cap ts (m + 1) 0 0 (actL 0 0) w2) := A4.out.on b2 P2) | (refine at_op' (.store 24 (.tmp 2) (.tmp 82)) rfl ?_; refine wpList_store_row rfl 24 (.tmp 2) (.tmp 82) rfl w.heap.size (actL K yn).toArray rfl rfl 24 _ A5.out.blk (actL_size _ _) rfl (actL_one _ _) ?_))
      refine bodyPost_ret (v := actV (K) (yn)) ?_ rfl ⟨rfl, (A5.out.row (actL (K) (yn))).bt, (A5.out.row (actL (K) (yn))).pc⟩
      exact results_cell_row Tryd.results20 _ _ w.heap.size 24 (actL (K) (yn)).toArray (0, 0) _ rfl (A5.out.row (actL (K) (yn))).blk Tryd.underlying24 rfl (actL_size _ _)

set_option maxRecDepth 4000 in
set_option maxHeartbeats 4000000 in
/-- an act whose number is not there. -/
theorem act_no (w : World) (b g cap n : Nat) (ts : List Tok) (h : Pc w b g cap ts n 0 0) (hn : n < ts.length) (hs : isA ts[n] = true) (hk : numK (kindOf ts[n].t) = true) (hn1 : n + 1 < ts.length) (hy : isN ts[n + 1] = false) :
    Calls Tryd.prog 20 #[.pointer (some ⟨b, 0, none⟩)] w fun e w' => e = .returned (actV (kindOf ts[n].t) 0) ∧ Bt b w w' ∧ Pc w' b g cap ts (n + 1) 7 ts[n + 1].at' := by
  have A0 : Hid (Ax w b g cap ts n 0 0 (actL 0 0) (w.alloc (Obj.cells #[.int .i64 0, .int .i64 0] 24))) := ax_new h hn
  obtain ⟨x0, x1, x2, x3⟩ := A0.out.pc.at hn
  have c0 : (w.alloc (Obj.cells #[.int .i64 0, .int .i64 0] 24)).cell? ⟨b, 0, none⟩ = some (.slice (some ⟨g, 0, none⟩) ts.length cap) := A0.out.pc.blk.cell 0
  have c1 : (w.alloc (Obj.cells #[.int .i64 0, .int .i64 0] 24)).cell? ⟨b, 1, none⟩ = some (.int .i64 n) := A0.out.pc.blk.cell 1
  have hi : (n : Int) < (ts.length : Int) := by omega
  have hl : (n : Int) ≤ 100000 := by have := h.len; omega
  have HK : Hid (∀ W : World, Calls Tryd.prog 36 #[.string (bar ts[n].t)] W fun e w' => e = .returned (.int .i64 (kindOf ts[n].t)) ∧ Below W.heap.size W w') := fun W => kind_at ts[n].t W
  have HS : Hid ((ts[n].k : Int) = 1 ∧ ¬ (kindOf ts[n].t : Int) = 0) := by
    show _ ∧ _
    simp [isA] at hs
    omega
  have HF : Hid (∀ W, Pc W b g cap ts (n + 1) 0 0 → Calls Tryd.prog 37 #[.pointer (some ⟨b, 0, none⟩)] W fun e w' => e = .returned (.int .u64 0) ∧ Bt b W w' ∧ Pc w' b g cap ts (n + 1) 7 ts[n + 1].at') := fun W hW => number_no W b g cap (n + 1) ts hW hn1 hy
  have q2 : ((ts[n + 1].k : Int) == 2) = false := by
    simp [isN] at hy
    rw [beq_eq_false_iff_ne]
    omega
  clear hy
  have HQ : Hid ((kindOf ts[n].t : Int) = 3 ∨ (kindOf ts[n].t : Int) = 4 ∨ (kindOf ts[n].t : Int) = 6) := by
    show _ ∨ _
    simp [numK] at hk
    omega
  have hi2 : ((n + 1 : Nat) : Int) < (ts.length : Int) := by omega
  have H1 : Hid (n + 1 < ts.length) := hn1
  have HZ : Hid (∀ W, Pc W b g cap ts (n + 1) 0 0 → W.cell? ⟨g, (n + 1) * 4, none⟩ = some (.int .i64 (ts[n + 1].k)) ∧ W.cell? ⟨g, (n + 1) * 4 + 3, none⟩ = some (.int .u64 (ts[n + 1].n))) := fun W hW => ⟨(hW.at hn1).1, (hW.at hn1).2.2.2⟩
  clear hs h hk
  generalize ts[n + 1] = y at *
  obtain ⟨yk, ya, yt, yn⟩ := y
  dsimp only at *
  generalize hm' : n + 1 = m at *
  have hm : Hid (n + 1 = m) := hm'
  clear hm'
  generalize kindOf ts[n].t = K at *
  generalize hx : ts[n] = x at *
  obtain ⟨xk, xa, xt, xn⟩ := x
  dsimp only at *
  clear hx
  go_enter Tryd.func20, Tryd.ntmps20
  go_wp2
  have HR0 : Hid (w.heap.size < (w.alloc (Obj.cells #[.int .i64 0, .int .i64 0] 24)).heap.size) := by show _ < _; rw [size_alloc']; omega
  generalize w.alloc (Obj.cells #[.int .i64 0, .int .i64 0] 24) = W0 at *
  have hb : Below W0.heap.size W0 (W0.alloc (Obj.cells #[.int .i64 0, .int .i64 0, .string ⟨#[]⟩, .int .u64 0] 39)) := (Below.refl _ _).alloc (Nat.le_refl _) _
  have hlb := World.block_lt_of_cell? W0 _ c0
  have hlg := World.block_lt_of_cell? W0 _ x0
  have d0 := (hb.cell (p := ⟨b, 0, none⟩) hlb).trans c0
  have d1 := (hb.cell (p := ⟨b, 1, none⟩) hlb).trans c1
  have y0 := (hb.cell (p := ⟨g, n * 4, none⟩) hlg).trans x0
  have y1 := (hb.cell (p := ⟨g, n * 4 + 1, none⟩) hlg).trans x1
  have y2 := (hb.cell (p := ⟨g, n * 4 + 2, none⟩) hlg).trans x2
  have y3 := (hb.cell (p := ⟨g, n * 4 + 3, none⟩) hlg).trans x3
  clear hb hlb hlg
  have A1 : Hid (Ax w b g cap ts n 0 0 (actL 0 0) (W0.alloc (Obj.cells #[.int .i64 xk, .int .i64 xa, .string (bar xt), .int .u64 xn] 39)).drew) := A0.out.over (((Below.refl _ _).alloc (Nat.le_refl _) _).drew)
  have D1 : Hid (Blk (W0.alloc (Obj.cells #[.int .i64 xk, .int .i64 xa, .string (bar xt), .int .u64 xn] 39)).drew W0.heap.size 39 [.int .i64 xk, .int .i64 xa, .string (bar xt), .int .u64 xn]) := blk_new W0 _ 39
  have e2 : (W0.alloc (Obj.cells #[.int .i64 xk, .int .i64 xa, .string (bar xt), .int .u64 xn] 39)).drew.cell? ⟨W0.heap.size, 2, none⟩ = some (.string (bar xt)) := D1.out.cell 2
  go_region
  all_goals
    clear c0 c1 x0 x1 x2 x3 d0 d1 y0 y1 y2 y3 A0
    generalize (W0.alloc (Obj.cells #[.int .i64 xk, .int .i64 xa, .string (bar xt), .int .u64 xn] 39)).drew = X at *
    generalize W0.heap.size = r3 at *
    generalize bar xt = bx at *
    obtain ⟨hs1, hs2⟩ := HS.out
    have r0' : ((K : Int) == 0) = false := by rw [beq_eq_false_iff_ne]; exact hs2
    rcases (show ((K : Int) != 3) = false ∨ (¬ (K : Int) = 3 ∧ ((K : Int) != 3) = true) ∧ ((K : Int) != 4) = false ∨ (¬ (K : Int) = 3 ∧ ((K : Int) != 3) = true) ∧ (¬ (K : Int) = 4 ∧ ((K : Int) != 4) = true) ∧ ((K : Int) != 6) = false from by
      rcases HQ.out with h | h | h <;> rw [h] <;> decide) with h3 | ⟨⟨h3, h3'⟩, h4⟩ | ⟨⟨h3, h3'⟩, ⟨h4, h4'⟩, h6⟩
    all_goals
      clear HQ HS
      go_wp2_with (first | (go_at_call 36; refine (HK.out _).mono ?_; rintro e w1 ⟨rfl, b1⟩; have A2 : Hid (Ax w b g cap ts n 0 0 (actL 0 0) w1) := A1.out.over b1; have g0 : w1.cell? ⟨r3, 0, none⟩ = some (.int .i64 xk) := (D1.out.over b1).cell 0; have g1 : w1.cell? ⟨b, 1, none⟩ = some (.int .i64 n) := A2.out.pc.blk.cell 1; have gf := A2.out.pc.blk.f 1; have A3 : Hid (Ax w b g cap ts m 0 0 (actL 0 0) (w1.setCell ⟨b, 1, none⟩ (.int .i64 ((n : Int) + 1)))) := (by have q := A2.out.next; rw [hm.out] at q; exact q)))
      obtain ⟨z0, z3⟩ := HZ.out _ A3.out.pc
      have z4 : (w1.setCell ⟨b, 1, none⟩ (.int .i64 ((n : Int) + 1))).cell? ⟨b, 0, none⟩ = some (.slice (some ⟨g, 0, none⟩) ts.length cap) := A3.out.pc.blk.cell 0
      have z5 : (w1.setCell ⟨b, 1, none⟩ (.int .i64 ((n : Int) + 1))).cell? ⟨b, 1, none⟩ = some (.int .i64 m) := A3.out.pc.blk.cell 1
      clear g0 g1 gf A2 b1 D1 A1 e2
      generalize w1.setCell ⟨b, 1, none⟩ (.int .i64 ((n : Int) + 1)) = Y at *
      go_quiet (fail)
      have A4 : Hid (Ax w b g cap ts m 0 0 (actL 0 0) (Y.drewN nq)) := A3.out.over (below_drewN _ _)
      clear A3 z0 z3 z4 z5 HZ
      generalize Y.drewN nq = Z at *
      go_wp2_with (first | (go_at_call 37; refine (HF.out _ A4.out.pc).mono ?_; rintro e w2 ⟨rfl, b2, P2⟩; have A5 : Hid (Ax w b g cap ts m 7 ya (actL 0 0) w2) := A4.out.on b2 P2) | (refine at_op' (.store 24 (.tmp 2) (.tmp 82)) rfl ?_; refine wpList_store_row rfl 24 (.tmp 2) (.tmp 82) rfl w.heap.size (actL K 0).toArray rfl rfl 24 _ A5.out.blk (actL_size _ _) rfl (actL_one _ _) ?_))
      refine bodyPost_ret (v := actV (K) (0)) ?_ rfl ⟨rfl, (A5.out.row (actL (K) (0))).bt, (A5.out.row (actL (K) (0))).pc⟩
      exact results_cell_row Tryd.results20 _ _ w.heap.size 24 (actL (K) (0)).toArray (0, 0) _ rfl (A5.out.row (actL (K) (0))).blk Tryd.underlying24 rfl (actL_size _ _)

end Go.Proofs.YtdjjlccpmfhkiaaDoor.Doc
