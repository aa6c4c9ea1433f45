/-
  The document's answer for rules: conditions.
-/
import Derived.Test.YtdjjlccpmfhkiaaDoorDAct
import Derived.Test.YtdjjlccpmfhkiaaDoorRd6
namespace Go.Proofs.YtdjjlccpmfhkiaaDoor.Doc
open Go.RowKit

/-- the answer's cells in a block of their own, and the place. -/
structure Cx (w : World) (b g cap : Nat) (ts : List Tok) (m : Nat) (c p : Int) (l : List Value) (X : World) : Prop where
  pc : Pc X b g cap ts m c p
  blk : Blk X w.heap.size 45 l
  bt : Bt b w X
  ne : w.heap.size ≠ b
  ng : w.heap.size ≠ g

section
variable {w X Y : World} {b g cap m m' r : Nat} {ts : List Tok} {c p c' p' : Int} {l q : List Value}
theorem Cx.over (h : Cx w b g cap ts m c p l X) (hb : Below X.heap.size X Y) : Cx w b g cap ts m c p l Y := ⟨h.pc.over hb, h.blk.over hb, h.bt.over hb, h.ne, h.ng⟩
theorem Cx.on (h : Cx w b g cap ts m c p l X) (hb : Bt b X Y) (hp : Pc Y b g cap ts m' c' p') : Cx w b g cap ts m' c' p' l Y := ⟨hp, hb.blk h.blk h.ne, h.bt.trans hb, h.ne, h.ng⟩
theorem Cx.next (h : Cx w b g cap ts m c p l X) : Cx w b g cap ts (m + 1) c p l (X.setCell ⟨b, 1, none⟩ (.int .i64 ((m : Int) + 1))) := h.on ((Bt.refl b X).setCell 1 _) (h.pc.set (m + 1))
theorem Cx.row (h : Cx w b g cap ts m c p l X) (l' : List Value) : Cx w b g cap ts m c p l' (X.setRow w.heap.size l'.toArray) := ⟨h.pc.setRow h.ne h.ng _, h.blk.row _, h.bt.setRow (Nat.le_refl _) _, h.ne, h.ng⟩
end

theorem cx_new {w : World} {b g cap n : Nat} {ts : List Tok} (h : Pc w b g cap ts n 0 0) (hn : n < ts.length) : Cx w b g cap ts n 0 0 (condL 0 0 0 0) (w.alloc (Obj.cells #[.int .i64 0, .int .i64 0, .int .u64 0, .int .u64 0] 45)) := by
  have hb : Below w.heap.size w (w.alloc (Obj.cells #[.int .i64 0, .int .i64 0, .int .u64 0, .int .u64 0] 45)) := (Below.refl _ _).alloc (Nat.le_refl _) _
  have hl := h.lt hn
  exact ⟨h.over hb, blk_new w _ _, .of hb, by omega, by omega⟩

/-- an argument's word. -/
theorem argOf_of {t : List UInt8} (h : ¬ argOf t = 0) : ∃ d : UInt8, t = [97, 114, 103, d] ∧ 48 ≤ d.toNat ∧ d.toNat ≤ 53 ∧ argOf t - 1 = d.toNat - 48 := by
  unfold argOf at h
  repeat' split at h
  all_goals first | (exfalso; exact h rfl) | (subst_vars; exact ⟨_, rfl, by decide, by decide, rfl⟩)

theorem argOf_no {a b c d : UInt8} (h : argOf [a, b, c, d] = 0) (hp : [a, b, c] = [97, 114, 103]) : d.toNat < 48 ∨ 53 < d.toNat := by
  simp only [List.cons.injEq, and_true] at hp
  obtain ⟨rfl, rfl, rfl⟩ := hp
  by_cases h0 : d.toNat < 48
  · exact .inl h0
  · by_cases h1 : 53 < d.toNat
    · exact .inr h1
    · exfalso
      have e : d.toNat = 48 ∨ d.toNat = 49 ∨ d.toNat = 50 ∨ d.toNat = 51 ∨ d.toNat = 52 ∨ d.toNat = 53 := by omega
      have k : ∀ u : UInt8, d.toNat = u.toNat → d = u := fun u hu => UInt8.toNat_inj.mp hu
      rcases e with e | e | e | e | e | e
      · rw [k 48 e] at h; revert h; decide
      · rw [k 49 e] at h; revert h; decide
      · rw [k 50 e] at h; revert h; decide
      · rw [k 51 e] at h; revert h; decide
      · rw [k 52 e] at h; revert h; decide
      · rw [k 53 e] at h; revert h; decide

set_option maxRecDepth 4000 in
set_option maxHeartbeats 4000000 in
/-- no condition stands there. -/
theorem cond_bad (w : World) (b g cap n : Nat) (ts : List Tok) (j : Nat) (h : Pc w b g cap ts n 0 0) (hn : n < ts.length) (hs : isG ts[n] = false) :
    Calls Tryd.prog 38 #[.pointer (some ⟨b, 0, none⟩), .int .i64 j] w fun e w' => e = .returned (condV 0 0 0 0) ∧ Bt b w w' ∧ Pc w' b g cap ts n 7 ts[n].at' := by
  have A0 : Hid (Cx w b g cap ts n 0 0 (condL 0 0 0 0) (w.alloc (Obj.cells #[.int .i64 0, .int .i64 0, .int .u64 0, .int .u64 0] 45))) := cx_new h hn
  obtain ⟨x0, x1, x2, x3⟩ := A0.out.pc.at hn
  have c0 : (w.alloc (Obj.cells #[.int .i64 0, .int .i64 0, .int .u64 0, .int .u64 0] 45)).cell? ⟨b, 0, none⟩ = some (.slice (some ⟨g, 0, none⟩) ts.length cap) := A0.out.pc.blk.cell 0
  have c1 : (w.alloc (Obj.cells #[.int .i64 0, .int .i64 0, .int .u64 0, .int .u64 0] 45)).cell? ⟨b, 1, none⟩ = some (.int .i64 n) := A0.out.pc.blk.cell 1
  have hi : (n : Int) < (ts.length : Int) := by omega
  have hl : (n : Int) ≤ 100000 := by have := h.len; omega
  have HF : Hid (∀ W, Pc W b g cap ts n 0 0 → Calls Tryd.prog 19 #[.pointer (some ⟨b, 0, none⟩), .int .i64 7] W fun e w' => e = .returned (.tuple #[]) ∧ Bt b W w' ∧ Pc w' b g cap ts n 7 ts[n].at') := fun W hW => fail_at W b g cap n ts 7 hW hn
  have HS : Hid (¬ ts[n].k = 1 ∨ argOf ts[n].t = 0) := by
    show _ ∨ _
    simp [isG] at hs
    by_cases h1 : ts[n].k = 1
    · exact .inr (hs h1)
    · exact .inl h1
  clear hs h
  generalize hx : ts[n] = x at *
  obtain ⟨xk, xa, xt, xn⟩ := x
  dsimp only at *
  clear hx
  go_enter Tryd.func38, Tryd.ntmps38
  go_wp2
  have HR0 : Hid (w.heap.size < (w.alloc (Obj.cells #[.int .i64 0, .int .i64 0, .int .u64 0, .int .u64 0] 45)).heap.size) := by show _ < _; rw [size_alloc']; omega
  generalize w.alloc (Obj.cells #[.int .i64 0, .int .i64 0, .int .u64 0, .int .u64 0] 45) = W0 at *
  have hb : Below W0.heap.size W0 (W0.alloc (Obj.cells #[.int .i64 0, .int .i64 0, .string ⟨#[]⟩, .int .u64 0] 39)) := (Below.refl _ _).alloc (Nat.le_refl _) _
  have hlb := World.block_lt_of_cell? W0 _ c0
  have hlg := World.block_lt_of_cell? W0 _ x0
  have d0 := (hb.cell (p := ⟨b, 0, none⟩) hlb).trans c0
  have d1 := (hb.cell (p := ⟨b, 1, none⟩) hlb).trans c1
  have y0 := (hb.cell (p := ⟨g, n * 4, none⟩) hlg).trans x0
  have y1 := (hb.cell (p := ⟨g, n * 4 + 1, none⟩) hlg).trans x1
  have y2 := (hb.cell (p := ⟨g, n * 4 + 2, none⟩) hlg).trans x2
  have y3 := (hb.cell (p := ⟨g, n * 4 + 3, none⟩) hlg).trans x3
  clear hb hlb hlg
  have A1 : Hid (Cx w b g cap ts n 0 0 (condL 0 0 0 0) (W0.alloc (Obj.cells #[.int .i64 xk, .int .i64 xa, .string (bar xt), .int .u64 xn] 39)).drew) := A0.out.over (((Below.refl _ _).alloc (Nat.le_refl _) _).drew)
  have D1 : Hid (Blk (W0.alloc (Obj.cells #[.int .i64 xk, .int .i64 xa, .string (bar xt), .int .u64 xn] 39)).drew W0.heap.size 39 [.int .i64 xk, .int .i64 xa, .string (bar xt), .int .u64 xn]) := blk_new W0 _ 39
  have HR1 : Hid (W0.heap.size < (W0.alloc (Obj.cells #[.int .i64 xk, .int .i64 xa, .string (bar xt), .int .u64 xn] 39)).drew.heap.size) := D1.out.lt
  go_region
  all_goals
    clear c0 c1 x0 x1 x2 x3 d0 d1 y0 y1 y2 y3 A0
    generalize (W0.alloc (Obj.cells #[.int .i64 xk, .int .i64 xa, .string (bar xt), .int .u64 xn] 39)).drew = X at *
    have e0 : X.cell? ⟨W0.heap.size, 0, none⟩ = some (.int .i64 xk) := D1.out.cell 0
    have e2 : X.cell? ⟨W0.heap.size, 2, none⟩ = some (.string (bar xt)) := D1.out.cell 2
    generalize W0.heap.size = r3 at *
    by_cases hk : xk = 1
    · have ha : argOf xt = 0 := by
        rcases HS.out with h | h
        · exact absurd hk h
        · exact h
      have hk' : ((xk : Int) != 1) = false := by rw [hk]; rfl
      clear hk HS
      by_cases h4 : xt.length = 4
      · obtain ⟨p, q, r, s, rfl⟩ : ∃ p q r s, xt = [p, q, r, s] := by
          match xt, h4 with
          | [p, q, r, s], _ => exact ⟨p, q, r, s, rfl⟩
        clear h4
        have hz : ((bar [p, q, r, s]).size : Int) = 4 := rfl
        have HD : ¬ ((bar [p, q, r, s]).extract 0 3).toList = [97, 114, 103] ∨ ((bar [p, q, r, s]).extract 0 3).toList = [97, 114, 103] ∧ ((((bar [p, q, r, s])[3]'(by show 3 < 4; omega)).toNat : Int) < 48 ∨ ¬ (((bar [p, q, r, s])[3]'(by show 3 < 4; omega)).toNat : Int) < 48 ∧ 53 < (((bar [p, q, r, s])[3]'(by show 3 < 4; omega)).toNat : Int)) := by
          have e1 : ((bar [p, q, r, s]).extract 0 3).toList = [p, q, r] := by rw [ByteArray.toList_eq]; rfl
          have e2 : (bar [p, q, r, s])[3]'(by show 3 < 4; omega) = s := rfl
          rw [e1, e2]
          by_cases hp : [p, q, r] = [97, 114, 103]
          · right
            refine ⟨hp, ?_⟩
            rcases argOf_no ha hp with h | h <;> omega
          · exact .inl hp
        clear ha
        rcases HD with h1 | ⟨h1, h2 | ⟨h2, h3⟩⟩
        all_goals
          go_wp2_with (first | (go_at_call 19; refine (HF.out _ A1.out.pc).mono ?_; rintro e w2 ⟨rfl, b2, P2⟩; have A3 : Hid (Cx w b g cap ts n 7 xa (condL 0 0 0 0) w2) := A1.out.on b2 P2) | (refine at_op' (.store 45 (.tmp 4) (.tmp 46)) rfl ?_; refine wpList_store_row rfl 45 (.tmp 4) (.tmp 46) rfl w.heap.size (condL 0 0 0 0).toArray rfl rfl 45 _ A3.out.blk (condL_size _ _ _ _) rfl (condL_one _ _ _ _) ?_))
          refine bodyPost_ret (v := condV 0 0 0 0) ?_ rfl ⟨rfl, (A3.out.row (condL 0 0 0 0)).bt, (A3.out.row (condL 0 0 0 0)).pc⟩
          exact results_cell_row Tryd.results38 _ _ w.heap.size 45 (condL 0 0 0 0).toArray (0, 0) _ rfl (A3.out.row (condL 0 0 0 0)).blk Tryd.underlying45 rfl (condL_size _ _ _ _)
      · have hz : ¬ ((bar xt).size : Int) = 4 := by
          have : (bar xt).size = xt.length := by simp [bar, ByteArray.size]
          omega
        clear h4 ha
        generalize bar xt = bx at *
        go_wp2_with (first | (go_at_call 19; refine (HF.out _ A1.out.pc).mono ?_; rintro e w2 ⟨rfl, b2, P2⟩; have A3 : Hid (Cx w b g cap ts n 7 xa (condL 0 0 0 0) w2) := A1.out.on b2 P2) | (refine at_op' (.store 45 (.tmp 4) (.tmp 46)) rfl ?_; refine wpList_store_row rfl 45 (.tmp 4) (.tmp 46) rfl w.heap.size (condL 0 0 0 0).toArray rfl rfl 45 _ A3.out.blk (condL_size _ _ _ _) rfl (condL_one _ _ _ _) ?_))
        refine bodyPost_ret (v := condV 0 0 0 0) ?_ rfl ⟨rfl, (A3.out.row (condL 0 0 0 0)).bt, (A3.out.row (condL 0 0 0 0)).pc⟩
        exact results_cell_row Tryd.results38 _ _ w.heap.size 45 (condL 0 0 0 0).toArray (0, 0) _ rfl (A3.out.row (condL 0 0 0 0)).blk Tryd.underlying45 rfl (condL_size _ _ _ _)
    · have hk1 : ¬ (xk : Int) = 1 := by omega
      have hk' : ((xk : Int) != 1) = true := by rw [bne_iff_ne]; exact hk1
      clear hk HS
      generalize bar xt = bx at *
      go_wp2_with (first | (go_at_call 19; refine (HF.out _ A1.out.pc).mono ?_; rintro e w2 ⟨rfl, b2, P2⟩; have A3 : Hid (Cx w b g cap ts n 7 xa (condL 0 0 0 0) w2) := A1.out.on b2 P2) | (refine at_op' (.store 45 (.tmp 4) (.tmp 46)) rfl ?_; refine wpList_store_row rfl 45 (.tmp 4) (.tmp 46) rfl w.heap.size (condL 0 0 0 0).toArray rfl rfl 45 _ A3.out.blk (condL_size _ _ _ _) rfl (condL_one _ _ _ _) ?_))
      refine bodyPost_ret (v := condV 0 0 0 0) ?_ rfl ⟨rfl, (A3.out.row (condL 0 0 0 0)).bt, (A3.out.row (condL 0 0 0 0)).pc⟩
      exact results_cell_row Tryd.results38 _ _ w.heap.size 45 (condL 0 0 0 0).toArray (0, 0) _ rfl (A3.out.row (condL 0 0 0 0)).blk Tryd.underlying45 rfl (condL_size _ _ _ _)

set_option maxRecDepth 4000 in
set_option maxHeartbeats 4000000 in
/-- a condition too many. -/
theorem cond_full (w : World) (b g cap n : Nat) (ts : List Tok) (j : Nat) (h : Pc w b g cap ts n 0 0) (hn : n < ts.length) (hs : isG ts[n] = true) (hj : 8 < j) :
    Calls Tryd.prog 38 #[.pointer (some ⟨b, 0, none⟩), .int .i64 j] w fun e w' => e = .returned (condV 0 0 0 0) ∧ Bt b w w' ∧ Pc w' b g cap ts n 4 ts[n].at' := by
  have A0 : Hid (Cx w b g cap ts n 0 0 (condL 0 0 0 0) (w.alloc (Obj.cells #[.int .i64 0, .int .i64 0, .int .u64 0, .int .u64 0] 45))) := cx_new h hn
  obtain ⟨x0, x1, x2, x3⟩ := A0.out.pc.at hn
  have c0 : (w.alloc (Obj.cells #[.int .i64 0, .int .i64 0, .int .u64 0, .int .u64 0] 45)).cell? ⟨b, 0, none⟩ = some (.slice (some ⟨g, 0, none⟩) ts.length cap) := A0.out.pc.blk.cell 0
  have c1 : (w.alloc (Obj.cells #[.int .i64 0, .int .i64 0, .int .u64 0, .int .u64 0] 45)).cell? ⟨b, 1, none⟩ = some (.int .i64 n) := A0.out.pc.blk.cell 1
  have hi : (n : Int) < (ts.length : Int) := by omega
  have hl : (n : Int) ≤ 100000 := by have := h.len; omega
  have HF : Hid (∀ W, Pc W b g cap ts n 0 0 → Calls Tryd.prog 19 #[.pointer (some ⟨b, 0, none⟩), .int .i64 4] W fun e w' => e = .returned (.tuple #[]) ∧ Bt b W w' ∧ Pc w' b g cap ts n 4 ts[n].at') := fun W hW => fail_at W b g cap n ts 4 hW hn
  have HG : Hid (ts[n].k = 1 ∧ ∃ d : UInt8, ts[n].t = [97, 114, 103, d] ∧ 48 ≤ d.toNat ∧ d.toNat ≤ 53 ∧ argOf ts[n].t - 1 = d.toNat - 48) := by
    show _ ∧ _
    simp [isG] at hs
    exact ⟨hs.1, argOf_of hs.2⟩
  have hj' : (8 : Int) < (j : Int) := by omega
  clear hs h hj
  generalize hx : ts[n] = x at *
  obtain ⟨xk, xa, xt, xn⟩ := x
  dsimp only at *
  clear hx
  go_enter Tryd.func38, Tryd.ntmps38
  go_wp2
  have HR0 : Hid (w.heap.size < (w.alloc (Obj.cells #[.int .i64 0, .int .i64 0, .int .u64 0, .int .u64 0] 45)).heap.size) := by show _ < _; rw [size_alloc']; omega
  generalize w.alloc (Obj.cells #[.int .i64 0, .int .i64 0, .int .u64 0, .int .u64 0] 45) = W0 at *
  have hb : Below W0.heap.size W0 (W0.alloc (Obj.cells #[.int .i64 0, .int .i64 0, .string ⟨#[]⟩, .int .u64 0] 39)) := (Below.refl _ _).alloc (Nat.le_refl _) _
  have hlb := World.block_lt_of_cell? W0 _ c0
  have hlg := World.block_lt_of_cell? W0 _ x0
  have d0 := (hb.cell (p := ⟨b, 0, none⟩) hlb).trans c0
  have d1 := (hb.cell (p := ⟨b, 1, none⟩) hlb).trans c1
  have y0 := (hb.cell (p := ⟨g, n * 4, none⟩) hlg).trans x0
  have y1 := (hb.cell (p := ⟨g, n * 4 + 1, none⟩) hlg).trans x1
  have y2 := (hb.cell (p := ⟨g, n * 4 + 2, none⟩) hlg).trans x2
  have y3 := (hb.cell (p := ⟨g, n * 4 + 3, none⟩) hlg).trans x3
  clear hb hlb hlg
  have A1 : Hid (Cx w b g cap ts n 0 0 (condL 0 0 0 0) (W0.alloc (Obj.cells #[.int .i64 xk, .int .i64 xa, .string (bar xt), .int .u64 xn] 39)).drew) := A0.out.over (((Below.refl _ _).alloc (Nat.le_refl _) _).drew)
  have D1 : Hid (Blk (W0.alloc (Obj.cells #[.int .i64 xk, .int .i64 xa, .string (bar xt), .int .u64 xn] 39)).drew W0.heap.size 39 [.int .i64 xk, .int .i64 xa, .string (bar xt), .int .u64 xn]) := blk_new W0 _ 39
  have HR1 : Hid (W0.heap.size < (W0.alloc (Obj.cells #[.int .i64 xk, .int .i64 xa, .string (bar xt), .int .u64 xn] 39)).drew.heap.size) := D1.out.lt
  go_region
  all_goals
    clear c0 c1 x0 x1 x2 x3 d0 d1 y0 y1 y2 y3 A0
    generalize (W0.alloc (Obj.cells #[.int .i64 xk, .int .i64 xa, .string (bar xt), .int .u64 xn] 39)).drew = X at *
    have e0 : X.cell? ⟨W0.heap.size, 0, none⟩ = some (.int .i64 xk) := D1.out.cell 0
    have e2 : X.cell? ⟨W0.heap.size, 2, none⟩ = some (.string (bar xt)) := D1.out.cell 2
    generalize W0.heap.size = r3 at *
    obtain ⟨hk, d, rfl, hd1, hd2, hd3⟩ := HG.out
    have hk' : ((xk : Int) != 1) = false := by rw [hk]; rfl
    clear hk HG
    have hz : ((bar [97, 114, 103, d]).size : Int) = 4 := rfl
    have h1 : ((bar [97, 114, 103, d]).extract 0 3).toList = [97, 114, 103] := by rw [ByteArray.toList_eq]; rfl
    have h2 : ¬ (((bar [97, 114, 103, d])[3]'(by show 3 < 4; omega)).toNat : Int) < 48 := by
      show ¬ (d.toNat : Int) < 48
      omega
    have h3 : ¬ 53 < (((bar [97, 114, 103, d])[3]'(by show 3 < 4; omega)).toNat : Int) := by
      show ¬ 53 < (d.toNat : Int)
      omega
    go_wp2_with (first | (go_at_call 19; refine (HF.out _ A1.out.pc).mono ?_; rintro e w2 ⟨rfl, b2, P2⟩; have A3 : Hid (Cx w b g cap ts n 4 xa (condL 0 0 0 0) w2) := A1.out.on b2 P2) | (refine at_op' (.store 45 (.tmp 4) (.tmp 51)) rfl ?_; refine wpList_store_row rfl 45 (.tmp 4) (.tmp 51) rfl w.heap.size (condL 0 0 0 0).toArray rfl rfl 45 _ A3.out.blk (condL_size _ _ _ _) rfl (condL_one _ _ _ _) ?_))
    refine bodyPost_ret (v := condV 0 0 0 0) ?_ rfl ⟨rfl, (A3.out.row (condL 0 0 0 0)).bt, (A3.out.row (condL 0 0 0 0)).pc⟩
    exact results_cell_row Tryd.results38 _ _ w.heap.size 45 (condL 0 0 0 0).toArray (0, 0) _ rfl (A3.out.row (condL 0 0 0 0)).blk Tryd.underlying45 rfl (condL_size _ _ _ _)


end Go.Proofs.YtdjjlccpmfhkiaaDoor.Doc
