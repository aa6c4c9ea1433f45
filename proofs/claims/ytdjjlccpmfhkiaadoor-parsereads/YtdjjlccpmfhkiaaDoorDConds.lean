/-
  The document's answer for conditions, walked, and its rows.
-/
import Derived.Test.YtdjjlccpmfhkiaaDoorDAct
import Derived.Test.YtdjjlccpmfhkiaaDoorRd6
import Derived.Test.YtdjjlccpmfhkiaaDoorRows1
namespace Go.Proofs.YtdjjlccpmfhkiaaDoor.Doc
open Go.RowKit

/-- the answer's cells in a block of their own, and the place. -/
structure Cx (w : World) (b g cap : Nat) (ts : List Tok) (m : Nat) (c p : Int) (l : List Value) (X : World) : Prop where
  pc : Pc X b g cap ts m c p
  blk : Blk X w.heap.size 45 l
  bt : Bt b w X
  ne : w.heap.size ≠ b
  ng : w.heap.size ≠ g

section
variable {w X Y : World} {b g cap m m' r : Nat} {ts : List Tok} {c p c' p' : Int} {l q : List Value}
theorem Cx.over (h : Cx w b g cap ts m c p l X) (hb : Below X.heap.size X Y) : Cx w b g cap ts m c p l Y := ⟨h.pc.over hb, h.blk.over hb, h.bt.over hb, h.ne, h.ng⟩
theorem Cx.on (h : Cx w b g cap ts m c p l X) (hb : Bt b X Y) (hp : Pc Y b g cap ts m' c' p') : Cx w b g cap ts m' c' p' l Y := ⟨hp, hb.blk h.blk h.ne, h.bt.trans hb, h.ne, h.ng⟩
theorem Cx.next (h : Cx w b g cap ts m c p l X) : Cx w b g cap ts (m + 1) c p l (X.setCell ⟨b, 1, none⟩ (.int .i64 ((m : Int) + 1))) := h.on ((Bt.refl b X).setCell 1 _) (h.pc.set (m + 1))
theorem Cx.row (h : Cx w b g cap ts m c p l X) (l' : List Value) : Cx w b g cap ts m c p l' (X.setRow w.heap.size l'.toArray) := ⟨h.pc.setRow h.ne h.ng _, h.blk.row _, h.bt.setRow (Nat.le_refl _) _, h.ne, h.ng⟩
end

theorem cx_new {w : World} {b g cap n : Nat} {ts : List Tok} (h : Pc w b g cap ts n 0 0) (hn : n < ts.length) : Cx w b g cap ts n 0 0 (condL 0 0 0 0) (w.alloc (Obj.cells #[.int .i64 0, .int .i64 0, .int .u64 0, .int .u64 0] 45)) := by
  have hb : Below w.heap.size w (w.alloc (Obj.cells #[.int .i64 0, .int .i64 0, .int .u64 0, .int .u64 0] 45)) := (Below.refl _ _).alloc (Nat.le_refl _) _
  have hl := h.lt hn
  exact ⟨h.over hb, blk_new w _ _, .of hb, by omega, by omega⟩

/-- an argument's word. -/
theorem argOf_of {t : List UInt8} (h : ¬ argOf t = 0) : ∃ d : UInt8, t = [97, 114, 103, d] ∧ 48 ≤ d.toNat ∧ d.toNat ≤ 53 ∧ argOf t - 1 = d.toNat - 48 := by
  unfold argOf at h
  repeat' split at h
  all_goals first | (exfalso; exact h rfl) | (subst_vars; exact ⟨_, rfl, by decide, by decide, rfl⟩)

theorem argOf_no {a b c d : UInt8} (h : argOf [a, b, c, d] = 0) (hp : [a, b, c] = [97, 114, 103]) : d.toNat < 48 ∨ 53 < d.toNat := by
  simp only [List.cons.injEq, and_true] at hp
  obtain ⟨rfl, rfl, rfl⟩ := hp
  by_cases h0 : d.toNat < 48
  · exact .inl h0
  · by_cases h1 : 53 < d.toNat
    · exact .inr h1
    · exfalso
      have e : d.toNat = 48 ∨ d.toNat = 49 ∨ d.toNat = 50 ∨ d.toNat = 51 ∨ d.toNat = 52 ∨ d.toNat = 53 := by omega
      have k : ∀ u : UInt8, d.toNat = u.toNat → d = u := fun u hu => UInt8.toNat_inj.mp hu
      rcases e with e | e | e | e | e | e
      · rw [k 48 e] at h; revert h; decide
      · rw [k 49 e] at h; revert h; decide
      · rw [k 50 e] at h; revert h; decide
      · rw [k 51 e] at h; revert h; decide
      · rw [k 52 e] at h; revert h; decide
      · rw [k 53 e] at h; revert h; decide

set_option maxRecDepth 4000 in
set_option maxHeartbeats 4000000 in
/-- no condition stands there. -/
theorem cond_bad (w : World) (b g cap n : Nat) (ts : List Tok) (j : Nat) (h : Pc w b g cap ts n 0 0) (hn : n < ts.length) (hs : isG ts[n] = false) :
    Calls Tryd.prog 38 #[.pointer (some ⟨b, 0, none⟩), .int .i64 j] w fun e w' => e = .returned (condV 0 0 0 0) ∧ Bt b w w' ∧ Pc w' b g cap ts n 7 ts[n].at' := by
  have A0 : Hid (Cx w b g cap ts n 0 0 (condL 0 0 0 0) (w.alloc (Obj.cells #[.int .i64 0, .int .i64 0, .int .u64 0, .int .u64 0] 45))) := cx_new h hn
  obtain ⟨x0, x1, x2, x3⟩ := A0.out.pc.at hn
  have c0 : (w.alloc (Obj.cells #[.int .i64 0, .int .i64 0, .int .u64 0, .int .u64 0] 45)).cell? ⟨b, 0, none⟩ = some (.slice (some ⟨g, 0, none⟩) ts.length cap) := A0.out.pc.blk.cell 0
  have c1 : (w.alloc (Obj.cells #[.int .i64 0, .int .i64 0, .int .u64 0, .int .u64 0] 45)).cell? ⟨b, 1, none⟩ = some (.int .i64 n) := A0.out.pc.blk.cell 1
  have hi : (n : Int) < (ts.length : Int) := by omega
  have hl : (n : Int) ≤ 100000 := by have := h.len; omega
  have HF : Hid (∀ W, Pc W b g cap ts n 0 0 → Calls Tryd.prog 19 #[.pointer (some ⟨b, 0, none⟩), .int .i64 7] W fun e w' => e = .returned (.tuple #[]) ∧ Bt b W w' ∧ Pc w' b g cap ts n 7 ts[n].at') := fun W hW => fail_at W b g cap n ts 7 hW hn
  have HS : Hid (¬ ts[n].k = 1 ∨ argOf ts[n].t = 0) := by
    show _ ∨ _
    simp [isG] at hs
    by_cases h1 : ts[n].k = 1
    · exact .inr (hs h1)
    · exact .inl h1
  clear hs h
  generalize hx : ts[n] = x at *
  obtain ⟨xk, xa, xt, xn⟩ := x
  dsimp only at *
  clear hx
  go_enter Tryd.func38, Tryd.ntmps38
  go_wp2
  have HR0 : Hid (w.heap.size < (w.alloc (Obj.cells #[.int .i64 0, .int .i64 0, .int .u64 0, .int .u64 0] 45)).heap.size) := by show _ < _; rw [size_alloc']; omega
  generalize w.alloc (Obj.cells #[.int .i64 0, .int .i64 0, .int .u64 0, .int .u64 0] 45) = W0 at *
  have hb : Below W0.heap.size W0 (W0.alloc (Obj.cells #[.int .i64 0, .int .i64 0, .string ⟨#[]⟩, .int .u64 0] 39)) := (Below.refl _ _).alloc (Nat.le_refl _) _
  have hlb := World.block_lt_of_cell? W0 _ c0
  have hlg := World.block_lt_of_cell? W0 _ x0
  have d0 := (hb.cell (p := ⟨b, 0, none⟩) hlb).trans c0
  have d1 := (hb.cell (p := ⟨b, 1, none⟩) hlb).trans c1
  have y0 := (hb.cell (p := ⟨g, n * 4, none⟩) hlg).trans x0
  have y1 := (hb.cell (p := ⟨g, n * 4 + 1, none⟩) hlg).trans x1
  have y2 := (hb.cell (p := ⟨g, n * 4 + 2, none⟩) hlg).trans x2
  have y3 := (hb.cell (p := ⟨g, n * 4 + 3, none⟩) hlg).trans x3
  clear hb hlb hlg
  have A1 : Hid (Cx w b g cap ts n 0 0 (condL 0 0 0 0) (W0.alloc (Obj.cells #[.int .i64 xk, .int .i64 xa, .string (bar xt), .int .u64 xn] 39)).drew) := A0.out.over (((Below.refl _ _).alloc (Nat.le_refl _) _).drew)
  have D1 : Hid (Blk (W0.alloc (Obj.cells #[.int .i64 xk, .int .i64 xa, .string (bar xt), .int .u64 xn] 39)).drew W0.heap.size 39 [.int .i64 xk, .int .i64 xa, .string (bar xt), .int .u64 xn]) := blk_new W0 _ 39
  have HR1 : Hid (W0.heap.size < (W0.alloc (Obj.cells #[.int .i64 xk, .int .i64 xa, .string (bar xt), .int .u64 xn] 39)).drew.heap.size) := D1.out.lt
  go_region
  all_goals
    clear c0 c1 x0 x1 x2 x3 d0 d1 y0 y1 y2 y3 A0
    generalize (W0.alloc (Obj.cells #[.int .i64 xk, .int .i64 xa, .string (bar xt), .int .u64 xn] 39)).drew = X at *
    have e0 : X.cell? ⟨W0.heap.size, 0, none⟩ = some (.int .i64 xk) := D1.out.cell 0
    have e2 : X.cell? ⟨W0.heap.size, 2, none⟩ = some (.string (bar xt)) := D1.out.cell 2
    generalize W0.heap.size = r3 at *
    by_cases hk : xk = 1
    · have ha : argOf xt = 0 := by
        rcases HS.out with h | h
        · exact absurd hk h
        · exact h
      have hk' : ((xk : Int) != 1) = false := by rw [hk]; rfl
      clear hk HS
      by_cases h4 : xt.length = 4
      · obtain ⟨p, q, r, s, rfl⟩ : ∃ p q r s, xt = [p, q, r, s] := by
          match xt, h4 with
          | [p, q, r, s], _ => exact ⟨p, q, r, s, rfl⟩
        clear h4
        have hz : ((bar [p, q, r, s]).size : Int) = 4 := rfl
        have HD : ¬ ((bar [p, q, r, s]).extract 0 3).toList = [97, 114, 103] ∨ ((bar [p, q, r, s]).extract 0 3).toList = [97, 114, 103] ∧ ((((bar [p, q, r, s])[3]'(by show 3 < 4; omega)).toNat : Int) < 48 ∨ ¬ (((bar [p, q, r, s])[3]'(by show 3 < 4; omega)).toNat : Int) < 48 ∧ 53 < (((bar [p, q, r, s])[3]'(by show 3 < 4; omega)).toNat : Int)) := by
          have e1 : ((bar [p, q, r, s]).extract 0 3).toList = [p, q, r] := by rw [ByteArray.toList_eq]; rfl
          have e2 : (bar [p, q, r, s])[3]'(by show 3 < 4; omega) = s := rfl
          rw [e1, e2]
          by_cases hp : [p, q, r] = [97, 114, 103]
          · right
            refine ⟨hp, ?_⟩
            rcases argOf_no ha hp with h | h <;> omega
          · exact .inl hp
        clear ha
        rcases HD with h1 | ⟨h1, h2 | ⟨h2, h3⟩⟩
        all_goals
          go_wp2_with (first | (go_at_call 19; refine (HF.out _ A1.out.pc).mono ?_; rintro e w2 ⟨rfl, b2, P2⟩; have A3 : Hid (Cx w b g cap ts n 7 xa (condL 0 0 0 0) w2) := A1.out.on b2 P2) | (refine at_op' (.store 45 (.tmp 4) (.tmp 46)) rfl ?_; refine wpList_store_row rfl 45 (.tmp 4) (.tmp 46) rfl w.heap.size (condL 0 0 0 0).toArray rfl rfl 45 _ A3.out.blk (condL_size _ _ _ _) rfl (condL_one _ _ _ _) ?_))
          refine bodyPost_ret (v := condV 0 0 0 0) ?_ rfl ⟨rfl, (A3.out.row (condL 0 0 0 0)).bt, (A3.out.row (condL 0 0 0 0)).pc⟩
          exact results_cell_row Tryd.results38 _ _ w.heap.size 45 (condL 0 0 0 0).toArray (0, 0) _ rfl (A3.out.row (condL 0 0 0 0)).blk Tryd.underlying45 rfl (condL_size _ _ _ _)
      · have hz : ¬ ((bar xt).size : Int) = 4 := by
          have : (bar xt).size = xt.length := by simp [bar, ByteArray.size]
          omega
        clear h4 ha
        generalize bar xt = bx at *
        go_wp2_with (first | (go_at_call 19; refine (HF.out _ A1.out.pc).mono ?_; rintro e w2 ⟨rfl, b2, P2⟩; have A3 : Hid (Cx w b g cap ts n 7 xa (condL 0 0 0 0) w2) := A1.out.on b2 P2) | (refine at_op' (.store 45 (.tmp 4) (.tmp 46)) rfl ?_; refine wpList_store_row rfl 45 (.tmp 4) (.tmp 46) rfl w.heap.size (condL 0 0 0 0).toArray rfl rfl 45 _ A3.out.blk (condL_size _ _ _ _) rfl (condL_one _ _ _ _) ?_))
        refine bodyPost_ret (v := condV 0 0 0 0) ?_ rfl ⟨rfl, (A3.out.row (condL 0 0 0 0)).bt, (A3.out.row (condL 0 0 0 0)).pc⟩
        exact results_cell_row Tryd.results38 _ _ w.heap.size 45 (condL 0 0 0 0).toArray (0, 0) _ rfl (A3.out.row (condL 0 0 0 0)).blk Tryd.underlying45 rfl (condL_size _ _ _ _)
    · have hk1 : ¬ (xk : Int) = 1 := by omega
      have hk' : ((xk : Int) != 1) = true := by rw [bne_iff_ne]; exact hk1
      clear hk HS
      generalize bar xt = bx at *
      go_wp2_with (first | (go_at_call 19; refine (HF.out _ A1.out.pc).mono ?_; rintro e w2 ⟨rfl, b2, P2⟩; have A3 : Hid (Cx w b g cap ts n 7 xa (condL 0 0 0 0) w2) := A1.out.on b2 P2) | (refine at_op' (.store 45 (.tmp 4) (.tmp 46)) rfl ?_; refine wpList_store_row rfl 45 (.tmp 4) (.tmp 46) rfl w.heap.size (condL 0 0 0 0).toArray rfl rfl 45 _ A3.out.blk (condL_size _ _ _ _) rfl (condL_one _ _ _ _) ?_))
      refine bodyPost_ret (v := condV 0 0 0 0) ?_ rfl ⟨rfl, (A3.out.row (condL 0 0 0 0)).bt, (A3.out.row (condL 0 0 0 0)).pc⟩
      exact results_cell_row Tryd.results38 _ _ w.heap.size 45 (condL 0 0 0 0).toArray (0, 0) _ rfl (A3.out.row (condL 0 0 0 0)).blk Tryd.underlying45 rfl (condL_size _ _ _ _)

set_option maxRecDepth 4000 in
set_option maxHeartbeats 4000000 in
/-- a condition too many. -/
theorem cond_full (w : World) (b g cap n : Nat) (ts : List Tok) (j : Nat) (h : Pc w b g cap ts n 0 0) (hn : n < ts.length) (hs : isG ts[n] = true) (hj : 8 < j) :
    Calls Tryd.prog 38 #[.pointer (some ⟨b, 0, none⟩), .int .i64 j] w fun e w' => e = .returned (condV 0 0 0 0) ∧ Bt b w w' ∧ Pc w' b g cap ts n 4 ts[n].at' := by
  have A0 : Hid (Cx w b g cap ts n 0 0 (condL 0 0 0 0) (w.alloc (Obj.cells #[.int .i64 0, .int .i64 0, .int .u64 0, .int .u64 0] 45))) := cx_new h hn
  obtain ⟨x0, x1, x2, x3⟩ := A0.out.pc.at hn
  have c0 : (w.alloc (Obj.cells #[.int .i64 0, .int .i64 0, .int .u64 0, .int .u64 0] 45)).cell? ⟨b, 0, none⟩ = some (.slice (some ⟨g, 0, none⟩) ts.length cap) := A0.out.pc.blk.cell 0
  have c1 : (w.alloc (Obj.cells #[.int .i64 0, .int .i64 0, .int .u64 0, .int .u64 0] 45)).cell? ⟨b, 1, none⟩ = some (.int .i64 n) := A0.out.pc.blk.cell 1
  have hi : (n : Int) < (ts.length : Int) := by omega
  have hl : (n : Int) ≤ 100000 := by have := h.len; omega
  have HF : Hid (∀ W, Pc W b g cap ts n 0 0 → Calls Tryd.prog 19 #[.pointer (some ⟨b, 0, none⟩), .int .i64 4] W fun e w' => e = .returned (.tuple #[]) ∧ Bt b W w' ∧ Pc w' b g cap ts n 4 ts[n].at') := fun W hW => fail_at W b g cap n ts 4 hW hn
  have HG : Hid (ts[n].k = 1 ∧ ∃ d : UInt8, ts[n].t = [97, 114, 103, d] ∧ 48 ≤ d.toNat ∧ d.toNat ≤ 53 ∧ argOf ts[n].t - 1 = d.toNat - 48) := by
    show _ ∧ _
    simp [isG] at hs
    exact ⟨hs.1, argOf_of hs.2⟩
  have hj' : (8 : Int) < (j : Int) := by omega
  clear hs h hj
  generalize hx : ts[n] = x at *
  obtain ⟨xk, xa, xt, xn⟩ := x
  dsimp only at *
  clear hx
  go_enter Tryd.func38, Tryd.ntmps38
  go_wp2
  have HR0 : Hid (w.heap.size < (w.alloc (Obj.cells #[.int .i64 0, .int .i64 0, .int .u64 0, .int .u64 0] 45)).heap.size) := by show _ < _; rw [size_alloc']; omega
  generalize w.alloc (Obj.cells #[.int .i64 0, .int .i64 0, .int .u64 0, .int .u64 0] 45) = W0 at *
  have hb : Below W0.heap.size W0 (W0.alloc (Obj.cells #[.int .i64 0, .int .i64 0, .string ⟨#[]⟩, .int .u64 0] 39)) := (Below.refl _ _).alloc (Nat.le_refl _) _
  have hlb := World.block_lt_of_cell? W0 _ c0
  have hlg := World.block_lt_of_cell? W0 _ x0
  have d0 := (hb.cell (p := ⟨b, 0, none⟩) hlb).trans c0
  have d1 := (hb.cell (p := ⟨b, 1, none⟩) hlb).trans c1
  have y0 := (hb.cell (p := ⟨g, n * 4, none⟩) hlg).trans x0
  have y1 := (hb.cell (p := ⟨g, n * 4 + 1, none⟩) hlg).trans x1
  have y2 := (hb.cell (p := ⟨g, n * 4 + 2, none⟩) hlg).trans x2
  have y3 := (hb.cell (p := ⟨g, n * 4 + 3, none⟩) hlg).trans x3
  clear hb hlb hlg
  have A1 : Hid (Cx w b g cap ts n 0 0 (condL 0 0 0 0) (W0.alloc (Obj.cells #[.int .i64 xk, .int .i64 xa, .string (bar xt), .int .u64 xn] 39)).drew) := A0.out.over (((Below.refl _ _).alloc (Nat.le_refl _) _).drew)
  have D1 : Hid (Blk (W0.alloc (Obj.cells #[.int .i64 xk, .int .i64 xa, .string (bar xt), .int .u64 xn] 39)).drew W0.heap.size 39 [.int .i64 xk, .int .i64 xa, .string (bar xt), .int .u64 xn]) := blk_new W0 _ 39
  have HR1 : Hid (W0.heap.size < (W0.alloc (Obj.cells #[.int .i64 xk, .int .i64 xa, .string (bar xt), .int .u64 xn] 39)).drew.heap.size) := D1.out.lt
  go_region
  all_goals
    clear c0 c1 x0 x1 x2 x3 d0 d1 y0 y1 y2 y3 A0
    generalize (W0.alloc (Obj.cells #[.int .i64 xk, .int .i64 xa, .string (bar xt), .int .u64 xn] 39)).drew = X at *
    have e0 : X.cell? ⟨W0.heap.size, 0, none⟩ = some (.int .i64 xk) := D1.out.cell 0
    have e2 : X.cell? ⟨W0.heap.size, 2, none⟩ = some (.string (bar xt)) := D1.out.cell 2
    generalize W0.heap.size = r3 at *
    obtain ⟨hk, d, rfl, hd1, hd2, hd3⟩ := HG.out
    have hk' : ((xk : Int) != 1) = false := by rw [hk]; rfl
    clear hk HG
    have hz : ((bar [97, 114, 103, d]).size : Int) = 4 := rfl
    have h1 : ((bar [97, 114, 103, d]).extract 0 3).toList = [97, 114, 103] := by rw [ByteArray.toList_eq]; rfl
    have h2 : ¬ (((bar [97, 114, 103, d])[3]'(by show 3 < 4; omega)).toNat : Int) < 48 := by
      show ¬ (d.toNat : Int) < 48
      omega
    have h3 : ¬ 53 < (((bar [97, 114, 103, d])[3]'(by show 3 < 4; omega)).toNat : Int) := by
      show ¬ 53 < (d.toNat : Int)
      omega
    go_wp2_with (first | (go_at_call 19; refine (HF.out _ A1.out.pc).mono ?_; rintro e w2 ⟨rfl, b2, P2⟩; have A3 : Hid (Cx w b g cap ts n 4 xa (condL 0 0 0 0) w2) := A1.out.on b2 P2) | (refine at_op' (.store 45 (.tmp 4) (.tmp 51)) rfl ?_; refine wpList_store_row rfl 45 (.tmp 4) (.tmp 51) rfl w.heap.size (condL 0 0 0 0).toArray rfl rfl 45 _ A3.out.blk (condL_size _ _ _ _) rfl (condL_one _ _ _ _) ?_))
    refine bodyPost_ret (v := condV 0 0 0 0) ?_ rfl ⟨rfl, (A3.out.row (condL 0 0 0 0)).bt, (A3.out.row (condL 0 0 0 0)).pc⟩
    exact results_cell_row Tryd.results38 _ _ w.heap.size 45 (condL 0 0 0 0).toArray (0, 0) _ rfl (A3.out.row (condL 0 0 0 0)).blk Tryd.underlying45 rfl (condL_size _ _ _ _)


end Go.Proofs.YtdjjlccpmfhkiaaDoor.Doc

namespace Go.Proofs.YtdjjlccpmfhkiaaDoor.Doc
open Go.RowKit


theorem Pc.other {w : World} {b g cap n r i : Nat} {ts : List Tok} {c p : Int} (h : Pc w b g cap ts n c p) (hb : r ≠ b) (hg : r ≠ g) (v : Value) : Pc (w.setCell ⟨r, i, none⟩ v) b g cap ts n c p :=
  ⟨h.blk.other _ _ (Ne.symm hb), h.tok.bt (b := r) ((Bt.refl r w).setCell i v) (Ne.symm hg), h.ne, h.len⟩

/-- the answer's cells, the condition's own cells, and the place. -/
structure Cy (w : World) (b g cap : Nat) (ts : List Tok) (m : Nat) (c p : Int) (r : Nat) (l : List Value) (X : World) : Prop where
  cx : Cx w b g cap ts m c p (condL 0 0 0 0) X
  blk : Blk X r 45 l
  rb : r ≠ b
  rg : r ≠ g
  rw' : w.heap.size < r

section
variable {w X Y : World} {b g cap m m' r : Nat} {ts : List Tok} {c p c' p' : Int} {l : List Value}
theorem Cy.pc (h : Cy w b g cap ts m c p r l X) : Pc X b g cap ts m c p := h.cx.pc
theorem Cy.over (h : Cy w b g cap ts m c p r l X) (hb : Below X.heap.size X Y) : Cy w b g cap ts m c p r l Y := ⟨h.cx.over hb, h.blk.over hb, h.rb, h.rg, h.rw'⟩
theorem Cy.on (h : Cy w b g cap ts m c p r l X) (hb : Bt b X Y) (hp : Pc Y b g cap ts m' c' p') : Cy w b g cap ts m' c' p' r l Y := ⟨h.cx.on hb hp, hb.blk h.blk h.rb, h.rb, h.rg, h.rw'⟩
theorem Cy.next (h : Cy w b g cap ts m c p r l X) : Cy w b g cap ts (m + 1) c p r l (X.setCell ⟨b, 1, none⟩ (.int .i64 ((m : Int) + 1))) := h.on ((Bt.refl b X).setCell 1 _) (h.pc.set (m + 1))
theorem Cy.set (h : Cy w b g cap ts m c p r l X) (i : Nat) (v : Value) : Cy w b g cap ts m c p r (l.set i v) (X.setCell ⟨r, i, none⟩ v) :=
  ⟨⟨h.pc.other h.rb h.rg v, h.cx.blk.other _ _ (Nat.ne_of_lt h.rw'), h.cx.bt.setAny (Nat.le_of_lt h.rw') v, h.cx.ne, h.cx.ng⟩, h.blk.set i v, h.rb, h.rg, h.rw'⟩
end

theorem cy_new {w X : World} {b g cap m : Nat} {ts : List Tok} {c p : Int} (h : Cx w b g cap ts m c p (condL 0 0 0 0) X) (hm : m < ts.length) (a : Int) : Cy w b g cap ts m c p X.heap.size (condL a 0 18446744073709551615 0) (X.alloc (Obj.cells #[.int .i64 a, .int .i64 0, .int .u64 18446744073709551615, .int .u64 0] 45)) := by
  have hb : Below X.heap.size X (X.alloc (Obj.cells #[.int .i64 a, .int .i64 0, .int .u64 18446744073709551615, .int .u64 0] 45)) := (Below.refl _ _).alloc (Nat.le_refl _) _
  have hl := h.pc.lt hm
  exact ⟨h.over hb, blk_new X _ _, by omega, by omega, h.blk.lt⟩

theorem op_ok (w : World) (b g cap n : Nat) (ts : List Tok) (h : Pc w b g cap ts n 0 0) (hn : n < ts.length) (hs : isO ts[n] = true) :
    Calls Tryd.prog 56 #[.pointer (some ⟨b, 0, none⟩)] w fun e w' => e = .returned (.int .i64 (opOf ts[n].t)) ∧ Bt b w w' ∧ Pc w' b g cap ts (n + 1) 0 0 := by
  refine (op_at w b g cap n ts h hn).mono ?_
  rintro e w' ⟨h1, h2, _⟩
  exact ⟨(h2 hs).1, h1, (h2 hs).2⟩

theorem op_no (w : World) (b g cap n : Nat) (ts : List Tok) (h : Pc w b g cap ts n 0 0) (hn : n < ts.length) (hs : isO ts[n] = false) :
    Calls Tryd.prog 56 #[.pointer (some ⟨b, 0, none⟩)] w fun e w' => e = .returned (.int .i64 0) ∧ Bt b w w' ∧ Pc w' b g cap ts n 7 ts[n].at' := by
  refine (op_at w b g cap n ts h hn).mono ?_
  rintro e w' ⟨h1, _, h2⟩
  exact ⟨(h2 hs).1, h1, (h2 hs).2⟩

set_option maxRecDepth 4000 in
set_option maxHeartbeats 4000000 in
/-- a condition: cond_a0. -/
theorem cond_a0 (w : World) (b g cap n : Nat) (ts : List Tok) (j : Nat) (h : Pc w b g cap ts n 0 0) (hn : n < ts.length) (hs : isG ts[n] = true) (hj : j ≤ 8) (m1 : Nat) (hm1 : n + 1 = m1) (hn1 : m1 < ts.length) (hq1 : (ts[m1].k == 3 && ts[m1].t == [38]) = true) (m2 : Nat) (hm2 : m1 + 1 = m2) (hn2 : m2 < ts.length) (hk0 : isN ts[m2] = false)  :
    Calls Tryd.prog 38 #[.pointer (some ⟨b, 0, none⟩), .int .i64 j] w fun e w' => e = .returned (condV ((argOf ts[n].t - 1 : Nat) : Int) 0 0 0) ∧ Bt b w w' ∧ Pc w' b g cap ts m2 7 ts[m2].at' := by
  have A0 : Hid (Cx w b g cap ts n 0 0 (condL 0 0 0 0) (w.alloc (Obj.cells #[.int .i64 0, .int .i64 0, .int .u64 0, .int .u64 0] 45))) := cx_new h hn
  obtain ⟨x0, x1, x2, x3⟩ := A0.out.pc.at hn
  have c0 : (w.alloc (Obj.cells #[.int .i64 0, .int .i64 0, .int .u64 0, .int .u64 0] 45)).cell? ⟨b, 0, none⟩ = some (.slice (some ⟨g, 0, none⟩) ts.length cap) := A0.out.pc.blk.cell 0
  have c1 : (w.alloc (Obj.cells #[.int .i64 0, .int .i64 0, .int .u64 0, .int .u64 0] 45)).cell? ⟨b, 1, none⟩ = some (.int .i64 n) := A0.out.pc.blk.cell 1
  have hi : (n : Int) < (ts.length : Int) := by omega
  have hl : (n : Int) ≤ 100000 := by have := h.len; omega
  have HG : Hid (ts[n].k = 1 ∧ ∃ d : UInt8, ts[n].t = [97, 114, 103, d] ∧ 48 ≤ d.toNat ∧ d.toNat ≤ 53 ∧ argOf ts[n].t - 1 = d.toNat - 48) := by
    show _ ∧ _
    simp [isG] at hs
    exact ⟨hs.1, argOf_of hs.2⟩
  have HI : Hid (∀ W, Pc W b g cap ts m1 0 0 → Calls Tryd.prog 18 #[.pointer (some ⟨b, 0, none⟩), .int .i64 3, .string ⟨#[38]⟩] W fun e w' => e = .returned (.bool true) ∧ Below W.heap.size W w') := fun W hW => by
    have q := is_at W b g cap m1 ts 0 0 hW hn1 3 [38]
    rw [hq1] at q
    exact q
  have HN0 : Hid (∀ W, Pc W b g cap ts m2 0 0 → Calls Tryd.prog 37 #[.pointer (some ⟨b, 0, none⟩)] W fun e w' => e = .returned (.int .u64 0) ∧ Bt b W w' ∧ Pc w' b g cap ts m2 7 ts[m2].at') := fun W hW => number_no W b g cap m2 ts hW hn2 hk0
  have hj' : ¬ (8 : Int) < (j : Int) := by omega
  have hl1 : (m1 : Int) ≤ 100000 := by have := h.len; omega
  have Hhm1 : Hid _ := hm1
  have Hhm2 : Hid _ := hm2
  clear hs h hj hq1 hk0 hm1 hm2
  generalize ts[m2].at' = P0 at *
  generalize hx : ts[n] = x at *
  obtain ⟨xk, xa, xt, xn⟩ := x
  dsimp only at *
  clear hx
  go_enter Tryd.func38, Tryd.ntmps38
  go_wp2
  have HR0 : Hid (w.heap.size < (w.alloc (Obj.cells #[.int .i64 0, .int .i64 0, .int .u64 0, .int .u64 0] 45)).heap.size) := by show _ < _; rw [size_alloc']; omega
  generalize w.alloc (Obj.cells #[.int .i64 0, .int .i64 0, .int .u64 0, .int .u64 0] 45) = W0 at *
  have hb : Below W0.heap.size W0 (W0.alloc (Obj.cells #[.int .i64 0, .int .i64 0, .string ⟨#[]⟩, .int .u64 0] 39)) := (Below.refl _ _).alloc (Nat.le_refl _) _
  have hlb := World.block_lt_of_cell? W0 _ c0
  have hlg := World.block_lt_of_cell? W0 _ x0
  have d0 := (hb.cell (p := ⟨b, 0, none⟩) hlb).trans c0
  have d1 := (hb.cell (p := ⟨b, 1, none⟩) hlb).trans c1
  have y0 := (hb.cell (p := ⟨g, n * 4, none⟩) hlg).trans x0
  have y1 := (hb.cell (p := ⟨g, n * 4 + 1, none⟩) hlg).trans x1
  have y2 := (hb.cell (p := ⟨g, n * 4 + 2, none⟩) hlg).trans x2
  have y3 := (hb.cell (p := ⟨g, n * 4 + 3, none⟩) hlg).trans x3
  clear hb hlb hlg
  have A1 : Hid (Cx w b g cap ts n 0 0 (condL 0 0 0 0) (W0.alloc (Obj.cells #[.int .i64 xk, .int .i64 xa, .string (bar xt), .int .u64 xn] 39)).drew) := A0.out.over (((Below.refl _ _).alloc (Nat.le_refl _) _).drew)
  have D1 : Hid (Blk (W0.alloc (Obj.cells #[.int .i64 xk, .int .i64 xa, .string (bar xt), .int .u64 xn] 39)).drew W0.heap.size 39 [.int .i64 xk, .int .i64 xa, .string (bar xt), .int .u64 xn]) := blk_new W0 _ 39
  have HR1 : Hid (W0.heap.size < (W0.alloc (Obj.cells #[.int .i64 xk, .int .i64 xa, .string (bar xt), .int .u64 xn] 39)).drew.heap.size) := D1.out.lt
  go_region
  all_goals
    clear c0 c1 x0 x1 x2 x3 d0 d1 y0 y1 y2 y3 A0
    generalize (W0.alloc (Obj.cells #[.int .i64 xk, .int .i64 xa, .string (bar xt), .int .u64 xn] 39)).drew = X at *
    have e0 : X.cell? ⟨W0.heap.size, 0, none⟩ = some (.int .i64 xk) := D1.out.cell 0
    have e2 : X.cell? ⟨W0.heap.size, 2, none⟩ = some (.string (bar xt)) := D1.out.cell 2
    generalize W0.heap.size = r3 at *
    obtain ⟨hk, d, rfl, hd1, hd2, hd3⟩ := HG.out
    have hk' : ((xk : Int) != 1) = false := by rw [hk]; rfl
    clear hk HG
    have hz : ((bar [97, 114, 103, d]).size : Int) = 4 := rfl
    have h1 : ((bar [97, 114, 103, d]).extract 0 3).toList = [97, 114, 103] := by rw [ByteArray.toList_eq]; rfl
    have h2 : ¬ (((bar [97, 114, 103, d])[3]'(by show 3 < 4; omega)).toNat : Int) < 48 := by
      show ¬ (d.toNat : Int) < 48
      omega
    have h3 : ¬ 53 < (((bar [97, 114, 103, d])[3]'(by show 3 < 4; omega)).toNat : Int) := by
      show ¬ 53 < (d.toNat : Int)
      omega
    have ha : Hid (((((bar [97, 114, 103, d])[3]'(by show 3 < 4; omega)).toNat : Int) - 48) = ((argOf [97, 114, 103, d] - 1 : Nat) : Int)) := by
      show (d.toNat : Int) - 48 = _
      rw [hd3]
      omega
    obtain ⟨Y, hY⟩ : ∃ Y, X.alloc (Obj.cells #[.int .i64 ((((bar [97, 114, 103, d])[3]'(by show 3 < 4; omega)).toNat : Int) - 48), .int .i64 0, .int .u64 18446744073709551615, .int .u64 0] 45) = Y := ⟨_, rfl⟩
    have HY : Hid (X.alloc (Obj.cells #[.int .i64 ((((bar [97, 114, 103, d])[3]'(by show 3 < 4; omega)).toNat : Int) - 48), .int .i64 0, .int .u64 18446744073709551615, .int .u64 0] 45) = Y) := hY
    obtain ⟨A, hA⟩ : ∃ A, ((argOf [97, 114, 103, d] - 1 : Nat) : Int) = A := ⟨_, rfl⟩
    have B1 : Hid (Cy w b g cap ts n 0 0 X.heap.size (condL A 0 18446744073709551615 0) Y) := by
      have q := cy_new A1.out hn ((((bar [97, 114, 103, d])[3]'(by show 3 < 4; omega)).toNat : Int) - 48)
      rw [hY, ha.out, hA] at q
      exact q
    have HA : Hid (((argOf [97, 114, 103, d] - 1 : Nat) : Int) = A) := hA
    clear hY hd1 hd2 hd3 ha hA
    obtain ⟨Z, hZ⟩ : ∃ Z, Y.setCell ⟨b, 1, none⟩ (.int .i64 ((n : Int) + 1)) = Z := ⟨_, rfl⟩
    have HZ : Hid (Y.setCell ⟨b, 1, none⟩ (.int .i64 ((n : Int) + 1)) = Z) := hZ
    have B2 : Hid (Cy w b g cap ts m1 0 0 X.heap.size (condL A 0 18446744073709551615 0) Z) := by
      have q := B1.out.next
      rw [hZ, Hhm1.out] at q
      exact q
    clear hZ
    have c1 : Y.cell? ⟨b, 1, none⟩ = some (.int .i64 n) := B1.out.pc.blk.cell 1
    have f1 : Y.frozen? ⟨b, 1, none⟩ = false := B1.out.pc.blk.f 1
    go_wp2_with (first | (refine switch_world' HY.out ?_) | (refine switch_world' HZ.out ?_) | (go_at_call 18; refine (HI.out _ B2.out.pc).mono ?_; rintro e w1 ⟨rfl, b1⟩; have B3 : Hid (Cy w b g cap ts m1 0 0 X.heap.size (condL A 0 18446744073709551615 0) w1) := B2.out.over b1; have c2 : w1.cell? ⟨b, 1, none⟩ = some (.int .i64 m1) := B3.out.pc.blk.cell 1; have f2 : w1.frozen? ⟨b, 1, none⟩ = false := B3.out.pc.blk.f 1; obtain ⟨Z2, hZ2⟩ : ∃ Z2, w1.setCell ⟨b, 1, none⟩ (.int .i64 ((m1 : Int) + 1)) = Z2 := ⟨_, rfl⟩; have HZ2 : Hid (w1.setCell ⟨b, 1, none⟩ (.int .i64 ((m1 : Int) + 1)) = Z2) := hZ2; have B4 : Hid (Cy w b g cap ts m2 0 0 X.heap.size (condL A 0 18446744073709551615 0) Z2) := (by have q := B3.out.next; rw [hZ2, Hhm2.out] at q; exact q); clear hZ2) | (refine switch_world' HZ2.out ?_) | (go_at_call 37; refine (HN0.out _ B4.out.pc).mono ?_; rintro e u0 ⟨rfl, bb0, PP0⟩; have G0 : Hid (Cy w b g cap ts m2 7 P0 X.heap.size (condL A 0 18446744073709551615 0) u0) := B4.out.on bb0 PP0; have k0 : u0.cell? ⟨X.heap.size, 2, none⟩ = some (.int .u64 18446744073709551615) := G0.out.blk.cell 2; have g0 : u0.frozen? ⟨X.heap.size, 2, none⟩ = false := G0.out.blk.f 2; obtain ⟨N0, hN0⟩ : ∃ N0, u0.setCell ⟨X.heap.size, 2, none⟩ (.int .u64 0) = N0 := ⟨_, rfl⟩; have HX0 : Hid (u0.setCell ⟨X.heap.size, 2, none⟩ (.int .u64 0) = N0) := hN0; have F0 : Hid (Cy w b g cap ts m2 7 P0 X.heap.size (condL A 0 0 0) N0) := (by have q := G0.out.set 2 (.int .u64 0); rw [hN0] at q; exact q); have c0' : N0.cell? ⟨b, 2, none⟩ = some (.int .i64 7) := F0.out.pc.blk.cell 2; clear hN0) | (refine switch_world' HX0.out ?_) | (refine at_op' (.load 45 (.tmp 6)) rfl ?_; refine wpList_load_row rfl 45 (.tmp 6) rfl X.heap.size rfl 45 (condL A 0 0 0).toArray (0, 0) _ F0.out.blk Tryd.underlying45 rfl (condL_size _ _ _ _) ?_) | (refine at_op' (.store 45 (.tmp 4) (.tmp 93)) rfl ?_; refine wpList_store_row rfl 45 (.tmp 4) (.tmp 93) rfl w.heap.size (condL A 0 0 0).toArray rfl rfl 45 _ F0.out.cx.blk (condL_size _ _ _ _) rfl (condL_one _ _ _ _) ?_))
    refine bodyPost_ret (v := condV A 0 0 0) ?_ rfl ⟨by rw [HA.out], (F0.out.cx.row (condL A 0 0 0)).bt, (F0.out.cx.row (condL A 0 0 0)).pc⟩
    exact results_cell_row Tryd.results38 _ _ w.heap.size 45 (condL A 0 0 0).toArray (0, 0) _ rfl (F0.out.cx.row (condL A 0 0 0)).blk Tryd.underlying45 rfl (condL_size _ _ _ _)

set_option maxRecDepth 4000 in
set_option maxHeartbeats 4000000 in
/-- a condition: cond_a1. -/
theorem cond_a1 (w : World) (b g cap n : Nat) (ts : List Tok) (j : Nat) (h : Pc w b g cap ts n 0 0) (hn : n < ts.length) (hs : isG ts[n] = true) (hj : j ≤ 8) (m1 : Nat) (hm1 : n + 1 = m1) (hn1 : m1 < ts.length) (hq1 : (ts[m1].k == 3 && ts[m1].t == [38]) = true) (m2 : Nat) (hm2 : m1 + 1 = m2) (hn2 : m2 < ts.length) (hk0 : isN ts[m2] = true) (m3 : Nat) (hm3 : m2 + 1 = m3) (hn3 : m3 < ts.length) (hk1 : isO ts[m3] = false)  :
    Calls Tryd.prog 38 #[.pointer (some ⟨b, 0, none⟩), .int .i64 j] w fun e w' => e = .returned (condV ((argOf ts[n].t - 1 : Nat) : Int) 0 ts[m2].n 0) ∧ Bt b w w' ∧ Pc w' b g cap ts m3 7 ts[m3].at' := by
  have A0 : Hid (Cx w b g cap ts n 0 0 (condL 0 0 0 0) (w.alloc (Obj.cells #[.int .i64 0, .int .i64 0, .int .u64 0, .int .u64 0] 45))) := cx_new h hn
  obtain ⟨x0, x1, x2, x3⟩ := A0.out.pc.at hn
  have c0 : (w.alloc (Obj.cells #[.int .i64 0, .int .i64 0, .int .u64 0, .int .u64 0] 45)).cell? ⟨b, 0, none⟩ = some (.slice (some ⟨g, 0, none⟩) ts.length cap) := A0.out.pc.blk.cell 0
  have c1 : (w.alloc (Obj.cells #[.int .i64 0, .int .i64 0, .int .u64 0, .int .u64 0] 45)).cell? ⟨b, 1, none⟩ = some (.int .i64 n) := A0.out.pc.blk.cell 1
  have hi : (n : Int) < (ts.length : Int) := by omega
  have hl : (n : Int) ≤ 100000 := by have := h.len; omega
  have HG : Hid (ts[n].k = 1 ∧ ∃ d : UInt8, ts[n].t = [97, 114, 103, d] ∧ 48 ≤ d.toNat ∧ d.toNat ≤ 53 ∧ argOf ts[n].t - 1 = d.toNat - 48) := by
    show _ ∧ _
    simp [isG] at hs
    exact ⟨hs.1, argOf_of hs.2⟩
  have HI : Hid (∀ W, Pc W b g cap ts m1 0 0 → Calls Tryd.prog 18 #[.pointer (some ⟨b, 0, none⟩), .int .i64 3, .string ⟨#[38]⟩] W fun e w' => e = .returned (.bool true) ∧ Below W.heap.size W w') := fun W hW => by
    have q := is_at W b g cap m1 ts 0 0 hW hn1 3 [38]
    rw [hq1] at q
    exact q
  have HN0 : Hid (∀ W, Pc W b g cap ts m2 0 0 → Calls Tryd.prog 37 #[.pointer (some ⟨b, 0, none⟩)] W fun e w' => e = .returned (.int .u64 ts[m2].n) ∧ Bt b W w' ∧ Pc w' b g cap ts m3 0 0) := fun W hW => by
    have q := number_ok W b g cap m2 ts hW hn2 hk0
    rw [hm3] at q
    exact q
  have HN1 : Hid (∀ W, Pc W b g cap ts m3 0 0 → Calls Tryd.prog 56 #[.pointer (some ⟨b, 0, none⟩)] W fun e w' => e = .returned (.int .i64 0) ∧ Bt b W w' ∧ Pc w' b g cap ts m3 7 ts[m3].at') := fun W hW => op_no W b g cap m3 ts hW hn3 hk1
  have hj' : ¬ (8 : Int) < (j : Int) := by omega
  have hl1 : (m1 : Int) ≤ 100000 := by have := h.len; omega
  have Hhm1 : Hid _ := hm1
  have Hhm2 : Hid _ := hm2
  have Hhm3 : Hid _ := hm3
  clear hs h hj hq1 hk0 hk1 hm1 hm2 hm3
  generalize ts[m2].n = V0 at *
  generalize ts[m3].at' = P1 at *
  generalize hx : ts[n] = x at *
  obtain ⟨xk, xa, xt, xn⟩ := x
  dsimp only at *
  clear hx
  go_enter Tryd.func38, Tryd.ntmps38
  go_wp2
  have HR0 : Hid (w.heap.size < (w.alloc (Obj.cells #[.int .i64 0, .int .i64 0, .int .u64 0, .int .u64 0] 45)).heap.size) := by show _ < _; rw [size_alloc']; omega
  generalize w.alloc (Obj.cells #[.int .i64 0, .int .i64 0, .int .u64 0, .int .u64 0] 45) = W0 at *
  have hb : Below W0.heap.size W0 (W0.alloc (Obj.cells #[.int .i64 0, .int .i64 0, .string ⟨#[]⟩, .int .u64 0] 39)) := (Below.refl _ _).alloc (Nat.le_refl _) _
  have hlb := World.block_lt_of_cell? W0 _ c0
  have hlg := World.block_lt_of_cell? W0 _ x0
  have d0 := (hb.cell (p := ⟨b, 0, none⟩) hlb).trans c0
  have d1 := (hb.cell (p := ⟨b, 1, none⟩) hlb).trans c1
  have y0 := (hb.cell (p := ⟨g, n * 4, none⟩) hlg).trans x0
  have y1 := (hb.cell (p := ⟨g, n * 4 + 1, none⟩) hlg).trans x1
  have y2 := (hb.cell (p := ⟨g, n * 4 + 2, none⟩) hlg).trans x2
  have y3 := (hb.cell (p := ⟨g, n * 4 + 3, none⟩) hlg).trans x3
  clear hb hlb hlg
  have A1 : Hid (Cx w b g cap ts n 0 0 (condL 0 0 0 0) (W0.alloc (Obj.cells #[.int .i64 xk, .int .i64 xa, .string (bar xt), .int .u64 xn] 39)).drew) := A0.out.over (((Below.refl _ _).alloc (Nat.le_refl _) _).drew)
  have D1 : Hid (Blk (W0.alloc (Obj.cells #[.int .i64 xk, .int .i64 xa, .string (bar xt), .int .u64 xn] 39)).drew W0.heap.size 39 [.int .i64 xk, .int .i64 xa, .string (bar xt), .int .u64 xn]) := blk_new W0 _ 39
  have HR1 : Hid (W0.heap.size < (W0.alloc (Obj.cells #[.int .i64 xk, .int .i64 xa, .string (bar xt), .int .u64 xn] 39)).drew.heap.size) := D1.out.lt
  go_region
  all_goals
    clear c0 c1 x0 x1 x2 x3 d0 d1 y0 y1 y2 y3 A0
    generalize (W0.alloc (Obj.cells #[.int .i64 xk, .int .i64 xa, .string (bar xt), .int .u64 xn] 39)).drew = X at *
    have e0 : X.cell? ⟨W0.heap.size, 0, none⟩ = some (.int .i64 xk) := D1.out.cell 0
    have e2 : X.cell? ⟨W0.heap.size, 2, none⟩ = some (.string (bar xt)) := D1.out.cell 2
    generalize W0.heap.size = r3 at *
    obtain ⟨hk, d, rfl, hd1, hd2, hd3⟩ := HG.out
    have hk' : ((xk : Int) != 1) = false := by rw [hk]; rfl
    clear hk HG
    have hz : ((bar [97, 114, 103, d]).size : Int) = 4 := rfl
    have h1 : ((bar [97, 114, 103, d]).extract 0 3).toList = [97, 114, 103] := by rw [ByteArray.toList_eq]; rfl
    have h2 : ¬ (((bar [97, 114, 103, d])[3]'(by show 3 < 4; omega)).toNat : Int) < 48 := by
      show ¬ (d.toNat : Int) < 48
      omega
    have h3 : ¬ 53 < (((bar [97, 114, 103, d])[3]'(by show 3 < 4; omega)).toNat : Int) := by
      show ¬ 53 < (d.toNat : Int)
      omega
    have ha : Hid (((((bar [97, 114, 103, d])[3]'(by show 3 < 4; omega)).toNat : Int) - 48) = ((argOf [97, 114, 103, d] - 1 : Nat) : Int)) := by
      show (d.toNat : Int) - 48 = _
      rw [hd3]
      omega
    obtain ⟨Y, hY⟩ : ∃ Y, X.alloc (Obj.cells #[.int .i64 ((((bar [97, 114, 103, d])[3]'(by show 3 < 4; omega)).toNat : Int) - 48), .int .i64 0, .int .u64 18446744073709551615, .int .u64 0] 45) = Y := ⟨_, rfl⟩
    have HY : Hid (X.alloc (Obj.cells #[.int .i64 ((((bar [97, 114, 103, d])[3]'(by show 3 < 4; omega)).toNat : Int) - 48), .int .i64 0, .int .u64 18446744073709551615, .int .u64 0] 45) = Y) := hY
    obtain ⟨A, hA⟩ : ∃ A, ((argOf [97, 114, 103, d] - 1 : Nat) : Int) = A := ⟨_, rfl⟩
    have B1 : Hid (Cy w b g cap ts n 0 0 X.heap.size (condL A 0 18446744073709551615 0) Y) := by
      have q := cy_new A1.out hn ((((bar [97, 114, 103, d])[3]'(by show 3 < 4; omega)).toNat : Int) - 48)
      rw [hY, ha.out, hA] at q
      exact q
    have HA : Hid (((argOf [97, 114, 103, d] - 1 : Nat) : Int) = A) := hA
    clear hY hd1 hd2 hd3 ha hA
    obtain ⟨Z, hZ⟩ : ∃ Z, Y.setCell ⟨b, 1, none⟩ (.int .i64 ((n : Int) + 1)) = Z := ⟨_, rfl⟩
    have HZ : Hid (Y.setCell ⟨b, 1, none⟩ (.int .i64 ((n : Int) + 1)) = Z) := hZ
    have B2 : Hid (Cy w b g cap ts m1 0 0 X.heap.size (condL A 0 18446744073709551615 0) Z) := by
      have q := B1.out.next
      rw [hZ, Hhm1.out] at q
      exact q
    clear hZ
    have c1 : Y.cell? ⟨b, 1, none⟩ = some (.int .i64 n) := B1.out.pc.blk.cell 1
    have f1 : Y.frozen? ⟨b, 1, none⟩ = false := B1.out.pc.blk.f 1
    go_wp2_with (first | (refine switch_world' HY.out ?_) | (refine switch_world' HZ.out ?_) | (go_at_call 18; refine (HI.out _ B2.out.pc).mono ?_; rintro e w1 ⟨rfl, b1⟩; have B3 : Hid (Cy w b g cap ts m1 0 0 X.heap.size (condL A 0 18446744073709551615 0) w1) := B2.out.over b1; have c2 : w1.cell? ⟨b, 1, none⟩ = some (.int .i64 m1) := B3.out.pc.blk.cell 1; have f2 : w1.frozen? ⟨b, 1, none⟩ = false := B3.out.pc.blk.f 1; obtain ⟨Z2, hZ2⟩ : ∃ Z2, w1.setCell ⟨b, 1, none⟩ (.int .i64 ((m1 : Int) + 1)) = Z2 := ⟨_, rfl⟩; have HZ2 : Hid (w1.setCell ⟨b, 1, none⟩ (.int .i64 ((m1 : Int) + 1)) = Z2) := hZ2; have B4 : Hid (Cy w b g cap ts m2 0 0 X.heap.size (condL A 0 18446744073709551615 0) Z2) := (by have q := B3.out.next; rw [hZ2, Hhm2.out] at q; exact q); clear hZ2) | (refine switch_world' HZ2.out ?_) | (go_at_call 37; refine (HN0.out _ B4.out.pc).mono ?_; rintro e u0 ⟨rfl, bb0, PP0⟩; have G0 : Hid (Cy w b g cap ts m3 0 0 X.heap.size (condL A 0 18446744073709551615 0) u0) := B4.out.on bb0 PP0; have k0 : u0.cell? ⟨X.heap.size, 2, none⟩ = some (.int .u64 18446744073709551615) := G0.out.blk.cell 2; have g0 : u0.frozen? ⟨X.heap.size, 2, none⟩ = false := G0.out.blk.f 2; obtain ⟨N0, hN0⟩ : ∃ N0, u0.setCell ⟨X.heap.size, 2, none⟩ (.int .u64 V0) = N0 := ⟨_, rfl⟩; have HX0 : Hid (u0.setCell ⟨X.heap.size, 2, none⟩ (.int .u64 V0) = N0) := hN0; have F0 : Hid (Cy w b g cap ts m3 0 0 X.heap.size (condL A 0 V0 0) N0) := (by have q := G0.out.set 2 (.int .u64 V0); rw [hN0] at q; exact q); have c0' : N0.cell? ⟨b, 2, none⟩ = some (.int .i64 0) := F0.out.pc.blk.cell 2; clear hN0) | (refine switch_world' HX0.out ?_) | (go_at_call 56; refine (HN1.out _ F0.out.pc).mono ?_; rintro e u1 ⟨rfl, bb1, PP1⟩; have G1 : Hid (Cy w b g cap ts m3 7 P1 X.heap.size (condL A 0 V0 0) u1) := F0.out.on bb1 PP1; have k1 : u1.cell? ⟨X.heap.size, 1, none⟩ = some (.int .i64 0) := G1.out.blk.cell 1; have g1 : u1.frozen? ⟨X.heap.size, 1, none⟩ = false := G1.out.blk.f 1; obtain ⟨N1, hN1⟩ : ∃ N1, u1.setCell ⟨X.heap.size, 1, none⟩ (.int .i64 0) = N1 := ⟨_, rfl⟩; have HX1 : Hid (u1.setCell ⟨X.heap.size, 1, none⟩ (.int .i64 0) = N1) := hN1; have F1 : Hid (Cy w b g cap ts m3 7 P1 X.heap.size (condL A 0 V0 0) N1) := (by have q := G1.out.set 1 (.int .i64 0); rw [hN1] at q; exact q); have c1' : N1.cell? ⟨b, 2, none⟩ = some (.int .i64 7) := F1.out.pc.blk.cell 2; clear hN1) | (refine switch_world' HX1.out ?_) | (refine at_op' (.load 45 (.tmp 6)) rfl ?_; refine wpList_load_row rfl 45 (.tmp 6) rfl X.heap.size rfl 45 (condL A 0 V0 0).toArray (0, 0) _ F1.out.blk Tryd.underlying45 rfl (condL_size _ _ _ _) ?_) | (refine at_op' (.store 45 (.tmp 4) (.tmp 93)) rfl ?_; refine wpList_store_row rfl 45 (.tmp 4) (.tmp 93) rfl w.heap.size (condL A 0 V0 0).toArray rfl rfl 45 _ F1.out.cx.blk (condL_size _ _ _ _) rfl (condL_one _ _ _ _) ?_))
    refine bodyPost_ret (v := condV A 0 V0 0) ?_ rfl ⟨by rw [HA.out], (F1.out.cx.row (condL A 0 V0 0)).bt, (F1.out.cx.row (condL A 0 V0 0)).pc⟩
    exact results_cell_row Tryd.results38 _ _ w.heap.size 45 (condL A 0 V0 0).toArray (0, 0) _ rfl (F1.out.cx.row (condL A 0 V0 0)).blk Tryd.underlying45 rfl (condL_size _ _ _ _)

set_option maxRecDepth 4000 in
set_option maxHeartbeats 4000000 in
/-- a condition: cond_a2. -/
theorem cond_a2 (w : World) (b g cap n : Nat) (ts : List Tok) (j : Nat) (h : Pc w b g cap ts n 0 0) (hn : n < ts.length) (hs : isG ts[n] = true) (hj : j ≤ 8) (m1 : Nat) (hm1 : n + 1 = m1) (hn1 : m1 < ts.length) (hq1 : (ts[m1].k == 3 && ts[m1].t == [38]) = true) (m2 : Nat) (hm2 : m1 + 1 = m2) (hn2 : m2 < ts.length) (hk0 : isN ts[m2] = true) (m3 : Nat) (hm3 : m2 + 1 = m3) (hn3 : m3 < ts.length) (hk1 : isO ts[m3] = true) (m4 : Nat) (hm4 : m3 + 1 = m4) (hn4 : m4 < ts.length) (hk2 : isN ts[m4] = false)  :
    Calls Tryd.prog 38 #[.pointer (some ⟨b, 0, none⟩), .int .i64 j] w fun e w' => e = .returned (condV ((argOf ts[n].t - 1 : Nat) : Int) (opOf ts[m3].t) ts[m2].n 0) ∧ Bt b w w' ∧ Pc w' b g cap ts m4 7 ts[m4].at' := by
  have A0 : Hid (Cx w b g cap ts n 0 0 (condL 0 0 0 0) (w.alloc (Obj.cells #[.int .i64 0, .int .i64 0, .int .u64 0, .int .u64 0] 45))) := cx_new h hn
  obtain ⟨x0, x1, x2, x3⟩ := A0.out.pc.at hn
  have c0 : (w.alloc (Obj.cells #[.int .i64 0, .int .i64 0, .int .u64 0, .int .u64 0] 45)).cell? ⟨b, 0, none⟩ = some (.slice (some ⟨g, 0, none⟩) ts.length cap) := A0.out.pc.blk.cell 0
  have c1 : (w.alloc (Obj.cells #[.int .i64 0, .int .i64 0, .int .u64 0, .int .u64 0] 45)).cell? ⟨b, 1, none⟩ = some (.int .i64 n) := A0.out.pc.blk.cell 1
  have hi : (n : Int) < (ts.length : Int) := by omega
  have hl : (n : Int) ≤ 100000 := by have := h.len; omega
  have HG : Hid (ts[n].k = 1 ∧ ∃ d : UInt8, ts[n].t = [97, 114, 103, d] ∧ 48 ≤ d.toNat ∧ d.toNat ≤ 53 ∧ argOf ts[n].t - 1 = d.toNat - 48) := by
    show _ ∧ _
    simp [isG] at hs
    exact ⟨hs.1, argOf_of hs.2⟩
  have HI : Hid (∀ W, Pc W b g cap ts m1 0 0 → Calls Tryd.prog 18 #[.pointer (some ⟨b, 0, none⟩), .int .i64 3, .string ⟨#[38]⟩] W fun e w' => e = .returned (.bool true) ∧ Below W.heap.size W w') := fun W hW => by
    have q := is_at W b g cap m1 ts 0 0 hW hn1 3 [38]
    rw [hq1] at q
    exact q
  have HN0 : Hid (∀ W, Pc W b g cap ts m2 0 0 → Calls Tryd.prog 37 #[.pointer (some ⟨b, 0, none⟩)] W fun e w' => e = .returned (.int .u64 ts[m2].n) ∧ Bt b W w' ∧ Pc w' b g cap ts m3 0 0) := fun W hW => by
    have q := number_ok W b g cap m2 ts hW hn2 hk0
    rw [hm3] at q
    exact q
  have HN1 : Hid (∀ W, Pc W b g cap ts m3 0 0 → Calls Tryd.prog 56 #[.pointer (some ⟨b, 0, none⟩)] W fun e w' => e = .returned (.int .i64 (opOf ts[m3].t)) ∧ Bt b W w' ∧ Pc w' b g cap ts m4 0 0) := fun W hW => by
    have q := op_ok W b g cap m3 ts hW hn3 hk1
    rw [hm4] at q
    exact q
  have HN2 : Hid (∀ W, Pc W b g cap ts m4 0 0 → Calls Tryd.prog 37 #[.pointer (some ⟨b, 0, none⟩)] W fun e w' => e = .returned (.int .u64 0) ∧ Bt b W w' ∧ Pc w' b g cap ts m4 7 ts[m4].at') := fun W hW => number_no W b g cap m4 ts hW hn4 hk2
  have hj' : ¬ (8 : Int) < (j : Int) := by omega
  have hl1 : (m1 : Int) ≤ 100000 := by have := h.len; omega
  have Hhm1 : Hid _ := hm1
  have Hhm2 : Hid _ := hm2
  have Hhm3 : Hid _ := hm3
  have Hhm4 : Hid _ := hm4
  clear hs h hj hq1 hk0 hk1 hk2 hm1 hm2 hm3 hm4
  generalize ts[m2].n = V0 at *
  generalize opOf ts[m3].t = V1 at *
  generalize ts[m4].at' = P2 at *
  generalize hx : ts[n] = x at *
  obtain ⟨xk, xa, xt, xn⟩ := x
  dsimp only at *
  clear hx
  go_enter Tryd.func38, Tryd.ntmps38
  go_wp2
  have HR0 : Hid (w.heap.size < (w.alloc (Obj.cells #[.int .i64 0, .int .i64 0, .int .u64 0, .int .u64 0] 45)).heap.size) := by show _ < _; rw [size_alloc']; omega
  generalize w.alloc (Obj.cells #[.int .i64 0, .int .i64 0, .int .u64 0, .int .u64 0] 45) = W0 at *
  have hb : Below W0.heap.size W0 (W0.alloc (Obj.cells #[.int .i64 0, .int .i64 0, .string ⟨#[]⟩, .int .u64 0] 39)) := (Below.refl _ _).alloc (Nat.le_refl _) _
  have hlb := World.block_lt_of_cell? W0 _ c0
  have hlg := World.block_lt_of_cell? W0 _ x0
  have d0 := (hb.cell (p := ⟨b, 0, none⟩) hlb).trans c0
  have d1 := (hb.cell (p := ⟨b, 1, none⟩) hlb).trans c1
  have y0 := (hb.cell (p := ⟨g, n * 4, none⟩) hlg).trans x0
  have y1 := (hb.cell (p := ⟨g, n * 4 + 1, none⟩) hlg).trans x1
  have y2 := (hb.cell (p := ⟨g, n * 4 + 2, none⟩) hlg).trans x2
  have y3 := (hb.cell (p := ⟨g, n * 4 + 3, none⟩) hlg).trans x3
  clear hb hlb hlg
  have A1 : Hid (Cx w b g cap ts n 0 0 (condL 0 0 0 0) (W0.alloc (Obj.cells #[.int .i64 xk, .int .i64 xa, .string (bar xt), .int .u64 xn] 39)).drew) := A0.out.over (((Below.refl _ _).alloc (Nat.le_refl _) _).drew)
  have D1 : Hid (Blk (W0.alloc (Obj.cells #[.int .i64 xk, .int .i64 xa, .string (bar xt), .int .u64 xn] 39)).drew W0.heap.size 39 [.int .i64 xk, .int .i64 xa, .string (bar xt), .int .u64 xn]) := blk_new W0 _ 39
  have HR1 : Hid (W0.heap.size < (W0.alloc (Obj.cells #[.int .i64 xk, .int .i64 xa, .string (bar xt), .int .u64 xn] 39)).drew.heap.size) := D1.out.lt
  go_region
  all_goals
    clear c0 c1 x0 x1 x2 x3 d0 d1 y0 y1 y2 y3 A0
    generalize (W0.alloc (Obj.cells #[.int .i64 xk, .int .i64 xa, .string (bar xt), .int .u64 xn] 39)).drew = X at *
    have e0 : X.cell? ⟨W0.heap.size, 0, none⟩ = some (.int .i64 xk) := D1.out.cell 0
    have e2 : X.cell? ⟨W0.heap.size, 2, none⟩ = some (.string (bar xt)) := D1.out.cell 2
    generalize W0.heap.size = r3 at *
    obtain ⟨hk, d, rfl, hd1, hd2, hd3⟩ := HG.out
    have hk' : ((xk : Int) != 1) = false := by rw [hk]; rfl
    clear hk HG
    have hz : ((bar [97, 114, 103, d]).size : Int) = 4 := rfl
    have h1 : ((bar [97, 114, 103, d]).extract 0 3).toList = [97, 114, 103] := by rw [ByteArray.toList_eq]; rfl
    have h2 : ¬ (((bar [97, 114, 103, d])[3]'(by show 3 < 4; omega)).toNat : Int) < 48 := by
      show ¬ (d.toNat : Int) < 48
      omega
    have h3 : ¬ 53 < (((bar [97, 114, 103, d])[3]'(by show 3 < 4; omega)).toNat : Int) := by
      show ¬ 53 < (d.toNat : Int)
      omega
    have ha : Hid (((((bar [97, 114, 103, d])[3]'(by show 3 < 4; omega)).toNat : Int) - 48) = ((argOf [97, 114, 103, d] - 1 : Nat) : Int)) := by
      show (d.toNat : Int) - 48 = _
      rw [hd3]
      omega
    obtain ⟨Y, hY⟩ : ∃ Y, X.alloc (Obj.cells #[.int .i64 ((((bar [97, 114, 103, d])[3]'(by show 3 < 4; omega)).toNat : Int) - 48), .int .i64 0, .int .u64 18446744073709551615, .int .u64 0] 45) = Y := ⟨_, rfl⟩
    have HY : Hid (X.alloc (Obj.cells #[.int .i64 ((((bar [97, 114, 103, d])[3]'(by show 3 < 4; omega)).toNat : Int) - 48), .int .i64 0, .int .u64 18446744073709551615, .int .u64 0] 45) = Y) := hY
    obtain ⟨A, hA⟩ : ∃ A, ((argOf [97, 114, 103, d] - 1 : Nat) : Int) = A := ⟨_, rfl⟩
    have B1 : Hid (Cy w b g cap ts n 0 0 X.heap.size (condL A 0 18446744073709551615 0) Y) := by
      have q := cy_new A1.out hn ((((bar [97, 114, 103, d])[3]'(by show 3 < 4; omega)).toNat : Int) - 48)
      rw [hY, ha.out, hA] at q
      exact q
    have HA : Hid (((argOf [97, 114, 103, d] - 1 : Nat) : Int) = A) := hA
    clear hY hd1 hd2 hd3 ha hA
    obtain ⟨Z, hZ⟩ : ∃ Z, Y.setCell ⟨b, 1, none⟩ (.int .i64 ((n : Int) + 1)) = Z := ⟨_, rfl⟩
    have HZ : Hid (Y.setCell ⟨b, 1, none⟩ (.int .i64 ((n : Int) + 1)) = Z) := hZ
    have B2 : Hid (Cy w b g cap ts m1 0 0 X.heap.size (condL A 0 18446744073709551615 0) Z) := by
      have q := B1.out.next
      rw [hZ, Hhm1.out] at q
      exact q
    clear hZ
    have c1 : Y.cell? ⟨b, 1, none⟩ = some (.int .i64 n) := B1.out.pc.blk.cell 1
    have f1 : Y.frozen? ⟨b, 1, none⟩ = false := B1.out.pc.blk.f 1
    go_wp2_with (first | (refine switch_world' HY.out ?_) | (refine switch_world' HZ.out ?_) | (go_at_call 18; refine (HI.out _ B2.out.pc).mono ?_; rintro e w1 ⟨rfl, b1⟩; have B3 : Hid (Cy w b g cap ts m1 0 0 X.heap.size (condL A 0 18446744073709551615 0) w1) := B2.out.over b1; have c2 : w1.cell? ⟨b, 1, none⟩ = some (.int .i64 m1) := B3.out.pc.blk.cell 1; have f2 : w1.frozen? ⟨b, 1, none⟩ = false := B3.out.pc.blk.f 1; obtain ⟨Z2, hZ2⟩ : ∃ Z2, w1.setCell ⟨b, 1, none⟩ (.int .i64 ((m1 : Int) + 1)) = Z2 := ⟨_, rfl⟩; have HZ2 : Hid (w1.setCell ⟨b, 1, none⟩ (.int .i64 ((m1 : Int) + 1)) = Z2) := hZ2; have B4 : Hid (Cy w b g cap ts m2 0 0 X.heap.size (condL A 0 18446744073709551615 0) Z2) := (by have q := B3.out.next; rw [hZ2, Hhm2.out] at q; exact q); clear hZ2) | (refine switch_world' HZ2.out ?_) | (go_at_call 37; refine (HN0.out _ B4.out.pc).mono ?_; rintro e u0 ⟨rfl, bb0, PP0⟩; have G0 : Hid (Cy w b g cap ts m3 0 0 X.heap.size (condL A 0 18446744073709551615 0) u0) := B4.out.on bb0 PP0; have k0 : u0.cell? ⟨X.heap.size, 2, none⟩ = some (.int .u64 18446744073709551615) := G0.out.blk.cell 2; have g0 : u0.frozen? ⟨X.heap.size, 2, none⟩ = false := G0.out.blk.f 2; obtain ⟨N0, hN0⟩ : ∃ N0, u0.setCell ⟨X.heap.size, 2, none⟩ (.int .u64 V0) = N0 := ⟨_, rfl⟩; have HX0 : Hid (u0.setCell ⟨X.heap.size, 2, none⟩ (.int .u64 V0) = N0) := hN0; have F0 : Hid (Cy w b g cap ts m3 0 0 X.heap.size (condL A 0 V0 0) N0) := (by have q := G0.out.set 2 (.int .u64 V0); rw [hN0] at q; exact q); have c0' : N0.cell? ⟨b, 2, none⟩ = some (.int .i64 0) := F0.out.pc.blk.cell 2; clear hN0) | (refine switch_world' HX0.out ?_) | (go_at_call 56; refine (HN1.out _ F0.out.pc).mono ?_; rintro e u1 ⟨rfl, bb1, PP1⟩; have G1 : Hid (Cy w b g cap ts m4 0 0 X.heap.size (condL A 0 V0 0) u1) := F0.out.on bb1 PP1; have k1 : u1.cell? ⟨X.heap.size, 1, none⟩ = some (.int .i64 0) := G1.out.blk.cell 1; have g1 : u1.frozen? ⟨X.heap.size, 1, none⟩ = false := G1.out.blk.f 1; obtain ⟨N1, hN1⟩ : ∃ N1, u1.setCell ⟨X.heap.size, 1, none⟩ (.int .i64 V1) = N1 := ⟨_, rfl⟩; have HX1 : Hid (u1.setCell ⟨X.heap.size, 1, none⟩ (.int .i64 V1) = N1) := hN1; have F1 : Hid (Cy w b g cap ts m4 0 0 X.heap.size (condL A V1 V0 0) N1) := (by have q := G1.out.set 1 (.int .i64 V1); rw [hN1] at q; exact q); have c1' : N1.cell? ⟨b, 2, none⟩ = some (.int .i64 0) := F1.out.pc.blk.cell 2; clear hN1) | (refine switch_world' HX1.out ?_) | (go_at_call 37; refine (HN2.out _ F1.out.pc).mono ?_; rintro e u2 ⟨rfl, bb2, PP2⟩; have G2 : Hid (Cy w b g cap ts m4 7 P2 X.heap.size (condL A V1 V0 0) u2) := F1.out.on bb2 PP2; have k2 : u2.cell? ⟨X.heap.size, 3, none⟩ = some (.int .u64 0) := G2.out.blk.cell 3; have g2 : u2.frozen? ⟨X.heap.size, 3, none⟩ = false := G2.out.blk.f 3; obtain ⟨N2, hN2⟩ : ∃ N2, u2.setCell ⟨X.heap.size, 3, none⟩ (.int .u64 0) = N2 := ⟨_, rfl⟩; have HX2 : Hid (u2.setCell ⟨X.heap.size, 3, none⟩ (.int .u64 0) = N2) := hN2; have F2 : Hid (Cy w b g cap ts m4 7 P2 X.heap.size (condL A V1 V0 0) N2) := (by have q := G2.out.set 3 (.int .u64 0); rw [hN2] at q; exact q); have c2' : N2.cell? ⟨b, 2, none⟩ = some (.int .i64 7) := F2.out.pc.blk.cell 2; clear hN2) | (refine switch_world' HX2.out ?_) | (refine at_op' (.load 45 (.tmp 6)) rfl ?_; refine wpList_load_row rfl 45 (.tmp 6) rfl X.heap.size rfl 45 (condL A V1 V0 0).toArray (0, 0) _ F2.out.blk Tryd.underlying45 rfl (condL_size _ _ _ _) ?_) | (refine at_op' (.store 45 (.tmp 4) (.tmp 93)) rfl ?_; refine wpList_store_row rfl 45 (.tmp 4) (.tmp 93) rfl w.heap.size (condL A V1 V0 0).toArray rfl rfl 45 _ F2.out.cx.blk (condL_size _ _ _ _) rfl (condL_one _ _ _ _) ?_))
    refine bodyPost_ret (v := condV A V1 V0 0) ?_ rfl ⟨by rw [HA.out], (F2.out.cx.row (condL A V1 V0 0)).bt, (F2.out.cx.row (condL A V1 V0 0)).pc⟩
    exact results_cell_row Tryd.results38 _ _ w.heap.size 45 (condL A V1 V0 0).toArray (0, 0) _ rfl (F2.out.cx.row (condL A V1 V0 0)).blk Tryd.underlying45 rfl (condL_size _ _ _ _)

set_option maxRecDepth 4000 in
set_option maxHeartbeats 4000000 in
/-- a condition: cond_a3. -/
theorem cond_a3 (w : World) (b g cap n : Nat) (ts : List Tok) (j : Nat) (h : Pc w b g cap ts n 0 0) (hn : n < ts.length) (hs : isG ts[n] = true) (hj : j ≤ 8) (m1 : Nat) (hm1 : n + 1 = m1) (hn1 : m1 < ts.length) (hq1 : (ts[m1].k == 3 && ts[m1].t == [38]) = true) (m2 : Nat) (hm2 : m1 + 1 = m2) (hn2 : m2 < ts.length) (hk0 : isN ts[m2] = true) (m3 : Nat) (hm3 : m2 + 1 = m3) (hn3 : m3 < ts.length) (hk1 : isO ts[m3] = true) (m4 : Nat) (hm4 : m3 + 1 = m4) (hn4 : m4 < ts.length) (hk2 : isN ts[m4] = true) (m5 : Nat) (hm5 : m4 + 1 = m5) (hn5 : m5 < ts.length)  :
    Calls Tryd.prog 38 #[.pointer (some ⟨b, 0, none⟩), .int .i64 j] w fun e w' => e = .returned (condV ((argOf ts[n].t - 1 : Nat) : Int) (opOf ts[m3].t) ts[m2].n ts[m4].n) ∧ Bt b w w' ∧ Pc w' b g cap ts m5 0 0 := by
  have A0 : Hid (Cx w b g cap ts n 0 0 (condL 0 0 0 0) (w.alloc (Obj.cells #[.int .i64 0, .int .i64 0, .int .u64 0, .int .u64 0] 45))) := cx_new h hn
  obtain ⟨x0, x1, x2, x3⟩ := A0.out.pc.at hn
  have c0 : (w.alloc (Obj.cells #[.int .i64 0, .int .i64 0, .int .u64 0, .int .u64 0] 45)).cell? ⟨b, 0, none⟩ = some (.slice (some ⟨g, 0, none⟩) ts.length cap) := A0.out.pc.blk.cell 0
  have c1 : (w.alloc (Obj.cells #[.int .i64 0, .int .i64 0, .int .u64 0, .int .u64 0] 45)).cell? ⟨b, 1, none⟩ = some (.int .i64 n) := A0.out.pc.blk.cell 1
  have hi : (n : Int) < (ts.length : Int) := by omega
  have hl : (n : Int) ≤ 100000 := by have := h.len; omega
  have HG : Hid (ts[n].k = 1 ∧ ∃ d : UInt8, ts[n].t = [97, 114, 103, d] ∧ 48 ≤ d.toNat ∧ d.toNat ≤ 53 ∧ argOf ts[n].t - 1 = d.toNat - 48) := by
    show _ ∧ _
    simp [isG] at hs
    exact ⟨hs.1, argOf_of hs.2⟩
  have HI : Hid (∀ W, Pc W b g cap ts m1 0 0 → Calls Tryd.prog 18 #[.pointer (some ⟨b, 0, none⟩), .int .i64 3, .string ⟨#[38]⟩] W fun e w' => e = .returned (.bool true) ∧ Below W.heap.size W w') := fun W hW => by
    have q := is_at W b g cap m1 ts 0 0 hW hn1 3 [38]
    rw [hq1] at q
    exact q
  have HN0 : Hid (∀ W, Pc W b g cap ts m2 0 0 → Calls Tryd.prog 37 #[.pointer (some ⟨b, 0, none⟩)] W fun e w' => e = .returned (.int .u64 ts[m2].n) ∧ Bt b W w' ∧ Pc w' b g cap ts m3 0 0) := fun W hW => by
    have q := number_ok W b g cap m2 ts hW hn2 hk0
    rw [hm3] at q
    exact q
  have HN1 : Hid (∀ W, Pc W b g cap ts m3 0 0 → Calls Tryd.prog 56 #[.pointer (some ⟨b, 0, none⟩)] W fun e w' => e = .returned (.int .i64 (opOf ts[m3].t)) ∧ Bt b W w' ∧ Pc w' b g cap ts m4 0 0) := fun W hW => by
    have q := op_ok W b g cap m3 ts hW hn3 hk1
    rw [hm4] at q
    exact q
  have HN2 : Hid (∀ W, Pc W b g cap ts m4 0 0 → Calls Tryd.prog 37 #[.pointer (some ⟨b, 0, none⟩)] W fun e w' => e = .returned (.int .u64 ts[m4].n) ∧ Bt b W w' ∧ Pc w' b g cap ts m5 0 0) := fun W hW => by
    have q := number_ok W b g cap m4 ts hW hn4 hk2
    rw [hm5] at q
    exact q
  have hj' : ¬ (8 : Int) < (j : Int) := by omega
  have hl1 : (m1 : Int) ≤ 100000 := by have := h.len; omega
  have Hhm1 : Hid _ := hm1
  have Hhm2 : Hid _ := hm2
  have Hhm3 : Hid _ := hm3
  have Hhm4 : Hid _ := hm4
  have Hhm5 : Hid _ := hm5
  clear hs h hj hq1 hk0 hk1 hk2 hm1 hm2 hm3 hm4 hm5
  generalize ts[m2].n = V0 at *
  generalize opOf ts[m3].t = V1 at *
  generalize ts[m4].n = V2 at *
  generalize hx : ts[n] = x at *
  obtain ⟨xk, xa, xt, xn⟩ := x
  dsimp only at *
  clear hx
  go_enter Tryd.func38, Tryd.ntmps38
  go_wp2
  have HR0 : Hid (w.heap.size < (w.alloc (Obj.cells #[.int .i64 0, .int .i64 0, .int .u64 0, .int .u64 0] 45)).heap.size) := by show _ < _; rw [size_alloc']; omega
  generalize w.alloc (Obj.cells #[.int .i64 0, .int .i64 0, .int .u64 0, .int .u64 0] 45) = W0 at *
  have hb : Below W0.heap.size W0 (W0.alloc (Obj.cells #[.int .i64 0, .int .i64 0, .string ⟨#[]⟩, .int .u64 0] 39)) := (Below.refl _ _).alloc (Nat.le_refl _) _
  have hlb := World.block_lt_of_cell? W0 _ c0
  have hlg := World.block_lt_of_cell? W0 _ x0
  have d0 := (hb.cell (p := ⟨b, 0, none⟩) hlb).trans c0
  have d1 := (hb.cell (p := ⟨b, 1, none⟩) hlb).trans c1
  have y0 := (hb.cell (p := ⟨g, n * 4, none⟩) hlg).trans x0
  have y1 := (hb.cell (p := ⟨g, n * 4 + 1, none⟩) hlg).trans x1
  have y2 := (hb.cell (p := ⟨g, n * 4 + 2, none⟩) hlg).trans x2
  have y3 := (hb.cell (p := ⟨g, n * 4 + 3, none⟩) hlg).trans x3
  clear hb hlb hlg
  have A1 : Hid (Cx w b g cap ts n 0 0 (condL 0 0 0 0) (W0.alloc (Obj.cells #[.int .i64 xk, .int .i64 xa, .string (bar xt), .int .u64 xn] 39)).drew) := A0.out.over (((Below.refl _ _).alloc (Nat.le_refl _) _).drew)
  have D1 : Hid (Blk (W0.alloc (Obj.cells #[.int .i64 xk, .int .i64 xa, .string (bar xt), .int .u64 xn] 39)).drew W0.heap.size 39 [.int .i64 xk, .int .i64 xa, .string (bar xt), .int .u64 xn]) := blk_new W0 _ 39
  have HR1 : Hid (W0.heap.size < (W0.alloc (Obj.cells #[.int .i64 xk, .int .i64 xa, .string (bar xt), .int .u64 xn] 39)).drew.heap.size) := D1.out.lt
  go_region
  all_goals
    clear c0 c1 x0 x1 x2 x3 d0 d1 y0 y1 y2 y3 A0
    generalize (W0.alloc (Obj.cells #[.int .i64 xk, .int .i64 xa, .string (bar xt), .int .u64 xn] 39)).drew = X at *
    have e0 : X.cell? ⟨W0.heap.size, 0, none⟩ = some (.int .i64 xk) := D1.out.cell 0
    have e2 : X.cell? ⟨W0.heap.size, 2, none⟩ = some (.string (bar xt)) := D1.out.cell 2
    generalize W0.heap.size = r3 at *
    obtain ⟨hk, d, rfl, hd1, hd2, hd3⟩ := HG.out
    have hk' : ((xk : Int) != 1) = false := by rw [hk]; rfl
    clear hk HG
    have hz : ((bar [97, 114, 103, d]).size : Int) = 4 := rfl
    have h1 : ((bar [97, 114, 103, d]).extract 0 3).toList = [97, 114, 103] := by rw [ByteArray.toList_eq]; rfl
    have h2 : ¬ (((bar [97, 114, 103, d])[3]'(by show 3 < 4; omega)).toNat : Int) < 48 := by
      show ¬ (d.toNat : Int) < 48
      omega
    have h3 : ¬ 53 < (((bar [97, 114, 103, d])[3]'(by show 3 < 4; omega)).toNat : Int) := by
      show ¬ 53 < (d.toNat : Int)
      omega
    have ha : Hid (((((bar [97, 114, 103, d])[3]'(by show 3 < 4; omega)).toNat : Int) - 48) = ((argOf [97, 114, 103, d] - 1 : Nat) : Int)) := by
      show (d.toNat : Int) - 48 = _
      rw [hd3]
      omega
    obtain ⟨Y, hY⟩ : ∃ Y, X.alloc (Obj.cells #[.int .i64 ((((bar [97, 114, 103, d])[3]'(by show 3 < 4; omega)).toNat : Int) - 48), .int .i64 0, .int .u64 18446744073709551615, .int .u64 0] 45) = Y := ⟨_, rfl⟩
    have HY : Hid (X.alloc (Obj.cells #[.int .i64 ((((bar [97, 114, 103, d])[3]'(by show 3 < 4; omega)).toNat : Int) - 48), .int .i64 0, .int .u64 18446744073709551615, .int .u64 0] 45) = Y) := hY
    obtain ⟨A, hA⟩ : ∃ A, ((argOf [97, 114, 103, d] - 1 : Nat) : Int) = A := ⟨_, rfl⟩
    have B1 : Hid (Cy w b g cap ts n 0 0 X.heap.size (condL A 0 18446744073709551615 0) Y) := by
      have q := cy_new A1.out hn ((((bar [97, 114, 103, d])[3]'(by show 3 < 4; omega)).toNat : Int) - 48)
      rw [hY, ha.out, hA] at q
      exact q
    have HA : Hid (((argOf [97, 114, 103, d] - 1 : Nat) : Int) = A) := hA
    clear hY hd1 hd2 hd3 ha hA
    obtain ⟨Z, hZ⟩ : ∃ Z, Y.setCell ⟨b, 1, none⟩ (.int .i64 ((n : Int) + 1)) = Z := ⟨_, rfl⟩
    have HZ : Hid (Y.setCell ⟨b, 1, none⟩ (.int .i64 ((n : Int) + 1)) = Z) := hZ
    have B2 : Hid (Cy w b g cap ts m1 0 0 X.heap.size (condL A 0 18446744073709551615 0) Z) := by
      have q := B1.out.next
      rw [hZ, Hhm1.out] at q
      exact q
    clear hZ
    have c1 : Y.cell? ⟨b, 1, none⟩ = some (.int .i64 n) := B1.out.pc.blk.cell 1
    have f1 : Y.frozen? ⟨b, 1, none⟩ = false := B1.out.pc.blk.f 1
    go_wp2_with (first | (refine switch_world' HY.out ?_) | (refine switch_world' HZ.out ?_) | (go_at_call 18; refine (HI.out _ B2.out.pc).mono ?_; rintro e w1 ⟨rfl, b1⟩; have B3 : Hid (Cy w b g cap ts m1 0 0 X.heap.size (condL A 0 18446744073709551615 0) w1) := B2.out.over b1; have c2 : w1.cell? ⟨b, 1, none⟩ = some (.int .i64 m1) := B3.out.pc.blk.cell 1; have f2 : w1.frozen? ⟨b, 1, none⟩ = false := B3.out.pc.blk.f 1; obtain ⟨Z2, hZ2⟩ : ∃ Z2, w1.setCell ⟨b, 1, none⟩ (.int .i64 ((m1 : Int) + 1)) = Z2 := ⟨_, rfl⟩; have HZ2 : Hid (w1.setCell ⟨b, 1, none⟩ (.int .i64 ((m1 : Int) + 1)) = Z2) := hZ2; have B4 : Hid (Cy w b g cap ts m2 0 0 X.heap.size (condL A 0 18446744073709551615 0) Z2) := (by have q := B3.out.next; rw [hZ2, Hhm2.out] at q; exact q); clear hZ2) | (refine switch_world' HZ2.out ?_) | (go_at_call 37; refine (HN0.out _ B4.out.pc).mono ?_; rintro e u0 ⟨rfl, bb0, PP0⟩; have G0 : Hid (Cy w b g cap ts m3 0 0 X.heap.size (condL A 0 18446744073709551615 0) u0) := B4.out.on bb0 PP0; have k0 : u0.cell? ⟨X.heap.size, 2, none⟩ = some (.int .u64 18446744073709551615) := G0.out.blk.cell 2; have g0 : u0.frozen? ⟨X.heap.size, 2, none⟩ = false := G0.out.blk.f 2; obtain ⟨N0, hN0⟩ : ∃ N0, u0.setCell ⟨X.heap.size, 2, none⟩ (.int .u64 V0) = N0 := ⟨_, rfl⟩; have HX0 : Hid (u0.setCell ⟨X.heap.size, 2, none⟩ (.int .u64 V0) = N0) := hN0; have F0 : Hid (Cy w b g cap ts m3 0 0 X.heap.size (condL A 0 V0 0) N0) := (by have q := G0.out.set 2 (.int .u64 V0); rw [hN0] at q; exact q); have c0' : N0.cell? ⟨b, 2, none⟩ = some (.int .i64 0) := F0.out.pc.blk.cell 2; clear hN0) | (refine switch_world' HX0.out ?_) | (go_at_call 56; refine (HN1.out _ F0.out.pc).mono ?_; rintro e u1 ⟨rfl, bb1, PP1⟩; have G1 : Hid (Cy w b g cap ts m4 0 0 X.heap.size (condL A 0 V0 0) u1) := F0.out.on bb1 PP1; have k1 : u1.cell? ⟨X.heap.size, 1, none⟩ = some (.int .i64 0) := G1.out.blk.cell 1; have g1 : u1.frozen? ⟨X.heap.size, 1, none⟩ = false := G1.out.blk.f 1; obtain ⟨N1, hN1⟩ : ∃ N1, u1.setCell ⟨X.heap.size, 1, none⟩ (.int .i64 V1) = N1 := ⟨_, rfl⟩; have HX1 : Hid (u1.setCell ⟨X.heap.size, 1, none⟩ (.int .i64 V1) = N1) := hN1; have F1 : Hid (Cy w b g cap ts m4 0 0 X.heap.size (condL A V1 V0 0) N1) := (by have q := G1.out.set 1 (.int .i64 V1); rw [hN1] at q; exact q); have c1' : N1.cell? ⟨b, 2, none⟩ = some (.int .i64 0) := F1.out.pc.blk.cell 2; clear hN1) | (refine switch_world' HX1.out ?_) | (go_at_call 37; refine (HN2.out _ F1.out.pc).mono ?_; rintro e u2 ⟨rfl, bb2, PP2⟩; have G2 : Hid (Cy w b g cap ts m5 0 0 X.heap.size (condL A V1 V0 0) u2) := F1.out.on bb2 PP2; have k2 : u2.cell? ⟨X.heap.size, 3, none⟩ = some (.int .u64 0) := G2.out.blk.cell 3; have g2 : u2.frozen? ⟨X.heap.size, 3, none⟩ = false := G2.out.blk.f 3; obtain ⟨N2, hN2⟩ : ∃ N2, u2.setCell ⟨X.heap.size, 3, none⟩ (.int .u64 V2) = N2 := ⟨_, rfl⟩; have HX2 : Hid (u2.setCell ⟨X.heap.size, 3, none⟩ (.int .u64 V2) = N2) := hN2; have F2 : Hid (Cy w b g cap ts m5 0 0 X.heap.size (condL A V1 V0 V2) N2) := (by have q := G2.out.set 3 (.int .u64 V2); rw [hN2] at q; exact q); have c2' : N2.cell? ⟨b, 2, none⟩ = some (.int .i64 0) := F2.out.pc.blk.cell 2; clear hN2) | (refine switch_world' HX2.out ?_) | (refine at_op' (.load 45 (.tmp 6)) rfl ?_; refine wpList_load_row rfl 45 (.tmp 6) rfl X.heap.size rfl 45 (condL A V1 V0 V2).toArray (0, 0) _ F2.out.blk Tryd.underlying45 rfl (condL_size _ _ _ _) ?_) | (refine at_op' (.store 45 (.tmp 4) (.tmp 93)) rfl ?_; refine wpList_store_row rfl 45 (.tmp 4) (.tmp 93) rfl w.heap.size (condL A V1 V0 V2).toArray rfl rfl 45 _ F2.out.cx.blk (condL_size _ _ _ _) rfl (condL_one _ _ _ _) ?_))
    refine bodyPost_ret (v := condV A V1 V0 V2) ?_ rfl ⟨by rw [HA.out], (F2.out.cx.row (condL A V1 V0 V2)).bt, (F2.out.cx.row (condL A V1 V0 V2)).pc⟩
    exact results_cell_row Tryd.results38 _ _ w.heap.size 45 (condL A V1 V0 V2).toArray (0, 0) _ rfl (F2.out.cx.row (condL A V1 V0 V2)).blk Tryd.underlying45 rfl (condL_size _ _ _ _)

set_option maxRecDepth 4000 in
set_option maxHeartbeats 4000000 in
/-- a condition: cond_b0. -/
theorem cond_b0 (w : World) (b g cap n : Nat) (ts : List Tok) (j : Nat) (h : Pc w b g cap ts n 0 0) (hn : n < ts.length) (hs : isG ts[n] = true) (hj : j ≤ 8) (m1 : Nat) (hm1 : n + 1 = m1) (hn1 : m1 < ts.length) (hq1 : (ts[m1].k == 3 && ts[m1].t == [38]) = false) (hk0 : isO ts[m1] = false)  :
    Calls Tryd.prog 38 #[.pointer (some ⟨b, 0, none⟩), .int .i64 j] w fun e w' => e = .returned (condV ((argOf ts[n].t - 1 : Nat) : Int) 0 18446744073709551615 0) ∧ Bt b w w' ∧ Pc w' b g cap ts m1 7 ts[m1].at' := by
  have A0 : Hid (Cx w b g cap ts n 0 0 (condL 0 0 0 0) (w.alloc (Obj.cells #[.int .i64 0, .int .i64 0, .int .u64 0, .int .u64 0] 45))) := cx_new h hn
  obtain ⟨x0, x1, x2, x3⟩ := A0.out.pc.at hn
  have c0 : (w.alloc (Obj.cells #[.int .i64 0, .int .i64 0, .int .u64 0, .int .u64 0] 45)).cell? ⟨b, 0, none⟩ = some (.slice (some ⟨g, 0, none⟩) ts.length cap) := A0.out.pc.blk.cell 0
  have c1 : (w.alloc (Obj.cells #[.int .i64 0, .int .i64 0, .int .u64 0, .int .u64 0] 45)).cell? ⟨b, 1, none⟩ = some (.int .i64 n) := A0.out.pc.blk.cell 1
  have hi : (n : Int) < (ts.length : Int) := by omega
  have hl : (n : Int) ≤ 100000 := by have := h.len; omega
  have HG : Hid (ts[n].k = 1 ∧ ∃ d : UInt8, ts[n].t = [97, 114, 103, d] ∧ 48 ≤ d.toNat ∧ d.toNat ≤ 53 ∧ argOf ts[n].t - 1 = d.toNat - 48) := by
    show _ ∧ _
    simp [isG] at hs
    exact ⟨hs.1, argOf_of hs.2⟩
  have HI : Hid (∀ W, Pc W b g cap ts m1 0 0 → Calls Tryd.prog 18 #[.pointer (some ⟨b, 0, none⟩), .int .i64 3, .string ⟨#[38]⟩] W fun e w' => e = .returned (.bool false) ∧ Below W.heap.size W w') := fun W hW => by
    have q := is_at W b g cap m1 ts 0 0 hW hn1 3 [38]
    rw [hq1] at q
    exact q
  have HN0 : Hid (∀ W, Pc W b g cap ts m1 0 0 → Calls Tryd.prog 56 #[.pointer (some ⟨b, 0, none⟩)] W fun e w' => e = .returned (.int .i64 0) ∧ Bt b W w' ∧ Pc w' b g cap ts m1 7 ts[m1].at') := fun W hW => op_no W b g cap m1 ts hW hn1 hk0
  have hj' : ¬ (8 : Int) < (j : Int) := by omega
  have hl1 : (m1 : Int) ≤ 100000 := by have := h.len; omega
  have Hhm1 : Hid _ := hm1
  clear hs h hj hq1 hk0 hm1
  generalize ts[m1].at' = P0 at *
  generalize hx : ts[n] = x at *
  obtain ⟨xk, xa, xt, xn⟩ := x
  dsimp only at *
  clear hx
  go_enter Tryd.func38, Tryd.ntmps38
  go_wp2
  have HR0 : Hid (w.heap.size < (w.alloc (Obj.cells #[.int .i64 0, .int .i64 0, .int .u64 0, .int .u64 0] 45)).heap.size) := by show _ < _; rw [size_alloc']; omega
  generalize w.alloc (Obj.cells #[.int .i64 0, .int .i64 0, .int .u64 0, .int .u64 0] 45) = W0 at *
  have hb : Below W0.heap.size W0 (W0.alloc (Obj.cells #[.int .i64 0, .int .i64 0, .string ⟨#[]⟩, .int .u64 0] 39)) := (Below.refl _ _).alloc (Nat.le_refl _) _
  have hlb := World.block_lt_of_cell? W0 _ c0
  have hlg := World.block_lt_of_cell? W0 _ x0
  have d0 := (hb.cell (p := ⟨b, 0, none⟩) hlb).trans c0
  have d1 := (hb.cell (p := ⟨b, 1, none⟩) hlb).trans c1
  have y0 := (hb.cell (p := ⟨g, n * 4, none⟩) hlg).trans x0
  have y1 := (hb.cell (p := ⟨g, n * 4 + 1, none⟩) hlg).trans x1
  have y2 := (hb.cell (p := ⟨g, n * 4 + 2, none⟩) hlg).trans x2
  have y3 := (hb.cell (p := ⟨g, n * 4 + 3, none⟩) hlg).trans x3
  clear hb hlb hlg
  have A1 : Hid (Cx w b g cap ts n 0 0 (condL 0 0 0 0) (W0.alloc (Obj.cells #[.int .i64 xk, .int .i64 xa, .string (bar xt), .int .u64 xn] 39)).drew) := A0.out.over (((Below.refl _ _).alloc (Nat.le_refl _) _).drew)
  have D1 : Hid (Blk (W0.alloc (Obj.cells #[.int .i64 xk, .int .i64 xa, .string (bar xt), .int .u64 xn] 39)).drew W0.heap.size 39 [.int .i64 xk, .int .i64 xa, .string (bar xt), .int .u64 xn]) := blk_new W0 _ 39
  have HR1 : Hid (W0.heap.size < (W0.alloc (Obj.cells #[.int .i64 xk, .int .i64 xa, .string (bar xt), .int .u64 xn] 39)).drew.heap.size) := D1.out.lt
  go_region
  all_goals
    clear c0 c1 x0 x1 x2 x3 d0 d1 y0 y1 y2 y3 A0
    generalize (W0.alloc (Obj.cells #[.int .i64 xk, .int .i64 xa, .string (bar xt), .int .u64 xn] 39)).drew = X at *
    have e0 : X.cell? ⟨W0.heap.size, 0, none⟩ = some (.int .i64 xk) := D1.out.cell 0
    have e2 : X.cell? ⟨W0.heap.size, 2, none⟩ = some (.string (bar xt)) := D1.out.cell 2
    generalize W0.heap.size = r3 at *
    obtain ⟨hk, d, rfl, hd1, hd2, hd3⟩ := HG.out
    have hk' : ((xk : Int) != 1) = false := by rw [hk]; rfl
    clear hk HG
    have hz : ((bar [97, 114, 103, d]).size : Int) = 4 := rfl
    have h1 : ((bar [97, 114, 103, d]).extract 0 3).toList = [97, 114, 103] := by rw [ByteArray.toList_eq]; rfl
    have h2 : ¬ (((bar [97, 114, 103, d])[3]'(by show 3 < 4; omega)).toNat : Int) < 48 := by
      show ¬ (d.toNat : Int) < 48
      omega
    have h3 : ¬ 53 < (((bar [97, 114, 103, d])[3]'(by show 3 < 4; omega)).toNat : Int) := by
      show ¬ 53 < (d.toNat : Int)
      omega
    have ha : Hid (((((bar [97, 114, 103, d])[3]'(by show 3 < 4; omega)).toNat : Int) - 48) = ((argOf [97, 114, 103, d] - 1 : Nat) : Int)) := by
      show (d.toNat : Int) - 48 = _
      rw [hd3]
      omega
    obtain ⟨Y, hY⟩ : ∃ Y, X.alloc (Obj.cells #[.int .i64 ((((bar [97, 114, 103, d])[3]'(by show 3 < 4; omega)).toNat : Int) - 48), .int .i64 0, .int .u64 18446744073709551615, .int .u64 0] 45) = Y := ⟨_, rfl⟩
    have HY : Hid (X.alloc (Obj.cells #[.int .i64 ((((bar [97, 114, 103, d])[3]'(by show 3 < 4; omega)).toNat : Int) - 48), .int .i64 0, .int .u64 18446744073709551615, .int .u64 0] 45) = Y) := hY
    obtain ⟨A, hA⟩ : ∃ A, ((argOf [97, 114, 103, d] - 1 : Nat) : Int) = A := ⟨_, rfl⟩
    have B1 : Hid (Cy w b g cap ts n 0 0 X.heap.size (condL A 0 18446744073709551615 0) Y) := by
      have q := cy_new A1.out hn ((((bar [97, 114, 103, d])[3]'(by show 3 < 4; omega)).toNat : Int) - 48)
      rw [hY, ha.out, hA] at q
      exact q
    have HA : Hid (((argOf [97, 114, 103, d] - 1 : Nat) : Int) = A) := hA
    clear hY hd1 hd2 hd3 ha hA
    obtain ⟨Z, hZ⟩ : ∃ Z, Y.setCell ⟨b, 1, none⟩ (.int .i64 ((n : Int) + 1)) = Z := ⟨_, rfl⟩
    have HZ : Hid (Y.setCell ⟨b, 1, none⟩ (.int .i64 ((n : Int) + 1)) = Z) := hZ
    have B2 : Hid (Cy w b g cap ts m1 0 0 X.heap.size (condL A 0 18446744073709551615 0) Z) := by
      have q := B1.out.next
      rw [hZ, Hhm1.out] at q
      exact q
    clear hZ
    have c1 : Y.cell? ⟨b, 1, none⟩ = some (.int .i64 n) := B1.out.pc.blk.cell 1
    have f1 : Y.frozen? ⟨b, 1, none⟩ = false := B1.out.pc.blk.f 1
    go_wp2_with (first | (refine switch_world' HY.out ?_) | (refine switch_world' HZ.out ?_) | (go_at_call 18; refine (HI.out _ B2.out.pc).mono ?_; rintro e w1 ⟨rfl, b1⟩; have B3 : Hid (Cy w b g cap ts m1 0 0 X.heap.size (condL A 0 18446744073709551615 0) w1) := B2.out.over b1; have c2 : w1.cell? ⟨b, 2, none⟩ = some (.int .i64 0) := B3.out.pc.blk.cell 2) | (go_at_call 56; refine (HN0.out _ B3.out.pc).mono ?_; rintro e u0 ⟨rfl, bb0, PP0⟩; have G0 : Hid (Cy w b g cap ts m1 7 P0 X.heap.size (condL A 0 18446744073709551615 0) u0) := B3.out.on bb0 PP0; have k0 : u0.cell? ⟨X.heap.size, 1, none⟩ = some (.int .i64 0) := G0.out.blk.cell 1; have g0 : u0.frozen? ⟨X.heap.size, 1, none⟩ = false := G0.out.blk.f 1; obtain ⟨N0, hN0⟩ : ∃ N0, u0.setCell ⟨X.heap.size, 1, none⟩ (.int .i64 0) = N0 := ⟨_, rfl⟩; have HX0 : Hid (u0.setCell ⟨X.heap.size, 1, none⟩ (.int .i64 0) = N0) := hN0; have F0 : Hid (Cy w b g cap ts m1 7 P0 X.heap.size (condL A 0 18446744073709551615 0) N0) := (by have q := G0.out.set 1 (.int .i64 0); rw [hN0] at q; exact q); have c0' : N0.cell? ⟨b, 2, none⟩ = some (.int .i64 7) := F0.out.pc.blk.cell 2; clear hN0) | (refine switch_world' HX0.out ?_) | (refine at_op' (.load 45 (.tmp 6)) rfl ?_; refine wpList_load_row rfl 45 (.tmp 6) rfl X.heap.size rfl 45 (condL A 0 18446744073709551615 0).toArray (0, 0) _ F0.out.blk Tryd.underlying45 rfl (condL_size _ _ _ _) ?_) | (refine at_op' (.store 45 (.tmp 4) (.tmp 93)) rfl ?_; refine wpList_store_row rfl 45 (.tmp 4) (.tmp 93) rfl w.heap.size (condL A 0 18446744073709551615 0).toArray rfl rfl 45 _ F0.out.cx.blk (condL_size _ _ _ _) rfl (condL_one _ _ _ _) ?_))
    refine bodyPost_ret (v := condV A 0 18446744073709551615 0) ?_ rfl ⟨by rw [HA.out], (F0.out.cx.row (condL A 0 18446744073709551615 0)).bt, (F0.out.cx.row (condL A 0 18446744073709551615 0)).pc⟩
    exact results_cell_row Tryd.results38 _ _ w.heap.size 45 (condL A 0 18446744073709551615 0).toArray (0, 0) _ rfl (F0.out.cx.row (condL A 0 18446744073709551615 0)).blk Tryd.underlying45 rfl (condL_size _ _ _ _)

set_option maxRecDepth 4000 in
set_option maxHeartbeats 4000000 in
/-- a condition: cond_b1. -/
theorem cond_b1 (w : World) (b g cap n : Nat) (ts : List Tok) (j : Nat) (h : Pc w b g cap ts n 0 0) (hn : n < ts.length) (hs : isG ts[n] = true) (hj : j ≤ 8) (m1 : Nat) (hm1 : n + 1 = m1) (hn1 : m1 < ts.length) (hq1 : (ts[m1].k == 3 && ts[m1].t == [38]) = false) (hk0 : isO ts[m1] = true) (m2 : Nat) (hm2 : m1 + 1 = m2) (hn2 : m2 < ts.length) (hk1 : isN ts[m2] = false)  :
    Calls Tryd.prog 38 #[.pointer (some ⟨b, 0, none⟩), .int .i64 j] w fun e w' => e = .returned (condV ((argOf ts[n].t - 1 : Nat) : Int) (opOf ts[m1].t) 18446744073709551615 0) ∧ Bt b w w' ∧ Pc w' b g cap ts m2 7 ts[m2].at' := by
  have A0 : Hid (Cx w b g cap ts n 0 0 (condL 0 0 0 0) (w.alloc (Obj.cells #[.int .i64 0, .int .i64 0, .int .u64 0, .int .u64 0] 45))) := cx_new h hn
  obtain ⟨x0, x1, x2, x3⟩ := A0.out.pc.at hn
  have c0 : (w.alloc (Obj.cells #[.int .i64 0, .int .i64 0, .int .u64 0, .int .u64 0] 45)).cell? ⟨b, 0, none⟩ = some (.slice (some ⟨g, 0, none⟩) ts.length cap) := A0.out.pc.blk.cell 0
  have c1 : (w.alloc (Obj.cells #[.int .i64 0, .int .i64 0, .int .u64 0, .int .u64 0] 45)).cell? ⟨b, 1, none⟩ = some (.int .i64 n) := A0.out.pc.blk.cell 1
  have hi : (n : Int) < (ts.length : Int) := by omega
  have hl : (n : Int) ≤ 100000 := by have := h.len; omega
  have HG : Hid (ts[n].k = 1 ∧ ∃ d : UInt8, ts[n].t = [97, 114, 103, d] ∧ 48 ≤ d.toNat ∧ d.toNat ≤ 53 ∧ argOf ts[n].t - 1 = d.toNat - 48) := by
    show _ ∧ _
    simp [isG] at hs
    exact ⟨hs.1, argOf_of hs.2⟩
  have HI : Hid (∀ W, Pc W b g cap ts m1 0 0 → Calls Tryd.prog 18 #[.pointer (some ⟨b, 0, none⟩), .int .i64 3, .string ⟨#[38]⟩] W fun e w' => e = .returned (.bool false) ∧ Below W.heap.size W w') := fun W hW => by
    have q := is_at W b g cap m1 ts 0 0 hW hn1 3 [38]
    rw [hq1] at q
    exact q
  have HN0 : Hid (∀ W, Pc W b g cap ts m1 0 0 → Calls Tryd.prog 56 #[.pointer (some ⟨b, 0, none⟩)] W fun e w' => e = .returned (.int .i64 (opOf ts[m1].t)) ∧ Bt b W w' ∧ Pc w' b g cap ts m2 0 0) := fun W hW => by
    have q := op_ok W b g cap m1 ts hW hn1 hk0
    rw [hm2] at q
    exact q
  have HN1 : Hid (∀ W, Pc W b g cap ts m2 0 0 → Calls Tryd.prog 37 #[.pointer (some ⟨b, 0, none⟩)] W fun e w' => e = .returned (.int .u64 0) ∧ Bt b W w' ∧ Pc w' b g cap ts m2 7 ts[m2].at') := fun W hW => number_no W b g cap m2 ts hW hn2 hk1
  have hj' : ¬ (8 : Int) < (j : Int) := by omega
  have hl1 : (m1 : Int) ≤ 100000 := by have := h.len; omega
  have Hhm1 : Hid _ := hm1
  have Hhm2 : Hid _ := hm2
  clear hs h hj hq1 hk0 hk1 hm1 hm2
  generalize opOf ts[m1].t = V0 at *
  generalize ts[m2].at' = P1 at *
  generalize hx : ts[n] = x at *
  obtain ⟨xk, xa, xt, xn⟩ := x
  dsimp only at *
  clear hx
  go_enter Tryd.func38, Tryd.ntmps38
  go_wp2
  have HR0 : Hid (w.heap.size < (w.alloc (Obj.cells #[.int .i64 0, .int .i64 0, .int .u64 0, .int .u64 0] 45)).heap.size) := by show _ < _; rw [size_alloc']; omega
  generalize w.alloc (Obj.cells #[.int .i64 0, .int .i64 0, .int .u64 0, .int .u64 0] 45) = W0 at *
  have hb : Below W0.heap.size W0 (W0.alloc (Obj.cells #[.int .i64 0, .int .i64 0, .string ⟨#[]⟩, .int .u64 0] 39)) := (Below.refl _ _).alloc (Nat.le_refl _) _
  have hlb := World.block_lt_of_cell? W0 _ c0
  have hlg := World.block_lt_of_cell? W0 _ x0
  have d0 := (hb.cell (p := ⟨b, 0, none⟩) hlb).trans c0
  have d1 := (hb.cell (p := ⟨b, 1, none⟩) hlb).trans c1
  have y0 := (hb.cell (p := ⟨g, n * 4, none⟩) hlg).trans x0
  have y1 := (hb.cell (p := ⟨g, n * 4 + 1, none⟩) hlg).trans x1
  have y2 := (hb.cell (p := ⟨g, n * 4 + 2, none⟩) hlg).trans x2
  have y3 := (hb.cell (p := ⟨g, n * 4 + 3, none⟩) hlg).trans x3
  clear hb hlb hlg
  have A1 : Hid (Cx w b g cap ts n 0 0 (condL 0 0 0 0) (W0.alloc (Obj.cells #[.int .i64 xk, .int .i64 xa, .string (bar xt), .int .u64 xn] 39)).drew) := A0.out.over (((Below.refl _ _).alloc (Nat.le_refl _) _).drew)
  have D1 : Hid (Blk (W0.alloc (Obj.cells #[.int .i64 xk, .int .i64 xa, .string (bar xt), .int .u64 xn] 39)).drew W0.heap.size 39 [.int .i64 xk, .int .i64 xa, .string (bar xt), .int .u64 xn]) := blk_new W0 _ 39
  have HR1 : Hid (W0.heap.size < (W0.alloc (Obj.cells #[.int .i64 xk, .int .i64 xa, .string (bar xt), .int .u64 xn] 39)).drew.heap.size) := D1.out.lt
  go_region
  all_goals
    clear c0 c1 x0 x1 x2 x3 d0 d1 y0 y1 y2 y3 A0
    generalize (W0.alloc (Obj.cells #[.int .i64 xk, .int .i64 xa, .string (bar xt), .int .u64 xn] 39)).drew = X at *
    have e0 : X.cell? ⟨W0.heap.size, 0, none⟩ = some (.int .i64 xk) := D1.out.cell 0
    have e2 : X.cell? ⟨W0.heap.size, 2, none⟩ = some (.string (bar xt)) := D1.out.cell 2
    generalize W0.heap.size = r3 at *
    obtain ⟨hk, d, rfl, hd1, hd2, hd3⟩ := HG.out
    have hk' : ((xk : Int) != 1) = false := by rw [hk]; rfl
    clear hk HG
    have hz : ((bar [97, 114, 103, d]).size : Int) = 4 := rfl
    have h1 : ((bar [97, 114, 103, d]).extract 0 3).toList = [97, 114, 103] := by rw [ByteArray.toList_eq]; rfl
    have h2 : ¬ (((bar [97, 114, 103, d])[3]'(by show 3 < 4; omega)).toNat : Int) < 48 := by
      show ¬ (d.toNat : Int) < 48
      omega
    have h3 : ¬ 53 < (((bar [97, 114, 103, d])[3]'(by show 3 < 4; omega)).toNat : Int) := by
      show ¬ 53 < (d.toNat : Int)
      omega
    have ha : Hid (((((bar [97, 114, 103, d])[3]'(by show 3 < 4; omega)).toNat : Int) - 48) = ((argOf [97, 114, 103, d] - 1 : Nat) : Int)) := by
      show (d.toNat : Int) - 48 = _
      rw [hd3]
      omega
    obtain ⟨Y, hY⟩ : ∃ Y, X.alloc (Obj.cells #[.int .i64 ((((bar [97, 114, 103, d])[3]'(by show 3 < 4; omega)).toNat : Int) - 48), .int .i64 0, .int .u64 18446744073709551615, .int .u64 0] 45) = Y := ⟨_, rfl⟩
    have HY : Hid (X.alloc (Obj.cells #[.int .i64 ((((bar [97, 114, 103, d])[3]'(by show 3 < 4; omega)).toNat : Int) - 48), .int .i64 0, .int .u64 18446744073709551615, .int .u64 0] 45) = Y) := hY
    obtain ⟨A, hA⟩ : ∃ A, ((argOf [97, 114, 103, d] - 1 : Nat) : Int) = A := ⟨_, rfl⟩
    have B1 : Hid (Cy w b g cap ts n 0 0 X.heap.size (condL A 0 18446744073709551615 0) Y) := by
      have q := cy_new A1.out hn ((((bar [97, 114, 103, d])[3]'(by show 3 < 4; omega)).toNat : Int) - 48)
      rw [hY, ha.out, hA] at q
      exact q
    have HA : Hid (((argOf [97, 114, 103, d] - 1 : Nat) : Int) = A) := hA
    clear hY hd1 hd2 hd3 ha hA
    obtain ⟨Z, hZ⟩ : ∃ Z, Y.setCell ⟨b, 1, none⟩ (.int .i64 ((n : Int) + 1)) = Z := ⟨_, rfl⟩
    have HZ : Hid (Y.setCell ⟨b, 1, none⟩ (.int .i64 ((n : Int) + 1)) = Z) := hZ
    have B2 : Hid (Cy w b g cap ts m1 0 0 X.heap.size (condL A 0 18446744073709551615 0) Z) := by
      have q := B1.out.next
      rw [hZ, Hhm1.out] at q
      exact q
    clear hZ
    have c1 : Y.cell? ⟨b, 1, none⟩ = some (.int .i64 n) := B1.out.pc.blk.cell 1
    have f1 : Y.frozen? ⟨b, 1, none⟩ = false := B1.out.pc.blk.f 1
    go_wp2_with (first | (refine switch_world' HY.out ?_) | (refine switch_world' HZ.out ?_) | (go_at_call 18; refine (HI.out _ B2.out.pc).mono ?_; rintro e w1 ⟨rfl, b1⟩; have B3 : Hid (Cy w b g cap ts m1 0 0 X.heap.size (condL A 0 18446744073709551615 0) w1) := B2.out.over b1; have c2 : w1.cell? ⟨b, 2, none⟩ = some (.int .i64 0) := B3.out.pc.blk.cell 2) | (go_at_call 56; refine (HN0.out _ B3.out.pc).mono ?_; rintro e u0 ⟨rfl, bb0, PP0⟩; have G0 : Hid (Cy w b g cap ts m2 0 0 X.heap.size (condL A 0 18446744073709551615 0) u0) := B3.out.on bb0 PP0; have k0 : u0.cell? ⟨X.heap.size, 1, none⟩ = some (.int .i64 0) := G0.out.blk.cell 1; have g0 : u0.frozen? ⟨X.heap.size, 1, none⟩ = false := G0.out.blk.f 1; obtain ⟨N0, hN0⟩ : ∃ N0, u0.setCell ⟨X.heap.size, 1, none⟩ (.int .i64 V0) = N0 := ⟨_, rfl⟩; have HX0 : Hid (u0.setCell ⟨X.heap.size, 1, none⟩ (.int .i64 V0) = N0) := hN0; have F0 : Hid (Cy w b g cap ts m2 0 0 X.heap.size (condL A V0 18446744073709551615 0) N0) := (by have q := G0.out.set 1 (.int .i64 V0); rw [hN0] at q; exact q); have c0' : N0.cell? ⟨b, 2, none⟩ = some (.int .i64 0) := F0.out.pc.blk.cell 2; clear hN0) | (refine switch_world' HX0.out ?_) | (go_at_call 37; refine (HN1.out _ F0.out.pc).mono ?_; rintro e u1 ⟨rfl, bb1, PP1⟩; have G1 : Hid (Cy w b g cap ts m2 7 P1 X.heap.size (condL A V0 18446744073709551615 0) u1) := F0.out.on bb1 PP1; have k1 : u1.cell? ⟨X.heap.size, 3, none⟩ = some (.int .u64 0) := G1.out.blk.cell 3; have g1 : u1.frozen? ⟨X.heap.size, 3, none⟩ = false := G1.out.blk.f 3; obtain ⟨N1, hN1⟩ : ∃ N1, u1.setCell ⟨X.heap.size, 3, none⟩ (.int .u64 0) = N1 := ⟨_, rfl⟩; have HX1 : Hid (u1.setCell ⟨X.heap.size, 3, none⟩ (.int .u64 0) = N1) := hN1; have F1 : Hid (Cy w b g cap ts m2 7 P1 X.heap.size (condL A V0 18446744073709551615 0) N1) := (by have q := G1.out.set 3 (.int .u64 0); rw [hN1] at q; exact q); have c1' : N1.cell? ⟨b, 2, none⟩ = some (.int .i64 7) := F1.out.pc.blk.cell 2; clear hN1) | (refine switch_world' HX1.out ?_) | (refine at_op' (.load 45 (.tmp 6)) rfl ?_; refine wpList_load_row rfl 45 (.tmp 6) rfl X.heap.size rfl 45 (condL A V0 18446744073709551615 0).toArray (0, 0) _ F1.out.blk Tryd.underlying45 rfl (condL_size _ _ _ _) ?_) | (refine at_op' (.store 45 (.tmp 4) (.tmp 93)) rfl ?_; refine wpList_store_row rfl 45 (.tmp 4) (.tmp 93) rfl w.heap.size (condL A V0 18446744073709551615 0).toArray rfl rfl 45 _ F1.out.cx.blk (condL_size _ _ _ _) rfl (condL_one _ _ _ _) ?_))
    refine bodyPost_ret (v := condV A V0 18446744073709551615 0) ?_ rfl ⟨by rw [HA.out], (F1.out.cx.row (condL A V0 18446744073709551615 0)).bt, (F1.out.cx.row (condL A V0 18446744073709551615 0)).pc⟩
    exact results_cell_row Tryd.results38 _ _ w.heap.size 45 (condL A V0 18446744073709551615 0).toArray (0, 0) _ rfl (F1.out.cx.row (condL A V0 18446744073709551615 0)).blk Tryd.underlying45 rfl (condL_size _ _ _ _)

set_option maxRecDepth 4000 in
set_option maxHeartbeats 4000000 in
/-- a condition: cond_b2. -/
theorem cond_b2 (w : World) (b g cap n : Nat) (ts : List Tok) (j : Nat) (h : Pc w b g cap ts n 0 0) (hn : n < ts.length) (hs : isG ts[n] = true) (hj : j ≤ 8) (m1 : Nat) (hm1 : n + 1 = m1) (hn1 : m1 < ts.length) (hq1 : (ts[m1].k == 3 && ts[m1].t == [38]) = false) (hk0 : isO ts[m1] = true) (m2 : Nat) (hm2 : m1 + 1 = m2) (hn2 : m2 < ts.length) (hk1 : isN ts[m2] = true) (m3 : Nat) (hm3 : m2 + 1 = m3) (hn3 : m3 < ts.length)  :
    Calls Tryd.prog 38 #[.pointer (some ⟨b, 0, none⟩), .int .i64 j] w fun e w' => e = .returned (condV ((argOf ts[n].t - 1 : Nat) : Int) (opOf ts[m1].t) 18446744073709551615 ts[m2].n) ∧ Bt b w w' ∧ Pc w' b g cap ts m3 0 0 := by
  have A0 : Hid (Cx w b g cap ts n 0 0 (condL 0 0 0 0) (w.alloc (Obj.cells #[.int .i64 0, .int .i64 0, .int .u64 0, .int .u64 0] 45))) := cx_new h hn
  obtain ⟨x0, x1, x2, x3⟩ := A0.out.pc.at hn
  have c0 : (w.alloc (Obj.cells #[.int .i64 0, .int .i64 0, .int .u64 0, .int .u64 0] 45)).cell? ⟨b, 0, none⟩ = some (.slice (some ⟨g, 0, none⟩) ts.length cap) := A0.out.pc.blk.cell 0
  have c1 : (w.alloc (Obj.cells #[.int .i64 0, .int .i64 0, .int .u64 0, .int .u64 0] 45)).cell? ⟨b, 1, none⟩ = some (.int .i64 n) := A0.out.pc.blk.cell 1
  have hi : (n : Int) < (ts.length : Int) := by omega
  have hl : (n : Int) ≤ 100000 := by have := h.len; omega
  have HG : Hid (ts[n].k = 1 ∧ ∃ d : UInt8, ts[n].t = [97, 114, 103, d] ∧ 48 ≤ d.toNat ∧ d.toNat ≤ 53 ∧ argOf ts[n].t - 1 = d.toNat - 48) := by
    show _ ∧ _
    simp [isG] at hs
    exact ⟨hs.1, argOf_of hs.2⟩
  have HI : Hid (∀ W, Pc W b g cap ts m1 0 0 → Calls Tryd.prog 18 #[.pointer (some ⟨b, 0, none⟩), .int .i64 3, .string ⟨#[38]⟩] W fun e w' => e = .returned (.bool false) ∧ Below W.heap.size W w') := fun W hW => by
    have q := is_at W b g cap m1 ts 0 0 hW hn1 3 [38]
    rw [hq1] at q
    exact q
  have HN0 : Hid (∀ W, Pc W b g cap ts m1 0 0 → Calls Tryd.prog 56 #[.pointer (some ⟨b, 0, none⟩)] W fun e w' => e = .returned (.int .i64 (opOf ts[m1].t)) ∧ Bt b W w' ∧ Pc w' b g cap ts m2 0 0) := fun W hW => by
    have q := op_ok W b g cap m1 ts hW hn1 hk0
    rw [hm2] at q
    exact q
  have HN1 : Hid (∀ W, Pc W b g cap ts m2 0 0 → Calls Tryd.prog 37 #[.pointer (some ⟨b, 0, none⟩)] W fun e w' => e = .returned (.int .u64 ts[m2].n) ∧ Bt b W w' ∧ Pc w' b g cap ts m3 0 0) := fun W hW => by
    have q := number_ok W b g cap m2 ts hW hn2 hk1
    rw [hm3] at q
    exact q
  have hj' : ¬ (8 : Int) < (j : Int) := by omega
  have hl1 : (m1 : Int) ≤ 100000 := by have := h.len; omega
  have Hhm1 : Hid _ := hm1
  have Hhm2 : Hid _ := hm2
  have Hhm3 : Hid _ := hm3
  clear hs h hj hq1 hk0 hk1 hm1 hm2 hm3
  generalize opOf ts[m1].t = V0 at *
  generalize ts[m2].n = V1 at *
  generalize hx : ts[n] = x at *
  obtain ⟨xk, xa, xt, xn⟩ := x
  dsimp only at *
  clear hx
  go_enter Tryd.func38, Tryd.ntmps38
  go_wp2
  have HR0 : Hid (w.heap.size < (w.alloc (Obj.cells #[.int .i64 0, .int .i64 0, .int .u64 0, .int .u64 0] 45)).heap.size) := by show _ < _; rw [size_alloc']; omega
  generalize w.alloc (Obj.cells #[.int .i64 0, .int .i64 0, .int .u64 0, .int .u64 0] 45) = W0 at *
  have hb : Below W0.heap.size W0 (W0.alloc (Obj.cells #[.int .i64 0, .int .i64 0, .string ⟨#[]⟩, .int .u64 0] 39)) := (Below.refl _ _).alloc (Nat.le_refl _) _
  have hlb := World.block_lt_of_cell? W0 _ c0
  have hlg := World.block_lt_of_cell? W0 _ x0
  have d0 := (hb.cell (p := ⟨b, 0, none⟩) hlb).trans c0
  have d1 := (hb.cell (p := ⟨b, 1, none⟩) hlb).trans c1
  have y0 := (hb.cell (p := ⟨g, n * 4, none⟩) hlg).trans x0
  have y1 := (hb.cell (p := ⟨g, n * 4 + 1, none⟩) hlg).trans x1
  have y2 := (hb.cell (p := ⟨g, n * 4 + 2, none⟩) hlg).trans x2
  have y3 := (hb.cell (p := ⟨g, n * 4 + 3, none⟩) hlg).trans x3
  clear hb hlb hlg
  have A1 : Hid (Cx w b g cap ts n 0 0 (condL 0 0 0 0) (W0.alloc (Obj.cells #[.int .i64 xk, .int .i64 xa, .string (bar xt), .int .u64 xn] 39)).drew) := A0.out.over (((Below.refl _ _).alloc (Nat.le_refl _) _).drew)
  have D1 : Hid (Blk (W0.alloc (Obj.cells #[.int .i64 xk, .int .i64 xa, .string (bar xt), .int .u64 xn] 39)).drew W0.heap.size 39 [.int .i64 xk, .int .i64 xa, .string (bar xt), .int .u64 xn]) := blk_new W0 _ 39
  have HR1 : Hid (W0.heap.size < (W0.alloc (Obj.cells #[.int .i64 xk, .int .i64 xa, .string (bar xt), .int .u64 xn] 39)).drew.heap.size) := D1.out.lt
  go_region
  all_goals
    clear c0 c1 x0 x1 x2 x3 d0 d1 y0 y1 y2 y3 A0
    generalize (W0.alloc (Obj.cells #[.int .i64 xk, .int .i64 xa, .string (bar xt), .int .u64 xn] 39)).drew = X at *
    have e0 : X.cell? ⟨W0.heap.size, 0, none⟩ = some (.int .i64 xk) := D1.out.cell 0
    have e2 : X.cell? ⟨W0.heap.size, 2, none⟩ = some (.string (bar xt)) := D1.out.cell 2
    generalize W0.heap.size = r3 at *
    obtain ⟨hk, d, rfl, hd1, hd2, hd3⟩ := HG.out
    have hk' : ((xk : Int) != 1) = false := by rw [hk]; rfl
    clear hk HG
    have hz : ((bar [97, 114, 103, d]).size : Int) = 4 := rfl
    have h1 : ((bar [97, 114, 103, d]).extract 0 3).toList = [97, 114, 103] := by rw [ByteArray.toList_eq]; rfl
    have h2 : ¬ (((bar [97, 114, 103, d])[3]'(by show 3 < 4; omega)).toNat : Int) < 48 := by
      show ¬ (d.toNat : Int) < 48
      omega
    have h3 : ¬ 53 < (((bar [97, 114, 103, d])[3]'(by show 3 < 4; omega)).toNat : Int) := by
      show ¬ 53 < (d.toNat : Int)
      omega
    have ha : Hid (((((bar [97, 114, 103, d])[3]'(by show 3 < 4; omega)).toNat : Int) - 48) = ((argOf [97, 114, 103, d] - 1 : Nat) : Int)) := by
      show (d.toNat : Int) - 48 = _
      rw [hd3]
      omega
    obtain ⟨Y, hY⟩ : ∃ Y, X.alloc (Obj.cells #[.int .i64 ((((bar [97, 114, 103, d])[3]'(by show 3 < 4; omega)).toNat : Int) - 48), .int .i64 0, .int .u64 18446744073709551615, .int .u64 0] 45) = Y := ⟨_, rfl⟩
    have HY : Hid (X.alloc (Obj.cells #[.int .i64 ((((bar [97, 114, 103, d])[3]'(by show 3 < 4; omega)).toNat : Int) - 48), .int .i64 0, .int .u64 18446744073709551615, .int .u64 0] 45) = Y) := hY
    obtain ⟨A, hA⟩ : ∃ A, ((argOf [97, 114, 103, d] - 1 : Nat) : Int) = A := ⟨_, rfl⟩
    have B1 : Hid (Cy w b g cap ts n 0 0 X.heap.size (condL A 0 18446744073709551615 0) Y) := by
      have q := cy_new A1.out hn ((((bar [97, 114, 103, d])[3]'(by show 3 < 4; omega)).toNat : Int) - 48)
      rw [hY, ha.out, hA] at q
      exact q
    have HA : Hid (((argOf [97, 114, 103, d] - 1 : Nat) : Int) = A) := hA
    clear hY hd1 hd2 hd3 ha hA
    obtain ⟨Z, hZ⟩ : ∃ Z, Y.setCell ⟨b, 1, none⟩ (.int .i64 ((n : Int) + 1)) = Z := ⟨_, rfl⟩
    have HZ : Hid (Y.setCell ⟨b, 1, none⟩ (.int .i64 ((n : Int) + 1)) = Z) := hZ
    have B2 : Hid (Cy w b g cap ts m1 0 0 X.heap.size (condL A 0 18446744073709551615 0) Z) := by
      have q := B1.out.next
      rw [hZ, Hhm1.out] at q
      exact q
    clear hZ
    have c1 : Y.cell? ⟨b, 1, none⟩ = some (.int .i64 n) := B1.out.pc.blk.cell 1
    have f1 : Y.frozen? ⟨b, 1, none⟩ = false := B1.out.pc.blk.f 1
    go_wp2_with (first | (refine switch_world' HY.out ?_) | (refine switch_world' HZ.out ?_) | (go_at_call 18; refine (HI.out _ B2.out.pc).mono ?_; rintro e w1 ⟨rfl, b1⟩; have B3 : Hid (Cy w b g cap ts m1 0 0 X.heap.size (condL A 0 18446744073709551615 0) w1) := B2.out.over b1; have c2 : w1.cell? ⟨b, 2, none⟩ = some (.int .i64 0) := B3.out.pc.blk.cell 2) | (go_at_call 56; refine (HN0.out _ B3.out.pc).mono ?_; rintro e u0 ⟨rfl, bb0, PP0⟩; have G0 : Hid (Cy w b g cap ts m2 0 0 X.heap.size (condL A 0 18446744073709551615 0) u0) := B3.out.on bb0 PP0; have k0 : u0.cell? ⟨X.heap.size, 1, none⟩ = some (.int .i64 0) := G0.out.blk.cell 1; have g0 : u0.frozen? ⟨X.heap.size, 1, none⟩ = false := G0.out.blk.f 1; obtain ⟨N0, hN0⟩ : ∃ N0, u0.setCell ⟨X.heap.size, 1, none⟩ (.int .i64 V0) = N0 := ⟨_, rfl⟩; have HX0 : Hid (u0.setCell ⟨X.heap.size, 1, none⟩ (.int .i64 V0) = N0) := hN0; have F0 : Hid (Cy w b g cap ts m2 0 0 X.heap.size (condL A V0 18446744073709551615 0) N0) := (by have q := G0.out.set 1 (.int .i64 V0); rw [hN0] at q; exact q); have c0' : N0.cell? ⟨b, 2, none⟩ = some (.int .i64 0) := F0.out.pc.blk.cell 2; clear hN0) | (refine switch_world' HX0.out ?_) | (go_at_call 37; refine (HN1.out _ F0.out.pc).mono ?_; rintro e u1 ⟨rfl, bb1, PP1⟩; have G1 : Hid (Cy w b g cap ts m3 0 0 X.heap.size (condL A V0 18446744073709551615 0) u1) := F0.out.on bb1 PP1; have k1 : u1.cell? ⟨X.heap.size, 3, none⟩ = some (.int .u64 0) := G1.out.blk.cell 3; have g1 : u1.frozen? ⟨X.heap.size, 3, none⟩ = false := G1.out.blk.f 3; obtain ⟨N1, hN1⟩ : ∃ N1, u1.setCell ⟨X.heap.size, 3, none⟩ (.int .u64 V1) = N1 := ⟨_, rfl⟩; have HX1 : Hid (u1.setCell ⟨X.heap.size, 3, none⟩ (.int .u64 V1) = N1) := hN1; have F1 : Hid (Cy w b g cap ts m3 0 0 X.heap.size (condL A V0 18446744073709551615 V1) N1) := (by have q := G1.out.set 3 (.int .u64 V1); rw [hN1] at q; exact q); have c1' : N1.cell? ⟨b, 2, none⟩ = some (.int .i64 0) := F1.out.pc.blk.cell 2; clear hN1) | (refine switch_world' HX1.out ?_) | (refine at_op' (.load 45 (.tmp 6)) rfl ?_; refine wpList_load_row rfl 45 (.tmp 6) rfl X.heap.size rfl 45 (condL A V0 18446744073709551615 V1).toArray (0, 0) _ F1.out.blk Tryd.underlying45 rfl (condL_size _ _ _ _) ?_) | (refine at_op' (.store 45 (.tmp 4) (.tmp 93)) rfl ?_; refine wpList_store_row rfl 45 (.tmp 4) (.tmp 93) rfl w.heap.size (condL A V0 18446744073709551615 V1).toArray rfl rfl 45 _ F1.out.cx.blk (condL_size _ _ _ _) rfl (condL_one _ _ _ _) ?_))
    refine bodyPost_ret (v := condV A V0 18446744073709551615 V1) ?_ rfl ⟨by rw [HA.out], (F1.out.cx.row (condL A V0 18446744073709551615 V1)).bt, (F1.out.cx.row (condL A V0 18446744073709551615 V1)).pc⟩
    exact results_cell_row Tryd.results38 _ _ w.heap.size 45 (condL A V0 18446744073709551615 V1).toArray (0, 0) _ rfl (F1.out.cx.row (condL A V0 18446744073709551615 V1)).blk Tryd.underlying45 rfl (condL_size _ _ _ _)


end Go.Proofs.YtdjjlccpmfhkiaaDoor.Doc

namespace Go.Proofs.YtdjjlccpmfhkiaaDoor.Doc
open Go.RowKit

/-- a token that is not the end has one behind it. -/
def Ending4 (ts : List Tok) : Prop := ∀ i (h : i < ts.length), ¬ ts[i].k = 4 → i + 1 < ts.length

/-- what is told of an act. -/
def ActT (ts : List Tok) (n : Nat) (k a : Int) (m : Nat) (c p : Int) : Prop :=
  (∃ x y : Nat, actD (ts.drop n) = .error (x, y) ∧ c = x ∧ p = y ∧ ¬ x = 0) ∨ (∃ v : Ac, actD (ts.drop n) = .ok (v, ts.drop m) ∧ m < ts.length ∧ k = v.k ∧ a = v.a ∧ c = 0 ∧ p = 0)

theorem act_any (w : World) (b g cap n : Nat) (ts : List Tok) (hE : Ending4 ts) (h : Pc w b g cap ts n 0 0) (hn : n < ts.length) :
    Calls Tryd.prog 20 #[.pointer (some ⟨b, 0, none⟩)] w fun e w' => ∃ k a m c p, e = .returned (actV k a) ∧ Bt b w w' ∧ Pc w' b g cap ts m c p ∧ ActT ts n k a m c p := by
  unfold ActT
  rw [drop_at hn]
  rcases Bool.eq_false_or_eq_true (isA ts[n]) with h1 | h1
  · have h4 : ¬ ts[n].k = 4 := by
      simp [isA] at h1
      omega
    have hn1 := hE n hn h4
    rcases Bool.eq_false_or_eq_true (numK (kindOf ts[n].t)) with h2 | h2
    · rcases Bool.eq_false_or_eq_true (isN ts[n + 1]) with h3 | h3
      · have h5 : ¬ ts[n + 1].k = 4 := by
          simp [isN] at h3
          omega
        have hn2 := hE (n + 1) hn1 h5
        by_cases h6 : 65535 < ts[n + 1].n
        · refine (act_big w b g cap n ts h hn h1 h2 hn1 h3 h6).mono ?_
          rintro e w' ⟨rfl, hb, hp⟩
          refine ⟨_, _, _, _, _, rfl, hb, hp, .inl ⟨6, ts[n + 1].at', ?_, rfl, rfl, by decide⟩⟩
          simp only [actD]
          rw [if_pos h1, if_pos h2, drop_at hn1]
          simp only
          rw [if_pos h3, if_pos h6]
        · refine (act_ok w b g cap n ts h hn h1 h2 hn1 h3 (by omega)).mono ?_
          rintro e w' ⟨rfl, hb, hp⟩
          refine ⟨_, _, _, _, _, rfl, hb, hp, .inr ⟨⟨kindOf ts[n].t, ts[n + 1].n⟩, ?_, hn2, rfl, rfl, rfl, rfl⟩⟩
          simp only [actD]
          rw [if_pos h1, if_pos h2, drop_at hn1]
          simp only
          rw [if_pos h3, if_neg h6]
      · refine (act_no w b g cap n ts h hn h1 h2 hn1 h3).mono ?_
        rintro e w' ⟨rfl, hb, hp⟩
        refine ⟨_, _, _, _, _, rfl, hb, hp, .inl ⟨7, ts[n + 1].at', ?_, rfl, rfl, by decide⟩⟩
        simp only [actD]
        rw [if_pos h1, if_pos h2, drop_at hn1]
        simp only
        rw [if_neg (by rw [h3]; decide)]
    · refine (act_plain w b g cap n ts h hn h1 h2).mono ?_
      rintro e w' ⟨rfl, hb, hp⟩
      refine ⟨_, _, _, _, _, rfl, hb, hp, .inr ⟨⟨kindOf ts[n].t, 0⟩, ?_, hn1, rfl, rfl, rfl, rfl⟩⟩
      simp only [actD]
      rw [if_pos h1, if_neg (by rw [h2]; decide)]
  · refine (act_bad w b g cap n ts h hn h1).mono ?_
    rintro e w' ⟨rfl, hb, hp⟩
    refine ⟨_, _, _, _, _, rfl, hb, hp, .inl ⟨7, ts[n].at', ?_, rfl, rfl, by decide⟩⟩
    simp only [actD]
    rw [if_neg (by rw [h1]; decide)]

/-- what is told of a condition. -/
def CondT (k : Nat) (ts : List Tok) (n : Nat) (a o m v : Int) (m' : Nat) (c p : Int) : Prop :=
  (∃ x y : Nat, condD k (ts.drop n) = .error (x, y) ∧ c = x ∧ p = y ∧ ¬ x = 0) ∨ (∃ q : Cd, condD k (ts.drop n) = .ok (q, ts.drop m') ∧ m' < ts.length ∧ a = q.arg ∧ o = q.op ∧ m = q.mask ∧ v = q.val ∧ c = 0 ∧ p = 0)

theorem cond_any (w : World) (b g cap n : Nat) (ts : List Tok) (k : Nat) (hE : Ending4 ts) (h : Pc w b g cap ts n 0 0) (hn : n < ts.length) :
    Calls Tryd.prog 38 #[.pointer (some ⟨b, 0, none⟩), .int .i64 ((k + 1 : Nat) : Int)] w fun e w' => ∃ a o m v m' c p, e = .returned (condV a o m v) ∧ Bt b w w' ∧ Pc w' b g cap ts m' c p ∧ CondT k ts n a o m v m' c p := by
  unfold CondT
  rw [drop_at hn]
  rcases Bool.eq_false_or_eq_true (isG ts[n]) with h1 | h1
  · have hn1 := hE n hn (by simp [isG] at h1; omega)
    by_cases h2 : 8 ≤ k
    · refine (cond_full w b g cap n ts (k + 1) h hn h1 (by omega)).mono ?_
      rintro e w' ⟨rfl, hb, hp⟩
      refine ⟨_, _, _, _, _, _, _, rfl, hb, hp, .inl ⟨4, ts[n].at', ?_, rfl, rfl, by decide⟩⟩
      simp only [condD]
      rw [if_pos h1, if_pos h2]
    · have hj : k + 1 ≤ 8 := by omega
      rcases Bool.eq_false_or_eq_true (isS ts[n + 1] [38]) with h3 | h3
      · have hn2 := hE (n + 1) hn1 (isS_4 h3)
        rcases Bool.eq_false_or_eq_true (isN ts[n + 1 + 1]) with h4 | h4
        · have hn3 := hE (n + 1 + 1) hn2 (isN_4 h4)
          rcases Bool.eq_false_or_eq_true (isO ts[n + 1 + 1 + 1]) with h5 | h5
          · have hn4 := hE (n + 1 + 1 + 1) hn3 (isO_4 h5)
            rcases Bool.eq_false_or_eq_true (isN ts[n + 1 + 1 + 1 + 1]) with h6 | h6
            · have hn5 := hE (n + 1 + 1 + 1 + 1) hn4 (isN_4 h6)
              refine (cond_a3 w b g cap n ts (k + 1) h hn h1 hj _ rfl hn1 h3 _ rfl hn2 h4 _ rfl hn3 h5 _ rfl hn4 h6 _ rfl hn5).mono ?_
              rintro e w' ⟨rfl, hb, hp⟩
              refine ⟨_, _, _, _, _, _, _, rfl, hb, hp, .inr ⟨⟨argOf ts[n].t - 1, opOf ts[n + 1 + 1 + 1].t, ts[n + 1 + 1].n, ts[n + 1 + 1 + 1 + 1].n⟩, ?_, hn5, rfl, rfl, rfl, rfl, rfl, rfl⟩⟩
              simp only [condD]
              rw [if_pos h1, if_neg h2, drop_at hn1]
              simp only
              rw [if_pos h3, drop_at hn2]
              simp only [numD, if_pos h4, tailD]
              rw [drop_at hn3]
              simp only [opD, if_pos h5]
              rw [drop_at hn4]
              simp only [if_pos h6]
            · refine (cond_a2 w b g cap n ts (k + 1) h hn h1 hj _ rfl hn1 h3 _ rfl hn2 h4 _ rfl hn3 h5 _ rfl hn4 h6).mono ?_
              rintro e w' ⟨rfl, hb, hp⟩
              refine ⟨_, _, _, _, _, _, _, rfl, hb, hp, .inl ⟨7, ts[n + 1 + 1 + 1 + 1].at', ?_, rfl, rfl, by decide⟩⟩
              simp only [condD]
              rw [if_pos h1, if_neg h2, drop_at hn1]
              simp only
              rw [if_pos h3, drop_at hn2]
              simp only [numD, if_pos h4, tailD]
              rw [drop_at hn3]
              simp only [opD, if_pos h5]
              rw [drop_at hn4]
              simp only [if_neg (not_of h6)]
          · refine (cond_a1 w b g cap n ts (k + 1) h hn h1 hj _ rfl hn1 h3 _ rfl hn2 h4 _ rfl hn3 h5).mono ?_
            rintro e w' ⟨rfl, hb, hp⟩
            refine ⟨_, _, _, _, _, _, _, rfl, hb, hp, .inl ⟨7, ts[n + 1 + 1 + 1].at', ?_, rfl, rfl, by decide⟩⟩
            simp only [condD]
            rw [if_pos h1, if_neg h2, drop_at hn1]
            simp only
            rw [if_pos h3, drop_at hn2]
            simp only [numD, if_pos h4, tailD]
            rw [drop_at hn3]
            simp only [opD, if_neg (not_of h5)]
        · refine (cond_a0 w b g cap n ts (k + 1) h hn h1 hj _ rfl hn1 h3 _ rfl hn2 h4).mono ?_
          rintro e w' ⟨rfl, hb, hp⟩
          refine ⟨_, _, _, _, _, _, _, rfl, hb, hp, .inl ⟨7, ts[n + 1 + 1].at', ?_, rfl, rfl, by decide⟩⟩
          simp only [condD]
          rw [if_pos h1, if_neg h2, drop_at hn1]
          simp only
          rw [if_pos h3, drop_at hn2]
          simp only [numD, if_neg (not_of h4)]
      · rcases Bool.eq_false_or_eq_true (isO ts[n + 1]) with h5 | h5
        · have hn4 := hE (n + 1) hn1 (isO_4 h5)
          rcases Bool.eq_false_or_eq_true (isN ts[n + 1 + 1]) with h6 | h6
          · have hn5 := hE (n + 1 + 1) hn4 (isN_4 h6)
            refine (cond_b2 w b g cap n ts (k + 1) h hn h1 hj _ rfl hn1 h3 h5 _ rfl hn4 h6 _ rfl hn5).mono ?_
            rintro e w' ⟨rfl, hb, hp⟩
            refine ⟨_, _, _, _, _, _, _, rfl, hb, hp, .inr ⟨⟨argOf ts[n].t - 1, opOf ts[n + 1].t, 18446744073709551615, ts[n + 1 + 1].n⟩, ?_, hn5, rfl, rfl, rfl, rfl, rfl, rfl⟩⟩
            simp only [condD]
            rw [if_pos h1, if_neg h2, drop_at hn1]
            simp only
            rw [if_neg (not_of h3)]
            simp only [tailD, opD, if_pos h5]
            rw [drop_at hn4]
            simp only [numD, if_pos h6]
          · refine (cond_b1 w b g cap n ts (k + 1) h hn h1 hj _ rfl hn1 h3 h5 _ rfl hn4 h6).mono ?_
            rintro e w' ⟨rfl, hb, hp⟩
            refine ⟨_, _, _, _, _, _, _, rfl, hb, hp, .inl ⟨7, ts[n + 1 + 1].at', ?_, rfl, rfl, by decide⟩⟩
            simp only [condD]
            rw [if_pos h1, if_neg h2, drop_at hn1]
            simp only
            rw [if_neg (not_of h3)]
            simp only [tailD, opD, if_pos h5]
            rw [drop_at hn4]
            simp only [numD, if_neg (not_of h6)]
        · refine (cond_b0 w b g cap n ts (k + 1) h hn h1 hj _ rfl hn1 h3 h5).mono ?_
          rintro e w' ⟨rfl, hb, hp⟩
          refine ⟨_, _, _, _, _, _, _, rfl, hb, hp, .inl ⟨7, ts[n + 1].at', ?_, rfl, rfl, by decide⟩⟩
          simp only [condD]
          rw [if_pos h1, if_neg h2, drop_at hn1]
          simp only
          rw [if_neg (not_of h3)]
          simp only [tailD, opD, if_neg (not_of h5)]
  · refine (cond_bad w b g cap n ts (k + 1) h hn h1).mono ?_
    rintro e w' ⟨rfl, hb, hp⟩
    refine ⟨_, _, _, _, _, _, _, rfl, hb, hp, .inl ⟨7, ts[n].at', ?_, rfl, rfl, by decide⟩⟩
    simp only [condD]
    rw [if_neg (by rw [h1]; decide)]

end Go.Proofs.YtdjjlccpmfhkiaaDoor.Doc

namespace Go.Proofs.YtdjjlccpmfhkiaaDoor.Doc
open Go.RowKit

theorem Pc.grown {X Y : World} {row : Option Nat} {b g cap n : Nat} {ts : List Tok} {c p : Int} (h : Pc X b g cap ts n c p) (hg : X.grownBy Y row) (hb : ∀ k, row = some k → b < k) (hg' : ∀ k, row = some k → g < k) : Pc Y b g cap ts n c p := by
  refine ⟨h.blk.grown hg hb, ⟨h.tok.1, fun h0 => ?_⟩, h.ne, h.len⟩
  obtain ⟨g', e, hc⟩ := h.tok.2 h0
  cases e
  refine ⟨g, rfl, fun i x hx => ?_⟩
  have q : Y.heap[g]? = X.heap[g]? := hg.block g (World.block_lt_of_cell? X _ (hc i x hx).1) (fun e => by have := hg' g e.symm; omega)
  exact ⟨cell_same (hc i x hx).1 q, cell_same (hc i x hx).2.1 q, cell_same (hc i x hx).2.2.1 q, cell_same (hc i x hx).2.2.2 q⟩

/-- a rule under way: the answer's cells, the rule's own, its two rows, and the place. -/
structure Rx (w : World) (b g cap : Nat) (ts : List Tok) (m : Nat) (c p : Int) (r B1 B2 : Nat) (k a : Int) (vn vc : Value) (ns : List (List UInt8)) (cs : List Cd) (X : World) : Prop where
  pc : Pc X b g cap ts m c p
  out : Blk X w.heap.size 43 [.int .i64 0, .int .i64 0, .slice none 0 0, .slice none 0 0]
  blk : Blk X r 43 [.int .i64 k, .int .i64 a, vn, vc]
  bt : Bt b w X
  nm : X.ownsRow B1 9 1 vn ns.length (cellsN ns)
  cd : X.ownsRow B2 45 4 vc cs.length (cellsC cs)
  lb : b < w.heap.size
  lg : g < w.heap.size
  lr : w.heap.size < r
  l1 : r < B1
  l2 : B1 ≤ B2
  ap : ∀ j, vn.ownBlock = some j → j < B2
  sz : B2 ≤ X.heap.size

section
variable {w X Y : World} {b g cap m m' r B1 B2 : Nat} {ts : List Tok} {c p c' p' k a : Int} {vn vc v' : Value} {ns : List (List UInt8)} {cs : List Cd}
theorem Rx.over (h : Rx w b g cap ts m c p r B1 B2 k a vn vc ns cs X) (hb : Below X.heap.size X Y) : Rx w b g cap ts m c p r B1 B2 k a vn vc ns cs Y :=
  ⟨h.pc.over hb, h.out.over hb, h.blk.over hb, h.bt.over hb, owns_below h.nm hb (Nat.le_refl _), owns_below h.cd hb (Nat.le_refl _), h.lb, h.lg, h.lr, h.l1, h.l2, h.ap, Nat.le_trans h.sz hb.size⟩
theorem Rx.on (h : Rx w b g cap ts m c p r B1 B2 k a vn vc ns cs X) (hb : Bt b X Y) (hp : Pc Y b g cap ts m' c' p') : Rx w b g cap ts m' c' p' r B1 B2 k a vn vc ns cs Y := by
  have l1 := h.l1
  have l2 := h.l2
  have lr := h.lr
  have lb := h.lb
  exact ⟨hp, hb.blk h.out (by omega), hb.blk h.blk (by omega), h.bt.trans hb, owns_bt h.nm hb (by omega), owns_bt h.cd hb (by omega), h.lb, h.lg, h.lr, h.l1, h.l2, h.ap, Nat.le_trans h.sz hb.size⟩
theorem Rx.next (h : Rx w b g cap ts m c p r B1 B2 k a vn vc ns cs X) : Rx w b g cap ts (m + 1) c p r B1 B2 k a vn vc ns cs (X.setCell ⟨b, 1, none⟩ (.int .i64 ((m : Int) + 1))) := h.on ((Bt.refl b X).setCell 1 _) (h.pc.set (m + 1))
/-- a name more: behind the append, and stored. -/
theorem Rx.name {t : List UInt8} (h : Rx w b g cap ts m c p r B1 B2 k a vn vc ns [] X) (hv : vc = .slice none 0 0) (ho : Y.ownsRow B1 9 1 v' (ns.length + 1) (cellsN (ns ++ [t]))) (hg : X.grownBy Y vn.ownBlock) :
    Rx w b g cap ts m c p r B1 Y.heap.size k a v' vc (ns ++ [t]) [] (Y.setCell ⟨r, 2, none⟩ v') := by
  have l1 := h.l1
  have l2 := h.l2
  have lr := h.lr
  have lb := h.lb
  have lg := h.lg
  have sz := h.sz
  have hk := owns_block h.nm
  have hsz := hg.size
  have hp : Pc Y b g cap ts m c p := h.pc.grown hg (fun k e => by have := hk k e; omega) (fun k e => by have := hk k e; omega)
  have ho2 : Blk Y w.heap.size 43 [.int .i64 0, .int .i64 0, .slice none 0 0, .slice none 0 0] := h.out.grown hg (fun k e => by have := hk k e; omega)
  have hb2 : Blk Y r 43 [.int .i64 k, .int .i64 a, vn, vc] := h.blk.grown hg (fun k e => by have := hk k e; omega)
  have hbt : Bt b w Y := h.bt.grown hg (fun k e => by have := hk k e; omega)
  have hs' : (Y.setCell ⟨r, 2, none⟩ v').heap.size = Y.heap.size := by simp
  refine ⟨hp.other (by omega) (by omega) v', ho2.other _ _ (by show _ ≠ r; omega), hb2.set 2 v', hbt.setAny (by omega) v', ?_, ?_, lb, lg, lr, l1, by omega, ?_, by rw [hs']; exact Nat.le_refl _⟩
  · rw [List.length_append]
    exact owns_set ho l1
  · subst hv
    exact ⟨rfl, .inl ⟨rfl, rfl⟩⟩
  · intro j hj
    rcases ho.2 with ⟨rfl, _⟩ | ⟨g', cap', cur, rfl, _, hh, _⟩
    · cases hj
    · cases hj
      exact lt_of_block hh
/-- a condition more. -/
theorem Rx.cond {x : Cd} (h : Rx w b g cap ts m c p r B1 B2 k a vn vc ns cs X) (ho : Y.ownsRow B2 45 4 v' (cs.length + 1) (cellsC (cs ++ [x]))) (hg : X.grownBy Y vc.ownBlock) :
    Rx w b g cap ts m c p r B1 B2 k a vn v' ns (cs ++ [x]) (Y.setCell ⟨r, 3, none⟩ v') := by
  have l1 := h.l1
  have l2 := h.l2
  have lr := h.lr
  have lb := h.lb
  have lg := h.lg
  have sz := h.sz
  have hk := owns_block h.cd
  have hsz := hg.size
  have hp : Pc Y b g cap ts m c p := h.pc.grown hg (fun k e => by have := hk k e; omega) (fun k e => by have := hk k e; omega)
  have ho2 : Blk Y w.heap.size 43 [.int .i64 0, .int .i64 0, .slice none 0 0, .slice none 0 0] := h.out.grown hg (fun k e => by have := hk k e; omega)
  have hb2 : Blk Y r 43 [.int .i64 k, .int .i64 a, vn, vc] := h.blk.grown hg (fun k e => by have := hk k e; omega)
  have hbt : Bt b w Y := h.bt.grown hg (fun k e => by have := hk k e; omega)
  have hn : Y.ownsRow B1 9 1 vn ns.length (cellsN ns) := by
    refine ⟨h.nm.1, ?_⟩
    rcases h.nm.2 with hq | ⟨g', cap', cur, hv, hg', hh, q⟩
    · exact .inl hq
    · refine .inr ⟨g', cap', cur, hv, hg', ?_, q⟩
      have hlt := h.ap g' (by rw [hv]; rfl)
      rw [hg.block g' (lt_of_block hh) (fun e => by have := hk g' e.symm; omega)]
      exact hh
  have hs' : (Y.setCell ⟨r, 3, none⟩ v').heap.size = Y.heap.size := by simp
  refine ⟨hp.other (by omega) (by omega) v', ho2.other _ _ (by show _ ≠ r; omega), hb2.set 3 v', hbt.setAny (by omega) v', owns_set hn l1, ?_, lb, lg, lr, l1, l2, h.ap, by rw [hs']; omega⟩
  rw [List.length_append]
  exact owns_set ho (by omega)
end

end Go.Proofs.YtdjjlccpmfhkiaaDoor.Doc

