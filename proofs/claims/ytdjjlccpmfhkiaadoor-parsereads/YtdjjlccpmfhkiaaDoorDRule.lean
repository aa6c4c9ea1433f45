/-
  The document's answer for rules: a rule.
-/
import Derived.Test.YtdjjlccpmfhkiaaDoorDRow
import Derived.Test.YtdjjlccpmfhkiaaDoorRule
namespace Go.Proofs.YtdjjlccpmfhkiaaDoor.Doc
open Go.RowKit

theorem Tryd.sizeRule : (Tryd.prog.info? 43).map (·.size) = some 4 := by kernel_rfl
def ruleV (k a : Int) (vn vc : Value) : Value := .agg #[.int .i64 k, .int .i64 a, vn, vc]
def ruleL (k a : Int) (vn vc : Value) : List Value := [.int .i64 k, .int .i64 a, vn, vc]
def nilS : Value := .slice none 0 0
theorem ruleL_size (k a : Int) (vn vc : Value) : (Tryd.prog.info? 43).map (·.size) = some (ruleL k a vn vc).toArray.size := Tryd.sizeRule

theorem ruleL_one {k a : Int} {vn vc : Value} (hn : vn.oneCell' = true) (hc : vc.oneCell' = true) : (ruleL k a vn vc).toArray.all (·.oneCell') = true := by
  have e0 : (Value.int .i64 k).oneCell' = true := rfl
  have e1 : (Value.int .i64 a).oneCell' = true := rfl
  simp [ruleL, hn, hc, e0, e1]
theorem nilS_one : nilS.oneCell' = true := rfl
theorem slice_one (a : Option Addr) (n c : Nat) : (Value.slice a n c).oneCell' = true := rfl

/-- the answer's cells in a block of their own, and the place. -/
structure Ru (w : World) (b g cap : Nat) (ts : List Tok) (m : Nat) (c p : Int) (l : List Value) (X : World) : Prop where
  pc : Pc X b g cap ts m c p
  blk : Blk X w.heap.size 43 l
  bt : Bt b w X
  lb : b < w.heap.size
  lg : g < w.heap.size

section
variable {w X Y : World} {b g cap m m' r : Nat} {ts : List Tok} {c p c' p' : Int} {l q : List Value}
theorem Ru.over (h : Ru w b g cap ts m c p l X) (hb : Below X.heap.size X Y) : Ru w b g cap ts m c p l Y := ⟨h.pc.over hb, h.blk.over hb, h.bt.over hb, h.lb, h.lg⟩
theorem Ru.on (h : Ru w b g cap ts m c p l X) (hb : Bt b X Y) (hp : Pc Y b g cap ts m' c' p') : Ru w b g cap ts m' c' p' l Y := ⟨hp, hb.blk h.blk (by have := h.lb; omega), h.bt.trans hb, h.lb, h.lg⟩
theorem Ru.row (h : Ru w b g cap ts m c p l X) (l' : List Value) : Ru w b g cap ts m c p l' (X.setRow w.heap.size l'.toArray) := ⟨h.pc.setRow (by have := h.lb; omega) (by have := h.lg; omega) _, h.blk.row _, h.bt.setRow (Nat.le_refl _) _, h.lb, h.lg⟩
end

theorem ru_new {w : World} {b g cap n : Nat} {ts : List Tok} (h : Pc w b g cap ts n 0 0) (hn : n < ts.length) : Ru w b g cap ts n 0 0 (ruleL 0 0 nilS nilS) (w.alloc (Obj.cells #[.int .i64 0, .int .i64 0, .slice none 0 0, .slice none 0 0] 43)) := by
  have hb : Below w.heap.size w (w.alloc (Obj.cells #[.int .i64 0, .int .i64 0, .slice none 0 0, .slice none 0 0] 43)) := (Below.refl _ _).alloc (Nat.le_refl _) _
  have hl := h.lt hn
  exact ⟨h.over hb, blk_new w _ _, .of hb, hl.2, hl.1⟩

set_option maxRecDepth 4000 in
set_option maxHeartbeats 4000000 in
/-- a rule too many. -/
theorem rule_full (w : World) (b g cap n : Nat) (ts : List Tok) (j : Nat) (h : Pc w b g cap ts n 0 0) (hn : n < ts.length) (hs : isA ts[n] = true) (hj : 64 < j) :
    Calls Tryd.prog 22 #[.pointer (some ⟨b, 0, none⟩), .int .i64 j] w fun e w' => e = .returned (ruleV 0 0 nilS nilS) ∧ Bt b w w' ∧ Pc w' b g cap ts n 4 ts[n].at' := by
  have A0 : Hid (Ru w b g cap ts n 0 0 (ruleL 0 0 nilS nilS) (w.alloc (Obj.cells #[.int .i64 0, .int .i64 0, .slice none 0 0, .slice none 0 0] 43))) := ru_new h hn
  obtain ⟨x0, x1, x2, x3⟩ := A0.out.pc.at hn
  have c0 : (w.alloc (Obj.cells #[.int .i64 0, .int .i64 0, .slice none 0 0, .slice none 0 0] 43)).cell? ⟨b, 0, none⟩ = some (.slice (some ⟨g, 0, none⟩) ts.length cap) := A0.out.pc.blk.cell 0
  have c1 : (w.alloc (Obj.cells #[.int .i64 0, .int .i64 0, .slice none 0 0, .slice none 0 0] 43)).cell? ⟨b, 1, none⟩ = some (.int .i64 n) := A0.out.pc.blk.cell 1
  have hi : (n : Int) < (ts.length : Int) := by omega
  have hl : (n : Int) ≤ 100000 := by have := h.len; omega
  have HK : Hid (∀ W : World, Calls Tryd.prog 36 #[.string (bar ts[n].t)] W fun e w' => e = .returned (.int .i64 (kindOf ts[n].t)) ∧ Below W.heap.size W w') := fun W => kind_at ts[n].t W
  have HA : Hid (∀ W, Pc W b g cap ts n 0 0 → ts[n].at W g (n * 4)) := fun W hW => hW.at hn
  have HF : Hid (∀ W, Pc W b g cap ts n 0 0 → Calls Tryd.prog 19 #[.pointer (some ⟨b, 0, none⟩), .int .i64 4] W fun e w' => e = .returned (.tuple #[]) ∧ Bt b W w' ∧ Pc w' b g cap ts n 4 ts[n].at') := fun W hW => fail_at W b g cap n ts 4 hW hn
  have HS : Hid ((ts[n].k : Int) = 1 ∧ ¬ (kindOf ts[n].t : Int) = 0) := by
    show _ ∧ _
    simp [isA] at hs
    omega
  have hj' : (64 : Int) < (j : Int) := by omega
  clear hs h hj
  generalize kindOf ts[n].t = K at *
  generalize hx : ts[n] = x at *
  obtain ⟨xk, xa, xt, xn⟩ := x
  dsimp only at *
  clear hx
  go_enter Tryd.func22, Tryd.ntmps22
  go_wp2
  generalize w.alloc (Obj.cells #[.int .i64 0, .int .i64 0, .slice none 0 0, .slice none 0 0] 43) = W0 at *
  generalize bar xt = bx at *
  go_region_with (go_at_call 36; refine (HK.out _).mono ?_; rintro e w1 ⟨rfl, b1⟩; have A1 : Hid (Ru w b g cap ts n 0 0 (ruleL 0 0 nilS nilS) w1) := (A0.out.over ((Below.refl _ _).drew)).over b1)
  all_goals
    obtain ⟨y0, y1, y2, y3⟩ := HA.out _ A1.out.pc
    dsimp only at y0 y1 y2 y3
    have d0 : w1.cell? ⟨b, 0, none⟩ = some (.slice (some ⟨g, 0, none⟩) ts.length cap) := A1.out.pc.blk.cell 0
    have d1 : w1.cell? ⟨b, 1, none⟩ = some (.int .i64 n) := A1.out.pc.blk.cell 1
    clear x0 x1 x2 x3 c0 c1 b1 A0 HK HA
    obtain ⟨hs1, hs2⟩ := HS.out
    have hs3 : (0 : Int) < (K : Int) := by omega
    clear HS
    go_wp2
    go_quiet (fail)
    have A2 : Hid (Ru w b g cap ts n 0 0 (ruleL 0 0 nilS nilS) (w1.drewN nq)) := A1.out.over (below_drewN _ _)
    clear A1 y0 y1 y2 y3 d0 d1
    generalize w1.drewN nq = Z at *
    go_wp2_with (first | (go_at_call 19; refine (HF.out _ A2.out.pc).mono ?_; rintro e w2 ⟨rfl, b2, P2⟩; have A3 : Hid (Ru w b g cap ts n 4 xa (ruleL 0 0 nilS nilS) w2) := A2.out.on b2 P2) | (refine at_op' (.store 43 (.tmp 4) (.tmp 42)) rfl ?_; refine wpList_store_row rfl 43 (.tmp 4) (.tmp 42) rfl w.heap.size (ruleL 0 0 nilS nilS).toArray rfl rfl 43 _ A3.out.blk (ruleL_size _ _ _ _) rfl (ruleL_one nilS_one nilS_one) ?_))
    refine bodyPost_ret (v := ruleV 0 0 nilS nilS) ?_ rfl ⟨rfl, (A3.out.row (ruleL 0 0 nilS nilS)).bt, (A3.out.row (ruleL 0 0 nilS nilS)).pc⟩
    exact results_cell_row Tryd.results22 _ _ w.heap.size 43 (ruleL 0 0 nilS nilS).toArray (0, 0) _ rfl (A3.out.row (ruleL 0 0 nilS nilS)).blk Tryd.underlying43 rfl (ruleL_size _ _ _ _)


end Go.Proofs.YtdjjlccpmfhkiaaDoor.Doc
