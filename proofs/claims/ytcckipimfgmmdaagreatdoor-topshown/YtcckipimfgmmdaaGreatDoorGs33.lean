/-
  DMem DSame DSmall.
-/
import Derived.Test.YtcckipimfgmmdaaGreatDoorGs16
set_option maxHeartbeats 400000
namespace Go.Proofs.YtcckipimfgmmdaaGreatDoor.D
open Go.RowKit
theorem below_drewN (w : World) (n : Nat) : Below w.heap.size w (w.drewN n) := by
 induction n with
 | zero => exact Below.refl _ _
 | succ n ih => exact ih.drew
section
variable {w : World} {b : Nat} {t : TypeId} {l : List Value}
end
open V (hi)
theorem all_range_same : ∀ (xs ys : List Int), xs.length = ys.length -> ((List.range xs.length).all fun i => xs.getD i 0 == ys.getD i 0) = (xs == ys)
 | [], [], _ => rfl
 | x :: xs, y :: ys, h => by
  have ih := all_range_same xs ys (by simpa using h)
  rw [List.length_cons, List.range_succ_eq_map, List.all_cons, List.all_map]
  simp only [List.getD_cons_zero, Function.comp_def, List.getD_cons_succ, ih]
  simp [List.cons_beq_cons]
 | [], _ :: _, h => by simp at h
 | _ :: _, [], h => by simp at h
theorem equalIn_row (w : World) (d : Nat) (t e : TypeId) (n : Nat) (k : IntKind) (ht : Tryz.prog.underlying t = some (.array n e)) (he : Tryz.prog.underlying e = some (.int k)) (hsz : ∀ w, (sizeOf e).run Tryz.prog w = .ok 1 w)
  (xs ys : List Int) (hx : xs.length = n) (hy : ys.length = n) :
  (Op.equalIn (d + 2) t (.agg (xs.map (Value.int k)).toArray) (.agg (ys.map (Value.int k)).toArray)).run Tryz.prog w = .ok (xs == ys) w := by
 rw [<- all_range_same xs ys (hx.trans hy.symm), hx, List.range_eq_range', Op.equalIn]
 simp only [Sem.run_bind, run_underlying ht, Result.andThen_ok, hsz, Std.Legacy.Range.forIn_eq_forIn_range', Std.Legacy.Range.size, Nat.sub_zero, Nat.add_sub_cancel, Nat.div_one]
 have hl : ∀ i ∈ List.range' 0 n 1, i < n := fun i hi => by simpa using (List.mem_range'_1.1 hi).2
 generalize List.range' 0 n 1 = l at hl ⊢
 induction l with
 | nil => simp
 | cons i l ih =>
  have hi : i < n := hl i (by simp)
  have px : (part e (xs.map (Value.int k)).toArray (i * 1)).run Tryz.prog w = .ok (.int k (xs.getD i 0)) w := by
   simp [part, isAgg, run_underlying he, List.getElem?_eq_getElem (show i < xs.length by omega)]
  have py : (part e (ys.map (Value.int k)).toArray (i * 1)).run Tryz.prog w = .ok (.int k (ys.getD i 0)) w := by
   simp [part, isAgg, run_underlying he, List.getElem?_eq_getElem (show i < ys.length by omega)]
  have pe : (Op.equalIn (d + 1) e (.int k (xs.getD i 0)) (.int k (ys.getD i 0))).run Tryz.prog w = .ok (xs.getD i 0 == ys.getD i 0) w := run_equalIn_int w d e k k _ _ he
  simp only [List.forIn_cons, Sem.run_bind, px, py, pe, Result.andThen_ok, List.all_cons]
  cases hb : (xs.getD i 0 == ys.getD i 0)
  ·simp
  ·simp only [Bool.not_true, Bool.false_eq_true, if_false, Sem.run_pure, Result.andThen_ok, Bool.true_and]
   exact ih fun j hj => hl j (by simp [hj])
theorem equalIn_two (w : World) (p q r s : Int) : (Op.equalIn 10000 266 (.agg #[.int .u32 p, .int .u32 q]) (.agg #[.int .u32 r, .int .u32 s])).run Tryz.prog w = .ok (([p, q] : List Int) == [r, s]) w :=
 equalIn_row w 9998 266 23 2 .u32 Tryz.underlying266 Tryz.underlying23 Tryz.sizeOf23 [p, q] [r, s] rfl rfl
def pl0 (arg : Int) : Int := if 0 <= arg /\ arg <= 5 then 16 + 8 * arg else 0
def pl1 (arg : Int) : Int := if 0 <= arg /\ arg <= 5 then 16 + 8 * arg + 4 else 0
theorem pl_in (arg : Int) (h : 0 <= arg) (h5 : arg <= 5) : pl0 arg = 16 + 8 * arg /\ pl1 arg = 16 + 8 * arg + 4 := by
 unfold pl0 pl1
 rw [if_pos ⟨h, h5⟩, if_pos ⟨h, h5⟩]
 exact ⟨rfl, rfl⟩
theorem pl_out (arg : Int) (h : arg < 0 \/ 5 < arg) : pl0 arg = 0 /\ pl1 arg = 0 := by
 unfold pl0 pl1
 rw [if_neg (by omega), if_neg (by omega)]
 exact ⟨rfl, rfl⟩
theorem places_any (arg : Int) (w : World) :
  Calls Tryz.prog 196 #[.int .i64 arg] w fun e w' => e = .returned (.agg #[.int .u32 (pl0 arg), .int .u32 (pl1 arg)]) /\ Below w.heap.size w w' := by
 have HB : Hid (∀ o, Below w.heap.size w (w.alloc o)) := fun o => (Below.refl _ _).alloc (Nat.le_refl _) _
 by_cases h1 : arg < 0
 ·obtain ⟨e0, e1⟩ := pl_out arg (.inl h1)
  rw [e0, e1]
  clear e0 e1
  go_enter Tryz.func196, Tryz.ntmps196
  go_wp2
  refine bodyPost_ret (v := .agg #[.int .u32 0, .int .u32 0]) (by simp [results, Tryz.results196, go_sem]) rfl ⟨rfl, HB.out _⟩
 ·by_cases h2 : arg ≥ 6
  ·obtain ⟨e0, e1⟩ := pl_out arg (.inr (by omega))
   rw [e0, e1]
   clear e0 e1
   go_enter Tryz.func196, Tryz.ntmps196
   go_wp2
   refine bodyPost_ret (v := .agg #[.int .u32 0, .int .u32 0]) (by simp [results, Tryz.results196, go_sem]) rfl ⟨rfl, HB.out _⟩
  ·obtain ⟨e0, e1⟩ := pl_in arg (by omega) (by omega)
   rw [e0, e1]
   clear e0 e1
   go_enter Tryz.func196, Tryz.ntmps196
   go_wp2
   refine bodyPost_ret (v := .agg #[.int .u32 (16 + 8 * arg), .int .u32 (16 + 8 * arg + 4)]) (by simp [results, Tryz.results196, go_sem]) rfl ⟨rfl, HB.out _⟩
theorem place_any (arg : Int) (w : World) :
  Calls Tryz.prog 189 #[.int .i64 arg] w fun e w' => e = .returned (.tuple #[.int .u32 (pl0 arg), .int .u32 (pl1 arg), .int .i64 (if 0 <= arg /\ arg <= 5 then 0 else 1)]) /\ Below w.heap.size w w' := by
 have HP : Hid (∀ W : World, Calls Tryz.prog 196 #[.int .i64 arg] W fun e w' => e = .returned (.agg #[.int .u32 (pl0 arg), .int .u32 (pl1 arg)]) /\ Below W.heap.size W w') := fun W => places_any arg W
 by_cases h1 : 0 <= arg /\ arg <= 5
 ·rw [if_pos h1]
  have h0 : ¬ pl0 arg = 0 := by rw [(pl_in arg h1.1 h1.2).1]; omega
  generalize pl0 arg = q0 at *
  generalize pl1 arg = q1 at *
  have hq : ∀ W : World, (Op.equalIn 10000 266 (.agg #[.int .u32 q0, .int .u32 q1]) (.agg #[.int .u32 0, .int .u32 0])).run Tryz.prog W = .ok false W := by
   intro W
   rw [equalIn_two]
   congr 1
   simp [h0]
  clear h1 h0
  go_enter Tryz.func189, Tryz.ntmps189
  go_wp2_with (go_at_call 196; refine (HP.out _).mono ?_; rintro e w2 ⟨rfl, hb2⟩)
  go_quiet (fail)
  go_wp2
  refine bodyPost_ret (v := .tuple #[.int .u32 q0, .int .u32 q1, .int .i64 0]) (by simp [results, Tryz.results189, go_sem]) rfl ⟨rfl, ?_⟩
  have hb3 := hb2.alloc hb2.size (Obj.cells #[.int .u32 q0, .int .u32 q1] 266)
  exact hb3.trans ((below_drewN _ _).mono hb3.size)
 ·rw [if_neg h1]
  obtain ⟨e0, e1⟩ := pl_out arg (by omega)
  generalize pl0 arg = q0 at *
  generalize pl1 arg = q1 at *
  subst e0 e1
  have hq : ∀ W : World, (Op.equalIn 10000 266 (.agg #[.int .u32 0, .int .u32 0]) (.agg #[.int .u32 0, .int .u32 0])).run Tryz.prog W = .ok true W := by
   intro W
   rw [equalIn_two]
   rfl
  clear h1
  go_enter Tryz.func189, Tryz.ntmps189
  go_wp2_with (go_at_call 196; refine (HP.out _).mono ?_; rintro e w2 ⟨rfl, hb2⟩)
  refine bodyPost_ret (v := .tuple #[.int .u32 0, .int .u32 0, .int .i64 1]) (by simp [results, Tryz.results189, go_sem]) rfl ⟨rfl, ?_⟩
  exact hb2.alloc hb2.size _
end Go.Proofs.YtcckipimfgmmdaaGreatDoor.D
