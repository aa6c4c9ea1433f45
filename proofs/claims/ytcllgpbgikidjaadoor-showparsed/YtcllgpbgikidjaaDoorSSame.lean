/-
  Rules compared, wherever they lie.
-/
import Derived.Test.YtcllgpbgikidjaaDoorSBase
import Derived.BigQuiet
import Derived.Deep.RegionHeld3
import Derived.Laws.StructEq
namespace Go.Proofs.YtcllgpbgikidjaaDoor
open Go.RowKit

theorem neqX_act (k a : Int) (w : World) : (binOp .neq 23 (.agg #[.int .i64 k, .int .i64 a]) (.agg #[.int .i64 k, .int .i64 a])).run Tryd.prog w = .ok (.bool false) w := by
  have u3 := Tryd.underlying3
  have a3 := Tryd.isAgg3
  have z3 := Tryd.sizeOf3
  have hS : Tryd.prog.underlying 23 = some (.struct (Tryd.prog.fieldsOf 23)) := by kernel_rfl
  have hp : Tryd.prog.stoodInHeld 23 = false := by kernel_rfl
  rw [run_neq_struct, show (10000 : Nat) = 9999 + 1 from rfl, run_equalIn_agg w 9999 23 _ _ hS hp]
  simp only [Program.fieldsOf, Tryd.underlying23]
  go_simp

theorem neqX_cond (a o m v : Int) (w : World) : (binOp .neq 39 (.agg #[.int .i64 a, .int .i64 o, .int .u64 m, .int .u64 v]) (.agg #[.int .i64 a, .int .i64 o, .int .u64 m, .int .u64 v])).run Tryd.prog w = .ok (.bool false) w := by
  have u3 := Tryd.underlying3
  have a3 := Tryd.isAgg3
  have z3 := Tryd.sizeOf3
  have u37 := Tryd.underlying37
  have a37 := Tryd.isAgg37
  have z37 := Tryd.sizeOf37
  have hS : Tryd.prog.underlying 39 = some (.struct (Tryd.prog.fieldsOf 39)) := by kernel_rfl
  have hp : Tryd.prog.stoodInHeld 39 = false := by kernel_rfl
  rw [run_neq_struct, show (10000 : Nat) = 9999 + 1 from rfl, run_equalIn_agg w 9999 39 _ _ hS hp]
  simp only [Program.fieldsOf, Tryd.underlying39]
  go_simp

set_option maxRecDepth 8000 in
set_option maxHeartbeats 4000000 in
theorem sameRuleX (w : World) (k a : Int) (vn vc un uc : Value) (ns : List ByteArray) (cs : List Xc) (h1 : StrR w vn ns) (h2 : CdR w vc cs) (h3 : StrR w un ns) (h4 : CdR w uc cs) (hl : ns.length ≤ 1000) (hl2 : cs.length ≤ 1000) :
    Calls Tryd.prog 21 #[.agg #[.int .i64 k, .int .i64 a, vn, vc], .agg #[.int .i64 k, .int .i64 a, un, uc]] w fun e w' => e = .returned (.bool true) ∧ Below w.heap.size w w' := by
  obtain ⟨p1, c1, rfl⟩ : ∃ p c, vn = .slice p ns.length c := by obtain ⟨p, c, e, _⟩ := h1; exact ⟨p, c, e⟩
  obtain ⟨p2, c2, rfl⟩ : ∃ p c, vc = .slice p cs.length c := by obtain ⟨p, c, e, _⟩ := h2; exact ⟨p, c, e⟩
  obtain ⟨p3, c3, rfl⟩ : ∃ p c, un = .slice p ns.length c := by obtain ⟨p, c, e, _⟩ := h3; exact ⟨p, c, e⟩
  obtain ⟨p4, c4, rfl⟩ : ∃ p c, uc = .slice p cs.length c := by obtain ⟨p, c, e, _⟩ := h4; exact ⟨p, c, e⟩
  have hna := neqX_act k a
  have BE : Hid (Below w.heap.size w ((w.alloc (Obj.cells #[.int .i64 k, .int .i64 a, .slice p1 ns.length c1, .slice p2 cs.length c2] 42)).alloc (Obj.cells #[.int .i64 k, .int .i64 a, .slice p3 ns.length c3, .slice p4 cs.length c4] 42))) := ((Below.refl _ _).alloc (Nat.le_refl _) _).alloc (by rw [size_alloc']; omega) _
  have K0 : Hid (Blk ((w.alloc (Obj.cells #[.int .i64 k, .int .i64 a, .slice p1 ns.length c1, .slice p2 cs.length c2] 42)).alloc (Obj.cells #[.int .i64 k, .int .i64 a, .slice p3 ns.length c3, .slice p4 cs.length c4] 42)) w.heap.size 42 [.int .i64 k, .int .i64 a, .slice p1 ns.length c1, .slice p2 cs.length c2]) := (blk_new w _ 42).alloc _
  have K1 : Hid (Blk ((w.alloc (Obj.cells #[.int .i64 k, .int .i64 a, .slice p1 ns.length c1, .slice p2 cs.length c2] 42)).alloc (Obj.cells #[.int .i64 k, .int .i64 a, .slice p3 ns.length c3, .slice p4 cs.length c4] 42)) (w.heap.size + 1) 42 [.int .i64 k, .int .i64 a, .slice p3 ns.length c3, .slice p4 cs.length c4]) := by
    have := blk_new (w.alloc (Obj.cells #[.int .i64 k, .int .i64 a, .slice p1 ns.length c1, .slice p2 cs.length c2] 42)) #[.int .i64 k, .int .i64 a, .slice p3 ns.length c3, .slice p4 cs.length c4] 42
    rw [size_alloc'] at this
    exact this
  have S1 : Hid (StrR ((w.alloc (Obj.cells #[.int .i64 k, .int .i64 a, .slice p1 ns.length c1, .slice p2 cs.length c2] 42)).alloc (Obj.cells #[.int .i64 k, .int .i64 a, .slice p3 ns.length c3, .slice p4 cs.length c4] 42)) (.slice p1 ns.length c1) ns) := h1.below BE.out
  have S2 : Hid (CdR ((w.alloc (Obj.cells #[.int .i64 k, .int .i64 a, .slice p1 ns.length c1, .slice p2 cs.length c2] 42)).alloc (Obj.cells #[.int .i64 k, .int .i64 a, .slice p3 ns.length c3, .slice p4 cs.length c4] 42)) (.slice p2 cs.length c2) cs) := h2.below BE.out
  have S3 : Hid (StrR ((w.alloc (Obj.cells #[.int .i64 k, .int .i64 a, .slice p1 ns.length c1, .slice p2 cs.length c2] 42)).alloc (Obj.cells #[.int .i64 k, .int .i64 a, .slice p3 ns.length c3, .slice p4 cs.length c4] 42)) (.slice p3 ns.length c3) ns) := h3.below BE.out
  have S4 : Hid (CdR ((w.alloc (Obj.cells #[.int .i64 k, .int .i64 a, .slice p1 ns.length c1, .slice p2 cs.length c2] 42)).alloc (Obj.cells #[.int .i64 k, .int .i64 a, .slice p3 ns.length c3, .slice p4 cs.length c4] 42)) (.slice p4 cs.length c4) cs) := h4.below BE.out
  clear h1 h2 h3 h4
  go_enter Tryd.func21, Tryd.ntmps21
  go_wp2
  generalize ((w.alloc (Obj.cells #[.int .i64 k, .int .i64 a, .slice p1 ns.length c1, .slice p2 cs.length c2] 42)).alloc (Obj.cells #[.int .i64 k, .int .i64 a, .slice p3 ns.length c3, .slice p4 cs.length c4] 42)) = W1 at *
  generalize w.heap.size + 1 = B1 at *
  go_loopw [5] (fun vi wr => ∃ i : Nat, vi = .int .i64 i ∧ i ≤ ns.length ∧ Below W1.heap.size W1 wr) (fun vi _ => ns.length - (intOf vi).toNat)
  case atStart => exact ⟨0, rfl, Nat.zero_le _, Below.refl _ _⟩
  case round =>
    obtain ⟨i, rfl, hi, hb⟩ := hrel
    have HB : Hid (Below W1.heap.size W1 wr) := hb
    have d0 : wr.cell? ⟨w.heap.size, 2, none⟩ = some (.slice p1 ns.length c1) := (K0.out.over hb).cell 2
    have d1 : wr.cell? ⟨B1, 2, none⟩ = some (.slice p3 ns.length c3) := (K1.out.over hb).cell 2
    by_cases hlt : i < ns.length
    · have hi1 : (i : Int) < (ns.length : Int) := by omega
      obtain ⟨b1, o1, rfl, e1⟩ := strR_at (S1.out.below hb) hlt
      obtain ⟨b3, o3, rfl, e3⟩ := strR_at (S3.out.below hb) hlt
      generalize ns[i] = bx at *
      clear hb
      go_wp2
      go_quiet (fail)
      go_wp2
      go_roundw
      case rel => exact ⟨i + 1, by go_num, hlt, HB.out.trans ((below_drewN _ _).mono HB.out.size)⟩
      case measure => simp [intOf]; omega
    · obtain rfl : i = ns.length := by omega
      have hge : ¬ (ns.length : Int) < (ns.length : Int) := by omega
      clear hb
      go_wp2
      generalize wr = W2 at *
      go_loopw [6] (fun vi wr => ∃ i : Nat, vi = .int .i64 i ∧ i ≤ cs.length ∧ Below W2.heap.size W2 wr) (fun vi _ => cs.length - (intOf vi).toNat)
      case atStart => exact ⟨0, rfl, Nat.zero_le _, Below.refl _ _⟩
      case round =>
        obtain ⟨i, rfl, hi, hb2⟩ := hrel
        have HB2 : Hid (Below W1.heap.size W1 wr) := HB.out.trans (hb2.mono HB.out.size)
        have HB3 : Hid (Below W2.heap.size W2 wr) := hb2
        clear hb2 d0 d1
        have d0 : wr.cell? ⟨w.heap.size, 3, none⟩ = some (.slice p2 cs.length c2) := (K0.out.over HB2.out).cell 3
        have d1 : wr.cell? ⟨B1, 3, none⟩ = some (.slice p4 cs.length c4) := (K1.out.over HB2.out).cell 3
        by_cases hlt : i < cs.length
        · have hi1 : (i : Int) < (cs.length : Int) := by omega
          obtain ⟨b1, o1, rfl, e1⟩ := cdR_at (S2.out.below HB2.out) hlt
          obtain ⟨b3, o3, rfl, e3⟩ := cdR_at (S4.out.below HB2.out) hlt
          generalize cs[i] = x at *
          have hnc := neqX_cond x.arg x.op x.mask x.val
          obtain ⟨q0, q1, q2, q3⟩ := e1
          obtain ⟨r0, r1, r2, r3⟩ := e3
          go_wp2
          go_quiet (fail)
          go_wp2
          go_roundw
          case rel => exact ⟨i + 1, by go_num, hlt, HB3.out.trans ((below_drewN _ _).mono HB3.out.size)⟩
          case measure => simp [intOf]; omega
        · obtain rfl : i = cs.length := by omega
          have hge2 : ¬ (cs.length : Int) < (cs.length : Int) := by omega
          go_wp2
          go_ret
          exact ⟨rfl, BE.out.trans (HB2.out.mono BE.out.size)⟩

/-- rules are small. -/
def SmX (rs : List Xl) : Prop := rs.length ≤ 1000 ∧ ∀ r ∈ rs, r.names.length ≤ 1000 ∧ r.conds.length ≤ 1000

set_option linter.unusedSimpArgs false in
set_option maxRecDepth 8000 in
set_option maxHeartbeats 4000000 in
theorem sameX (w : World) (k a : Int) (va vb : Value) (rv ru : List Xr) (h1 : RlR w va rv) (h2 : RlR w vb ru) (he : rv.map Xr.r = ru.map Xr.r) (hs : SmX (rv.map Xr.r)) :
    Calls Tryd.prog 10 #[.agg #[.int .i64 k, .int .i64 a, va], .agg #[.int .i64 k, .int .i64 a, vb]] w fun e w' => e = .returned (.bool true) ∧ Below w.heap.size w w' := by
  have hlen : ru.length = rv.length := by have := congrArg List.length he; simpa using this.symm
  have hl : rv.length ≤ 1000 := by have := hs.1; simpa using this
  obtain ⟨p1, c1, rfl⟩ : ∃ p c, va = .slice p rv.length c := by obtain ⟨p, c, e, _⟩ := h1; exact ⟨p, c, e⟩
  obtain ⟨p2, c2, rfl⟩ : ∃ p c, vb = .slice p rv.length c := by obtain ⟨p, c, e, _⟩ := h2; exact ⟨p, c, by rw [← hlen]; exact e⟩
  have hna := neqX_act k a
  have BE : Hid (Below w.heap.size w ((w.alloc (Obj.cells #[.int .i64 k, .int .i64 a, .slice p1 rv.length c1] 26)).alloc (Obj.cells #[.int .i64 k, .int .i64 a, .slice p2 rv.length c2] 26))) := ((Below.refl _ _).alloc (Nat.le_refl _) _).alloc (by rw [size_alloc']; omega) _
  have K0 : Hid (Blk ((w.alloc (Obj.cells #[.int .i64 k, .int .i64 a, .slice p1 rv.length c1] 26)).alloc (Obj.cells #[.int .i64 k, .int .i64 a, .slice p2 rv.length c2] 26)) w.heap.size 26 [.int .i64 k, .int .i64 a, .slice p1 rv.length c1]) := (blk_new w _ 26).alloc _
  have K1 : Hid (Blk ((w.alloc (Obj.cells #[.int .i64 k, .int .i64 a, .slice p1 rv.length c1] 26)).alloc (Obj.cells #[.int .i64 k, .int .i64 a, .slice p2 rv.length c2] 26)) (w.heap.size + 1) 26 [.int .i64 k, .int .i64 a, .slice p2 rv.length c2]) := by
    have := blk_new (w.alloc (Obj.cells #[.int .i64 k, .int .i64 a, .slice p1 rv.length c1] 26)) #[.int .i64 k, .int .i64 a, .slice p2 rv.length c2] 26
    rw [size_alloc'] at this
    exact this
  have S1 : Hid (RlR ((w.alloc (Obj.cells #[.int .i64 k, .int .i64 a, .slice p1 rv.length c1] 26)).alloc (Obj.cells #[.int .i64 k, .int .i64 a, .slice p2 rv.length c2] 26)) (.slice p1 rv.length c1) rv) := h1.below BE.out
  have S2 : Hid (RlR ((w.alloc (Obj.cells #[.int .i64 k, .int .i64 a, .slice p1 rv.length c1] 26)).alloc (Obj.cells #[.int .i64 k, .int .i64 a, .slice p2 rv.length c2] 26)) (.slice p2 rv.length c2) ru) := h2.below BE.out
  have HSm : Hid (SmX (rv.map Xr.r)) := hs
  have HEq : Hid (∀ i (hi : i < rv.length) (hj : i < ru.length), rv[i].r = ru[i].r) := by
    intro i hi hj
    have := congrArg (fun l => l[i]?) he
    simp only [List.getElem?_map, List.getElem?_eq_getElem hi, List.getElem?_eq_getElem hj, Option.map_some] at this
    exact Option.some.inj this
  have HLn : Hid (ru.length = rv.length) := hlen
  clear h1 h2 hs he hlen
  go_enter Tryd.func10, Tryd.ntmps10
  go_wp2
  generalize ((w.alloc (Obj.cells #[.int .i64 k, .int .i64 a, .slice p1 rv.length c1] 26)).alloc (Obj.cells #[.int .i64 k, .int .i64 a, .slice p2 rv.length c2] 26)) = W1 at *
  generalize w.heap.size + 1 = B1 at *
  obtain ⟨N0, hN0⟩ : ∃ N0, N0 = w.heap.size := ⟨_, rfl⟩
  rw [← hN0]
  rw [← hN0] at K0
  clear hN0
  go_loopw [5] (fun vi wr => ∃ i : Nat, vi = .int .i64 i ∧ i ≤ rv.length ∧ Below W1.heap.size W1 wr) (fun vi _ => rv.length - (intOf vi).toNat)
  case atStart => exact ⟨0, rfl, Nat.zero_le _, Below.refl _ _⟩
  case round =>
    obtain ⟨i, rfl, hi, hb⟩ := hrel
    have HB : Hid (Below W1.heap.size W1 wr) := hb
    have d0 : wr.cell? ⟨N0, 2, none⟩ = some (.slice p1 rv.length c1) := (K0.out.over hb).cell 2
    by_cases hlt : i < rv.length
    · have hi1 : (i : Int) < (rv.length : Int) := by omega
      have hlu : i < ru.length := by rw [HLn.out]; exact hlt
      obtain ⟨b1, o1, rfl, e1⟩ := rlR_at S1.out hlt
      obtain ⟨b2, o2, rfl, e2⟩ := rlR_at S2.out hlu
      have HX : Hid (rv[i].at W1 b1 (o1 + i * 4)) := e1
      have HY : Hid (ru[i].at W1 b2 (o2 + i * 4)) := e2
      have hm1 : StrR W1 rv[i].vn rv[i].r.names ∧ CdR W1 rv[i].vc rv[i].r.conds := by
        obtain ⟨_, _, _, _, _, _, h⟩ := S1.out
        exact h _ (List.getElem_mem hlt)
      have hm2 : StrR W1 ru[i].vn ru[i].r.names ∧ CdR W1 ru[i].vc ru[i].r.conds := by
        obtain ⟨_, _, _, _, _, _, h⟩ := S2.out
        exact h _ (List.getElem_mem hlu)
      have hsm := HSm.out.2 rv[i].r (List.mem_map_of_mem (List.getElem_mem hlt))
      have he := HEq.out i hlt hlu
      rw [← he] at hm2
      have HC : Hid (∀ W, Below W1.heap.size W1 W → Calls Tryd.prog 21 #[.agg #[.int .i64 rv[i].r.k, .int .i64 rv[i].r.a, rv[i].vn, rv[i].vc], .agg #[.int .i64 ru[i].r.k, .int .i64 ru[i].r.a, ru[i].vn, ru[i].vc]] W fun e w' => e = .returned (.bool true) ∧ Below W.heap.size W w') := by
        intro W hW
        rw [← he]
        exact sameRuleX W _ _ _ _ _ _ _ _ (hm1.1.below hW) (hm1.2.below hW) (hm2.1.below hW) (hm2.2.below hW) hsm.1 hsm.2
      clear hb e1 e2 hm1 hm2 hsm he S1 S2 HSm HEq
      generalize rv[i] = x at *
      generalize ru[i] = y at *
      go_wp2_with fail
      refine wp_region_held_drew (S := (fun W => Below W1.heap.size W1 W)) (by kernel_rfl) (HB.out.drew) (fun hHeld => ?_)
      simp only [List.size_toArray, List.length_cons, List.length_nil, Nat.reduceAdd]
      refine wpAnyH_take (i := 0) (v := ?_) rfl (by kernel_rfl) (by kernel_rfl) (by kernel_rfl) (fun _ _ _ h => h) (Or.inl ⟨by rfl, ?_⟩) hHeld ?_
      rotate_left
      · (intro w hSw; (try dsimp only at hSw); go_simp; try with_reducible rfl)
      try simp only [Act.put, List.setIfInBounds_toArray, List.set_cons_zero, List.set_cons_succ, List.getElem_toArray, List.getElem_cons_zero, List.getElem_cons_succ]
      refine wpAnyH_take (i := 1) (v := ?_) rfl (by kernel_rfl) (by kernel_rfl) (by kernel_rfl) (fun _ _ _ h => h) (Or.inl ⟨by rfl, ?_⟩) hHeld ?_
      rotate_left
      · (intro w hSw; (try dsimp only at hSw); have s0 : w.cell? ⟨N0, 2, none⟩ = some (.slice (some ⟨b1, o1, none⟩) rv.length c1) := (K0.out.over hSw).cell 2; go_simp; try with_reducible rfl)
      try simp only [Act.put, List.setIfInBounds_toArray, List.set_cons_zero, List.set_cons_succ, List.getElem_toArray, List.getElem_cons_zero, List.getElem_cons_succ]
      refine wpAnyH_take (i := 2) (v := ?_) rfl (by kernel_rfl) (by kernel_rfl) (by kernel_rfl) (fun _ _ _ h => h) (Or.inl ⟨by rfl, ?_⟩) hHeld ?_
      rotate_left
      · (intro w hSw; (try dsimp only at hSw); go_simp; try with_reducible rfl)
      try simp only [Act.put, List.setIfInBounds_toArray, List.set_cons_zero, List.set_cons_succ, List.getElem_toArray, List.getElem_cons_zero, List.getElem_cons_succ]
      refine wpAnyH_take (i := 3) (v := ?_) rfl (by kernel_rfl) (by kernel_rfl) (by kernel_rfl) (fun _ _ _ h => h) (Or.inl ⟨by rfl, ?_⟩) hHeld ?_
      rotate_left
      · (intro w hSw; (try dsimp only at hSw); go_simp; try with_reducible rfl)
      try simp only [Act.put, List.setIfInBounds_toArray, List.set_cons_zero, List.set_cons_succ, List.getElem_toArray, List.getElem_cons_zero, List.getElem_cons_succ]
      refine wpAnyH_take (i := 4) (v := ?_) rfl (by kernel_rfl) (by kernel_rfl) (by kernel_rfl) (fun _ _ _ h => h) (Or.inl ⟨by rfl, ?_⟩) hHeld ?_
      rotate_left
      · (intro w hSw; (try dsimp only at hSw); obtain ⟨s0, s1, s2, s3⟩ := (HX.out.below hSw); go_simp; try with_reducible rfl)
      try simp only [Act.put, List.setIfInBounds_toArray, List.set_cons_zero, List.set_cons_succ, List.getElem_toArray, List.getElem_cons_zero, List.getElem_cons_succ]
      refine wpAnyH_take (i := 5) (v := ?_) rfl (by kernel_rfl) (by kernel_rfl) (by kernel_rfl) (fun _ _ _ h => h) (Or.inl ⟨by rfl, ?_⟩) hHeld ?_
      rotate_left
      · (intro w hSw; (try dsimp only at hSw); go_simp; try with_reducible rfl)
      try simp only [Act.put, List.setIfInBounds_toArray, List.set_cons_zero, List.set_cons_succ, List.getElem_toArray, List.getElem_cons_zero, List.getElem_cons_succ]
      refine wpAnyH_take (i := 6) (v := ?_) rfl (by kernel_rfl) (by kernel_rfl) (by kernel_rfl) (fun _ _ _ h => h) (Or.inl ⟨by rfl, ?_⟩) hHeld ?_
      rotate_left
      · (intro w hSw; (try dsimp only at hSw); have s0 : w.cell? ⟨B1, 2, none⟩ = some (.slice (some ⟨b2, o2, none⟩) rv.length c2) := (K1.out.over hSw).cell 2; go_simp; try with_reducible rfl)
      try simp only [Act.put, List.setIfInBounds_toArray, List.set_cons_zero, List.set_cons_succ, List.getElem_toArray, List.getElem_cons_zero, List.getElem_cons_succ]
      refine wpAnyH_take (i := 7) (v := ?_) rfl (by kernel_rfl) (by kernel_rfl) (by kernel_rfl) (fun _ _ _ h => h) (Or.inl ⟨by rfl, ?_⟩) hHeld ?_
      rotate_left
      · (intro w hSw; (try dsimp only at hSw); go_simp; try with_reducible rfl)
      try simp only [Act.put, List.setIfInBounds_toArray, List.set_cons_zero, List.set_cons_succ, List.getElem_toArray, List.getElem_cons_zero, List.getElem_cons_succ]
      refine wpAnyH_take (i := 8) (v := ?_) rfl (by kernel_rfl) (by kernel_rfl) (by kernel_rfl) (fun _ _ _ h => h) (Or.inl ⟨by rfl, ?_⟩) hHeld ?_
      rotate_left
      · (intro w hSw; (try dsimp only at hSw); go_simp; try with_reducible rfl)
      try simp only [Act.put, List.setIfInBounds_toArray, List.set_cons_zero, List.set_cons_succ, List.getElem_toArray, List.getElem_cons_zero, List.getElem_cons_succ]
      refine wpAnyH_take (i := 9) (v := ?_) rfl (by kernel_rfl) (by kernel_rfl) (by kernel_rfl) (fun _ _ _ h => h) (Or.inl ⟨by rfl, ?_⟩) hHeld ?_
      rotate_left
      · (intro w hSw; (try dsimp only at hSw); obtain ⟨s0, s1, s2, s3⟩ := (HY.out.below hSw); go_simp; try with_reducible rfl)
      try simp only [Act.put, List.setIfInBounds_toArray, List.set_cons_zero, List.set_cons_succ, List.getElem_toArray, List.getElem_cons_zero, List.getElem_cons_succ]
      refine wpAnyH_ready (rs := [10]) (by kernel_rfl) (by simp) ?_
      refine AllReadyH.cons rfl (fun K hK => ?_) AllReadyH.nil
      go_simp
      refine (HC.out _ hHeld).mono ?_
      rintro e w5 ⟨rfl, b5⟩
      go_wp2_with fail
      refine hK.out _ _ (hHeld.trans (b5.mono hHeld.size)) (fun hHeld => ?_)
      clear hK K
      try simp only [Act.put, List.setIfInBounds_toArray, List.set_cons_zero, List.set_cons_succ, List.getElem_toArray, List.getElem_cons_zero, List.getElem_cons_succ]
      refine wpAnyH_take (i := 11) (v := ?_) rfl (by kernel_rfl) (by kernel_rfl) (by kernel_rfl) (fun _ _ _ h => h) (Or.inl ⟨by rfl, ?_⟩) hHeld ?_
      rotate_left
      · (intro w hSw; (try dsimp only at hSw); go_simp; try with_reducible rfl)
      try simp only [Act.put, List.setIfInBounds_toArray, List.set_cons_zero, List.set_cons_succ, List.getElem_toArray, List.getElem_cons_zero, List.getElem_cons_succ]
      refine wpAnyH_done (by kernel_rfl) ?_ _
      go_wp2_with fail
      go_roundw
      case rel => exact ⟨i + 1, by go_num, hlt, hHeld⟩
      case measure => simp [intOf]; omega
    · obtain rfl : i = rv.length := by omega
      have hge : ¬ (rv.length : Int) < (rv.length : Int) := by omega
      clear hb
      go_wp2
      go_ret
      exact ⟨rfl, BE.out.trans (HB.out.mono BE.out.size)⟩

end Go.Proofs.YtcllgpbgikidjaaDoor
