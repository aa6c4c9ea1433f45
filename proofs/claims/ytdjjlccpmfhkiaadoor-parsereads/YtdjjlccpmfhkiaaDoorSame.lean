/-
  Rules as they lie for whoever reads them; rules compared.
-/
import Derived.Test.YtdjjlccpmfhkiaaDoorPar
namespace Go.Proofs.YtdjjlccpmfhkiaaDoor
open Go.RowKit

/-- a rule's cells. -/
def Rv.at (x : Rv) (w : World) (b o : Nat) : Prop :=
  w.cell? ⟨b, o, none⟩ = some (.int .i64 x.r.act.k) ∧ w.cell? ⟨b, o + 1, none⟩ = some (.int .i64 x.r.act.a) ∧ w.cell? ⟨b, o + 2, none⟩ = some x.vn ∧ w.cell? ⟨b, o + 3, none⟩ = some x.vc

/-- the rules that a slice leads to. -/
def RlsV (w : World) (v : Value) (rv : List Rv) : Prop :=
  ∃ a cap, v = .slice a rv.length cap ∧ (0 < rv.length → ∃ b, a = some ⟨b, 0, none⟩ ∧ ∀ (i : Nat) (x : Rv), rv[i]? = some x → x.at w b (i * 4)) ∧ ∀ x ∈ rv, Strs w x.vn x.r.names ∧ Cds w x.vc x.r.conds

theorem RlsV.below {w w' : World} {v : Value} {rv : List Rv} (h : RlsV w v rv) (hb : Below w.heap.size w w') : RlsV w' v rv := by
  obtain ⟨a, cap, rfl, hc, hr⟩ := h
  refine ⟨a, cap, rfl, fun h0 => ?_, fun x hx => ⟨(hr x hx).1.below hb, (hr x hx).2.below hb⟩⟩
  obtain ⟨b, rfl, hx⟩ := hc h0
  refine ⟨b, rfl, fun i x hi => ?_⟩
  have q := hb.block b (World.block_lt_of_cell? w _ (hx i x hi).1)
  exact ⟨cell_same (hx i x hi).1 q, cell_same (hx i x hi).2.1 q, cell_same (hx i x hi).2.2.1 q, cell_same (hx i x hi).2.2.2 q⟩

theorem rlsV_nil (w : World) : RlsV w (.slice none 0 0) [] := ⟨none, 0, rfl, fun h => absurd h (by decide), fun x hx => by cases hx⟩

theorem owns_rls {w : World} {base : Nat} {v : Value} {rv : List Rv} (h : w.ownsRow base 43 4 v rv.length (cellsR rv)) (hr : ∀ x ∈ rv, Rows2 w base x) : RlsV w v rv := by
  have hs : ∀ x ∈ rv, Strs w x.vn x.r.names ∧ Cds w x.vc x.r.conds := fun x hx => ⟨(owns_strs (hr x hx).1).2, (owns_cds (hr x hx).2).2⟩
  rcases h.2 with ⟨rfl, h0⟩ | ⟨g, cap, cur, rfl, hb, hg, hnc, hcm, hcs, htake⟩
  · exact ⟨none, 0, by rw [h0], fun h => absurd h (by omega), hs⟩
  · refine ⟨_, cap, rfl, fun _ => ⟨g, rfl, fun i x hx => ?_⟩, hs⟩
    have key : ∀ c u, c < 4 → x.cells[c]? = some u → w.cell? ⟨g, i * 4 + c, none⟩ = some u := by
      intro c u hc hu
      have := h.cells (g := g) rfl (i * 4 + c) u (by rw [cellsR_get rv i x c hx hc]; exact hu)
      rw [show (⟨g, i * 4 + c, none⟩ : Addr) = (⟨g, 0, none⟩ : Addr).add (i * 4 + c) from by unfold Addr.add; split <;> simp_all]
      exact this
    exact ⟨key 0 _ (by decide) rfl, key 1 _ (by decide) rfl, key 2 _ (by decide) rfl, key 3 _ (by decide) rfl⟩

/-- what is told of a text, for a reader. -/
def Par2 (r : Except (Nat × Nat) (Ac × List Rl)) (e : Ending) (w' : World) : Prop :=
  match r with
  | .error (c, p) => e = .returned (.tuple #[.agg #[.int .i64 0, .int .i64 0, .slice none 0 0], .int .i64 c, .int .i64 p])
  | .ok (d, rs) => ∃ v rv, rs = List.map Rv.r rv ∧ e = .returned (.tuple #[.agg #[.int .i64 d.k, .int .i64 d.a, v], .int .i64 0, .int .i64 (-1)]) ∧ RlsV w' v rv

theorem parse2 (s : ByteArray) (w : World) (hv : Vars w) :
    Calls Tryd.prog 10 #[.string s] w fun e w' => Below w.heap.size w w' ∧ Par2 (prs (lst s)) e w' := by
  refine (parse_any s w hv).mono ?_
  rintro e w' ⟨hb, h⟩
  refine ⟨hb, ?_⟩
  generalize prs (lst s) = R at *
  obtain ⟨c, p⟩ | ⟨d, rs⟩ := R
  · exact h
  · obtain ⟨v, rv, h1, h2, h3, h4⟩ := h
    exact ⟨v, rv, h1, h2, owns_rls h3 h4⟩

theorem strs_at {w : World} {p : Option Addr} {n c i : Nat} {l : List (List UInt8)} (h : Strs w (.slice p n c) l) (hi : i < l.length) : ∃ b, p = some ⟨b, 0, none⟩ ∧ w.cell? ⟨b, i, none⟩ = some (.string (bar l[i])) := by
  obtain ⟨a, cap, e, hc⟩ := h
  cases e
  obtain ⟨b, hb, hx⟩ := hc (by omega)
  exact ⟨b, hb, hx i _ (List.getElem?_eq_getElem hi)⟩
theorem cds_at {w : World} {p : Option Addr} {n c i : Nat} {l : List Cd} (h : Cds w (.slice p n c) l) (hi : i < l.length) : ∃ b, p = some ⟨b, 0, none⟩ ∧ l[i].at w b (i * 4) := by
  obtain ⟨a, cap, e, hc⟩ := h
  cases e
  obtain ⟨b, hb, hx⟩ := hc (by omega)
  exact ⟨b, hb, hx i _ (List.getElem?_eq_getElem hi)⟩
theorem rls_at {w : World} {p : Option Addr} {n c i : Nat} {l : List Rv} (h : RlsV w (.slice p n c) l) (hi : i < l.length) : ∃ b, p = some ⟨b, 0, none⟩ ∧ l[i].at w b (i * 4) := by
  obtain ⟨a, cap, e, hc, _⟩ := h
  cases e
  obtain ⟨b, hb, hx⟩ := hc (by omega)
  exact ⟨b, hb, hx i _ (List.getElem?_eq_getElem hi)⟩

theorem neq_act (k a : Int) (w : World) : (binOp .neq 24 (.agg #[.int .i64 k, .int .i64 a]) (.agg #[.int .i64 k, .int .i64 a])).run Tryd.prog w = .ok (.bool false) w := by
  have u3 := Tryd.underlying3
  have a3 := Tryd.isAgg3
  have z3 := Tryd.sizeOf3
  have hS : Tryd.prog.underlying 24 = some (.struct (Tryd.prog.fieldsOf 24)) := by kernel_rfl
  have hp : Tryd.prog.stoodInHeld 24 = false := by kernel_rfl
  rw [run_neq_struct, show (10000 : Nat) = 9999 + 1 from rfl, run_equalIn_agg w 9999 24 _ _ hS hp]
  simp only [Program.fieldsOf, Tryd.underlying24]
  go_simp

theorem neq_cond (a o m v : Int) (w : World) : (binOp .neq 45 (.agg #[.int .i64 a, .int .i64 o, .int .u64 m, .int .u64 v]) (.agg #[.int .i64 a, .int .i64 o, .int .u64 m, .int .u64 v])).run Tryd.prog w = .ok (.bool false) w := by
  have u3 := Tryd.underlying3
  have a3 := Tryd.isAgg3
  have z3 := Tryd.sizeOf3
  have u37 := Tryd.underlying37
  have a37 := Tryd.isAgg37
  have z37 := Tryd.sizeOf37
  have hS : Tryd.prog.underlying 45 = some (.struct (Tryd.prog.fieldsOf 45)) := by kernel_rfl
  have hp : Tryd.prog.stoodInHeld 45 = false := by kernel_rfl
  rw [run_neq_struct, show (10000 : Nat) = 9999 + 1 from rfl, run_equalIn_agg w 9999 45 _ _ hS hp]
  simp only [Program.fieldsOf, Tryd.underlying45]
  go_simp

set_option maxRecDepth 8000 in
set_option maxHeartbeats 4000000 in
theorem sameRule_any (w : World) (k a : Int) (vn vc un uc : Value) (ns : List (List UInt8)) (cs : List Cd) (h1 : Strs w vn ns) (h2 : Cds w vc cs) (h3 : Strs w un ns) (h4 : Cds w uc cs) (hl : ns.length ≤ 1000) (hl2 : cs.length ≤ 1000) :
    Calls Tryd.prog 23 #[.agg #[.int .i64 k, .int .i64 a, vn, vc], .agg #[.int .i64 k, .int .i64 a, un, uc]] w fun e w' => e = .returned (.bool true) ∧ Below w.heap.size w w' := by
  obtain ⟨p1, c1, rfl⟩ : ∃ p c, vn = .slice p ns.length c := by obtain ⟨p, c, e, _⟩ := h1; exact ⟨p, c, e⟩
  obtain ⟨p2, c2, rfl⟩ : ∃ p c, vc = .slice p cs.length c := by obtain ⟨p, c, e, _⟩ := h2; exact ⟨p, c, e⟩
  obtain ⟨p3, c3, rfl⟩ : ∃ p c, un = .slice p ns.length c := by obtain ⟨p, c, e, _⟩ := h3; exact ⟨p, c, e⟩
  obtain ⟨p4, c4, rfl⟩ : ∃ p c, uc = .slice p cs.length c := by obtain ⟨p, c, e, _⟩ := h4; exact ⟨p, c, e⟩
  have hna := neq_act k a
  have BE : Hid (Below w.heap.size w ((w.alloc (Obj.cells #[.int .i64 k, .int .i64 a, .slice p1 ns.length c1, .slice p2 cs.length c2] 43)).alloc (Obj.cells #[.int .i64 k, .int .i64 a, .slice p3 ns.length c3, .slice p4 cs.length c4] 43))) := ((Below.refl _ _).alloc (Nat.le_refl _) _).alloc (by rw [size_alloc']; omega) _
  have K0 : Hid (Blk ((w.alloc (Obj.cells #[.int .i64 k, .int .i64 a, .slice p1 ns.length c1, .slice p2 cs.length c2] 43)).alloc (Obj.cells #[.int .i64 k, .int .i64 a, .slice p3 ns.length c3, .slice p4 cs.length c4] 43)) w.heap.size 43 [.int .i64 k, .int .i64 a, .slice p1 ns.length c1, .slice p2 cs.length c2]) := (blk_new w _ 43).alloc _
  have K1 : Hid (Blk ((w.alloc (Obj.cells #[.int .i64 k, .int .i64 a, .slice p1 ns.length c1, .slice p2 cs.length c2] 43)).alloc (Obj.cells #[.int .i64 k, .int .i64 a, .slice p3 ns.length c3, .slice p4 cs.length c4] 43)) (w.heap.size + 1) 43 [.int .i64 k, .int .i64 a, .slice p3 ns.length c3, .slice p4 cs.length c4]) := by
    have := blk_new (w.alloc (Obj.cells #[.int .i64 k, .int .i64 a, .slice p1 ns.length c1, .slice p2 cs.length c2] 43)) #[.int .i64 k, .int .i64 a, .slice p3 ns.length c3, .slice p4 cs.length c4] 43
    rw [size_alloc'] at this
    exact this
  have S1 : Hid (Strs ((w.alloc (Obj.cells #[.int .i64 k, .int .i64 a, .slice p1 ns.length c1, .slice p2 cs.length c2] 43)).alloc (Obj.cells #[.int .i64 k, .int .i64 a, .slice p3 ns.length c3, .slice p4 cs.length c4] 43)) (.slice p1 ns.length c1) ns) := h1.below BE.out
  have S2 : Hid (Cds ((w.alloc (Obj.cells #[.int .i64 k, .int .i64 a, .slice p1 ns.length c1, .slice p2 cs.length c2] 43)).alloc (Obj.cells #[.int .i64 k, .int .i64 a, .slice p3 ns.length c3, .slice p4 cs.length c4] 43)) (.slice p2 cs.length c2) cs) := h2.below BE.out
  have S3 : Hid (Strs ((w.alloc (Obj.cells #[.int .i64 k, .int .i64 a, .slice p1 ns.length c1, .slice p2 cs.length c2] 43)).alloc (Obj.cells #[.int .i64 k, .int .i64 a, .slice p3 ns.length c3, .slice p4 cs.length c4] 43)) (.slice p3 ns.length c3) ns) := h3.below BE.out
  have S4 : Hid (Cds ((w.alloc (Obj.cells #[.int .i64 k, .int .i64 a, .slice p1 ns.length c1, .slice p2 cs.length c2] 43)).alloc (Obj.cells #[.int .i64 k, .int .i64 a, .slice p3 ns.length c3, .slice p4 cs.length c4] 43)) (.slice p4 cs.length c4) cs) := h4.below BE.out
  clear h1 h2 h3 h4
  go_enter Tryd.func23, Tryd.ntmps23
  go_wp2
  generalize ((w.alloc (Obj.cells #[.int .i64 k, .int .i64 a, .slice p1 ns.length c1, .slice p2 cs.length c2] 43)).alloc (Obj.cells #[.int .i64 k, .int .i64 a, .slice p3 ns.length c3, .slice p4 cs.length c4] 43)) = W1 at *
  generalize w.heap.size + 1 = B1 at *
  go_loopw [5] (fun vi wr => ∃ i : Nat, vi = .int .i64 i ∧ i ≤ ns.length ∧ Below W1.heap.size W1 wr) (fun vi _ => ns.length - (intOf vi).toNat)
  case atStart => exact ⟨0, rfl, Nat.zero_le _, Below.refl _ _⟩
  case round =>
    obtain ⟨i, rfl, hi, hb⟩ := hrel
    have HB : Hid (Below W1.heap.size W1 wr) := hb
    have d0 : wr.cell? ⟨w.heap.size, 2, none⟩ = some (.slice p1 ns.length c1) := (K0.out.over hb).cell 2
    have d1 : wr.cell? ⟨B1, 2, none⟩ = some (.slice p3 ns.length c3) := (K1.out.over hb).cell 2
    by_cases hlt : i < ns.length
    · have hi1 : (i : Int) < (ns.length : Int) := by omega
      obtain ⟨b1, rfl, e1⟩ := strs_at (S1.out.below hb) hlt
      obtain ⟨b3, rfl, e3⟩ := strs_at (S3.out.below hb) hlt
      generalize bar ns[i] = bx at *
      clear hb
      go_wp2
      go_quiet (fail)
      go_wp2
      go_roundw
      case rel => exact ⟨i + 1, by go_num, hlt, HB.out.trans ((below_drewN _ _).mono HB.out.size)⟩
      case measure => simp [intOf]; omega
    · obtain rfl : i = ns.length := by omega
      have hge : ¬ (ns.length : Int) < (ns.length : Int) := by omega
      clear hb
      go_wp2
      generalize wr = W2 at *
      go_loopw [6] (fun vi wr => ∃ i : Nat, vi = .int .i64 i ∧ i ≤ cs.length ∧ Below W2.heap.size W2 wr) (fun vi _ => cs.length - (intOf vi).toNat)
      case atStart => exact ⟨0, rfl, Nat.zero_le _, Below.refl _ _⟩
      case round =>
        obtain ⟨i, rfl, hi, hb2⟩ := hrel
        have HB2 : Hid (Below W1.heap.size W1 wr) := HB.out.trans (hb2.mono HB.out.size)
        have HB3 : Hid (Below W2.heap.size W2 wr) := hb2
        clear hb2 d0 d1
        have d0 : wr.cell? ⟨w.heap.size, 3, none⟩ = some (.slice p2 cs.length c2) := (K0.out.over HB2.out).cell 3
        have d1 : wr.cell? ⟨B1, 3, none⟩ = some (.slice p4 cs.length c4) := (K1.out.over HB2.out).cell 3
        by_cases hlt : i < cs.length
        · have hi1 : (i : Int) < (cs.length : Int) := by omega
          obtain ⟨b1, rfl, e1⟩ := cds_at (S2.out.below HB2.out) hlt
          obtain ⟨b3, rfl, e3⟩ := cds_at (S4.out.below HB2.out) hlt
          generalize cs[i] = x at *
          have hnc := neq_cond x.arg x.op x.mask x.val
          obtain ⟨q0, q1, q2, q3⟩ := e1
          obtain ⟨r0, r1, r2, r3⟩ := e3
          go_wp2
          go_quiet (fail)
          go_wp2
          go_roundw
          case rel => exact ⟨i + 1, by go_num, hlt, HB3.out.trans ((below_drewN _ _).mono HB3.out.size)⟩
          case measure => simp [intOf]; omega
        · obtain rfl : i = cs.length := by omega
          have hge2 : ¬ (cs.length : Int) < (cs.length : Int) := by omega
          go_wp2
          go_ret
          exact ⟨rfl, BE.out.trans (HB2.out.mono BE.out.size)⟩

/-- rules are small. -/
def Sm (rs : List Rl) : Prop := rs.length ≤ 1000 ∧ ∀ r ∈ rs, r.names.length ≤ 1000 ∧ r.conds.length ≤ 1000

theorem Rv.at.below {x : Rv} {w w' : World} {b o : Nat} (h : x.at w b o) (hb : Below w.heap.size w w') : x.at w' b o := by
  have q := hb.block b (World.block_lt_of_cell? w _ h.1)
  exact ⟨cell_same h.1 q, cell_same h.2.1 q, cell_same h.2.2.1 q, cell_same h.2.2.2 q⟩

set_option linter.unusedSimpArgs false in
set_option maxRecDepth 8000 in
set_option maxHeartbeats 4000000 in
theorem same_any (w : World) (k a : Int) (va vb : Value) (rv ru : List Rv) (h1 : RlsV w va rv) (h2 : RlsV w vb ru) (he : rv.map Rv.r = ru.map Rv.r) (hs : Sm (rv.map Rv.r)) :
    Calls Tryd.prog 12 #[.agg #[.int .i64 k, .int .i64 a, va], .agg #[.int .i64 k, .int .i64 a, vb]] w fun e w' => e = .returned (.bool true) ∧ Below w.heap.size w w' := by
  have hlen : ru.length = rv.length := by have := congrArg List.length he; simpa using this.symm
  have hl : rv.length ≤ 1000 := by have := hs.1; simpa using this
  obtain ⟨p1, c1, rfl⟩ : ∃ p c, va = .slice p rv.length c := by obtain ⟨p, c, e, _⟩ := h1; exact ⟨p, c, e⟩
  obtain ⟨p2, c2, rfl⟩ : ∃ p c, vb = .slice p rv.length c := by obtain ⟨p, c, e, _⟩ := h2; exact ⟨p, c, by rw [← hlen]; exact e⟩
  have hna := neq_act k a
  have BE : Hid (Below w.heap.size w ((w.alloc (Obj.cells #[.int .i64 k, .int .i64 a, .slice p1 rv.length c1] 27)).alloc (Obj.cells #[.int .i64 k, .int .i64 a, .slice p2 rv.length c2] 27))) := ((Below.refl _ _).alloc (Nat.le_refl _) _).alloc (by rw [size_alloc']; omega) _
  have K0 : Hid (Blk ((w.alloc (Obj.cells #[.int .i64 k, .int .i64 a, .slice p1 rv.length c1] 27)).alloc (Obj.cells #[.int .i64 k, .int .i64 a, .slice p2 rv.length c2] 27)) w.heap.size 27 [.int .i64 k, .int .i64 a, .slice p1 rv.length c1]) := (blk_new w _ 27).alloc _
  have K1 : Hid (Blk ((w.alloc (Obj.cells #[.int .i64 k, .int .i64 a, .slice p1 rv.length c1] 27)).alloc (Obj.cells #[.int .i64 k, .int .i64 a, .slice p2 rv.length c2] 27)) (w.heap.size + 1) 27 [.int .i64 k, .int .i64 a, .slice p2 rv.length c2]) := by
    have := blk_new (w.alloc (Obj.cells #[.int .i64 k, .int .i64 a, .slice p1 rv.length c1] 27)) #[.int .i64 k, .int .i64 a, .slice p2 rv.length c2] 27
    rw [size_alloc'] at this
    exact this
  have S1 : Hid (RlsV ((w.alloc (Obj.cells #[.int .i64 k, .int .i64 a, .slice p1 rv.length c1] 27)).alloc (Obj.cells #[.int .i64 k, .int .i64 a, .slice p2 rv.length c2] 27)) (.slice p1 rv.length c1) rv) := h1.below BE.out
  have S2 : Hid (RlsV ((w.alloc (Obj.cells #[.int .i64 k, .int .i64 a, .slice p1 rv.length c1] 27)).alloc (Obj.cells #[.int .i64 k, .int .i64 a, .slice p2 rv.length c2] 27)) (.slice p2 rv.length c2) ru) := h2.below BE.out
  have HSm : Hid (Sm (rv.map Rv.r)) := hs
  have HEq : Hid (∀ i (hi : i < rv.length) (hj : i < ru.length), rv[i].r = ru[i].r) := by
    intro i hi hj
    have := congrArg (fun l => l[i]?) he
    simp only [List.getElem?_map, List.getElem?_eq_getElem hi, List.getElem?_eq_getElem hj, Option.map_some] at this
    exact Option.some.inj this
  have HLn : Hid (ru.length = rv.length) := hlen
  clear h1 h2 hs he hlen
  go_enter Tryd.func12, Tryd.ntmps12
  go_wp2
  generalize ((w.alloc (Obj.cells #[.int .i64 k, .int .i64 a, .slice p1 rv.length c1] 27)).alloc (Obj.cells #[.int .i64 k, .int .i64 a, .slice p2 rv.length c2] 27)) = W1 at *
  generalize w.heap.size + 1 = B1 at *
  obtain ⟨N0, hN0⟩ : ∃ N0, N0 = w.heap.size := ⟨_, rfl⟩
  rw [← hN0]
  rw [← hN0] at K0
  clear hN0
  go_loopw [5] (fun vi wr => ∃ i : Nat, vi = .int .i64 i ∧ i ≤ rv.length ∧ Below W1.heap.size W1 wr) (fun vi _ => rv.length - (intOf vi).toNat)
  case atStart => exact ⟨0, rfl, Nat.zero_le _, Below.refl _ _⟩
  case round =>
    obtain ⟨i, rfl, hi, hb⟩ := hrel
    have HB : Hid (Below W1.heap.size W1 wr) := hb
    have d0 : wr.cell? ⟨N0, 2, none⟩ = some (.slice p1 rv.length c1) := (K0.out.over hb).cell 2
    by_cases hlt : i < rv.length
    · have hi1 : (i : Int) < (rv.length : Int) := by omega
      have hlu : i < ru.length := by rw [HLn.out]; exact hlt
      obtain ⟨b1, rfl, e1⟩ := rls_at S1.out hlt
      obtain ⟨b2, rfl, e2⟩ := rls_at S2.out hlu
      have HX : Hid (rv[i].at W1 b1 (i * 4)) := e1
      have HY : Hid (ru[i].at W1 b2 (i * 4)) := e2
      have hm1 : Strs W1 rv[i].vn rv[i].r.names ∧ Cds W1 rv[i].vc rv[i].r.conds := by
        obtain ⟨_, _, _, _, h⟩ := S1.out
        exact h _ (List.getElem_mem hlt)
      have hm2 : Strs W1 ru[i].vn ru[i].r.names ∧ Cds W1 ru[i].vc ru[i].r.conds := by
        obtain ⟨_, _, _, _, h⟩ := S2.out
        exact h _ (List.getElem_mem hlu)
      have hsm := HSm.out.2 rv[i].r (List.mem_map_of_mem (List.getElem_mem hlt))
      have he := HEq.out i hlt hlu
      rw [← he] at hm2
      have HC : Hid (∀ W, Below W1.heap.size W1 W → Calls Tryd.prog 23 #[.agg #[.int .i64 rv[i].r.act.k, .int .i64 rv[i].r.act.a, rv[i].vn, rv[i].vc], .agg #[.int .i64 ru[i].r.act.k, .int .i64 ru[i].r.act.a, ru[i].vn, ru[i].vc]] W fun e w' => e = .returned (.bool true) ∧ Below W.heap.size W w') := by
        intro W hW
        rw [← he]
        exact sameRule_any W _ _ _ _ _ _ _ _ (hm1.1.below hW) (hm1.2.below hW) (hm2.1.below hW) (hm2.2.below hW) hsm.1 hsm.2
      clear hb e1 e2 hm1 hm2 hsm he S1 S2 HSm HEq
      generalize rv[i] = x at *
      generalize ru[i] = y at *
      go_wp2_with fail
      refine wp_region_held_drew (S := (fun W => Below W1.heap.size W1 W)) (by kernel_rfl) (HB.out.drew) (fun hHeld => ?_)
      simp only [List.size_toArray, List.length_cons, List.length_nil, Nat.reduceAdd]
      refine wpAnyH_take (i := 0) (v := ?_) rfl (by kernel_rfl) (by kernel_rfl) (by kernel_rfl) (fun _ _ _ h => h) (Or.inl ⟨by rfl, ?_⟩) hHeld ?_
      rotate_left
      · (intro w hSw; (try dsimp only at hSw); go_simp; try with_reducible rfl)
      try simp only [Act.put, List.setIfInBounds_toArray, List.set_cons_zero, List.set_cons_succ, List.getElem_toArray, List.getElem_cons_zero, List.getElem_cons_succ]
      refine wpAnyH_take (i := 1) (v := ?_) rfl (by kernel_rfl) (by kernel_rfl) (by kernel_rfl) (fun _ _ _ h => h) (Or.inl ⟨by rfl, ?_⟩) hHeld ?_
      rotate_left
      · (intro w hSw; (try dsimp only at hSw); have s0 : w.cell? ⟨N0, 2, none⟩ = some (.slice (some ⟨b1, 0, none⟩) rv.length c1) := (K0.out.over hSw).cell 2; go_simp; try with_reducible rfl)
      try simp only [Act.put, List.setIfInBounds_toArray, List.set_cons_zero, List.set_cons_succ, List.getElem_toArray, List.getElem_cons_zero, List.getElem_cons_succ]
      refine wpAnyH_take (i := 2) (v := ?_) rfl (by kernel_rfl) (by kernel_rfl) (by kernel_rfl) (fun _ _ _ h => h) (Or.inl ⟨by rfl, ?_⟩) hHeld ?_
      rotate_left
      · (intro w hSw; (try dsimp only at hSw); go_simp; try with_reducible rfl)
      try simp only [Act.put, List.setIfInBounds_toArray, List.set_cons_zero, List.set_cons_succ, List.getElem_toArray, List.getElem_cons_zero, List.getElem_cons_succ]
      refine wpAnyH_take (i := 3) (v := ?_) rfl (by kernel_rfl) (by kernel_rfl) (by kernel_rfl) (fun _ _ _ h => h) (Or.inl ⟨by rfl, ?_⟩) hHeld ?_
      rotate_left
      · (intro w hSw; (try dsimp only at hSw); go_simp; try with_reducible rfl)
      try simp only [Act.put, List.setIfInBounds_toArray, List.set_cons_zero, List.set_cons_succ, List.getElem_toArray, List.getElem_cons_zero, List.getElem_cons_succ]
      refine wpAnyH_take (i := 4) (v := ?_) rfl (by kernel_rfl) (by kernel_rfl) (by kernel_rfl) (fun _ _ _ h => h) (Or.inl ⟨by rfl, ?_⟩) hHeld ?_
      rotate_left
      · (intro w hSw; (try dsimp only at hSw); obtain ⟨s0, s1, s2, s3⟩ := (HX.out.below hSw); go_simp; try with_reducible rfl)
      try simp only [Act.put, List.setIfInBounds_toArray, List.set_cons_zero, List.set_cons_succ, List.getElem_toArray, List.getElem_cons_zero, List.getElem_cons_succ]
      refine wpAnyH_take (i := 5) (v := ?_) rfl (by kernel_rfl) (by kernel_rfl) (by kernel_rfl) (fun _ _ _ h => h) (Or.inl ⟨by rfl, ?_⟩) hHeld ?_
      rotate_left
      · (intro w hSw; (try dsimp only at hSw); go_simp; try with_reducible rfl)
      try simp only [Act.put, List.setIfInBounds_toArray, List.set_cons_zero, List.set_cons_succ, List.getElem_toArray, List.getElem_cons_zero, List.getElem_cons_succ]
      refine wpAnyH_take (i := 6) (v := ?_) rfl (by kernel_rfl) (by kernel_rfl) (by kernel_rfl) (fun _ _ _ h => h) (Or.inl ⟨by rfl, ?_⟩) hHeld ?_
      rotate_left
      · (intro w hSw; (try dsimp only at hSw); have s0 : w.cell? ⟨B1, 2, none⟩ = some (.slice (some ⟨b2, 0, none⟩) rv.length c2) := (K1.out.over hSw).cell 2; go_simp; try with_reducible rfl)
      try simp only [Act.put, List.setIfInBounds_toArray, List.set_cons_zero, List.set_cons_succ, List.getElem_toArray, List.getElem_cons_zero, List.getElem_cons_succ]
      refine wpAnyH_take (i := 7) (v := ?_) rfl (by kernel_rfl) (by kernel_rfl) (by kernel_rfl) (fun _ _ _ h => h) (Or.inl ⟨by rfl, ?_⟩) hHeld ?_
      rotate_left
      · (intro w hSw; (try dsimp only at hSw); go_simp; try with_reducible rfl)
      try simp only [Act.put, List.setIfInBounds_toArray, List.set_cons_zero, List.set_cons_succ, List.getElem_toArray, List.getElem_cons_zero, List.getElem_cons_succ]
      refine wpAnyH_take (i := 8) (v := ?_) rfl (by kernel_rfl) (by kernel_rfl) (by kernel_rfl) (fun _ _ _ h => h) (Or.inl ⟨by rfl, ?_⟩) hHeld ?_
      rotate_left
      · (intro w hSw; (try dsimp only at hSw); go_simp; try with_reducible rfl)
      try simp only [Act.put, List.setIfInBounds_toArray, List.set_cons_zero, List.set_cons_succ, List.getElem_toArray, List.getElem_cons_zero, List.getElem_cons_succ]
      refine wpAnyH_take (i := 9) (v := ?_) rfl (by kernel_rfl) (by kernel_rfl) (by kernel_rfl) (fun _ _ _ h => h) (Or.inl ⟨by rfl, ?_⟩) hHeld ?_
      rotate_left
      · (intro w hSw; (try dsimp only at hSw); obtain ⟨s0, s1, s2, s3⟩ := (HY.out.below hSw); go_simp; try with_reducible rfl)
      try simp only [Act.put, List.setIfInBounds_toArray, List.set_cons_zero, List.set_cons_succ, List.getElem_toArray, List.getElem_cons_zero, List.getElem_cons_succ]
      refine wpAnyH_ready (rs := [10]) (by kernel_rfl) (by simp) ?_
      refine AllReadyH.cons rfl (fun K hK => ?_) AllReadyH.nil
      go_simp
      refine (HC.out _ hHeld).mono ?_
      rintro e w5 ⟨rfl, b5⟩
      go_wp2_with fail
      refine hK.out _ _ (hHeld.trans (b5.mono hHeld.size)) (fun hHeld => ?_)
      clear hK K
      try simp only [Act.put, List.setIfInBounds_toArray, List.set_cons_zero, List.set_cons_succ, List.getElem_toArray, List.getElem_cons_zero, List.getElem_cons_succ]
      refine wpAnyH_take (i := 11) (v := ?_) rfl (by kernel_rfl) (by kernel_rfl) (by kernel_rfl) (fun _ _ _ h => h) (Or.inl ⟨by rfl, ?_⟩) hHeld ?_
      rotate_left
      · (intro w hSw; (try dsimp only at hSw); go_simp; try with_reducible rfl)
      try simp only [Act.put, List.setIfInBounds_toArray, List.set_cons_zero, List.set_cons_succ, List.getElem_toArray, List.getElem_cons_zero, List.getElem_cons_succ]
      refine wpAnyH_done (by kernel_rfl) ?_ _
      go_wp2_with fail
      go_roundw
      case rel => exact ⟨i + 1, by go_num, hlt, hHeld⟩
      case measure => simp [intOf]; omega
    · obtain rfl : i = rv.length := by omega
      have hge : ¬ (rv.length : Int) < (rv.length : Int) := by omega
      clear hb
      go_wp2
      go_ret
      exact ⟨rfl, BE.out.trans (HB.out.mono BE.out.size)⟩

end Go.Proofs.YtdjjlccpmfhkiaaDoor
