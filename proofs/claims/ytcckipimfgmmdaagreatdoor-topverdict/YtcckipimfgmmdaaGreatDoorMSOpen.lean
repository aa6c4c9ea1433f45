/-
  Rules that come in.
-/
import Derived.Test.YtcckipimfgmmdaaGreatDoorMSAll
import Derived.OpenShut
import Derived.ProofKit
import Derived.Deep.Slices
import Derived.Deep.Fields
namespace Go.Proofs.YtcckipimfgmmdaaGreatDoor.M
open Go.ChangeShapes Go.WideShapes Go.ChangeAt Go.RowKit Go.Deep

theorem cellsOf3 : Tryz.prog.cellsOf 3 = 1 := by kernel_rfl
theorem cellsOf9 : Tryz.prog.cellsOf 9 = 1 := by kernel_rfl
theorem cellsOfU : Tryz.prog.cellsOf 24 = 1 := by kernel_rfl
theorem cellsOfC : Tryz.prog.cellsOf 139 = 4 := by kernel_rfl
theorem cellsOfA : Tryz.prog.cellsOf 36 = 2 := by kernel_rfl
theorem cellsOfR : Tryz.prog.cellsOf 87 = 4 := by kernel_rfl
theorem cellsOfN : Tryz.prog.cellsOf 22 = 1 := by kernel_rfl
theorem cellsOfD : Tryz.prog.cellsOf 85 = 1 := by kernel_rfl
theorem cellsOfL : Tryz.prog.cellsOf 37 = 1 := by kernel_rfl
theorem cellsOfX : Tryz.prog.cellsOf 39 = 3 := by kernel_rfl

theorem u64_of {a : Int} (h : (Lit.int .u64 a).wf = true) : U64 a := bounds_u64 h

section
variable {H : Type} {enc : TypeId × Value → H} {w : World} {base : Nat} {spare : Nat → Bool} {held : Bool} {n : Nat} {x : DataW H × List MemPlace}

set_option maxRecDepth 8000 in
theorem open_xc {cs : List Value} (hl : cs.length = 4) (h : DataW.trod enc Tryz.prog w base spare held n 139 cs = some x) :
    ∃ y : Xc, (U64 y.mask ∧ U64 y.val) ∧ cs = [.int .i64 y.arg, .int .i64 y.op, .int .u64 y.mask, .int .u64 y.val] := by
  obtain ⟨xs, k, _, _, _, hxl, hf⟩ := DataW.trod_struct Tryz.underlying139 h
  match xs, hxl, cs, hl with
  | [y0, y1, y2, y3], _, [v0, v1, v2, v3], _ =>
    have g0 := hf 0 _ rfl
    have g1 := hf 1 _ rfl
    have g2 := hf 2 _ rfl
    have g3 := hf 3 _ rfl
    simp [cellsOf3, cellsOfU] at g0 g1 g2 g3
    obtain ⟨a, ha, _, wa⟩ := DataW.trod_int Tryz.underlying3 g0
    obtain ⟨b, hb, _, wb⟩ := DataW.trod_int Tryz.underlying3 g1
    obtain ⟨c, hc, _, wc⟩ := DataW.trod_int Tryz.underlying24 g2
    obtain ⟨e, he, _, we⟩ := DataW.trod_int Tryz.underlying24 g3
    simp at ha hb hc he
    subst ha hb hc he
    exact ⟨⟨a, b, c, e⟩, ⟨u64_of wc, u64_of we⟩, rfl⟩

theorem open_names {v : Value} (h : DataW.trod enc Tryz.prog w base spare held n 22 [v] = some x) : ∃ l, StrR w v l := by
  rcases open_slice Tryz.underlying22 h with ⟨h0, _⟩ | ⟨a', len', cap', m, n, D, Pl, hcs, hb, hl, hm, hmm, _, hx⟩
  · simp at h0
    subst h0
    exact ⟨[], none, 0, rfl, Nat.le_refl _, by decide, fun h => absurd h (by decide)⟩
  · simp at hcs
    subst hcs
    have hlm : len' ≤ m := by rw [hmm]; split <;> omega
    obtain ⟨f, hf⟩ := choose_lt (α := ByteArray) (n := len') (p := fun i y => w.cells? base (a'.add (i * 1)) 1 = some [.string y]) (fun i hi => by
      obtain ⟨cs', h1, h2⟩ := hx i (by omega)
      rw [cellsOf9] at h1
      obtain ⟨_, hlen, _⟩ := World.cells?_some h1
      match cs', hlen with
      | [u], _ =>
        obtain ⟨d, hd, _, _⟩ := DataW.trod_string Tryz.underlying9 h2
        simp at hd
        subst hd
        exact ⟨d, h1⟩)
    refine ⟨(List.range len').map f, a', cap', by simp, by simpa using hl, by unfold maxLen at hm; omega, fun h0 => ?_⟩
    have h0' : 0 < len' := by simpa using h0
    obtain ⟨b, off, spot⟩ := a'
    have c0 := (World.cells?_some (hf 0 h0')).2.2 0 (by decide)
    have hspot : spot = none := by
      have : (({ block := b, off := off, spot := spot } : Addr).add (0 * 1)).add 0 = ⟨b, off, spot⟩ := by cases spot <;> simp [Addr.add]
      rw [this] at c0
      simpa using World.cell?_spot c0
    subst hspot
    refine ⟨b, off, rfl, fun i y hi => ?_⟩
    have hil : i < len' := by
      have := (List.getElem?_eq_some_iff.1 hi).1
      simpa using this
    simp [hil] at hi
    subst hi
    obtain ⟨_, _, hc⟩ := World.cells?_some (hf i hil)
    have k0 := hc 0 (by decide)
    rw [Addr.add_lit, Addr.add_lit] at k0
    simpa using k0

theorem open_conds {v : Value} (h : DataW.trod enc Tryz.prog w base spare held n 85 [v] = some x) : ∃ l, CdR w v l ∧ ∀ c ∈ l, U64 c.mask ∧ U64 c.val := by
  rcases open_slice Tryz.underlying85 h with ⟨h0, _⟩ | ⟨a', len', cap', m, n, D, Pl, hcs, hb, hl, hm, hmm, _, hx⟩
  · simp at h0
    subst h0
    exact ⟨[], ⟨none, 0, rfl, Nat.le_refl _, by decide, fun h => absurd h (by decide)⟩, fun c hc => by cases hc⟩
  · simp at hcs
    subst hcs
    have hlm : len' ≤ m := by rw [hmm]; split <;> omega
    haveI : Inhabited Xc := ⟨⟨0, 0, 0, 0⟩⟩
    obtain ⟨f, hf⟩ := choose_lt (α := Xc) (n := len') (p := fun i y => (U64 y.mask ∧ U64 y.val) ∧ w.cells? base (a'.add (i * 4)) 4 = some [.int .i64 y.arg, .int .i64 y.op, .int .u64 y.mask, .int .u64 y.val]) (fun i hi => by
      obtain ⟨cs', h1, h2⟩ := hx i (by omega)
      rw [cellsOfC] at h1
      obtain ⟨_, hlen, _⟩ := World.cells?_some h1
      obtain ⟨y, hy, rfl⟩ := open_xc hlen h2
      exact ⟨y, hy, h1⟩)
    refine ⟨(List.range len').map f, ⟨a', cap', by simp, by simpa using hl, by unfold maxLen at hm; omega, fun h0 => ?_⟩, fun c hc => ?_⟩
    · have h0' : 0 < len' := by simpa using h0
      obtain ⟨b, off, spot⟩ := a'
      have c0 := (World.cells?_some (hf 0 h0').2).2.2 0 (by decide)
      have hspot : spot = none := by
        have : (({ block := b, off := off, spot := spot } : Addr).add (0 * 4)).add 0 = ⟨b, off, spot⟩ := by cases spot <;> simp [Addr.add]
        rw [this] at c0
        simpa using World.cell?_spot c0
      subst hspot
      refine ⟨b, off, rfl, fun i y hi => ?_⟩
      have hil : i < len' := by
        have := (List.getElem?_eq_some_iff.1 hi).1
        simpa using this
      simp [hil] at hi
      subst hi
      obtain ⟨_, _, hc⟩ := World.cells?_some (hf i hil).2
      have key : ∀ c, (({ block := b, off := off, spot := none } : Addr).add (i * 4)).add c = ⟨b, off + i * 4 + c, none⟩ := by intro c; rw [Addr.add_lit, Addr.add_lit]
      have k0 := hc 0 (by decide)
      have k1 := hc 1 (by decide)
      have k2 := hc 2 (by decide)
      have k3 := hc 3 (by decide)
      rw [key] at k0 k1 k2 k3
      exact ⟨k0, k1, k2, k3⟩
    · obtain ⟨i, hi, rfl⟩ := List.mem_map.1 hc
      exact (hf i (by simpa using hi)).1

/-- a rule that came in. -/
def Xr.okIn (y : Xr) (w : World) : Prop := StrR w y.vn y.r.names ∧ CdR w y.vc y.r.conds ∧ ∀ c ∈ y.r.conds, U64 c.mask ∧ U64 c.val

set_option maxRecDepth 8000 in
theorem open_rule {cs : List Value} (hl : cs.length = 4) (h : DataW.trod enc Tryz.prog w base spare held n 87 cs = some x) :
    ∃ y : Xr, y.okIn w ∧ cs = [.int .i64 y.r.k, .int .i64 y.r.a, y.vn, y.vc] := by
  obtain ⟨xs, k, _, _, _, hxl, hf⟩ := DataW.trod_struct Tryz.underlying87 h
  match xs, hxl, cs, hl with
  | [y0, y1, y2], _, [v0, v1, v2, v3], _ =>
    have g0 := hf 0 _ rfl
    have g1 := hf 1 _ rfl
    have g2 := hf 2 _ rfl
    simp [cellsOfA, cellsOfN, cellsOfD] at g0 g1 g2
    obtain ⟨zs, k2, _, _, _, hzl, hz⟩ := DataW.trod_struct Tryz.underlying36 g0
    match zs, hzl with
    | [z0, z1], _ =>
      have i0 := hz 0 _ rfl
      have i1 := hz 1 _ rfl
      simp [cellsOf3] at i0 i1
      obtain ⟨a, ha, _, _⟩ := DataW.trod_int Tryz.underlying3 i0
      obtain ⟨b, hb, _, _⟩ := DataW.trod_int Tryz.underlying3 i1
      simp at ha hb
      subst ha hb
      obtain ⟨ns, hns⟩ := open_names g1
      obtain ⟨cs, hcs, hu⟩ := open_conds g2
      exact ⟨⟨⟨a, b, ns, cs⟩, v2, v3⟩, ⟨hns, hcs, hu⟩, rfl⟩

/-- what is known of rules that came in. -/
def RlIn (w : World) (v : Value) (l : List Xr) : Prop := RlR w v l ∧ ∀ y ∈ l, ∀ c ∈ y.r.conds, U64 c.mask ∧ U64 c.val

theorem open_list {v : Value} (h : DataW.trod enc Tryz.prog w base spare held n 37 [v] = some x) : ∃ l, RlIn w v l := by
  rcases open_slice Tryz.underlying37 h with ⟨h0, _⟩ | ⟨a', len', cap', m, n, D, Pl, hcs, hb, hl, hm, hmm, _, hx⟩
  · simp at h0
    subst h0
    exact ⟨[], ⟨none, 0, rfl, Nat.le_refl _, by decide, fun h => absurd h (by decide), fun y hy => by cases hy⟩, fun y hy => by cases hy⟩
  · simp at hcs
    subst hcs
    have hlm : len' ≤ m := by rw [hmm]; split <;> omega
    haveI : Inhabited Xr := ⟨⟨⟨0, 0, [], []⟩, .bool false, .bool false⟩⟩
    obtain ⟨f, hf⟩ := choose_lt (α := Xr) (n := len') (p := fun i y => y.okIn w ∧ w.cells? base (a'.add (i * 4)) 4 = some [.int .i64 y.r.k, .int .i64 y.r.a, y.vn, y.vc]) (fun i hi => by
      obtain ⟨cs', h1, h2⟩ := hx i (by omega)
      rw [cellsOfR] at h1
      obtain ⟨_, hlen, _⟩ := World.cells?_some h1
      obtain ⟨y, hy, rfl⟩ := open_rule hlen h2
      exact ⟨y, hy, h1⟩)
    have hok : ∀ y ∈ (List.range len').map f, y.okIn w := by
      intro y hy
      obtain ⟨i, hi, rfl⟩ := List.mem_map.1 hy
      exact (hf i (by simpa using hi)).1
    refine ⟨(List.range len').map f, ⟨a', cap', by simp, by simpa using hl, by unfold maxLen at hm; omega, fun h0 => ?_, fun y hy => ⟨(hok y hy).1, (hok y hy).2.1⟩⟩, fun y hy => (hok y hy).2.2⟩
    have h0' : 0 < len' := by simpa using h0
    obtain ⟨b, off, spot⟩ := a'
    have c0 := (World.cells?_some (hf 0 h0').2).2.2 0 (by decide)
    have hspot : spot = none := by
      have : (({ block := b, off := off, spot := spot } : Addr).add (0 * 4)).add 0 = ⟨b, off, spot⟩ := by cases spot <;> simp [Addr.add]
      rw [this] at c0
      simpa using World.cell?_spot c0
    subst hspot
    refine ⟨b, off, rfl, fun i y hi => ?_⟩
    have hil : i < len' := by
      have := (List.getElem?_eq_some_iff.1 hi).1
      simpa using this
    simp [hil] at hi
    subst hi
    obtain ⟨_, _, hc⟩ := World.cells?_some (hf i hil).2
    have key : ∀ c, (({ block := b, off := off, spot := none } : Addr).add (i * 4)).add c = ⟨b, off + i * 4 + c, none⟩ := by intro c; rw [Addr.add_lit, Addr.add_lit]
    have k0 := hc 0 (by decide)
    have k1 := hc 1 (by decide)
    have k2 := hc 2 (by decide)
    have k3 := hc 3 (by decide)
    rw [key] at k0 k1 k2 k3
    exact ⟨k0, k1, k2, k3⟩
end

/-- rules that came in by value. -/
structure Xin where
  k : Int
  a : Int
  v : Value
  l : List Xr

set_option maxRecDepth 8000 in
theorem open_rules {H : Type} {enc : TypeId × Value → H} {w : World} {base b0 : Nat} {spare : Nat → Bool} {held : Bool} {r : Reach} {v : Value} {d : DataW H} {p : List MemPlace}
    (hv : Value.okWide Tryz.prog w r b0 39 v) (h : DataW.Trod enc Tryz.prog w base spare held 39 v d p) : ∃ y : Xin, v = .agg #[.int .i64 y.k, .int .i64 y.a, y.v] ∧ RlIn w y.v y.l := by
  unfold Value.okWide at hv
  rw [Tryz.underlying39] at hv
  obtain ⟨cs, rfl, hsz, _⟩ := hv
  obtain ⟨fuel, hf⟩ := h
  rw [cellsOfX] at hsz
  obtain ⟨cl⟩ := cs
  match cl, hsz with
  | [v0, v1, v2], _ =>
    obtain ⟨xs, k, _, _, _, hxl, hf⟩ := DataW.trod_struct Tryz.underlying39 hf
    match xs, hxl with
    | [y0, y1], _ =>
      have g0 := hf 0 _ rfl
      have g1 := hf 1 _ rfl
      simp [cellsOfA, cellsOfL, Value.cells] at g0 g1
      obtain ⟨zs, k2, _, _, _, hzl, hz⟩ := DataW.trod_struct Tryz.underlying36 g0
      match zs, hzl with
      | [z0, z1], _ =>
        have i0 := hz 0 _ rfl
        have i1 := hz 1 _ rfl
        simp [cellsOf3] at i0 i1
        obtain ⟨a, ha, _, _⟩ := DataW.trod_int Tryz.underlying3 i0
        obtain ⟨b, hb, _, _⟩ := DataW.trod_int Tryz.underlying3 i1
        simp at ha hb
        subst ha hb
        obtain ⟨l, hl⟩ := open_list g1
        exact ⟨⟨a, b, v2, l⟩, rfl, hl⟩

theorem cellsOfW : Tryz.prog.cellsOf 23 = 1 := by kernel_rfl
theorem cellsOfG : Tryz.prog.cellsOf 25 = 6 := by kernel_rfl
theorem cellsOfDa : Tryz.prog.cellsOf 27 = 9 := by kernel_rfl

set_option maxRecDepth 20000 in
theorem open_dcells {H : Type} {enc : TypeId × Value → H} {w : World} {base : Nat} {spare : Nat → Bool} {held : Bool} {n : Nat} {cs : List Value} {x : DataW H × List MemPlace} (hl : cs.length = 9) (h : DataW.trod enc Tryz.prog w base spare held n 27 cs = some x) :
    ∃ y : Da, y.ok ∧ cs = y.cells := by
  obtain ⟨xs, k, _, _, _, hxl, hf⟩ := DataW.trod_struct Tryz.underlying27 h
  match xs, hxl, cs, hl with
  | [y0, y1, y2, y3], _, [v0, v1, v2, v3, v4, v5, v6, v7, v8], _ =>
    have g0 := hf 0 _ rfl
    have g1 := hf 1 _ rfl
    have g2 := hf 2 _ rfl
    have g3 := hf 3 _ rfl
    simp [cellsOfW, cellsOfU, cellsOfG] at g0 g1 g2 g3
    obtain ⟨a, ha, _, wa⟩ := DataW.trod_int Tryz.underlying23 g0
    obtain ⟨b, hb, _, wb⟩ := DataW.trod_int Tryz.underlying23 g1
    obtain ⟨c, hc, _, wc⟩ := DataW.trod_int Tryz.underlying24 g2
    obtain ⟨zs, m, _, _, _, hlen, hi⟩ := DataW.trod_array Tryz.underlying25 g3
    have i0 := hi 0 (by omega)
    have i1 := hi 1 (by omega)
    have i2 := hi 2 (by omega)
    have i3 := hi 3 (by omega)
    have i4 := hi 4 (by omega)
    have i5 := hi 5 (by omega)
    rw [cellsOfU] at i0 i1 i2 i3 i4 i5
    match zs, hlen with
    | [z0, z1, z2, z3, z4, z5], _ =>
      obtain ⟨x0, e0, _, w0⟩ := DataW.trod_int Tryz.underlying24 (by simpa using i0)
      obtain ⟨x1, e1, _, w1⟩ := DataW.trod_int Tryz.underlying24 (by simpa using i1)
      obtain ⟨x2, e2, _, w2⟩ := DataW.trod_int Tryz.underlying24 (by simpa using i2)
      obtain ⟨x3, e3, _, w3⟩ := DataW.trod_int Tryz.underlying24 (by simpa using i3)
      obtain ⟨x4, e4, _, w4⟩ := DataW.trod_int Tryz.underlying24 (by simpa using i4)
      obtain ⟨x5, e5, _, w5⟩ := DataW.trod_int Tryz.underlying24 (by simpa using i5)
      simp at ha hb hc e0 e1 e2 e3 e4 e5
      subst ha hb hc e0 e1 e2 e3 e4 e5
      refine ⟨⟨a, b, c, [x0, x1, x2, x3, x4, x5]⟩, ⟨bounds_u32 wa, bounds_u32 wb, bounds_u64 wc, rfl, ?_⟩, rfl⟩
      intro z hz
      simp only [List.mem_cons, List.not_mem_nil, or_false] at hz
      rcases hz with rfl | rfl | rfl | rfl | rfl | rfl
      · exact bounds_u64 w0
      · exact bounds_u64 w1
      · exact bounds_u64 w2
      · exact bounds_u64 w3
      · exact bounds_u64 w4
      · exact bounds_u64 w5

set_option maxRecDepth 8000 in
theorem open_da {H : Type} {enc : TypeId × Value → H} {w : World} {base b0 : Nat} {spare : Nat → Bool} {held : Bool} {r : Reach} {v : Value} {d : DataW H} {p : List MemPlace}
    (hv : Value.okWide Tryz.prog w r b0 27 v) (h : DataW.Trod enc Tryz.prog w base spare held 27 v d p) : ∃ y : Da, v = y.val ∧ y.ok := by
  unfold Value.okWide at hv
  rw [Tryz.underlying27] at hv
  obtain ⟨cs, rfl, hsz, _⟩ := hv
  obtain ⟨fuel, hf⟩ := h
  rw [cellsOfDa] at hsz
  obtain ⟨y, hy, e⟩ := open_dcells (cs := cs.toList) (by simpa using hsz) hf
  refine ⟨y, ?_, hy⟩
  unfold Da.val
  rw [← e]



set_option maxRecDepth 8000 in
theorem open_rulev {H : Type} {enc : TypeId × Value → H} {w : World} {base b0 : Nat} {spare : Nat → Bool} {held : Bool} {r : Reach} {v : Value} {d : DataW H} {p : List MemPlace}
    (hv : Value.okWide Tryz.prog w r b0 87 v) (h : DataW.Trod enc Tryz.prog w base spare held 87 v d p) : ∃ y : Xr, v = .agg #[.int .i64 y.r.k, .int .i64 y.r.a, y.vn, y.vc] ∧ y.okIn w := by
  unfold Value.okWide at hv
  rw [Tryz.underlying87] at hv
  obtain ⟨cs, rfl, hsz, _⟩ := hv
  obtain ⟨fuel, hf⟩ := h
  rw [cellsOfR] at hsz
  obtain ⟨y, hy, e⟩ := open_rule (cs := cs.toList) (by simpa using hsz) hf
  refine ⟨y, ?_, hy⟩
  rw [← e]

end Go.Proofs.YtcckipimfgmmdaaGreatDoor.M
