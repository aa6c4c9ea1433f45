/-
  What stands in the line of a rule.
-/
import Derived.Test.YtcllgpbgikidjaaDoorSLine
namespace Go.Proofs.YtcllgpbgikidjaaDoor
open Go.RowKit

theorem Tryd.infoS : (Tryd.prog.info? 70).map (fun i => (i.zero, i.size, i.bytes)) = some (some .nilIface, 1, 16) := by kernel_rfl

theorem sh_one (x : Sh) : x.val.oneCell' = true := by cases x <;> rfl

def wWhenB : ByteArray := ⟨#[119, 104, 101, 110]⟩
def wAndB : ByteArray := ⟨#[97, 110, 100]⟩

/-- what stands in a rule's line: behind the names each condition with its word. -/
def condsS (ahead : ByteArray) : List Xc → List Sh
  | [] => []
  | x :: r => .wd ahead :: .cd x :: condsS wAndB r
def partsS (x : Xr) : List Sh := .ac x.r.k x.r.a :: .nm x.vn x.r.names :: condsS wWhenB x.r.conds

def aheadAt (i : Nat) : ByteArray := if i = 0 then wWhenB else wAndB

theorem condsS_snoc : ∀ (l : List Xc) (a : ByteArray) (x : Xc), condsS a (l ++ [x]) = condsS a l ++ [.wd (if l.length = 0 then a else wAndB), .cd x] := by
  intro l
  induction l with
  | nil => intro a x; rfl
  | cons y l ih =>
    intro a x
    show .wd a :: .cd y :: condsS wAndB (l ++ [x]) = _
    rw [ih wAndB x, ite_self]
    rfl

theorem condsS_take {l : List Xc} {i : Nat} (h : i < l.length) : condsS wWhenB (l.take (i + 1)) = condsS wWhenB (l.take i) ++ [.wd (aheadAt i), .cd l[i]] := by
  rw [List.take_succ_eq_append_getElem h, condsS_snoc]
  rw [List.length_take, Nat.min_eq_left (by omega)]
  rfl

theorem condsS_length : ∀ (l : List Xc) (a : ByteArray), (condsS a l).length = l.length * 2 := by
  intro l
  induction l with
  | nil => intro a; rfl
  | cons y l ih => intro a; show (condsS wAndB l).length + 1 + 1 = _; rw [ih, List.length_cons]; omega

/-- two more of what is shown. -/
theorem app_sh {base : Nat} {w W : World} {v : Value} {l : List Sh} (x y : Sh) (hb : Below base w W) (hB : base ≤ W.heap.size) (ho : W.ownsRow base 70 1 v l.length (l.map Sh.val)) (hl : l.length ≤ 1000) :
    AppG 54 70 base w (W.alloc (Obj.cells #[x.val, y.val] 70)) v W.heap.size 2 2 (l ++ [x, y]).length ((l ++ [x, y]).map Sh.val) := by
  intro ty
  have b1 : Below W.heap.size W (W.alloc (Obj.cells #[x.val, y.val] 70)) := (Below.refl _ _).alloc (Nat.le_refl _) _
  obtain ⟨i0, hi, hz0, hz1, hz2⟩ := info_parts Tryd.infoS
  obtain ⟨v', w', hr, g1, g2, _⟩ := run_append_own (P := Tryd.prog) (W.alloc (Obj.cells #[x.val, y.val] 70)) base 54 ty 70 i0 _ 1 16 Tryd.underlying54 hi hz0 hz1 hz2 rfl (by decide) v l.length (l.map Sh.val) (owns_below ho b1 (Nat.le_refl _)) ⟨W.heap.size, 0, none⟩ 2 2 [x.val, y.val] rfl (fun j u hu => by
    rw [show (⟨W.heap.size, 0, none⟩ : Addr).add j = ⟨W.heap.size, j, none⟩ from by unfold Addr.add; split <;> simp_all]
    rw [(blk_new W #[x.val, y.val] 70).cell j]
    exact hu) (by intro u hu; simp at hu; rcases hu with rfl | rfl <;> exact sh_one _) (by unfold maxLen; omega) (by omega) (by rw [size_alloc']; omega)
  refine ⟨v', w', hr, ?_, below_grown (hb.alloc hB _) (owns_below ho b1 (Nat.le_refl _)) g2 (by rw [size_alloc']; omega)⟩
  rw [List.length_append, List.map_append]
  exact g1

set_option maxHeartbeats 1000000 in
theorem parts_any (w : World) (x : Xr) (hn : StrR w x.vn x.r.names) (hc : CdR w x.vc x.r.conds) (h8 : x.r.conds.length ≤ 8) :
    Calls Tryd.prog 13 #[.agg #[.int .i64 x.r.k, .int .i64 x.r.a, x.vn, x.vc]] w fun e w' => ∃ v, e = .returned v ∧ w'.ownsRow w.heap.size 70 1 v (partsS x).length ((partsS x).map Sh.val) ∧ Below w.heap.size w w' := by
  obtain ⟨⟨k, a, ns, cs⟩, vn, vc⟩ := x
  unfold partsS
  dsimp only at hn hc h8 ⊢
  obtain ⟨p1, c1, rfl⟩ : ∃ p c, vn = .slice p ns.length c := by obtain ⟨p, c, e, _⟩ := hn; exact ⟨p, c, e⟩
  obtain ⟨p2, c2, rfl⟩ : ∃ p c, vc = .slice p cs.length c := by obtain ⟨p, c, e, _⟩ := hc; exact ⟨p, c, e⟩
  have be : Below w.heap.size w (w.alloc (Obj.cells #[.int .i64 k, .int .i64 a, .slice p1 ns.length c1, .slice p2 cs.length c2] 42)) := (Below.refl _ _).alloc (Nat.le_refl _) _
  have BE : Hid (Below w.heap.size w (w.alloc (Obj.cells #[.int .i64 k, .int .i64 a, .slice p1 ns.length c1, .slice p2 cs.length c2] 42))) := be
  have HK : Hid (Blk (w.alloc (Obj.cells #[.int .i64 k, .int .i64 a, .slice p1 ns.length c1, .slice p2 cs.length c2] 42)) w.heap.size 42 [.int .i64 k, .int .i64 a, .slice p1 ns.length c1, .slice p2 cs.length c2]) := blk_new w _ _
  have SC : Hid (CdR (w.alloc (Obj.cells #[.int .i64 k, .int .i64 a, .slice p1 ns.length c1, .slice p2 cs.length c2] 42)) (.slice p2 cs.length c2) cs) := hc.below be
  clear hn hc be
  go_enter Tryd.func13, Tryd.ntmps13
  go_wp2
  have O0 : Hid (((w.alloc (Obj.cells #[.int .i64 k, .int .i64 a, .slice p1 ns.length c1, .slice p2 cs.length c2] 42)).alloc (Obj.cells #[.iface 53 (.agg #[.int .i64 k, .int .i64 a]), .iface 73 (.slice p1 ns.length c1)] 70)).ownsRow (w.heap.size + 1) 70 1 (.slice (some ⟨w.heap.size + 1, 0, none⟩) 2 2) 2 [.iface 53 (.agg #[.int .i64 k, .int .i64 a]), .iface 73 (.slice p1 ns.length c1)]) := by
    have := owns_new (w := w.alloc (Obj.cells #[.int .i64 k, .int .i64 a, .slice p1 ns.length c1, .slice p2 cs.length c2] 42)) (base := w.heap.size + 1) 70 [.iface 53 (.agg #[.int .i64 k, .int .i64 a]), .iface 73 (.slice p1 ns.length c1)] (by rw [size_alloc']; exact Nat.le_refl _) (by simp) (by simp)
    rw [size_alloc'] at this
    exact this
  have B0 : Hid (Below (w.heap.size + 1) (w.alloc (Obj.cells #[.int .i64 k, .int .i64 a, .slice p1 ns.length c1, .slice p2 cs.length c2] 42)) ((w.alloc (Obj.cells #[.int .i64 k, .int .i64 a, .slice p1 ns.length c1, .slice p2 cs.length c2] 42)).alloc (Obj.cells #[.iface 53 (.agg #[.int .i64 k, .int .i64 a]), .iface 73 (.slice p1 ns.length c1)] 70))) := (Below.refl _ _).alloc (by rw [size_alloc']; exact Nat.le_refl _) _
  have HX : Hid ((w.alloc (Obj.cells #[.int .i64 k, .int .i64 a, .slice p1 ns.length c1, .slice p2 cs.length c2] 42)).heap.size = w.heap.size + 1) := size_alloc' _ _
  generalize (w.alloc (Obj.cells #[.int .i64 k, .int .i64 a, .slice p1 ns.length c1, .slice p2 cs.length c2] 42)) = X at *
  generalize w.heap.size + 1 = B at *
  generalize X.alloc (Obj.cells #[.iface 53 (.agg #[.int .i64 k, .int .i64 a]), .iface 73 (.slice p1 ns.length c1)] 70) = Y at *
  go_loopw [3, 4, 17] (fun v3 v4 vi wr => ∃ (va : Value) (i : Nat), va = v3 ∧ v4 = .string (aheadAt i) ∧ vi = .int .i64 i ∧ i ≤ cs.length ∧ wr.ownsRow B 70 1 va ([Sh.ac k a, Sh.nm (.slice p1 ns.length c1) ns] ++ condsS wWhenB (cs.take i)).length (([Sh.ac k a, Sh.nm (.slice p1 ns.length c1) ns] ++ condsS wWhenB (cs.take i)).map Sh.val) ∧ Below B X wr) (fun _ _ vi _ => cs.length - (intOf vi).toNat)
  case atStart => exact ⟨_, 0, rfl, rfl, rfl, Nat.zero_le _, O0.out, B0.out⟩
  case round =>
    obtain ⟨va, i, rfl, rfl, rfl, hi, ho, hb⟩ := hrel
    have HB : Hid (Below B X wr) := hb
    have HO : Hid (wr.ownsRow B 70 1 va ([Sh.ac k a, Sh.nm (.slice p1 ns.length c1) ns] ++ condsS wWhenB (cs.take i)).length (([Sh.ac k a, Sh.nm (.slice p1 ns.length c1) ns] ++ condsS wWhenB (cs.take i)).map Sh.val)) := ho
    clear ho
    have hbX : Below X.heap.size X wr := by rw [HX.out]; exact hb
    by_cases hlt : i < cs.length
    · have hi1 : (i : Int) < (cs.length : Int) := by omega
      obtain ⟨b1, o1, rfl, e1⟩ := cdR_at (SC.out.below hbX) hlt
      have HT : Hid ([Sh.ac k a, Sh.nm (.slice p1 ns.length c1) ns] ++ condsS wWhenB (cs.take (i + 1)) = ([Sh.ac k a, Sh.nm (.slice p1 ns.length c1) ns] ++ condsS wWhenB (cs.take i)) ++ [.wd (aheadAt i), .cd cs[i]]) := by show _ = _; rw [condsS_take hlt, List.append_assoc]
      have hbs : B ≤ wr.heap.size := by have := hbX.size; have := HX.out; omega
      have BA : Below B X (wr.alloc (Obj.cells #[.int .i64 cs[i].arg, .int .i64 cs[i].op, .int .u64 cs[i].mask, .int .u64 cs[i].val] 39)) := hb.alloc hbs _
      have HA : Hid (AppG 54 70 B X ((wr.alloc (Obj.cells #[.int .i64 cs[i].arg, .int .i64 cs[i].op, .int .u64 cs[i].mask, .int .u64 cs[i].val] 39)).alloc (Obj.cells #[.iface 52 (.string (aheadAt i)), .iface 74 (.agg #[.int .i64 cs[i].arg, .int .i64 cs[i].op, .int .u64 cs[i].mask, .int .u64 cs[i].val])] 70)) va (wr.heap.size + 1) 2 2 (([Sh.ac k a, Sh.nm (.slice p1 ns.length c1) ns] ++ condsS wWhenB (cs.take i)) ++ [Sh.wd (aheadAt i), Sh.cd cs[i]]).length ((([Sh.ac k a, Sh.nm (.slice p1 ns.length c1) ns] ++ condsS wWhenB (cs.take i)) ++ [Sh.wd (aheadAt i), Sh.cd cs[i]]).map Sh.val)) := by
        have := app_sh (w := X) (.wd (aheadAt i)) (.cd cs[i]) BA (by rw [size_alloc']; omega) (owns_below HO.out ((Below.refl _ _).alloc (Nat.le_refl _) _) (Nat.le_refl _)) (by rw [List.length_append, condsS_length]; simp; omega)
        rw [size_alloc'] at this
        exact this
      have HN : Hid (aheadAt (i + 1) = ⟨#[97, 110, 100]⟩) := by
        show aheadAt (i + 1) = _
        unfold aheadAt
        rw [if_neg (by omega)]
        rfl
      clear hb hbX hbs BA
      generalize aheadAt i = AW at *
      generalize cs[i] = x at *
      obtain ⟨q0, q1, q2, q3⟩ := e1
      generalize ([Sh.ac k a, Sh.nm (.slice p1 ns.length c1) ns] ++ condsS wWhenB (cs.take i)) = L at *
      go_wp2_with (at_builtin; refine AppG.list HA.out (.tmp 21) (.tmp 26) rfl rfl rfl rfl ?_; intro v5 w5 h5 b5)
      go_roundw
      case rel => exact ⟨_, i + 1, rfl, by rw [HN.out], by go_num, hlt, by rw [HT.out]; exact h5, b5⟩
      case measure => simp [intOf]; omega
    · have hge : ¬ (i : Int) < (cs.length : Int) := by omega
      have hfull : cs.take i = cs := List.take_of_length_le (by omega)
      rw [hfull] at HO
      clear hb hbX hfull
      go_wp2_with fail
      go_ret
      exact ⟨_, rfl, owns_lower HO.out (by have := BE.out.size; have := HX.out; omega), BE.out.trans (HB.out.mono (by have := BE.out.size; have := HX.out; omega))⟩

end Go.Proofs.YtcllgpbgikidjaaDoor
