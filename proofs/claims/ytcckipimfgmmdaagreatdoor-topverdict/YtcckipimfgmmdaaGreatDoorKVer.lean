/-
  The program of rules for the calls of one number.
-/
import Derived.Test.YtcckipimfgmmdaaGreatDoorKDec
import Derived.Test.YtcckipimfgmmdaaGreatDoorMNames
namespace Go.Proofs.YtcckipimfgmmdaaGreatDoor
open Go.RowKit

/-- what the program of a rule is to tell. -/
def DecC : Prop := ∀ (w : World) (k a : Int) (vn vc : Value) (cs : List M.Xc), M.CdR w vc cs → cs.length ≤ 20 → (∀ c ∈ cs, Cok c) →
    Calls Tryz.prog 153 #[.agg #[.int .i64 k, .int .i64 a, vn, vc]] w fun e w' => Tld w ((decC k a cs).getD []) e w'

theorem ver_at {z k a : Int} {rs : List M.Xr} {i : Nat} (h : i < rs.length) : verI z k a ((rs.drop i).map M.Xr.r) = if M.namedB z rs[i].r.names = true then (if endsH (decI rs[i].r) = true then decI rs[i].r else decI rs[i].r ++ verI z k a ((rs.drop (i + 1)).map M.Xr.r)) else verI z k a ((rs.drop (i + 1)).map M.Xr.r) := by
  rw [List.drop_eq_getElem_cons h]
  rfl
theorem ver_end {z k a : Int} {rs : List M.Xr} {i : Nat} (h : ¬ i < rs.length) : verI z k a ((rs.drop i).map M.Xr.r) = [ansI k a] := by
  rw [List.drop_eq_nil_of_le (by omega)]
  rfl

/-- rules that a program can be made of. -/
structure Rok (rs : List M.Xr) : Prop where
  len : rs.length ≤ 64
  nam : ∀ x ∈ rs, x.r.names.length ≤ 16
  con : ∀ x ∈ rs, x.r.conds.length ≤ 8
  ok : ∀ x ∈ rs, Xok x.r

set_option maxRecDepth 8000 in
set_option maxHeartbeats 4000000 in
theorem verdict_of (hT : DecC) (w : World) (z k a : Int) (v : Value) (rs : List M.Xr) (h : M.RlR w v rs) (hR : Rok rs) :
    Calls Tryz.prog 128 #[.agg #[.int .i64 k, .int .i64 a, v], .int .u32 z] w fun e w' => Tld w (verI z k a (rs.map M.Xr.r)) e w' := by
  obtain ⟨p1, c1, rfl⟩ : ∃ p c, v = .slice p rs.length c := by obtain ⟨p, c, e, _⟩ := h; exact ⟨p, c, e⟩
  have HA : Hid (∀ W, Calls Tryz.prog 49 #[.agg #[.int .i64 k, .int .i64 a]] W fun e w' => e = .returned (.agg (cI (ansI k a))) ∧ Below W.heap.size W w') := answer_any k a
  have HB0 : Hid (Below w.heap.size w (w.alloc (Obj.cells #[.int .i64 k, .int .i64 a, .slice p1 rs.length c1] 39))) := below_new w _
  have HK : Hid (V.Blk (w.alloc (Obj.cells #[.int .i64 k, .int .i64 a, .slice p1 rs.length c1] 39)) w.heap.size 39 [.int .i64 k, .int .i64 a, .slice p1 rs.length c1]) := V.blk_new w _ _
  have HX : Hid (∀ W, Below (w.alloc (Obj.cells #[.int .i64 k, .int .i64 a, .slice p1 rs.length c1] 39)).heap.size (w.alloc (Obj.cells #[.int .i64 k, .int .i64 a, .slice p1 rs.length c1] 39)) W → W.cell? ⟨w.heap.size, 0, none⟩ = some (.int .i64 k) ∧ W.cell? ⟨w.heap.size, 1, none⟩ = some (.int .i64 a) ∧ W.cell? ⟨w.heap.size, 2, none⟩ = some (.slice p1 rs.length c1) ∧ M.RlR W (.slice p1 rs.length c1) rs ∧ Below w.heap.size w W) := fun W hW => ⟨(HK.out.over hW).cell 0, (HK.out.over hW).cell 1, (HK.out.over hW).cell 2, h.below (HB0.out.trans (hW.mono HB0.out.size)), HB0.out.trans (hW.mono HB0.out.size)⟩
  have HN : Hid (∀ W, Calls Tryz.prog 53 #[.int .u32 z] W fun e w' => e = .returned (.tuple #[.string (M.nmS z), .bool (M.isNr z)]) ∧ Below W.heap.size W w') := M.name_any z
  have HR : Hid (Rok rs) := hR
  have HD : Hid DecC := hT
  have HE : Hid (∀ c W, Calls Tryz.prog 67 #[.int .u16 c] W fun e w' => e = .returned (.bool (V.isIn V.endL c)) ∧ w' = W) := V.ends_any
  have HCt : Hid (∀ W v (l : List ByteArray), M.StrR W v l → l.length ≤ 9000000 → Calls Tryz.prog 54 #[v, .string (M.nmS z)] W fun e w' => e = .returned (.bool (M.namedB z l)) ∧ w' = W) := fun W v l h1 h2 => M.contains_any W v l (M.nmS z) h1 h2
  have HS0 : Hid (verI z k a (rs.map M.Xr.r) = [] ++ verI z k a ((rs.drop 0).map M.Xr.r)) := rfl
  have hl70 := hR.len
  unfold ansI cI at HA
  dsimp only at HA
  clear h hR hT HK
  generalize M.isNr z = zb at *
  generalize M.nmS z = nm at *
  go_enter Tryz.func128, Tryz.ntmps128
  go_wp2_with (first | (go_at_call 53; refine (HN.out _).mono ?_; rintro e w1 ⟨rfl, b1⟩; obtain ⟨-, -, c2, -, -⟩ := HX.out _ b1; have B1h : Hid (Below (w.alloc (Obj.cells #[.int .i64 k, .int .i64 a, .slice p1 rs.length c1] 39)).heap.size (w.alloc (Obj.cells #[.int .i64 k, .int .i64 a, .slice p1 rs.length c1] 39)) w1) := b1; clear b1))
  clear c2
  generalize (w.alloc (Obj.cells #[.int .i64 k, .int .i64 a, .slice p1 rs.length c1] 39)) = X0 at *
  go_loopw [7, 19] (fun v7 vi wr => ∃ (i : Nat) (l : List V.In), vi = .int .i64 i ∧ i ≤ rs.length ∧ l.length ≤ i * 141 ∧ verI z k a (rs.map M.Xr.r) = l ++ verI z k a ((rs.drop i).map M.Xr.r) ∧ wr.ownsRow X0.heap.size 60 4 v7 l.length (V.cellsI l) ∧ Below X0.heap.size X0 wr) (fun _ vi _ => rs.length - (intOf vi).toNat)
  case atStart => exact ⟨0, [], rfl, Nat.zero_le _, by simp, HS0.out, own_nil _ _, B1h.out⟩
  case round =>
    obtain ⟨i, l, rfl, hi, hll, hV, ho, hb⟩ := hrel
    obtain ⟨c0, c1', c2, hrl, Bw⟩ := HX.out wr hb
    clear B1h
    have HV : Hid (verI z k a (rs.map M.Xr.r) = l ++ verI z k a ((rs.drop i).map M.Xr.r)) := hV
    have HO : Hid (wr.ownsRow X0.heap.size 60 4 _ l.length (V.cellsI l)) := ho
    have HBh : Hid (Below X0.heap.size X0 wr) := hb
    have HBw : Hid (Below w.heap.size w wr) := Bw
    obtain ⟨a7, q7, rfl⟩ := own_slice ho
    have hlb : l.length ≤ 9870 := by omega
    clear ho hb Bw hV
    by_cases hlt : i < rs.length
    · have hi1 : (i : Int) < (rs.length : Int) := by omega
      obtain ⟨b1, o1, rfl, e1⟩ := M.rlR_at hrl hlt
      have hmem : rs[i] ∈ rs := List.getElem_mem hlt
      have hnc : M.StrR wr rs[i].vn rs[i].r.names ∧ M.CdR wr rs[i].vc rs[i].r.conds := by obtain ⟨_, _, _, _, _, _, hr⟩ := hrl; exact hr _ hmem
      have hxo := HR.out.ok _ hmem
      have hxn := HR.out.nam _ hmem
      have HSt : Hid (verI z k a ((rs.drop i).map M.Xr.r) = if M.namedB z rs[i].r.names = true then (if endsH (decI rs[i].r) = true then decI rs[i].r else decI rs[i].r ++ verI z k a ((rs.drop (i + 1)).map M.Xr.r)) else verI z k a ((rs.drop (i + 1)).map M.Xr.r)) := ver_at hlt
      have hdl : (decI rs[i].r).length ≤ 141 := by have := decI_len rs[i].r; have := hxo.1; omega
      have HCx : Hid (∀ W, Below wr.heap.size wr W → Calls Tryz.prog 54 #[rs[i].vn, .string nm] W fun e w' => e = .returned (.bool (M.namedB z rs[i].r.names)) ∧ w' = W) := fun W hW => HCt.out W _ _ (hnc.1.below hW) (by omega)
      have HDx : Hid (∀ W, Below wr.heap.size wr W → Calls Tryz.prog 153 #[.agg #[.int .i64 rs[i].r.k, .int .i64 rs[i].r.a, rs[i].vn, rs[i].vc]] W fun e w' => Tld W (decI rs[i].r) e w') := fun W hW => HD.out W _ _ _ _ _ (hnc.2.below hW) hxo.1 hxo.2
      generalize M.namedB z rs[i].r.names = nb at *
      generalize decI rs[i].r = one at *
      obtain ⟨p3, c3, e3⟩ : ∃ p c, rs[i].vn = .slice p rs[i].r.names.length c := by obtain ⟨p, c, e, _⟩ := hnc.1; exact ⟨p, c, e⟩
      obtain ⟨p4, c4, e4⟩ : ∃ p c, rs[i].vc = .slice p rs[i].r.conds.length c := by obtain ⟨p, c, e, _⟩ := hnc.2; exact ⟨p, c, e⟩
      clear hmem hnc hxo hxn hrl
      generalize rs[i] = x at *
      obtain ⟨⟨xk, xa, ns, cs⟩, vn, vc⟩ := x
      obtain ⟨q0, q1, q2, q3⟩ := e1
      dsimp only at q0 q1 q2 q3 HCx HDx e3 e4
      subst e3 e4
      have BE : Hid (Below wr.heap.size wr (wr.alloc (Obj.cells #[.int .i64 xk, .int .i64 xa, .slice p3 ns.length c3, .slice p4 cs.length c4] 87))) := below_new wr _
      cases nb with
      | false =>
        go_wp2_with (first | (go_at_call 54; refine (HCx.out _ BE.out).mono ?_; rintro e w2 ⟨rfl, hw2⟩; subst w2))
        go_roundw
        case rel => exact ⟨i + 1, l, by go_num, hlt, by omega, by rw [HV.out, HSt.out, if_neg (by simp)], HO.out.alloc _, HBh.out.alloc HBh.out.size _⟩
        case measure => simp [intOf]; omega
      | true =>
        have OE : Hid ((wr.alloc (Obj.cells #[.int .i64 xk, .int .i64 xa, .slice p3 ns.length c3, .slice p4 cs.length c4] 87)).ownsRow X0.heap.size 60 4 (.slice a7 l.length q7) l.length (V.cellsI l)) := HO.out.alloc _
        have BXE : Hid (Below X0.heap.size X0 (wr.alloc (Obj.cells #[.int .i64 xk, .int .i64 xa, .slice p3 ns.length c3, .slice p4 cs.length c4] 87))) := HBh.out.alloc HBh.out.size _
        go_upto_region 8 with (first
          | (go_at_call 54; refine (HCx.out _ BE.out).mono ?_; rintro e w2 ⟨rfl, hw2⟩; subst w2)
          | (go_at_call 153; refine (HDx.out _ BE.out).mono ?_; rintro e w3 ⟨v3, rfl, o3, b3⟩))
        have B3h : Hid (Below X0.heap.size X0 w3) := BXE.out.trans (b3.mono BXE.out.size)
        have O3l := own_over OE.out b3
        have A3 : Apart (.slice a7 l.length q7) v3 := apart_late OE.out o3 (Nat.le_refl _)
        clear OE BXE b3 HO HBh HBw
        cases one with
        | nil =>
          have HZ : Hid (verI z k a (rs.map M.Xr.r) = (l ++ []) ++ verI z k a ((rs.drop (i + 1)).map M.Xr.r)) := by unfold Hid; rw [HV.out, HSt.out]; simp [endsH]
          obtain ⟨a10, q10, rfl⟩ := own_slice o3
          go_wp2_with (first | (at_builtin; refine app_rows rfl (.tmp 30) (.tmp 31) rfl X0.heap.size _ _ l rfl O3l _ _ _ [] rfl o3 (by simp only [List.length_nil]; omega) B3h.out.size ?_; intro v4 w4 hG; go_frame))
          go_roundw
          case rel => exact ⟨i + 1, l ++ [], by go_num, hlt, by simp only [List.append_nil]; omega, HZ.out, by rw [List.length_append]; exact hG.own, hG.below O3l B3h.out B3h.out.size⟩
          case measure => simp [intOf]; omega
        | cons y r =>
          rcases o3.2 with ⟨_, h0⟩ | ⟨g, cap, cur, rfl, hrest⟩
          · rw [List.length_cons] at h0; omega
          · clear hrest
            have HEe : Hid (endsH (y :: r) = V.isIn V.endL y.c) := rfl
            have HEy : Hid (∀ W, Calls Tryz.prog 67 #[.int .u16 y.c] W fun e w' => e = .returned (.bool (V.isIn V.endL y.c)) ∧ w' = W) := HE.out y.c
            have hnl : (0 : Int) < ((y :: r).length : Int) := by rw [List.length_cons]; omega
            have hdl2 : (y :: r).length ≤ 141 := hdl
            have Hdl : Hid ((y :: r).length ≤ 141) := hdl
            generalize V.isIn V.endL y.c = eb at *
            have HY : Hid (∀ (W : World) (X : Nat), W.ownsRow X 60 4 (.slice (some ⟨g, 0, none⟩) (y :: r).length cap) (y :: r).length (V.cellsI (y :: r)) → W.cell? ⟨g, 0, none⟩ = some (.int .u16 y.c)) := fun W X h => by
              have := h.cells (g := g) rfl 0 (.int .u16 y.c) rfl
              rw [Addr.add_lit] at this
              exact this
            obtain ⟨N1, hN1⟩ : ∃ N1, (y :: r).length = N1 := ⟨_, rfl⟩
            rw [hN1] at o3 A3 hnl hdl2 HY
            cases eb with
            | true =>
              have HZ : Hid (verI z k a (rs.map M.Xr.r) = l ++ (y :: r)) := by unfold Hid; rw [HV.out, HSt.out, HEe.out]; simp
              rw [hN1]
              go_wp2_with (first | (at_builtin; refine app_rows rfl (.tmp 30) (.tmp 31) rfl X0.heap.size _ _ l rfl O3l _ _ _ (y :: r) rfl o3 (by omega) B3h.out.size ?_; intro v4 w4 hG; have y0 := HY.out _ _ (hG.kept o3 A3).1; go_frame) | (go_at_call 67; refine (HEy.out _).mono ?_; rintro e w5 ⟨rfl, hw5⟩; subst w5))
              go_ret
              exact ⟨_, rfl, by rw [HZ.out, List.length_append, hN1]; exact V.owns_lower hG.own HB0.out.size, (HX.out _ (hG.below O3l B3h.out B3h.out.size)).2.2.2.2⟩
            | false =>
              have HZ : Hid (verI z k a (rs.map M.Xr.r) = (l ++ (y :: r)) ++ verI z k a ((rs.drop (i + 1)).map M.Xr.r)) := by unfold Hid; rw [HV.out, HSt.out, HEe.out]; simp
              rw [hN1]
              go_wp2_with (first | (at_builtin; refine app_rows rfl (.tmp 30) (.tmp 31) rfl X0.heap.size _ _ l rfl O3l _ _ _ (y :: r) rfl o3 (by omega) B3h.out.size ?_; intro v4 w4 hG; have y0 := HY.out _ _ (hG.kept o3 A3).1; go_frame) | (go_at_call 67; refine (HEy.out _).mono ?_; rintro e w5 ⟨rfl, hw5⟩; subst w5))
              go_roundw
              case rel => exact ⟨i + 1, l ++ (y :: r), by go_num, hlt, by rw [List.length_append, hN1]; omega, HZ.out, by rw [List.length_append, hN1]; exact hG.own, hG.below O3l B3h.out B3h.out.size⟩
              case measure => simp [intOf]; omega
    · have hi1 : ¬ (i : Int) < (rs.length : Int) := by omega
      have HZ : Hid (verI z k a (rs.map M.Xr.r) = l ++ [⟨6, 0, 0, A.valZ k a⟩]) := by unfold Hid; rw [HV.out, ver_end hlt]; rfl
      generalize A.valZ k a = va at *
      clear hrl
      go_wp2_with (first
        | (go_at_call 49; refine (HA.out _).mono ?_; rintro e w3 ⟨rfl, b3⟩; have O3 := own_over HO.out b3; have B3 := HBh.out.trans (b3.mono HBh.out.size))
        | (at_builtin; refine app_rows rfl (.tmp 45) (.tmp 49) rfl X0.heap.size _ _ l rfl (O3.alloc _) X0.heap.size _ 1 [⟨6, 0, 0, va⟩] rfl (own_in w3 _ B3.size 6 0 0 va _ rfl) (by omega) (by have := B3.size; simp; omega) ?_; intro v4 w4 hG; go_frame))
      go_ret
      exact ⟨_, rfl, by rw [HZ.out, List.length_append]; exact V.owns_lower hG.own HB0.out.size, (HX.out _ (hG.below (O3.alloc _) (B3.alloc B3.size _) (by have := B3.size; simp; omega))).2.2.2.2⟩

end Go.Proofs.YtcckipimfgmmdaaGreatDoor
