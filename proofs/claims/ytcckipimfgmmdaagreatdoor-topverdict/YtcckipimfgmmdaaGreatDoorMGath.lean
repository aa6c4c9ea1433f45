/-
  The numbers of the calls that rules speak of, gathered in a map.
-/
import Derived.Test.YtcckipimfgmmdaaGreatDoorMNrs
import Derived.Test.YtcckipimfgmmdaaGreatDoorMSBase
import Derived.Test.YtcckipimfgmmdaaGreatDoorMTabM
import Derived.Maps.OwnSet
namespace Go.Proofs.YtcckipimfgmmdaaGreatDoor.M
open Go.RowKit Go.Maps

def litN (z : Int) : Lit := .int .u32 z
/-- a map, told by all that was stored into it. -/
def Mp (w : World) (B : Nat) (acc : List Int) : Prop := w.ownsMap Tryz.prog 23 (unitElem (H := Unit)) B acc.length (setOf (.agg []) (acc.map litN))
theorem Mp.lt {w : World} {B : Nat} {acc : List Int} (h : Mp w B acc) : B < w.heap.size := by
  obtain ⟨es, c, h1, _⟩ := h
  exact lt_of_block h1
theorem Mp.over {w w' : World} {B : Nat} {acc : List Int} (h : Mp w B acc) (hb : Below w.heap.size w w') : Mp w' B acc := by
  have hl := h.lt
  obtain ⟨es, c, h1, h2⟩ := h
  exact ⟨es, c, by rw [hb.block B hl]; exact h1, h2⟩
theorem Mp.made (w : World) : Mp (w.alloc (.map #[] 0)) w.heap.size [] := World.ownsMap_made _ _ _ _

theorem Mp.put {w : World} {B : Nat} {acc : List Int} {z : Int} (h : w.ownsMap Tryz.prog 23 (unitElem (H := Unit)) B (acc.length + 1) ((setOf (.agg []) (acc.map litN)).put (litN z) (.agg []))) : Mp w B (acc ++ [z]) := by
  unfold Mp
  rw [List.map_append, List.length_append]
  show w.ownsMap Tryz.prog 23 (unitElem (H := Unit)) B (acc.length + 1) (setOf (.agg []) (acc.map litN ++ [litN z]))
  rw [setOf_snoc]
  exact h

set_option maxRecDepth 100000 in
theorem lawU : Keyed Tryz.prog 23 := int_keyed Tryz.underlying23
theorem nrI_wf (s : ByteArray) : (Lit.int .u32 (nrI s)).wf = true := by
  have ht : (tab.all fun p => decide (p.2 ≤ 317)) = true := by kernel_rfl
  unfold nrI nrOf
  cases hq : tab.find? fun p => eqS p.1 s with
  | none => rfl
  | some p =>
    have hm := List.mem_of_find?_eq_some hq
    have hp := of_decide_eq_true (List.all_eq_true.1 ht p hm)
    show (Lit.int .u32 ((p.2 : Nat) : Int)).wf = true
    simp [Lit.wf, IntKind.min, IntKind.max, IntKind.signed, IntKind.bits]
    omega

/-- the numbers of names; of rules' names. -/
def nums (ns : List ByteArray) : List Int := (ns.filter knB).map nrI
def numsR (l : List Xr) : List Int := l.flatMap fun x => nums x.r.names
theorem nums_yes {ns : List ByteArray} {k : Nat} (h : k < ns.length) (hk : knB ns[k] = true) : nums (ns.take (k + 1)) = nums (ns.take k) ++ [nrI ns[k]] := by
  unfold nums
  rw [List.take_succ_eq_append_getElem h, List.filter_append, List.map_append, List.filter_cons_of_pos hk]
  rfl
theorem nums_no {ns : List ByteArray} {k : Nat} (h : k < ns.length) (hk : knB ns[k] = false) : nums (ns.take (k + 1)) = nums (ns.take k) := by
  unfold nums
  rw [List.take_succ_eq_append_getElem h, List.filter_append, List.filter_cons_of_neg (by simp [hk]), List.filter_nil, List.append_nil]
theorem nums_le (ns : List ByteArray) (k : Nat) : (nums (ns.take k)).length ≤ (nums ns).length := by
  have e : nums ns = nums (ns.take k) ++ nums (ns.drop k) := by
    unfold nums
    rw [← List.map_append, ← List.filter_append, List.take_append_drop]
  rw [e, List.length_append]
  omega
theorem numsR_step {l : List Xr} {i : Nat} (h : i < l.length) : numsR (l.take (i + 1)) = numsR (l.take i) ++ nums l[i].r.names := by
  unfold numsR
  rw [List.take_succ_eq_append_getElem h, List.flatMap_append, List.flatMap_cons, List.flatMap_nil, List.append_nil]
theorem numsR_le (l : List Xr) (i : Nat) : (numsR (l.take i)).length ≤ (numsR l).length := by
  have e : numsR l = numsR (l.take i) ++ numsR (l.drop i) := by
    unfold numsR
    rw [← List.flatMap_append, List.take_append_drop]
  rw [e, List.length_append]
  omega

def GthR (w : World) (l : List Xr) (e : Ending) (w' : World) : Prop := ∃ B, w.heap.size ≤ B ∧ e = .returned (.map (some B)) ∧ Mp w' B (numsR l) ∧ Below w.heap.size w w'

set_option maxRecDepth 100000 in
set_option maxHeartbeats 2000000 in
theorem gathered_any (w : World) (v : Value) (l : List Xr) (h : RlR w v l) (hl : l.length ≤ 1000) (hs : ∀ x ∈ l, x.r.names.length ≤ 9000000) (hN : (numsR l).length ≤ 9000000) :
    Calls Tryz.prog 86 #[v] w fun e w' => GthR w l e w' := by
  obtain ⟨p1, c1, rfl⟩ : ∃ p c, v = .slice p l.length c := by obtain ⟨p, c, e, _⟩ := h; exact ⟨p, c, e⟩
  have HNr : Hid (∀ s W, Calls Tryz.prog 122 #[.string s] W fun e w' => e = .returned (.tuple #[.int .u32 (nrI s), .bool (knB s)]) ∧ Below W.heap.size W w') := nr_any
  have HM : Hid (∀ x ∈ l, x.r.names.length ≤ 9000000) := hs
  have S0 : Hid (RlR w (.slice p1 l.length c1) l) := h
  have M0 : Hid (Mp (w.alloc (.map #[] 0)) w.heap.size []) := Mp.made w
  have B0 : Hid (Below w.heap.size w (w.alloc (.map #[] 0))) := below_new w _
  have HNN : Hid ((numsR l).length ≤ 9000000) := hN
  clear h hs hN
  have hmm := @run_makeMap Tryz.prog
  go_enter Tryz.func86, Tryz.ntmps86
  go_wp2_with fail
  clear hmm
  go_loopw [13] (fun vi wr => ∃ i : Nat, vi = .int .i64 i ∧ i ≤ l.length ∧ Mp wr w.heap.size (numsR (l.take i)) ∧ Below w.heap.size w wr) (fun vi _ => l.length - (intOf vi).toNat)
  case atStart => exact ⟨0, rfl, Nat.zero_le _, M0.out, B0.out⟩
  case round =>
    obtain ⟨i, rfl, hi, hmp, hb⟩ := hrel
    have HMP : Hid (Mp wr w.heap.size (numsR (l.take i))) := hmp
    have HB : Hid (Below w.heap.size w wr) := hb
    clear hmp
    by_cases hlt : i < l.length
    · have hi1 : (i : Int) < (l.length : Int) := by omega
      obtain ⟨b1, o1, rfl, e1⟩ := rlR_at (S0.out.below hb) hlt
      have hmem : l[i] ∈ l := List.getElem_mem hlt
      have HST : Hid (numsR (l.take (i + 1)) = numsR (l.take i) ++ nums l[i].r.names) := numsR_step hlt
      have HLE : Hid ((numsR (l.take (i + 1))).length ≤ 9000000) := Nat.le_trans (numsR_le l (i + 1)) HNN.out
      have HSR : Hid (∀ W, Below w.heap.size w W → StrR W l[i].vn l[i].r.names) := fun W hW => by
        obtain ⟨_, _, _, _, _, _, hr⟩ := S0.out.below hW
        exact (hr _ hmem).1
      have hln : l[i].r.names.length ≤ 9000000 := HM.out _ hmem
      obtain ⟨p3, c3, e3⟩ : ∃ p c, l[i].vn = .slice p l[i].r.names.length c := by obtain ⟨_, _, _, _, _, _, hr⟩ := S0.out; obtain ⟨p, c, e, _⟩ := (hr _ hmem).1; exact ⟨p, c, e⟩
      obtain ⟨p4, n4, c4, e4⟩ : ∃ p n c, l[i].vc = .slice p n c := by obtain ⟨_, _, _, _, _, _, hr⟩ := S0.out; obtain ⟨p, c, e, _⟩ := (hr _ hmem).2; exact ⟨p, _, c, e⟩
      clear hmem
      generalize l[i] = x at *
      obtain ⟨⟨xk, xa, ns, cs⟩, vn, vc⟩ := x
      obtain ⟨q0, q1, q2, q3⟩ := e1
      dsimp only at q0 q1 q2 q3 HST HSR hln e3 e4
      subst e3 e4
      have BE : Hid (Below w.heap.size w (wr.alloc (Obj.cells #[.int .i64 xk, .int .i64 xa, .slice p3 ns.length c3, .slice p4 n4 c4] 87))) := HB.out.alloc HB.out.size _
      have ME : Hid (Mp (wr.alloc (Obj.cells #[.int .i64 xk, .int .i64 xa, .slice p3 ns.length c3, .slice p4 n4 c4] 87)) w.heap.size (numsR (l.take i) ++ nums (ns.take 0))) := by
        show Mp _ _ _
        rw [show numsR (l.take i) ++ nums (ns.take 0) = numsR (l.take i) from by simp [nums]]
        exact HMP.out.over (below_new wr _)
      generalize numsR (l.take i) = acc at *
      clear hb
      go_wp2_with fail
      go_loopw [20] (fun vj wz => ∃ j : Nat, vj = .int .i64 j ∧ j ≤ ns.length ∧ Mp wz w.heap.size (acc ++ nums (ns.take j)) ∧ Below w.heap.size w wz) (fun vj _ => ns.length - (intOf vj).toNat)
      case atStart => exact ⟨0, rfl, Nat.zero_le _, ME.out, BE.out⟩
      case round =>
        obtain ⟨j, rfl, hj, hmp, hb⟩ := hrel
        have HMP2 : Hid (Mp wr w.heap.size (acc ++ nums (ns.take j))) := hmp
        have HB2 : Hid (Below w.heap.size w wr) := hb
        clear hmp
        by_cases hlt2 : j < ns.length
        · have hj1 : (j : Int) < (ns.length : Int) := by omega
          obtain ⟨b3, o3, rfl, e5⟩ := strR_at (HSR.out wr hb) hlt2
          have HX : Hid (∀ W, Calls Tryz.prog 122 #[.string ns[j]] W fun e w' => e = .returned (.tuple #[.int .u32 (nrI ns[j]), .bool (knB ns[j])]) ∧ Below W.heap.size W w') := HNr.out ns[j]
          have HY : Hid (knB ns[j] = true → nums (ns.take (j + 1)) = nums (ns.take j) ++ [nrI ns[j]]) := nums_yes hlt2
          have HZ : Hid (knB ns[j] = false → nums (ns.take (j + 1)) = nums (ns.take j)) := nums_no hlt2
          have hkey : keyOf Tryz.prog 23 (.int .u32 (nrI ns[j])) = some (litN (nrI ns[j])) := keyOf_int_mk Tryz.underlying23 (nrI_wf _)
          have hle : (acc ++ nums (ns.take j)).length ≤ 9000000 := by
            have c1 := HLE.out
            rw [HST.out, List.length_append] at c1
            have c2 := nums_le ns j
            rw [List.length_append]
            omega
          clear hb
          generalize knB ns[j] = q at *
          generalize nrI ns[j] = z at *
          generalize ns[j] = s at *
          cases q with
          | true =>
            go_wp2_with (first | (go_at_call 122; refine (HX.out _).mono ?_; rintro e w1 ⟨rfl, b1⟩) | (at_mapUpdate; refine wpList_mapUpdate_own _ rfl _ _ _ 160 rfl 23 195 lawU Tryz.underlying160 (unitElem (H := Unit)) w.heap.size (acc ++ nums (ns.take j)).length _ rfl (HMP2.out.over b1) (by unfold maxLen; omega) _ _ _ rfl rfl hkey _ [] unitElem_mk ?_; intro w2 hown2 hgrow2) | go_in)
            have hB1 := HB2.out.trans (b1.mono HB2.out.size)
            exact ⟨⟨j + 1, by go_num, hlt2, by rw [HY.out trivial, ← List.append_assoc]; exact Mp.put hown2, hB1.grown hgrow2 hB1.size (fun j hj => by cases hj; exact Nat.le_refl _)⟩, by simp [intOf]; omega⟩
          | false =>
            go_wp2_with (first | (go_at_call 122; refine (HX.out _).mono ?_; rintro e w1 ⟨rfl, b1⟩))
            go_roundw
            case rel => exact ⟨j + 1, by go_num, hlt2, by rw [HZ.out trivial]; exact HMP2.out.over b1, HB2.out.trans (b1.mono HB2.out.size)⟩
            case measure => simp [intOf]; omega
        · have hj1 : ¬ (j : Int) < (ns.length : Int) := by omega
          have HE : Hid (Mp wr w.heap.size (numsR (l.take (i + 1)))) := by
            show Mp _ _ _
            rw [HST.out]
            have := HMP2.out
            rw [List.take_of_length_le (by omega)] at this
            exact this
          clear hb
          go_wp2_with fail
          go_roundw
          case rel => exact ⟨i + 1, by go_num, hlt, HE.out, HB2.out⟩
          case measure => simp [intOf]; omega
    · have hi1 : ¬ (i : Int) < (l.length : Int) := by omega
      clear hb
      go_wp2_with fail
      go_ret
      exact ⟨w.heap.size, Nat.le_refl _, rfl, by have := HMP.out; rw [List.take_of_length_le (by omega)] at this; exact this, HB.out⟩

end Go.Proofs.YtcckipimfgmmdaaGreatDoor.M
