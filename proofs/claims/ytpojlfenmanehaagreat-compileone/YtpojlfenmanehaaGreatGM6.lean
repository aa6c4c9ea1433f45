/-
  The numbers of which rules speak; how much rules are.
-/
import Derived.Test.YtpojlfenmanehaaGreatGM3
import Derived.Test.YtpojlfenmanehaaGreatGM1
import Derived.Maps.OwnSet
import Derived.Test.YtpojlfenmanehaaGreatGS2
import Derived.Maps.RangeWalk
import Derived.Test.YtpojlfenmanehaaGreatGM4
import Derived.Sort.OwnSorted
import Derived.Test.YtpojlfenmanehaaGreatGM5
import Derived.BigQuiet
namespace Go.Proofs.YtpojlfenmanehaaGreat.M
open Go.RowKit Go.Maps

def litN (z : Int) : Lit := .int .u32 z
/-- a map, told by all that was stored into it. -/
def Mp (w : World) (B : Nat) (acc : List Int) : Prop := w.ownsMap Tryz.prog 37 (unitElem (H := Unit)) B acc.length (setOf (.agg []) (acc.map litN))
theorem Mp.lt {w : World} {B : Nat} {acc : List Int} (h : Mp w B acc) : B < w.heap.size := by
  obtain ⟨es, c, h1, _⟩ := h
  exact lt_of_block h1
theorem Mp.over {w w' : World} {B : Nat} {acc : List Int} (h : Mp w B acc) (hb : Below w.heap.size w w') : Mp w' B acc := by
  have hl := h.lt
  obtain ⟨es, c, h1, h2⟩ := h
  exact ⟨es, c, by rw [hb.block B hl]; exact h1, h2⟩
theorem Mp.made (w : World) : Mp (w.alloc (.map #[] 0)) w.heap.size [] := World.ownsMap_made _ _ _ _

theorem Mp.put {w : World} {B : Nat} {acc : List Int} {z : Int} (h : w.ownsMap Tryz.prog 37 (unitElem (H := Unit)) B (acc.length + 1) ((setOf (.agg []) (acc.map litN)).put (litN z) (.agg []))) : Mp w B (acc ++ [z]) := by
  unfold Mp
  rw [List.map_append, List.length_append]
  show w.ownsMap Tryz.prog 37 (unitElem (H := Unit)) B (acc.length + 1) (setOf (.agg []) (acc.map litN ++ [litN z]))
  rw [setOf_snoc]
  exact h

set_option maxRecDepth 100000 in
theorem lawU : Keyed Tryz.prog 37 := int_keyed Tryz.underlying37
theorem nrI_wf (s : ByteArray) : (Lit.int .u32 (nrI s)).wf = true := by
  have ht : (tab.all fun p => decide (p.2 ≤ 317)) = true := by kernel_rfl
  unfold nrI nrOf
  cases hq : tab.find? fun p => eqS p.1 s with
  | none => rfl
  | some p =>
    have hm := List.mem_of_find?_eq_some hq
    have hp := of_decide_eq_true (List.all_eq_true.1 ht p hm)
    show (Lit.int .u32 ((p.2 : Nat) : Int)).wf = true
    simp [Lit.wf, IntKind.min, IntKind.max, IntKind.signed, IntKind.bits]
    omega

/-- the numbers of names; of rules' names. -/
def nums (ns : List ByteArray) : List Int := (ns.filter knB).map nrI
def numsR (l : List Xr) : List Int := l.flatMap fun x => nums x.r.names
theorem nums_yes {ns : List ByteArray} {k : Nat} (h : k < ns.length) (hk : knB ns[k] = true) : nums (ns.take (k + 1)) = nums (ns.take k) ++ [nrI ns[k]] := by
  unfold nums
  rw [List.take_succ_eq_append_getElem h, List.filter_append, List.map_append, List.filter_cons_of_pos hk]
  rfl
theorem nums_no {ns : List ByteArray} {k : Nat} (h : k < ns.length) (hk : knB ns[k] = false) : nums (ns.take (k + 1)) = nums (ns.take k) := by
  unfold nums
  rw [List.take_succ_eq_append_getElem h, List.filter_append, List.filter_cons_of_neg (by simp [hk]), List.filter_nil, List.append_nil]
theorem nums_le (ns : List ByteArray) (k : Nat) : (nums (ns.take k)).length ≤ (nums ns).length := by
  have e : nums ns = nums (ns.take k) ++ nums (ns.drop k) := by
    unfold nums
    rw [← List.map_append, ← List.filter_append, List.take_append_drop]
  rw [e, List.length_append]
  omega
theorem numsR_step {l : List Xr} {i : Nat} (h : i < l.length) : numsR (l.take (i + 1)) = numsR (l.take i) ++ nums l[i].r.names := by
  unfold numsR
  rw [List.take_succ_eq_append_getElem h, List.flatMap_append, List.flatMap_cons, List.flatMap_nil, List.append_nil]
theorem numsR_le (l : List Xr) (i : Nat) : (numsR (l.take i)).length ≤ (numsR l).length := by
  have e : numsR l = numsR (l.take i) ++ numsR (l.drop i) := by
    unfold numsR
    rw [← List.flatMap_append, List.take_append_drop]
  rw [e, List.length_append]
  omega

def GthR (w : World) (l : List Xr) (e : Ending) (w' : World) : Prop := ∃ B, w.heap.size ≤ B ∧ e = .returned (.map (some B)) ∧ Mp w' B (numsR l) ∧ Below w.heap.size w w'

set_option maxRecDepth 100000 in
set_option maxHeartbeats 2000000 in
theorem gathered_any (w : World) (v : Value) (l : List Xr) (h : RlR w v l) (hl : l.length ≤ 1000) (hs : ∀ x ∈ l, x.r.names.length ≤ 9000000) (hN : (numsR l).length ≤ 9000000) :
    Calls Tryz.prog 65 #[v] w fun e w' => GthR w l e w' := by
  obtain ⟨p1, c1, rfl⟩ : ∃ p c, v = .slice p l.length c := by obtain ⟨p, c, e, _⟩ := h; exact ⟨p, c, e⟩
  have HNr : Hid (∀ s W, Calls Tryz.prog 105 #[.string s] W fun e w' => e = .returned (.tuple #[.int .u32 (nrI s), .bool (knB s)]) ∧ Below W.heap.size W w') := nr_any
  have HM : Hid (∀ x ∈ l, x.r.names.length ≤ 9000000) := hs
  have S0 : Hid (RlR w (.slice p1 l.length c1) l) := h
  have M0 : Hid (Mp (w.alloc (.map #[] 0)) w.heap.size []) := Mp.made w
  have B0 : Hid (Below w.heap.size w (w.alloc (.map #[] 0))) := below_new w _
  have HNN : Hid ((numsR l).length ≤ 9000000) := hN
  clear h hs hN
  have hmm := @run_makeMap Tryz.prog
  go_enter Tryz.func65, Tryz.ntmps65
  go_wp2_with fail
  clear hmm
  go_loopw [13] (fun vi wr => ∃ i : Nat, vi = .int .i64 i ∧ i ≤ l.length ∧ Mp wr w.heap.size (numsR (l.take i)) ∧ Below w.heap.size w wr) (fun vi _ => l.length - (intOf vi).toNat)
  case atStart => exact ⟨0, rfl, Nat.zero_le _, M0.out, B0.out⟩
  case round =>
    obtain ⟨i, rfl, hi, hmp, hb⟩ := hrel
    have HMP : Hid (Mp wr w.heap.size (numsR (l.take i))) := hmp
    have HB : Hid (Below w.heap.size w wr) := hb
    clear hmp
    by_cases hlt : i < l.length
    · have hi1 : (i : Int) < (l.length : Int) := by omega
      obtain ⟨b1, o1, rfl, e1⟩ := rlR_at (S0.out.below hb) hlt
      have hmem : l[i] ∈ l := List.getElem_mem hlt
      have HST : Hid (numsR (l.take (i + 1)) = numsR (l.take i) ++ nums l[i].r.names) := numsR_step hlt
      have HLE : Hid ((numsR (l.take (i + 1))).length ≤ 9000000) := Nat.le_trans (numsR_le l (i + 1)) HNN.out
      have HSR : Hid (∀ W, Below w.heap.size w W → StrR W l[i].vn l[i].r.names) := fun W hW => by
        obtain ⟨_, _, _, _, _, _, hr⟩ := S0.out.below hW
        exact (hr _ hmem).1
      have hln : l[i].r.names.length ≤ 9000000 := HM.out _ hmem
      obtain ⟨p3, c3, e3⟩ : ∃ p c, l[i].vn = .slice p l[i].r.names.length c := by obtain ⟨_, _, _, _, _, _, hr⟩ := S0.out; obtain ⟨p, c, e, _⟩ := (hr _ hmem).1; exact ⟨p, c, e⟩
      obtain ⟨p4, n4, c4, e4⟩ : ∃ p n c, l[i].vc = .slice p n c := by obtain ⟨_, _, _, _, _, _, hr⟩ := S0.out; obtain ⟨p, c, e, _⟩ := (hr _ hmem).2; exact ⟨p, _, c, e⟩
      clear hmem
      generalize l[i] = x at *
      obtain ⟨⟨xk, xa, ns, cs⟩, vn, vc⟩ := x
      obtain ⟨q0, q1, q2, q3⟩ := e1
      dsimp only at q0 q1 q2 q3 HST HSR hln e3 e4
      subst e3 e4
      have BE : Hid (Below w.heap.size w (wr.alloc (Obj.cells #[.int .i64 xk, .int .i64 xa, .slice p3 ns.length c3, .slice p4 n4 c4] 58))) := HB.out.alloc HB.out.size _
      have ME : Hid (Mp (wr.alloc (Obj.cells #[.int .i64 xk, .int .i64 xa, .slice p3 ns.length c3, .slice p4 n4 c4] 58)) w.heap.size (numsR (l.take i) ++ nums (ns.take 0))) := by
        show Mp _ _ _
        rw [show numsR (l.take i) ++ nums (ns.take 0) = numsR (l.take i) from by simp [nums]]
        exact HMP.out.over (below_new wr _)
      generalize numsR (l.take i) = acc at *
      clear hb
      go_wp2_with fail
      go_loopw [20] (fun vj wz => ∃ j : Nat, vj = .int .i64 j ∧ j ≤ ns.length ∧ Mp wz w.heap.size (acc ++ nums (ns.take j)) ∧ Below w.heap.size w wz) (fun vj _ => ns.length - (intOf vj).toNat)
      case atStart => exact ⟨0, rfl, Nat.zero_le _, ME.out, BE.out⟩
      case round =>
        obtain ⟨j, rfl, hj, hmp, hb⟩ := hrel
        have HMP2 : Hid (Mp wr w.heap.size (acc ++ nums (ns.take j))) := hmp
        have HB2 : Hid (Below w.heap.size w wr) := hb
        clear hmp
        by_cases hlt2 : j < ns.length
        · have hj1 : (j : Int) < (ns.length : Int) := by omega
          obtain ⟨b3, o3, rfl, e5⟩ := strR_at (HSR.out wr hb) hlt2
          have HX : Hid (∀ W, Calls Tryz.prog 105 #[.string ns[j]] W fun e w' => e = .returned (.tuple #[.int .u32 (nrI ns[j]), .bool (knB ns[j])]) ∧ Below W.heap.size W w') := HNr.out ns[j]
          have HY : Hid (knB ns[j] = true → nums (ns.take (j + 1)) = nums (ns.take j) ++ [nrI ns[j]]) := nums_yes hlt2
          have HZ : Hid (knB ns[j] = false → nums (ns.take (j + 1)) = nums (ns.take j)) := nums_no hlt2
          have hkey : keyOf Tryz.prog 37 (.int .u32 (nrI ns[j])) = some (litN (nrI ns[j])) := keyOf_int_mk Tryz.underlying37 (nrI_wf _)
          have hle : (acc ++ nums (ns.take j)).length ≤ 9000000 := by
            have c1 := HLE.out
            rw [HST.out, List.length_append] at c1
            have c2 := nums_le ns j
            rw [List.length_append]
            omega
          clear hb
          generalize knB ns[j] = q at *
          generalize nrI ns[j] = z at *
          generalize ns[j] = s at *
          cases q with
          | true =>
            go_wp2_with (first | (go_at_call 105; refine (HX.out _).mono ?_; rintro e w1 ⟨rfl, b1⟩) | (at_mapUpdate; refine wpList_mapUpdate_own _ rfl _ _ _ 112 rfl 37 146 lawU Tryz.underlying112 (unitElem (H := Unit)) w.heap.size (acc ++ nums (ns.take j)).length _ rfl (HMP2.out.over b1) (by unfold maxLen; omega) _ _ _ rfl rfl hkey _ [] unitElem_mk ?_; intro w2 hown2 hgrow2) | go_in)
            have hB1 := HB2.out.trans (b1.mono HB2.out.size)
            exact ⟨⟨j + 1, by go_num, hlt2, by rw [HY.out trivial, ← List.append_assoc]; exact Mp.put hown2, hB1.grown hgrow2 hB1.size (fun j hj => by cases hj; exact Nat.le_refl _)⟩, by simp [intOf]; omega⟩
          | false =>
            go_wp2_with (first | (go_at_call 105; refine (HX.out _).mono ?_; rintro e w1 ⟨rfl, b1⟩))
            go_roundw
            case rel => exact ⟨j + 1, by go_num, hlt2, by rw [HZ.out trivial]; exact HMP2.out.over b1, HB2.out.trans (b1.mono HB2.out.size)⟩
            case measure => simp [intOf]; omega
        · have hj1 : ¬ (j : Int) < (ns.length : Int) := by omega
          have HE : Hid (Mp wr w.heap.size (numsR (l.take (i + 1)))) := by
            show Mp _ _ _
            rw [HST.out]
            have := HMP2.out
            rw [List.take_of_length_le (by omega)] at this
            exact this
          clear hb
          go_wp2_with fail
          go_roundw
          case rel => exact ⟨i + 1, by go_num, hlt, HE.out, HB2.out⟩
          case measure => simp [intOf]; omega
    · have hi1 : ¬ (i : Int) < (l.length : Int) := by omega
      clear hb
      go_wp2_with fail
      go_ret
      exact ⟨w.heap.size, Nat.le_refl _, rfl, by have := HMP.out; rw [List.take_of_length_le (by omega)] at this; exact this, HB.out⟩

end Go.Proofs.YtpojlfenmanehaaGreat.M

namespace Go.Proofs.YtpojlfenmanehaaGreat.M
open Go.RowKit Go.Maps
open Go.Sort (PermIn SortedIn)

/-- what a map holds that was told by what was stored into it. -/
abbrev setN (acc : List Int) : DataW Unit := setOf (.agg []) (acc.map litN)
theorem key_litN (acc : List Int) : ∀ x ∈ acc.map litN, WideAt.IsKeyLit x := by
  intro x hx
  obtain ⟨z, _, rfl⟩ := List.mem_map.1 hx
  exact trivial
theorem same_litN (x y : Int) : (litN x).sameKey (litN y) = decide (x = y) := by
  simp [litN, Lit.sameKey]
theorem has_setN (acc : List Int) (z : Int) : has (setN acc) (litN z) = true ↔ z ∈ acc := by
  rw [has_setOf _ _ _ (key_litN acc), List.any_map, List.any_eq_true]
  constructor
  · rintro ⟨x, hx, h⟩
    have h2 : (litN x).sameKey (litN z) = true := h
    rw [same_litN] at h2
    exact of_decide_eq_true h2 ▸ hx
  · intro h
    exact ⟨z, h, by show (litN z).sameKey (litN z) = true; rw [same_litN]; simp⟩

/-- the keys met so far. -/
def ColN (acc : List Int) (left : Lit → Bool) (ss : List Int) : Prop := ss.Nodup ∧ ∀ x, x ∈ ss ↔ (x ∈ acc ∧ left (litN x) = false)
theorem ColN.start (acc : List Int) : ColN acc (has (setN acc)) [] := ⟨List.nodup_nil, fun x => by
  constructor
  · intro h; cases h
  · rintro ⟨h1, h2⟩
    rw [(has_setN acc x).2 h1] at h2
    cases h2⟩
theorem ColN.step {acc ss : List Int} {left : Lit → Bool} {x : Int} (h : ColN acc left ss) (hl : left (litN x) = true) (hx : x ∈ acc) : ColN acc (fun z => left z && !z.sameKey (litN x)) (ss ++ [x]) := by
  have hn : x ∉ ss := fun hm => by have := ((h.2 x).1 hm).2; rw [hl] at this; cases this
  refine ⟨List.nodup_append.2 ⟨h.1, by simp, fun a ha b hb => by rw [List.mem_singleton] at hb; subst hb; intro e; subst e; exact hn ha⟩, fun z => ?_⟩
  rw [List.mem_append, List.mem_singleton, h.2 z]
  show _ ↔ z ∈ acc ∧ (left (litN z) && !(litN z).sameKey (litN x)) = false
  rw [same_litN]
  by_cases e : z = x
  · subst e
    simp [hx]
  · simp [e]
theorem ColN.done {acc ss : List Int} {left : Lit → Bool} (h : ColN acc left ss) (hl : ∀ k, left k = false) (x : Int) : x ∈ ss ↔ x ∈ acc := by
  rw [h.2 x]
  exact ⟨fun h => h.1, fun h => ⟨h, hl _⟩⟩

/-- no more than the table has. -/
theorem nodup_le : ∀ (l m : List Int), l.Nodup → (∀ x ∈ l, x ∈ m) → l.length ≤ m.length
  | [], _, _, _ => Nat.zero_le _
  | x :: l, m, hn, hs => by
    have hx : x ∈ m := hs x (List.mem_cons_self ..)
    have h1 := nodup_le l (m.erase x) (List.nodup_cons.1 hn).2 fun y hy => by
      have hne : y ≠ x := fun e => (List.nodup_cons.1 hn).1 (e ▸ hy)
      exact (List.mem_erase_of_ne hne).2 (hs y (List.mem_cons_of_mem _ hy))
    rw [List.length_erase_of_mem hx] at h1
    have h2 := List.length_pos_of_mem hx
    rw [List.length_cons]
    omega
def tabI : List Int := tab.map fun p => ((p.2 : Nat) : Int)
theorem nums_tab {ns : List ByteArray} {z : Int} (h : z ∈ nums ns) : z ∈ tabI := by
  unfold nums at h
  obtain ⟨s, hs, rfl⟩ := List.mem_map.1 h
  have hk := (List.mem_filter.1 hs).2
  unfold knB nrOf at hk
  unfold nrI nrOf
  cases hq : tab.find? fun p => eqS p.1 s with
  | none => rw [hq] at hk; cases hk
  | some p => exact List.mem_map.2 ⟨p, List.mem_of_find?_eq_some hq, rfl⟩
theorem numsR_tab {l : List Xr} {z : Int} (h : z ∈ numsR l) : z ∈ tabI := by
  obtain ⟨x, _, hx⟩ := List.mem_flatMap.1 h
  exact nums_tab hx
theorem tabI_len : tabI.length = 30 := rfl
theorem col_len {l : List Xr} {left : Lit → Bool} {ss : List Int} (h : ColN (numsR l) left ss) : ss.length ≤ 30 :=
  tabI_len ▸ nodup_le ss tabI h.1 fun x hx => numsR_tab ((h.2 x).1 hx).1

/-- rising. -/
def Rise (ts : List Int) : Prop := ts.Pairwise (· < ·)
theorem dst_of_nodup {ss : List Int} (h : ss.Nodup) : Dst 0 ss.length ss.toArray := by
  intro i j _ hij hj
  have h1 := List.pairwise_iff_getElem.1 h i j (by omega) hj hij
  rw [getElem!_pos ss.toArray i (by simpa using Nat.lt_trans hij hj), getElem!_pos ss.toArray j (by simpa using hj)]
  simpa using h1
theorem rise_of {ss : List Int} {d' : Array Int} (hn : ss.Nodup) (hp : PermIn 0 ss.length ss.toArray d') (hs : SortedIn ltZ 0 ss.length d') : Rise d'.toList ∧ d'.toList.Perm ss ∧ d'.size = ss.length := by
  have hsz : d'.size = ss.length := by have := hp.1; simpa using this
  have hD : Dst 0 ss.length d' := (dst_of_nodup hn).perm hp (by simp)
  refine ⟨List.pairwise_iff_getElem.2 fun i j hi hj hij => ?_, ?_, hsz⟩
  · have hi' : i < d'.size := by simpa using hi
    have hj' : j < d'.size := by simpa using hj
    have h1 := hs i j (Nat.zero_le _) hij (by omega)
    have h2 := hD i j (Nat.zero_le _) hij (by omega)
    rw [getElem!_pos d' i hi', getElem!_pos d' j hj'] at h1 h2
    have h3 := ltZ_false.1 h1
    simp only [Array.getElem_toList]
    omega
  · have h1 := hp.2.2
    rw [show d'.extract 0 ss.length = d' from by rw [← hsz]; simp, show ss.toArray.extract 0 ss.length = ss.toArray from by simp] at h1
    exact h1

/-- numbers that a slice leads to. -/
def NzR (w : World) (v : Value) (l : List Int) : Prop :=
  ∃ a cap, v = .slice a l.length cap ∧ l.length ≤ cap ∧ cap ≤ 9223372036854775807 ∧ (0 < l.length → ∃ b o, a = some ⟨b, o, none⟩ ∧ ∀ (i : Nat) (x : Int), l[i]? = some x → w.cell? ⟨b, o + i, none⟩ = some (.int .u32 x))
theorem NzR.below {w w' : World} {v : Value} {l : List Int} (h : NzR w v l) (hb : Below w.heap.size w w') : NzR w' v l := by
  obtain ⟨a, cap, rfl, h1, h2, hc⟩ := h
  refine ⟨a, cap, rfl, h1, h2, fun h0 => ?_⟩
  obtain ⟨b, o, e, hx⟩ := hc h0
  refine ⟨b, o, e, fun i x hi => ?_⟩
  have h3 := hx i x hi
  exact cellS h3 (hb.block b (World.block_lt_of_cell? w _ h3))

end Go.Proofs.YtpojlfenmanehaaGreat.M

namespace Go.Proofs.YtpojlfenmanehaaGreat.M
open Go.RowKit Go.Maps
open Go.Sort (PermIn SortedIn)

theorem Tryz.infoU : (Tryz.prog.info? 37).map (fun i => (i.zero, i.size, i.bytes)) = some (some (.int .u32 0), 1, 4) := by kernel_rfl
def cellsZ (l : List Int) : List Value := l.map (Value.int .u32)

/-- the loop over the map. -/
def NbL (w : World) (B r n base : Nat) (acc : List Int) (v : Value) (wr : World) : Prop :=
  ∃ (left : Lit → Bool) (cnt : Nat) (ss : List Int), wr.ranges Tryz.prog 37 (unitElem (H := Unit)) B r n (setN acc) left cnt ∧ ColN acc left ss ∧ wr.ownsRow base 37 1 v ss.length (cellsZ ss) ∧ Below w.heap.size w wr ∧ base ≤ wr.heap.size

/-- what Numbers tells. -/
def NmbR (w : World) (l : List Xr) (e : Ending) (w' : World) : Prop :=
  ∃ v' ts, e = .returned v' ∧ NzR w' v' ts ∧ Rise ts ∧ (∀ z, z ∈ ts ↔ z ∈ numsR l) ∧ Below w.heap.size w w'

theorem nbl_end {w wr w' : World} {l : List Xr} {g cap : Nat} {ss : List Int} {d' : Array Int} {tl : List Value} (hs : ∀ z, z ∈ ss ↔ z ∈ numsR l) (hn : ss.Nodup) (hp : PermIn 0 ss.length ss.toArray d') (hso : SortedIn ltZ 0 ss.length d') (hsw : Sw wr g tl d' w')
    (hc1 : ss.length ≤ cap) (hc2 : cap ≤ maxLen) (hg : w.heap.size ≤ g) (hb : Below w.heap.size w wr) : NmbR w l (.returned (.slice (some ⟨g, 0, none⟩) ss.length cap)) w' := by
  obtain ⟨h1, h2, h3⟩ := rise_of hn hp hso
  refine ⟨_, d'.toList, rfl, ⟨some ⟨g, 0, none⟩, cap, by rw [Array.length_toList]; exact congrArg (fun n => Value.slice (some ⟨g, 0, none⟩) n cap) h3.symm, by rw [Array.length_toList, h3]; exact hc1, by have := hc2; unfold maxLen at this; omega, fun _ => ⟨g, 0, rfl, fun i x hi => ?_⟩⟩, h1, fun z => (h2.mem_iff).trans (hs z), ?_⟩
  · have hi2 : i < d'.size := by have := (List.getElem?_eq_some_iff.1 hi).1; simpa using this
    have h4 := hsw.cell i hi2
    rw [Nat.zero_add, h4]
    rw [getElem!_pos d' i hi2]
    have h5 := (List.getElem?_eq_some_iff.1 hi).2
    simp only [Array.getElem_toList] at h5
    rw [h5]
  · exact hb.grown hsw.grow hb.size (fun j hj => by cases hj; exact hg)

theorem blk_of_row {w : World} {g : Nat} {cur : Array Value} {ss : List Int} (hb : w.heap[g]? = some (.cells cur 37 (0, 0))) (ht : cur.toList.take (ss.length * 1) = cellsZ ss) : Blk w g 37 (cellsA ss.toArray ++ cur.toList.drop (ss.length * 1)) := by
  unfold Blk
  rw [hb]
  have h1 : cellsA ss.toArray = cellsZ ss := rfl
  rw [h1, ← ht, List.take_append_drop]

set_option maxRecDepth 100000 in
set_option maxHeartbeats 2000000 in
theorem numbers_any (w : World) (k a : Int) (v : Value) (l : List Xr) (h : RlR w v l) (hl : l.length ≤ 1000) (hs : ∀ x ∈ l, x.r.names.length ≤ 9000000) (hN : (numsR l).length ≤ 9000000) :
    Calls Tryz.prog 36 #[.agg #[.int .i64 k, .int .i64 a, v]] w fun e w' => NmbR w l e w' := by
  obtain ⟨p1, c1, rfl⟩ : ∃ p c, v = .slice p l.length c := by obtain ⟨p, c, e, _⟩ := h; exact ⟨p, c, e⟩
  have B0 : Hid (Below w.heap.size w (w.alloc (Obj.cells #[.int .i64 k, .int .i64 a, .slice p1 l.length c1] 26))) := below_new w _
  have HG : Hid (Calls Tryz.prog 65 #[.slice p1 l.length c1] (w.alloc (Obj.cells #[.int .i64 k, .int .i64 a, .slice p1 l.length c1] 26)) fun e w' => GthR (w.alloc (Obj.cells #[.int .i64 k, .int .i64 a, .slice p1 l.length c1] 26)) l e w') := gathered_any _ _ l (h.below (below_new w _)) hl hs hN
  have t2 : (w.alloc (Obj.cells #[.int .i64 k, .int .i64 a, .slice p1 l.length c1] 26)).cell? ⟨w.heap.size, 2, none⟩ = some (.slice p1 l.length c1) := (blk_new w _ _).cell 2
  obtain ⟨i0, hi, hz0, hz1, hz2⟩ := info_parts Tryz.infoU
  have HSrt : Hid (∀ (g n cap : Nat) (tl : List Value) (d : Array Int) (W : World), Blk W g 37 (cellsA d ++ tl) → d.size = n → n ≤ 49 → Dst 0 n d → Calls Tryz.prog 66 #[.slice (some ⟨g, 0, none⟩) n cap] W fun e w' => Srd W g 0 n tl d e w') := sort_any
  have HSn : Hid (∀ W, Calls Tryz.prog 66 #[.slice none 0 0] W fun e w' => e = .returned (.tuple #[]) ∧ w' = W) := sort_nil
  clear h hs
  go_enter Tryz.func36, Tryz.ntmps36
  go_wp2_with fail
  generalize (w.alloc (Obj.cells #[.int .i64 k, .int .i64 a, .slice p1 l.length c1] 26)) = X at *
  refine HG.out.mono ?_
  rintro e w1 ⟨B, hBX, rfl, hmp, hb1⟩
  have HB1 : Hid (Below w.heap.size w w1) := B0.out.trans (hb1.mono B0.out.size)
  have HBX : Hid (w.heap.size ≤ B ∧ B < w1.heap.size) := ⟨Nat.le_trans B0.out.size hBX, hmp.lt⟩
  clear hb1 HG B0 t2 hBX
  go_wp2_with (first | (at_range; refine wpList_range_own _ rfl _ 112 rfl 37 146 lawU Tryz.underlying112 _ B _ _ rfl hmp ?_; intro w2 hrg0 hg0 hs0) | go_in)
  go_frame
  go_loopw [3] (fun v wr => NbL w B w1.heap.size (numsR l).length w2.heap.size (numsR l) v wr) (fun _ wr => wr.rangeLeft B w1.heap.size)
  case atStart => exact ⟨_, _, [], hrg0, ColN.start _, ⟨rfl, .inl ⟨rfl, rfl⟩⟩, HB1.out.grown hg0 HB1.out.size (fun j hj => by cases hj), Nat.le_refl _⟩
  case round =>
    obtain ⟨left, cnt, ss, hrg, hC, hrow, hnx, hbs⟩ := hrel
    have HC : Hid (ColN (numsR l) left ss) := hC
    have HNX : Hid (Below w.heap.size w wr) := hnx
    have HW2 : Hid (w.heap.size ≤ w1.heap.size ∧ w2.heap.size = w1.heap.size + 1) := ⟨HB1.out.size, hs0⟩
    have hlen : ss.length ≤ 30 := col_len hC
    clear hC hnx hrg0 hg0 hs0
    go_wp2_with (first
      | (at_next; refine wpList_next_ranges _ rfl _ rfl 37 lawU (unitElem (H := Unit)) (Value.int .u32) (fun _ : Unit => Value.agg #[]) (fun key kl hk => by obtain ⟨x, hx, _⟩ := Maps.keyOf_int_inv Tryz.underlying37 hk; exact ⟨x, hx⟩) (fun v y hv => ⟨(), (unitElem_inv hv).1⟩) B w1.heap.size (numsR l).length _ _ _ rfl hrg ?_ ?_)
      | go_in)
    · intro hc0 hl0
      have HD : Hid (∀ z, z ∈ ss ↔ z ∈ numsR l) := HC.out.done hl0
      rcases hrow.2 with ⟨rfl, h0⟩ | ⟨g, cap, cur, rfl, hbase, hb, h1, h2, h3, h4⟩
      · obtain rfl : ss = [] := List.eq_nil_of_length_eq_zero h0
        clear hrow hrg h0 hc0 hl0
        go_wp2_with (first | (go_at_call 66; refine (HSn.out _).mono ?_; rintro e w3 ⟨rfl, hw3⟩; subst w3))
        go_ret
        exact ⟨_, [], rfl, ⟨none, 0, rfl, Nat.le_refl _, by decide, fun h => absurd h (by decide)⟩, List.Pairwise.nil, HD.out, HNX.out⟩
      · have HQ : Hid (Calls Tryz.prog 66 #[.slice (some ⟨g, 0, none⟩) ss.length cap] wr fun e w' => Srd wr g 0 ss.length (cur.toList.drop (ss.length * 1)) ss.toArray e w') := HSrt.out g ss.length cap _ ss.toArray wr (blk_of_row hb h4) (by simp) (by omega) (dst_of_nodup HC.out.1)
        have HE : Hid (ss.length ≤ cap ∧ cap ≤ maxLen ∧ w.heap.size ≤ g) := ⟨h1, h2, by have := HW2.out; omega⟩
        clear hrow hrg hc0 hl0 hb h1 h2 h3 h4 hbase
        go_wp2_with (first | (go_at_call 66; refine HQ.out.mono ?_; rintro e w3 ⟨rfl, d', hp, hso, hsw⟩))
        go_ret
        exact nbl_end HD.out HC.out.1 hp hso hsw HE.out.1 HE.out.2.1 HE.out.2.2 HNX.out
    · intro x kl yd yp w3 cnt3 hkey hlk hv hat hrg3 hlt hg3 hs3 hen
      obtain ⟨x', ex, rfl, _⟩ := Maps.keyOf_int_inv Tryz.underlying37 hkey
      cases ex
      have hx : x ∈ numsR l := (has_setN _ _).1 (has_true_of_atKey hat)
      have HC3 : Hid (ColN (numsR l) (fun z => left z && !z.sameKey (litN x)) (ss ++ [x])) := HC.out.step hlk hx
      have hrow3 := hrow.kept hg3 (Or.inr (row_ne_iter hrow hrg).symm)
      have hbs3 : w2.heap.size ≤ w3.heap.size := Nat.le_trans hbs hg3.size
      have HNX3 : Hid (Below w.heap.size w w3) := HNX.out.grown hg3 HNX.out.size (fun j hj => by cases hj; exact HW2.out.1)
      have HN3 : Hid (wr.rangeLeft B w1.heap.size = cnt) := hrg.left_eq
      clear hs3 hlk hv hat hx hkey hrow hbs hg3
      go_wp2_with (first
        | (at_builtin; refine wpList_append_own _ rfl _ _ 75 rfl w2.heap.size 37 i0 (.int .u32 0) 1 4 Tryz.underlying75 hi hz0 hz1 hz2 rfl (by decide) _ _ _ rfl (hrow3.alloc _) ⟨w3.heap.size, 0, none⟩ 1 1 [.int .u32 x] rfl rfl (cell_one_new _ _ _) (by simp [Value.oneCell']) (by unfold maxLen; omega) (by omega) (by simp; omega) ?_; intro v' w4 hown' hg4 hnil4; go_frame)
        | go_in)
      have hrg4 := (hrg3.alloc (.cells #[.int .u32 x] 37)).kept hg4 (row_ne_low hrow3 (by have := HW2.out; have := HBX.out; omega)) (row_ne_iter hrow3 hrg3)
      go_roundw
      case rel => exact ⟨_, cnt3, ss ++ [x], hrg4, HC3.out, by simpa [cellsZ] using hown', (HNX3.out.alloc HNX3.out.size _).grown hg4 (by have := HNX3.out.size; simp; omega) (fun j hj => by have := (hrow3.lt j hj).1; have := HW2.out; omega), by have := hg4.size; simp at this; omega⟩
      case measure => rw [hrg4.left_eq, HN3.out]; exact hlt

end Go.Proofs.YtpojlfenmanehaaGreat.M

namespace Go.Proofs.YtpojlfenmanehaaGreat.M
open Go.RowKit

theorem lt_sml {l : List Xr} (h : Lt l) : Sml l := by
  refine ⟨by have := h.1; omega, fun x hx => ?_⟩
  obtain ⟨h1, h2, h3⟩ := h.2 x hx
  exact ⟨by omega, by omega, fun s hs => by have := h3 s hs; omega⟩
theorem sml_small {l : List Xr} (h : Sml l) : ∀ x ∈ l, x.r.names.length ≤ 9000000 ∧ x.r.conds.length ≤ 9000000 := fun x hx => ⟨(h.2 x hx).1, (h.2 x hx).2.1⟩

end Go.Proofs.YtpojlfenmanehaaGreat.M

namespace Go.Proofs.YtpojlfenmanehaaGreat.M
open Go.RowKit

def wg1 (x : Xl) : Nat := x.names.length * (8 * x.conds.length + 8)
def wgt (l : List Xr) : Nat := 8 + (l.map fun x => wg1 x.r).sum
theorem wgt_step {l : List Xr} {i : Nat} (h : i < l.length) : wgt (l.take (i + 1)) = wgt (l.take i) + wg1 l[i].r := by
  unfold wgt
  rw [List.take_succ_eq_append_getElem h, List.map_append, List.sum_append]
  simp
  omega
theorem wg1_le {x : Xl} (h : Lx1 x) : wg1 x ≤ 13120 := by
  unfold wg1
  have h1 := h.1
  have h2 := h.2.1
  exact Nat.le_trans (Nat.mul_le_mul h1 (show 8 * x.conds.length + 8 ≤ 328 by omega)) (Nat.le_refl _)
theorem wgt_le {l : List Xr} (h : Lt l) : ∀ i, i ≤ l.length → wgt (l.take i) ≤ 8 + i * 13120
  | 0, _ => by simp [wgt]
  | i + 1, hi => by
    have h1 := wgt_le h i (by omega)
    have h2 := wg1_le (h.2 l[i] (List.getElem_mem (by omega)))
    rw [wgt_step (by omega)]
    omega

end Go.Proofs.YtpojlfenmanehaaGreat.M

