/-
  The keys of a map whose ticks are wanted, rising.
-/
import Derived.Test.YtifddbfcongepaaMap
import Derived.Test.YtifddbfcongepaaSrt9
import Derived.Sort.OwnSorted
import Derived.Maps.AppendAt
namespace Go.Proofs.Ytifddbfcongepaa
open Go.RowKit Go.Maps
open Go.Sort (PermIn SortedIn)

def selT (q : Int → Bool) (T : Tm) : List Int := (T.filter fun p => q p.2).map (·.1)
theorem mem_selT {q : Int → Bool} {T : Tm} {z : Int} : z ∈ selT q T ↔ ∃ x, (z, x) ∈ T ∧ q x = true := by
  unfold selT
  rw [List.mem_map]
  constructor
  · rintro ⟨p, hp, rfl⟩
    exact ⟨p.2, (List.mem_filter.1 hp).1, (List.mem_filter.1 hp).2⟩
  · rintro ⟨x, h1, h2⟩
    exact ⟨(z, x), List.mem_filter.2 ⟨h1, h2⟩, rfl⟩
theorem selT_all (T : Tm) : selT (fun _ => true) T = keys T := by
  unfold selT keys
  rw [List.filter_eq_self.2 fun _ _ => rfl]
theorem selT_off (T : Tm) : selT (fun x => x == 0) T = offT T := by
  unfold selT offT
  rfl
theorem len_selT (q : Int → Bool) (T : Tm) : (selT q T).length ≤ T.length := by
  unfold selT
  rw [List.length_map]
  exact List.length_filter_le _ _

theorem same_litU (x y : Int) : (litU x).sameKey (litU y) = decide (x = y) := by simp [litU, Lit.sameKey]
/-- the keys met so far. -/
def ColT (q : Int → Bool) (T : Tm) (left : Lit → Bool) (ss : List Int) : Prop := ss.Nodup ∧ ∀ z, z ∈ ss ↔ z ∈ selT q T ∧ left (litU z) = false
section
variable {q : Int → Bool} {T : Tm} {left : Lit → Bool} {ss : List Int} {z x : Int}
theorem ColT.start {D : Dm} (h : Vw D T) : ColT q T (has D) [] := ⟨List.nodup_nil, fun z => by
  constructor
  · intro h; cases h
  · rintro ⟨h1, h2⟩
    obtain ⟨x, hx, _⟩ := mem_selT.1 h1
    rw [(h.has z).2 (mem_keys.2 ⟨x, hx⟩)] at h2
    cases h2⟩
theorem ColT.yes (h : ColT q T left ss) (hl : left (litU z) = true) (hx : (z, x) ∈ T) (hq : q x = true) : ColT q T (fun k => left k && !k.sameKey (litU z)) (ss ++ [z]) := by
  have hn : z ∉ ss := fun hm => by have := ((h.2 z).1 hm).2; rw [hl] at this; cases this
  refine ⟨List.nodup_append.2 ⟨h.1, by simp, fun a ha b hb => by rw [List.mem_singleton] at hb; subst hb; intro e; subst e; exact hn ha⟩, fun y => ?_⟩
  rw [List.mem_append, List.mem_singleton, h.2 y]
  show _ ↔ y ∈ selT q T ∧ (left (litU y) && !(litU y).sameKey (litU z)) = false
  rw [same_litU]
  by_cases e : y = z
  · subst e
    have : y ∈ selT q T := mem_selT.2 ⟨x, hx, hq⟩
    simp [this]
  · simp [e]
theorem ColT.no (h : ColT q T left ss) (hn : (keys T).Nodup) (hl : left (litU z) = true) (hx : (z, x) ∈ T) (hq : q x = false) : ColT q T (fun k => left k && !k.sameKey (litU z)) ss := by
  refine ⟨h.1, fun y => ?_⟩
  rw [h.2 y]
  show _ ↔ y ∈ selT q T ∧ (left (litU y) && !(litU y).sameKey (litU z)) = false
  rw [same_litU]
  by_cases e : y = z
  · subst e
    have : y ∉ selT q T := fun hm => by
      obtain ⟨x', h1, h2⟩ := mem_selT.1 hm
      rw [keys_inj hn h1 hx, hq] at h2
      cases h2
    simp [this]
  · simp [e]
theorem ColT.done (h : ColT q T left ss) (hl : ∀ k, left k = false) (z : Int) : z ∈ ss ↔ z ∈ selT q T := by
  rw [h.2 z]
  exact ⟨fun h => h.1, fun h => ⟨h, hl _⟩⟩
theorem ColT.len (h : ColT q T left ss) : ss.length ≤ T.length :=
  Nat.le_trans (nodup_le ss (selT q T) h.1 fun z hz => ((h.2 z).1 hz).1) (len_selT q T)
end
theorem dst_of_nodup {ss : List Int} (h : ss.Nodup) : Dst 0 ss.length ss.toArray := by
  intro i j _ hij hj
  have h1 := List.pairwise_iff_getElem.1 h i j (by omega) hj hij
  rw [getElem!_pos ss.toArray i (by simpa using Nat.lt_trans hij hj), getElem!_pos ss.toArray j (by simpa using hj)]
  simpa using h1
theorem rise_of {ss : List Int} {d' : Array Int} (hn : ss.Nodup) (hp : PermIn 0 ss.length ss.toArray d') (hs : SortedIn ltZ 0 ss.length d') : Rise d'.toList ∧ d'.toList.Perm ss ∧ d'.size = ss.length := by
  have hsz : d'.size = ss.length := by have := hp.1; simpa using this
  have hD : Dst 0 ss.length d' := (dst_of_nodup hn).perm hp (by simp)
  refine ⟨List.pairwise_iff_getElem.2 fun i j hi hj hij => ?_, ?_, hsz⟩
  · have hi' : i < d'.size := by simpa using hi
    have hj' : j < d'.size := by simpa using hj
    have h1 := hs i j (Nat.zero_le _) hij (by omega)
    have h2 := hD i j (Nat.zero_le _) hij (by omega)
    rw [getElem!_pos d' i hi', getElem!_pos d' j hj'] at h1 h2
    have h3 := ltZ_false.1 h1
    simp only [Array.getElem_toList]
    omega
  · have h1 := hp.2.2
    rw [show d'.extract 0 ss.length = d' from by rw [← hsz]; simp, show ss.toArray.extract 0 ss.length = ss.toArray from by simp] at h1
    exact h1

def cellsZ (l : List Int) : List Value := l.map (Value.int .u64)
/-- a rising row of one's own. -/
def RsgR (w : World) (l : List Int) (e : Ending) (w' : World) : Prop :=
  ∃ v' ts, e = .returned v' ∧ w'.ownsRow w.heap.size 31 1 v' ts.length (cellsZ ts) ∧ Rise ts ∧ (∀ z, z ∈ ts ↔ z ∈ l) ∧ Below w.heap.size w w'

theorem row_of_sw {w w' : World} {g n cap : Nat} {d' : Array Int} {cur : Array Value} {tl : List Value} {base : Nat} (hsw : Sw w g tl d' w') (hd : d'.size = n) (hc1 : n ≤ cap) (hc2 : cap ≤ maxLen) (hg : base ≤ g) (hcur : cur.size = cap) (htl : tl = cur.toList.drop n) : w'.ownsRow base 31 1 (.slice (some ⟨g, 0, none⟩) n cap) d'.toList.length (cellsZ d'.toList) := by
  refine ⟨by simp [cellsZ], .inr ⟨g, cap, (cellsA d' ++ tl).toArray, by rw [Array.length_toList, hd], hg, hsw.blk, by rw [Array.length_toList, hd]; exact hc1, hc2, ?_, ?_⟩⟩
  · have h1 : (cellsA d').length = d'.size := cellsA_len d'
    have h2 : tl.length = cap - n := by rw [htl, List.length_drop, Array.length_toList, hcur]
    simp [h1, h2]
    omega
  · have h1 : (cellsA d').length = d'.size := cellsA_len d'
    rw [Array.length_toList, Nat.mul_one]
    show (cellsA d' ++ tl).take d'.size = _
    rw [← h1, List.take_left']
    · rfl
    · rfl
theorem blk_of_row {w : World} {g : Nat} {cur : Array Value} {ss : List Int} (hb : w.heap[g]? = some (.cells cur 31 (0, 0))) (ht : cur.toList.take (ss.length * 1) = cellsZ ss) : Blk w g 31 (cellsA ss.toArray ++ cur.toList.drop ss.length) := by
  unfold Blk
  rw [hb]
  have h1 : cellsA ss.toArray = cellsZ ss := rfl
  rw [h1, ← ht, Nat.mul_one, List.take_append_drop]
theorem Try.infoU : (Try.prog.info? 31).map (fun i => (i.zero, i.size, i.bytes)) = some (some (.int .u64 0), 1, 8) := by kernel_rfl

/-- the loop over the map. -/
def RsL (q : Int → Bool) (w : World) (B r n base : Nat) (D : Dm) (T : Tm) (v : Value) (wr : World) : Prop :=
  ∃ (left : Lit → Bool) (cnt : Nat) (ss : List Int), wr.ranges Try.prog 31 (plainElem Try.prog 3) B r n D left cnt ∧ ColT q T left ss ∧ wr.ownsRow base 31 1 v ss.length (cellsZ ss) ∧ Below w.heap.size w wr ∧ base ≤ wr.heap.size

theorem off_any (x : Int) (w : World) : Calls Try.prog 23 #[.int .i64 x] w fun e w' => e = .returned (.bool (x == 0)) ∧ w' = w := by
  go_enter Try.func23, Try.ntmps23
  go_wp2
  go_ret
  exact ⟨rfl, rfl⟩
theorem all_any (x : Int) (w : World) : Calls Try.prog 24 #[.int .i64 x] w fun e w' => e = .returned (.bool true) ∧ w' = w := by
  go_enter Try.func24, Try.ntmps24
  go_wp2
  go_ret
  exact ⟨rfl, rfl⟩

set_option maxRecDepth 8000 in
set_option maxHeartbeats 4000000 in
theorem rising_off (w : World) (B n : Nat) (D : Dm) (T : Tm) (ho : w.ownsMap Try.prog 31 (plainElem Try.prog 3) B n D) (hv : Vw D T) (hnd : (keys T).Nodup) (hn : T.length ≤ 1000) :
    Calls Try.prog 22 #[.map (some B), .func (.func 23) #[] #[]] w fun e w' => RsgR w (selT (fun x => x == 0) T) e w' := by
  have HV : Hid (Vw D T) := hv
  have HBX : Hid (B < w.heap.size) := ho.lt
  have HND : Hid ((keys T).Nodup) := hnd
  obtain ⟨i0, hi, hz0, hz1, hz2⟩ := info_parts Try.infoU
  have HSrt : Hid (∀ (g n cap : Nat) (tl : List Value) (d : Array Int) (W : World), Blk W g 31 (cellsA d ++ tl) → d.size = n → n ≤ 1000 → Dst 0 n d → Calls Try.prog 25 #[.slice (some ⟨g, 0, none⟩) n cap] W fun e w' => Srd W g 0 n tl d e w') := sort_any
  have HSn : Hid (∀ W, Calls Try.prog 25 #[.slice none 0 0] W fun e w' => e = .returned (.tuple #[]) ∧ w' = W) := sort_nil
  have HW : Hid (∀ x W, Calls Try.prog 23 #[.int .i64 x] W fun e w' => e = .returned (.bool (x == 0)) ∧ w' = W) := off_any
  clear hv hnd
  go_enter Try.func22, Try.ntmps22
  go_wp2_with (first | (at_range; refine wpList_range_own _ rfl _ 52 rfl 31 3 lawU Try.underlying52 _ B _ _ rfl ho ?_; intro w2 hrg0 hg0 hs0) | go_in)
  go_frame
  go_loopw [5] (fun v wr => RsL (fun x => x == 0) w B w.heap.size n w2.heap.size D T v wr) (fun _ wr => wr.rangeLeft B w.heap.size)
  case atStart => exact ⟨_, _, [], hrg0, ColT.start HV.out, ⟨rfl, .inl ⟨rfl, rfl⟩⟩, (Below.refl w.heap.size w).grown hg0 (Nat.le_refl _) (fun j hj => by cases hj), Nat.le_refl _⟩
  case round =>
    obtain ⟨left, cnt, ss, hrg, hC, hrow, hnx, hbs⟩ := hrel
    have HC : Hid (ColT (fun x => x == 0) T left ss) := hC
    have HNX : Hid (Below w.heap.size w wr) := hnx
    have HW2 : Hid (w2.heap.size = w.heap.size + 1) := hs0
    have hlen : ss.length ≤ 1000 := Nat.le_trans hC.len hn
    clear hC hnx hrg0 hg0 hs0
    go_wp2_with (first
      | (at_next; refine wpList_next_ranges_ii _ rfl _ rfl 31 3 .u64 .i64 lawU Try.underlying31 Try.underlying3 B w.heap.size n _ _ _ rfl hrg ?_ ?_)
      | go_in)
    · intro hc0 hl0
      have HD : Hid (∀ z, z ∈ ss ↔ z ∈ selT (fun x => x == 0) T) := HC.out.done hl0
      rcases hrow.2 with ⟨rfl, h0⟩ | ⟨g, cap, cur, rfl, hbase, hb, h1, h2, h3, h4⟩
      · obtain rfl : ss = [] := List.eq_nil_of_length_eq_zero h0
        clear hrow hrg h0 hc0 hl0
        go_wp2_with (first | (go_at_call 25; refine (HSn.out _).mono ?_; rintro e w3 ⟨rfl, hw3⟩; subst w3))
        go_ret
        exact ⟨_, [], rfl, ⟨rfl, .inl ⟨rfl, rfl⟩⟩, List.Pairwise.nil, HD.out, HNX.out⟩
      · have HQ : Hid (Calls Try.prog 25 #[.slice (some ⟨g, 0, none⟩) ss.length cap] wr fun e w' => Srd wr g 0 ss.length (cur.toList.drop ss.length) ss.toArray e w') := HSrt.out g ss.length cap _ ss.toArray wr (blk_of_row hb h4) (by simp) hlen (dst_of_nodup HC.out.1)
        have HE : Hid (ss.length ≤ cap ∧ cap ≤ maxLen ∧ w.heap.size ≤ g ∧ cur.size = cap) := ⟨h1, h2, by have := HW2.out; omega, by rw [h3, Nat.mul_one]⟩
        clear hrow hrg hc0 hl0 hb h1 h2 h3 h4 hbase
        go_wp2_with (first | (go_at_call 25; refine HQ.out.mono ?_; rintro e w3 ⟨rfl, d', hp, hso, hsw⟩))
        go_ret
        obtain ⟨r1, r2, r3⟩ := rise_of HC.out.1 hp hso
        exact ⟨_, d'.toList, rfl, row_of_sw hsw r3 HE.out.1 HE.out.2.1 HE.out.2.2.1 HE.out.2.2.2 rfl, r1, fun z => (r2.mem_iff).trans (HD.out z), HNX.out.grown hsw.grow HNX.out.size (fun j hj => by cases hj; exact HE.out.2.2.1)⟩
    · intro x c w3 cnt3 hwx hwc hlk hat hrg3 hlt hg3 hs3 hen
      have hmem : (x, c) ∈ T := by
        have h1 : x ∈ keys T := (HV.out.has x).1 (has_true_of_atKey hat)
        obtain ⟨c', hc'⟩ := mem_keys.1 h1
        have h2 := (HV.out.val _ hc' (lv 0)).symm.trans (hat (lv 0))
        unfold lv at h2
        cases h2
        exact hc'
      have hrow3 := hrow.kept hg3 (Or.inr (row_ne_iter hrow hrg).symm)
      have hbs3 : w2.heap.size ≤ w3.heap.size := Nat.le_trans hbs hg3.size
      have HNX3 : Hid (Below w.heap.size w w3) := HNX.out.grown hg3 HNX.out.size (fun j hj => by cases hj; exact Nat.le_refl _)
      have HN3 : Hid (wr.rangeLeft B w.heap.size = cnt) := hrg.left_eq
      have HY : Hid ((fun x => x == 0) c = true → ColT (fun x => x == 0) T (fun z => left z && !z.sameKey (litU x)) (ss ++ [x])) := fun hq => HC.out.yes hlk hmem hq
      have HNO : Hid ((fun x => x == 0) c = false → ColT (fun x => x == 0) T (fun z => left z && !z.sameKey (litU x)) ss) := fun hq => HC.out.no HND.out hlk hmem hq
      clear hs3 hlk hat hwx hwc hmem hrow hbs hg3
      rcases Bool.eq_false_or_eq_true (c == 0) with hq | hq
      · have HX : Hid (∀ W, Calls Try.prog 23 #[.int .i64 c] W fun e w' => e = .returned (.bool true) ∧ w' = W) := fun W => hq ▸ HW.out c W
        have HQ : Hid ((c == 0) = true) := hq
        clear hq
        go_wp2_with (first
          | (go_at_call 23; refine (HX.out _).mono ?_; rintro e wx ⟨rfl, hwx⟩; subst wx)
          | (at_builtin; refine wpList_append_own _ rfl _ _ 37 rfl w2.heap.size 31 i0 (.int .u64 0) 1 8 Try.underlying37 hi hz0 hz1 hz2 rfl (by decide) _ _ _ rfl (hrow3.alloc _) ⟨w3.heap.size, 0, none⟩ 1 1 [.int .u64 x] rfl rfl (cell_one_new _ _ _) (by simp [Value.oneCell']) (by unfold maxLen; omega) (by omega) (by simp; omega) ?_; intro v' w4 hown' hg4 hnil4; go_frame)
          | go_in)
        have hrg4 := (hrg3.alloc (.cells #[.int .u64 x] 31)).kept hg4 (row_ne_low hrow3 (by have := HW2.out; have := HBX.out; omega)) (row_ne_iter hrow3 hrg3)
        go_roundw
        case rel => exact ⟨_, cnt3, ss ++ [x], hrg4, HY.out (HQ.out), by simpa [cellsZ] using hown', (HNX3.out.alloc HNX3.out.size _).grown hg4 (by have := HNX3.out.size; simp; omega) (fun j hj => by have := (hrow3.lt j hj).1; have := HW2.out; omega), by have := hg4.size; simp at this; omega⟩
        case measure => rw [hrg4.left_eq, HN3.out]; exact hlt
      · have HX : Hid (∀ W, Calls Try.prog 23 #[.int .i64 c] W fun e w' => e = .returned (.bool false) ∧ w' = W) := fun W => hq ▸ HW.out c W
        have HQ : Hid ((c == 0) = false) := hq
        clear hq
        go_wp2_with (first
          | (go_at_call 23; refine (HX.out _).mono ?_; rintro e wx ⟨rfl, hwx⟩; subst wx)
          | go_in)
        go_roundw
        case rel => exact ⟨_, cnt3, ss, hrg3, HNO.out HQ.out, hrow3, HNX3.out, hbs3⟩
        case measure => rw [hrg3.left_eq, HN3.out]; exact hlt


set_option maxRecDepth 8000 in
set_option maxHeartbeats 4000000 in
theorem rising_all (w : World) (B n : Nat) (D : Dm) (T : Tm) (ho : w.ownsMap Try.prog 31 (plainElem Try.prog 3) B n D) (hv : Vw D T) (hnd : (keys T).Nodup) (hn : T.length ≤ 1000) :
    Calls Try.prog 22 #[.map (some B), .func (.func 24) #[] #[]] w fun e w' => RsgR w (selT (fun _ => true) T) e w' := by
  have HV : Hid (Vw D T) := hv
  have HBX : Hid (B < w.heap.size) := ho.lt
  have HND : Hid ((keys T).Nodup) := hnd
  obtain ⟨i0, hi, hz0, hz1, hz2⟩ := info_parts Try.infoU
  have HSrt : Hid (∀ (g n cap : Nat) (tl : List Value) (d : Array Int) (W : World), Blk W g 31 (cellsA d ++ tl) → d.size = n → n ≤ 1000 → Dst 0 n d → Calls Try.prog 25 #[.slice (some ⟨g, 0, none⟩) n cap] W fun e w' => Srd W g 0 n tl d e w') := sort_any
  have HSn : Hid (∀ W, Calls Try.prog 25 #[.slice none 0 0] W fun e w' => e = .returned (.tuple #[]) ∧ w' = W) := sort_nil
  have HW : Hid (∀ x W, Calls Try.prog 24 #[.int .i64 x] W fun e w' => e = .returned (.bool (true)) ∧ w' = W) := all_any
  clear hv hnd
  go_enter Try.func22, Try.ntmps22
  go_wp2_with (first | (at_range; refine wpList_range_own _ rfl _ 52 rfl 31 3 lawU Try.underlying52 _ B _ _ rfl ho ?_; intro w2 hrg0 hg0 hs0) | go_in)
  go_frame
  go_loopw [5] (fun v wr => RsL (fun _ => true) w B w.heap.size n w2.heap.size D T v wr) (fun _ wr => wr.rangeLeft B w.heap.size)
  case atStart => exact ⟨_, _, [], hrg0, ColT.start HV.out, ⟨rfl, .inl ⟨rfl, rfl⟩⟩, (Below.refl w.heap.size w).grown hg0 (Nat.le_refl _) (fun j hj => by cases hj), Nat.le_refl _⟩
  case round =>
    obtain ⟨left, cnt, ss, hrg, hC, hrow, hnx, hbs⟩ := hrel
    have HC : Hid (ColT (fun _ => true) T left ss) := hC
    have HNX : Hid (Below w.heap.size w wr) := hnx
    have HW2 : Hid (w2.heap.size = w.heap.size + 1) := hs0
    have hlen : ss.length ≤ 1000 := Nat.le_trans hC.len hn
    clear hC hnx hrg0 hg0 hs0
    go_wp2_with (first
      | (at_next; refine wpList_next_ranges_ii _ rfl _ rfl 31 3 .u64 .i64 lawU Try.underlying31 Try.underlying3 B w.heap.size n _ _ _ rfl hrg ?_ ?_)
      | go_in)
    · intro hc0 hl0
      have HD : Hid (∀ z, z ∈ ss ↔ z ∈ selT (fun _ => true) T) := HC.out.done hl0
      rcases hrow.2 with ⟨rfl, h0⟩ | ⟨g, cap, cur, rfl, hbase, hb, h1, h2, h3, h4⟩
      · obtain rfl : ss = [] := List.eq_nil_of_length_eq_zero h0
        clear hrow hrg h0 hc0 hl0
        go_wp2_with (first | (go_at_call 25; refine (HSn.out _).mono ?_; rintro e w3 ⟨rfl, hw3⟩; subst w3))
        go_ret
        exact ⟨_, [], rfl, ⟨rfl, .inl ⟨rfl, rfl⟩⟩, List.Pairwise.nil, HD.out, HNX.out⟩
      · have HQ : Hid (Calls Try.prog 25 #[.slice (some ⟨g, 0, none⟩) ss.length cap] wr fun e w' => Srd wr g 0 ss.length (cur.toList.drop ss.length) ss.toArray e w') := HSrt.out g ss.length cap _ ss.toArray wr (blk_of_row hb h4) (by simp) hlen (dst_of_nodup HC.out.1)
        have HE : Hid (ss.length ≤ cap ∧ cap ≤ maxLen ∧ w.heap.size ≤ g ∧ cur.size = cap) := ⟨h1, h2, by have := HW2.out; omega, by rw [h3, Nat.mul_one]⟩
        clear hrow hrg hc0 hl0 hb h1 h2 h3 h4 hbase
        go_wp2_with (first | (go_at_call 25; refine HQ.out.mono ?_; rintro e w3 ⟨rfl, d', hp, hso, hsw⟩))
        go_ret
        obtain ⟨r1, r2, r3⟩ := rise_of HC.out.1 hp hso
        exact ⟨_, d'.toList, rfl, row_of_sw hsw r3 HE.out.1 HE.out.2.1 HE.out.2.2.1 HE.out.2.2.2 rfl, r1, fun z => (r2.mem_iff).trans (HD.out z), HNX.out.grown hsw.grow HNX.out.size (fun j hj => by cases hj; exact HE.out.2.2.1)⟩
    · intro x c w3 cnt3 hwx hwc hlk hat hrg3 hlt hg3 hs3 hen
      have hmem : (x, c) ∈ T := by
        have h1 : x ∈ keys T := (HV.out.has x).1 (has_true_of_atKey hat)
        obtain ⟨c', hc'⟩ := mem_keys.1 h1
        have h2 := (HV.out.val _ hc' (lv 0)).symm.trans (hat (lv 0))
        unfold lv at h2
        cases h2
        exact hc'
      have hrow3 := hrow.kept hg3 (Or.inr (row_ne_iter hrow hrg).symm)
      have hbs3 : w2.heap.size ≤ w3.heap.size := Nat.le_trans hbs hg3.size
      have HNX3 : Hid (Below w.heap.size w w3) := HNX.out.grown hg3 HNX.out.size (fun j hj => by cases hj; exact Nat.le_refl _)
      have HN3 : Hid (wr.rangeLeft B w.heap.size = cnt) := hrg.left_eq
      have HY : Hid ((fun _ => true) c = true → ColT (fun _ => true) T (fun z => left z && !z.sameKey (litU x)) (ss ++ [x])) := fun hq => HC.out.yes hlk hmem hq
      have HNO : Hid ((fun _ => true) c = false → ColT (fun _ => true) T (fun z => left z && !z.sameKey (litU x)) ss) := fun hq => HC.out.no HND.out hlk hmem hq
      clear hs3 hlk hat hwx hwc hmem hrow hbs hg3
      have HX : Hid (∀ W, Calls Try.prog 24 #[.int .i64 c] W fun e w' => e = .returned (.bool true) ∧ w' = W) := fun W => HW.out c W
      go_wp2_with (first
        | (go_at_call 24; refine (HX.out _).mono ?_; rintro e wx ⟨rfl, hwx⟩; subst wx)
        | (at_builtin; refine wpList_append_own _ rfl _ _ 37 rfl w2.heap.size 31 i0 (.int .u64 0) 1 8 Try.underlying37 hi hz0 hz1 hz2 rfl (by decide) _ _ _ rfl (hrow3.alloc _) ⟨w3.heap.size, 0, none⟩ 1 1 [.int .u64 x] rfl rfl (cell_one_new _ _ _) (by simp [Value.oneCell']) (by unfold maxLen; omega) (by omega) (by simp; omega) ?_; intro v' w4 hown' hg4 hnil4; go_frame)
        | go_in)
      have hrg4 := (hrg3.alloc (.cells #[.int .u64 x] 31)).kept hg4 (row_ne_low hrow3 (by have := HW2.out; have := HBX.out; omega)) (row_ne_iter hrow3 hrg3)
      go_roundw
      case rel => exact ⟨_, cnt3, ss ++ [x], hrg4, HY.out (by simp), by simpa [cellsZ] using hown', (HNX3.out.alloc HNX3.out.size _).grown hg4 (by have := HNX3.out.size; simp; omega) (fun j hj => by have := (hrow3.lt j hj).1; have := HW2.out; omega), by have := hg4.size; simp at this; omega⟩
      case measure => rw [hrg4.left_eq, HN3.out]; exact hlt


end Go.Proofs.Ytifddbfcongepaa
