/-
  Texts of this seat, joined: MNames, MWrong, MTabM, MDec.
-/
import Derived.Test.YtcckipimfgmmdaaGreatDoorGv24

namespace Go.Proofs.YtcckipimfgmmdaaGreatDoor.M
open Go.RowKit

theorem unknown_any (s : ByteArray) (w : World) : Calls Tryz.prog 85 #[.string s] w fun e w' => e = .returned (.bool (!knB s)) ∧ Below w.heap.size w w' := by
  go_enter Tryz.func85, Tryz.ntmps85
  go_wp2_with (go_at_call 122; refine (nr_any _ _).mono ?_; rintro e w1 ⟨rfl, b1⟩)
  go_ret
  exact ⟨rfl, b1⟩

def ixOf (p : ByteArray → Bool) (l : List ByteArray) : Int := match l.findIdx? p with | some i => (i : Int) | none => -1

theorem ixOf_hit {p : ByteArray → Bool} {l : List ByteArray} {i : Nat} (h : i < l.length) (hp : p l[i] = true) (ha : ((l.take i).any p) = false) : ixOf p l = i := by
  unfold ixOf
  have : l.findIdx? p = some i := by
    rw [List.findIdx?_eq_some_iff_getElem]
    refine ⟨h, hp, fun j hj => ?_⟩
    rw [List.any_eq_false] at ha
    have := ha l[j] (by rw [List.mem_take_iff_getElem]; exact ⟨j, by omega, rfl⟩)
    simpa using this
  rw [this]
theorem ixOf_none {p : ByteArray → Bool} {l : List ByteArray} (ha : l.any p = false) : ixOf p l = -1 := by
  unfold ixOf
  have : l.findIdx? p = none := by
    rw [List.findIdx?_eq_none_iff]
    rw [List.any_eq_false] at ha
    intro x hx
    simpa using ha x hx
  rw [this]
theorem ixOf_ge (p : ByteArray → Bool) (l : List ByteArray) : decide (0 ≤ ixOf p l) = l.any p := by
  unfold ixOf
  cases h : l.findIdx? p with
  | none =>
    rw [List.findIdx?_eq_none_iff] at h
    have : l.any p = false := by rw [List.any_eq_false]; intro x hx; simp [h x hx]
    rw [this]
    rfl
  | some i =>
    rw [List.findIdx?_eq_some_iff_getElem] at h
    obtain ⟨hi, hp, _⟩ := h
    have : l.any p = true := by rw [List.any_eq_true]; exact ⟨_, List.getElem_mem hi, hp⟩
    rw [this]
    exact decide_eq_true (by show (0 : Int) ≤ (i : Int); omega)
theorem any_step {p : ByteArray → Bool} {l : List ByteArray} {i : Nat} (h : i < l.length) (hp : p l[i] = false) (ht : (l.take i).any p = false) : (l.take (i + 1)).any p = false := by
  rw [List.take_succ_eq_append_getElem h, List.any_append, ht]
  simp [hp]
theorem any_end {p : ByteArray → Bool} {l : List ByteArray} {i : Nat} (h : ¬ i < l.length) (ht : (l.take i).any p = false) : l.any p = false := by
  rwa [List.take_of_length_le (by omega)] at ht

set_option maxHeartbeats 1000000 in
theorem indexF_any (w : World) (v : Value) (l : List ByteArray) (h : StrR w v l) (hl : l.length ≤ 9000000) :
    Calls Tryz.prog 121 #[v, .func (.func 85) #[] #[]] w fun e w' => e = .returned (.int .i64 (ixOf (fun s => !knB s) l)) ∧ Below w.heap.size w w' := by
  obtain ⟨p1, c1, rfl⟩ : ∃ p c, v = .slice p l.length c := by obtain ⟨p, c, e, _⟩ := h; exact ⟨p, c, e⟩
  have S1 : Hid (StrR w (.slice p1 l.length c1) l) := h
  clear h
  have HR : Hid (∀ i (hi : i < l.length), (!knB l[i]) = true → ((l.take i).any fun s => !knB s) = false → ixOf (fun s => !knB s) l = i) := fun i hi h1 h2 => ixOf_hit hi h1 h2
  have HN : Hid ((l.any fun s => !knB s) = false → ixOf (fun s => !knB s) l = -1) := ixOf_none
  generalize ixOf (fun s => !knB s) l = R at *
  go_enter Tryz.func121, Tryz.ntmps121
  go_wp2
  go_loopw [8] (fun vi wr => ∃ i : Nat, vi = .int .i64 i ∧ i ≤ l.length ∧ ((l.take i).any fun s => !knB s) = false ∧ Below w.heap.size w wr) (fun vi _ => l.length - (intOf vi).toNat)
  case atStart => exact ⟨0, rfl, Nat.zero_le _, rfl, Below.refl _ _⟩
  case round =>
    obtain ⟨i, rfl, hi, ht, hb⟩ := hrel
    have HT : Hid (((l.take i).any fun s => !knB s) = false) := ht
    have HB : Hid (Below w.heap.size w wr) := hb
    clear ht
    by_cases hlt : i < l.length
    · have hi1 : (i : Int) < (l.length : Int) := by omega
      obtain ⟨b1, o1, rfl, e1⟩ := strR_at (S1.out.below hb) hlt
      have HX : Hid (∀ W, Calls Tryz.prog 85 #[.string l[i]] W fun e w' => e = .returned (.bool (!knB l[i])) ∧ Below W.heap.size W w') := unknown_any _
      have HS : Hid ((!knB l[i]) = false → ((l.take (i + 1)).any fun s => !knB s) = false) := fun hq => any_step (p := fun s => !knB s) hlt hq HT.out
      have HF : Hid ((!knB l[i]) = true → R = i) := fun hq => HR.out i hlt hq HT.out
      clear hb HR HN
      generalize (!knB l[i]) = q at *
      generalize l[i] = s at *
      cases q with
      | true =>
        go_wp2_with (go_at_call 85; refine (HX.out _).mono ?_; rintro e w1 ⟨rfl, b1⟩)
        go_ret
        exact ⟨ret_int (HF.out trivial).symm, HB.out.trans (b1.mono HB.out.size)⟩
      | false =>
        go_wp2_with (go_at_call 85; refine (HX.out _).mono ?_; rintro e w1 ⟨rfl, b1⟩)
        go_roundw
        case rel => exact ⟨i + 1, by go_num, hlt, HS.out trivial, HB.out.trans (b1.mono HB.out.size)⟩
        case measure => simp [intOf]; omega
    · have hge : ¬ (i : Int) < (l.length : Int) := by omega
      clear hb
      go_wp2
      go_ret
      exact ⟨ret_int (HN.out (any_end hlt HT.out)).symm, HB.out⟩

theorem containsF_any (w : World) (v : Value) (l : List ByteArray) (h : StrR w v l) (hl : l.length ≤ 9000000) :
    Calls Tryz.prog 84 #[v, .func (.func 85) #[] #[]] w fun e w' => e = .returned (.bool (l.any fun s => !knB s)) ∧ Below w.heap.size w w' := by
  have HI : Hid (Calls Tryz.prog 121 #[v, .func (.func 85) #[] #[]] w fun e w' => e = .returned (.int .i64 (ixOf (fun s => !knB s) l)) ∧ Below w.heap.size w w') := indexF_any w v l h hl
  have HG : Hid (decide (0 ≤ ixOf (fun s => !knB s) l) = l.any fun s => !knB s) := ixOf_ge _ _
  obtain ⟨p1, c1, rfl⟩ : ∃ p c, v = .slice p l.length c := by obtain ⟨p, c, e, _⟩ := h; exact ⟨p, c, e⟩
  clear h
  generalize ixOf (fun s => !knB s) l = R at *
  go_enter Tryz.func84, Tryz.ntmps84
  go_wp2_with (go_at_call 121; refine HI.out.mono ?_; rintro e w1 ⟨rfl, b1⟩)
  go_ret
  exact ⟨ret_bool HG.out, b1⟩

set_option maxHeartbeats 1000000 in
theorem index_any (w : World) (v : Value) (l : List ByteArray) (x : ByteArray) (h : StrR w v l) (hl : l.length ≤ 9000000) :
    Calls Tryz.prog 96 #[v, .string x] w fun e w' => e = .returned (.int .i64 (ixOf (fun s => eqS x s) l)) ∧ w' = w := by
  obtain ⟨p1, c1, rfl⟩ : ∃ p c, v = .slice p l.length c := by obtain ⟨p, c, e, _⟩ := h; exact ⟨p, c, e⟩
  have S1 : Hid (StrR w (.slice p1 l.length c1) l) := h
  clear h
  have HR : Hid (∀ i (hi : i < l.length), eqS x l[i] = true → ((l.take i).any fun s => eqS x s) = false → ixOf (fun s => eqS x s) l = i) := fun i hi h1 h2 => ixOf_hit hi h1 h2
  have HN : Hid ((l.any fun s => eqS x s) = false → ixOf (fun s => eqS x s) l = -1) := ixOf_none
  generalize ixOf (fun s => eqS x s) l = R at *
  go_enter Tryz.func96, Tryz.ntmps96
  go_wp2
  go_loop [8] (fun vi => ∃ i : Nat, vi = .int .i64 i ∧ i ≤ l.length ∧ ((l.take i).any fun s => eqS x s) = false) (fun vi => l.length - (intOf vi).toNat)
  case atStart => exact ⟨0, rfl, Nat.zero_le _, rfl⟩
  case round =>
    obtain ⟨i, rfl, hi, ht⟩ := hrel
    have HT : Hid (((l.take i).any fun s => eqS x s) = false) := ht
    clear ht
    by_cases hlt : i < l.length
    · have hi1 : (i : Int) < (l.length : Int) := by omega
      obtain ⟨b1, o1, rfl, e1⟩ := strR_at S1.out hlt
      have HS : Hid (eqS x l[i] = false → ((l.take (i + 1)).any fun s => eqS x s) = false) := fun hq => any_step (p := fun s => eqS x s) hlt hq HT.out
      have HF : Hid (eqS x l[i] = true → R = i) := fun hq => HR.out i hlt hq HT.out
      clear HR HN
      generalize l[i] = s at *
      rcases Bool.eq_false_or_eq_true (eqS x s) with hq | hq
      · have hq' : (x.toList == s.toList) = true := (eqS_to _ _).trans hq
        go_wp2
        go_ret
        exact ⟨ret_int (HF.out hq).symm, rfl⟩
      · have hq' : (x.toList == s.toList) = false := (eqS_to _ _).trans hq
        go_wp2
        go_round
        case rel => exact ⟨i + 1, by go_num, hlt, HS.out hq⟩
        case measure => simp [intOf]; omega
    · have hge : ¬ (i : Int) < (l.length : Int) := by omega
      go_wp2
      go_ret
      exact ⟨ret_int (HN.out (any_end hlt HT.out)).symm, rfl⟩

theorem contains_any (w : World) (v : Value) (l : List ByteArray) (x : ByteArray) (h : StrR w v l) (hl : l.length ≤ 9000000) :
    Calls Tryz.prog 54 #[v, .string x] w fun e w' => e = .returned (.bool (l.any fun s => eqS x s)) ∧ w' = w := by
  have HI : Hid (Calls Tryz.prog 96 #[v, .string x] w fun e w' => e = .returned (.int .i64 (ixOf (fun s => eqS x s) l)) ∧ w' = w) := index_any w v l x h hl
  have HG : Hid (decide (0 ≤ ixOf (fun s => eqS x s) l) = l.any fun s => eqS x s) := ixOf_ge _ _
  obtain ⟨p1, c1, rfl⟩ : ∃ p c, v = .slice p l.length c := by obtain ⟨p, c, e, _⟩ := h; exact ⟨p, c, e⟩
  clear h
  generalize ixOf (fun s => eqS x s) l = R at *
  go_enter Tryz.func54, Tryz.ntmps54
  go_wp2_with (go_at_call 96; refine HI.out.mono ?_; rintro e w1 ⟨rfl, rfl⟩)
  go_ret
  exact ⟨ret_bool HG.out, rfl⟩

end Go.Proofs.YtcckipimfgmmdaaGreatDoor.M

namespace Go.Proofs.YtcckipimfgmmdaaGreatDoor.M
open Go.RowKit

def twAt (l : List ByteArray) (i : Nat) : Bool := match l[i]? with | some x => (l.take i).any fun s => eqS x s | none => false
def twB (l : List ByteArray) : Bool := (List.range l.length).any (twAt l)

def wrongN (l : List ByteArray) : Int := if (l.any fun s => !knB s) = true then 8 else if twB l = true then 9 else 0

theorem twAt_eq {l : List ByteArray} {i : Nat} (h : i < l.length) : twAt l i = (l.take i).any fun s => eqS l[i] s := by
  unfold twAt
  rw [List.getElem?_eq_getElem h]
theorem twB_hit {l : List ByteArray} {i : Nat} (h : i < l.length) (ht : twAt l i = true) : twB l = true := by
  unfold twB
  rw [List.any_eq_true]
  exact ⟨i, List.mem_range.2 h, ht⟩
theorem twB_none {l : List ByteArray} (h : ∀ i, i < l.length → twAt l i = false) : twB l = false := by
  unfold twB
  rw [List.any_eq_false]
  intro i hi
  rw [h i (List.mem_range.1 hi)]
  decide

theorem StrR.take {w : World} {p : Option Addr} {l : List ByteArray} {c i : Nat} (h : StrR w (.slice p l.length c) l) (hi : i ≤ l.length) : StrR w (.slice p i c) (l.take i) := by
  obtain ⟨a, cap, e, h1, h2, hc⟩ := h
  cases e
  have hlen : (l.take i).length = i := by rw [List.length_take]; omega
  refine ⟨p, c, by rw [hlen], by omega, h2, fun h0 => ?_⟩
  obtain ⟨b, o, rfl, hx⟩ := hc (by omega)
  refine ⟨b, o, rfl, fun j s hj => hx j s ?_⟩
  rw [List.getElem?_take] at hj
  split at hj
  · exact hj
  · cases hj

set_option maxHeartbeats 1000000 in
theorem wrong_any (w : World) (v : Value) (l : List ByteArray) (h : StrR w v l) (hl : l.length ≤ 9000000) :
    Calls Tryz.prog 48 #[v] w fun e w' => e = .returned (.int .i64 (wrongN l)) ∧ Below w.heap.size w w' := by
  obtain ⟨p1, c1, rfl⟩ : ∃ p c, v = .slice p l.length c := by obtain ⟨p, c, e, _⟩ := h; exact ⟨p, c, e⟩
  have hlc : l.length ≤ c1 := by obtain ⟨p, c, e, h1, _⟩ := h; cases e; exact h1
  have S1 : Hid (StrR w (.slice p1 l.length c1) l) := h
  have HU : Hid (Calls Tryz.prog 84 #[.slice p1 l.length c1, .func (.func 85) #[] #[]] w fun e w' => e = .returned (.bool (l.any fun s => !knB s)) ∧ Below w.heap.size w w') := containsF_any w _ l h hl
  have HE : Hid (wrongN l = if (l.any fun s => !knB s) = true then 8 else if twB l = true then 9 else 0) := rfl
  clear h
  generalize wrongN l = R at *
  generalize (l.any fun s => !knB s) = U at *
  cases U with
  | true =>
    go_enter Tryz.func48, Tryz.ntmps48
    go_wp2_with (go_at_call 84; refine HU.out.mono ?_; rintro e w1 ⟨rfl, b1⟩)
    go_ret
    exact ⟨ret_int HE.out.symm, b1⟩
  | false =>
    go_enter Tryz.func48, Tryz.ntmps48
    go_wp2_with (go_at_call 84; refine HU.out.mono ?_; rintro e w1 ⟨rfl, b1⟩)
    have S2 : Hid (StrR w1 (.slice p1 l.length c1) l) := S1.out.below b1
    have B1 : Hid (Below w.heap.size w w1) := b1
    clear b1 S1
    go_loop [9] (fun vi => ∃ i : Nat, vi = .int .i64 i ∧ i ≤ l.length ∧ ∀ j, j < i → twAt l j = false) (fun vi => l.length - (intOf vi).toNat)
    case atStart => exact ⟨0, rfl, Nat.zero_le _, fun j hj => absurd hj (Nat.not_lt_zero _)⟩
    case round =>
      obtain ⟨i, rfl, hi, ht⟩ := hrel
      have HT : Hid (∀ j, j < i → twAt l j = false) := ht
      clear ht
      by_cases hlt : i < l.length
      · have hi1 : (i : Int) < (l.length : Int) := by omega
        have S3 : Hid (StrR w1 (.slice p1 i c1) (l.take i)) := S2.out.take (Nat.le_of_lt hlt)
        obtain ⟨b1, o1, rfl, e1⟩ := strR_at S2.out hlt
        have HX : Hid (Calls Tryz.prog 54 #[.slice (some ⟨b1, o1, none⟩) i c1, .string l[i]] w1 fun e w' => e = .returned (.bool (twAt l i)) ∧ w' = w1) := by
          rw [twAt_eq hlt]
          exact contains_any w1 _ _ _ S3.out (by rw [List.length_take]; omega)
        have HS : Hid (twAt l i = false → ∀ j, j < i + 1 → twAt l j = false) := fun hq j hj => by
          rcases Nat.lt_or_ge j i with h | h
          · exact HT.out j h
          · obtain rfl : j = i := by omega
            exact hq
        have HF : Hid (twAt l i = true → twB l = true) := fun hq => twB_hit hlt hq
        clear S2 S3 HT
        generalize l[i] = s at *
        generalize twAt l i = q at *
        have hic : (i : Int) ≤ (c1 : Int) := by omega
        cases q with
        | true =>
          go_wp2_with (go_at_call 54; refine HX.out.mono ?_; rintro e w2 ⟨rfl, rfl⟩)
          go_ret
          exact ⟨ret_int (by rw [HE.out, if_neg (by decide), if_pos (HF.out trivial)]), B1.out⟩
        | false =>
          go_wp2_with (go_at_call 54; refine HX.out.mono ?_; rintro e w2 ⟨rfl, rfl⟩)
          go_round
          case rel => exact ⟨i + 1, by go_num, hlt, HS.out trivial⟩
          case measure => simp [intOf]; omega
      · have hge : ¬ (i : Int) < (l.length : Int) := by omega
        go_wp2
        go_ret
        exact ⟨ret_int (by rw [HE.out, if_neg (by decide), if_neg (by rw [twB_none fun j hj => HT.out j (by omega)]; decide)]), B1.out⟩

def wrongFrom : Nat → List Xl → Int × Int
  | _, [] => (0, -1)
  | i, x :: r => if wrongN x.names = 0 then wrongFrom (i + 1) r else (wrongN x.names, i)

def checkP (k a : Int) (l : List Xl) : Int × Int := if rulesB k a l = true then wrongFrom 0 l else (1, -1)

theorem wrongFrom_step {l : List Xr} {i : Nat} (h : i < l.length) : wrongFrom i ((l.drop i).map Xr.r) = if wrongN l[i].r.names = 0 then wrongFrom (i + 1) ((l.drop (i + 1)).map Xr.r) else (wrongN l[i].r.names, (i : Int)) := by
  rw [List.drop_eq_getElem_cons h]
  rfl
theorem wrongFrom_end {l : List Xr} {i : Nat} (h : ¬ i < l.length) : wrongFrom i ((l.drop i).map Xr.r) = (0, -1) := by
  rw [List.drop_eq_nil_of_le (by omega)]
  rfl

theorem ret_ints {k k' : IntKind} {a b : Int} {c d : Int} (h : a = b) (h' : c = d) : Ending.returned (.tuple #[.int k a, .int k' c]) = .returned (.tuple #[.int k b, .int k' d]) := by rw [h, h']

set_option maxHeartbeats 1000000 in
theorem check_any (w : World) (k a : Int) (v : Value) (l : List Xr) (h : RlR w v l) (hl : l.length ≤ 1000) (hs : ∀ x ∈ l, x.r.names.length ≤ 9000000 ∧ x.r.conds.length ≤ 9000000) :
    Calls Tryz.prog 24 #[.agg #[.int .i64 k, .int .i64 a, v]] w fun e w' => e = .returned (.tuple #[.int .i64 (checkP k a (l.map Xr.r)).1, .int .i64 (checkP k a (l.map Xr.r)).2]) ∧ Below w.heap.size w w' := by
  obtain ⟨p1, c1, rfl⟩ : ∃ p c, v = .slice p l.length c := by obtain ⟨p, c, e, _⟩ := h; exact ⟨p, c, e⟩
  have be : Below w.heap.size w (w.alloc (Obj.cells #[.int .i64 k, .int .i64 a, .slice p1 l.length c1] 39)) := (Below.refl _ _).alloc (Nat.le_refl _) _
  have BE : Hid (Below w.heap.size w (w.alloc (Obj.cells #[.int .i64 k, .int .i64 a, .slice p1 l.length c1] 39))) := be
  have HK : Hid (Blk (w.alloc (Obj.cells #[.int .i64 k, .int .i64 a, .slice p1 l.length c1] 39)) w.heap.size 39 [.int .i64 k, .int .i64 a, .slice p1 l.length c1]) := blk_new w _ _
  have SN : Hid (RlR (w.alloc (Obj.cells #[.int .i64 k, .int .i64 a, .slice p1 l.length c1] 39)) (.slice p1 l.length c1) l) := h.below be
  have HA : Hid (∀ W, RlR W (.slice p1 l.length c1) l → Calls Tryz.prog 31 #[.agg #[.int .i64 k, .int .i64 a, .slice p1 l.length c1]] W fun e w' => e = .returned (.bool (rulesB k a (l.map Xr.r))) ∧ Below W.heap.size W w') := fun W h => right_any W k a _ l h hl hs
  have HE : Hid (checkP k a (l.map Xr.r) = if rulesB k a (l.map Xr.r) = true then wrongFrom 0 ((l.drop 0).map Xr.r) else (1, -1)) := rfl
  have HM : Hid (∀ x ∈ l, x.r.names.length ≤ 9000000 ∧ x.r.conds.length ≤ 9000000) := hs
  clear h be hs
  generalize checkP k a (l.map Xr.r) = R at *
  generalize rulesB k a (l.map Xr.r) = RB at *
  cases RB with
  | false =>
    go_enter Tryz.func24, Tryz.ntmps24
    go_wp2_with fail
    generalize (w.alloc (Obj.cells #[.int .i64 k, .int .i64 a, .slice p1 l.length c1] 39)) = X at *
    refine (HA.out _ SN.out).mono ?_
    rintro e w1 ⟨rfl, b1⟩
    go_wp2_with fail
    go_ret2
    exact ⟨ret_ints (by rw [HE.out]; rfl) (by rw [HE.out]; rfl), BE.out.trans (b1.mono BE.out.size)⟩
  | true =>
    go_enter Tryz.func24, Tryz.ntmps24
    go_wp2_with fail
    generalize (w.alloc (Obj.cells #[.int .i64 k, .int .i64 a, .slice p1 l.length c1] 39)) = X at *
    refine (HA.out _ SN.out).mono ?_
    rintro e w1 ⟨rfl, b1⟩
    have t2 : w1.cell? ⟨w.heap.size, 2, none⟩ = some (.slice p1 l.length c1) := (HK.out.over b1).cell 2
    have S1 : Hid (RlR w1 (.slice p1 l.length c1) l) := SN.out.below b1
    have B1 : Hid (Below w.heap.size w w1) := BE.out.trans (b1.mono BE.out.size)
    have HE2 : Hid (R = wrongFrom 0 ((l.drop 0).map Xr.r)) := HE.out.trans (if_pos trivial)
    clear b1 BE HE SN HA HK
    go_wp2_with fail
    clear t2
    go_loopw [13] (fun vi wr => ∃ i : Nat, vi = .int .i64 i ∧ i ≤ l.length ∧ R = wrongFrom i ((l.drop i).map Xr.r) ∧ Below w1.heap.size w1 wr) (fun vi _ => l.length - (intOf vi).toNat)
    case atStart => exact ⟨0, rfl, Nat.zero_le _, HE2.out, Below.refl _ _⟩
    case round =>
      obtain ⟨i, rfl, hi, ht, hb⟩ := hrel
      have HT : Hid (R = wrongFrom i ((l.drop i).map Xr.r)) := ht
      have HB : Hid (Below w1.heap.size w1 wr) := hb
      clear ht
      by_cases hlt : i < l.length
      · have hi1 : (i : Int) < (l.length : Int) := by omega
        obtain ⟨b1, o1, rfl, e1⟩ := rlR_at (S1.out.below hb) hlt
        have hmem : l[i] ∈ l := List.getElem_mem hlt
        have HX : Hid (∀ W, Below w1.heap.size w1 W → Calls Tryz.prog 48 #[l[i].vn] W fun e w' => e = .returned (.int .i64 (wrongN l[i].r.names)) ∧ Below W.heap.size W w') := fun W hW => by
          obtain ⟨_, _, _, _, _, _, hr⟩ := S1.out.below hW
          exact wrong_any W _ _ (hr _ hmem).1 (HM.out _ hmem).1
        have HS : Hid (R = if wrongN l[i].r.names = 0 then wrongFrom (i + 1) ((l.drop (i + 1)).map Xr.r) else (wrongN l[i].r.names, (i : Int))) := HT.out.trans (wrongFrom_step hlt)
        obtain ⟨p3, n3, c3, e3⟩ : ∃ p n c, l[i].vn = .slice p n c := by obtain ⟨_, _, _, _, _, _, hr⟩ := S1.out; obtain ⟨p, c, e, _⟩ := (hr _ hmem).1; exact ⟨p, _, c, e⟩
        obtain ⟨p4, n4, c4, e4⟩ : ∃ p n c, l[i].vc = .slice p n c := by obtain ⟨_, _, _, _, _, _, hr⟩ := S1.out; obtain ⟨p, c, e, _⟩ := (hr _ hmem).2; exact ⟨p, _, c, e⟩
        clear hmem HT
        generalize l[i] = x at *
        obtain ⟨⟨xk, xa, ns, cs⟩, vn, vc⟩ := x
        obtain ⟨q0, q1, q2, q3⟩ := e1
        dsimp only at q0 q1 q2 q3 HX HS e3 e4
        subst e3 e4
        have BE : Hid (Below w1.heap.size w1 (wr.alloc (Obj.cells #[.int .i64 xk, .int .i64 xa, .slice p3 n3 c3, .slice p4 n4 c4] 87))) := HB.out.alloc HB.out.size _
        clear hb
        generalize wrongN ns = WN at *
        rcases Bool.eq_false_or_eq_true (WN == 0) with hq | hq
        · obtain rfl : WN = 0 := by simpa using hq
          go_wp2_with (go_at_call 48; refine (HX.out _ BE.out).mono ?_; rintro e w2 ⟨rfl, b2⟩)
          go_roundw
          case rel => exact ⟨i + 1, by go_num, hlt, HS.out.trans (if_pos trivial), BE.out.trans (b2.mono BE.out.size)⟩
          case measure => simp [intOf]; omega
        · have hn : ¬ WN = 0 := by simpa using hq
          have hn' : (WN != 0) = true := by simpa using hn
          have HS2 : Hid (R = (WN, (i : Int))) := HS.out.trans (if_neg hn)
          clear HS
          go_wp2_with (go_at_call 48; refine (HX.out _ BE.out).mono ?_; rintro e w2 ⟨rfl, b2⟩)
          go_ret2
          exact ⟨ret_ints (by rw [HS2.out]) (by rw [HS2.out]), B1.out.trans ((BE.out.trans (b2.mono BE.out.size)).mono B1.out.size)⟩
      · have hge : ¬ (i : Int) < (l.length : Int) := by omega
        have HS2 : Hid (R = (0, -1)) := HT.out.trans (wrongFrom_end hlt)
        clear hb
        go_wp2
        go_ret2
        exact ⟨ret_ints (by rw [HS2.out]) (by rw [HS2.out]), B1.out.trans (HB.out.mono B1.out.size)⟩

end Go.Proofs.YtcckipimfgmmdaaGreatDoor.M

namespace Go.Proofs.YtcckipimfgmmdaaGreatDoor.M
open Go.RowKit

theorem tab_names : (tab.all fun p => tab.all fun q => !(lst p.1 == lst q.1) || p.2 == q.2) = true := by kernel_rfl
theorem tab_nrs : (tab.all fun p => tab.all fun q => !(p.2 == q.2) || lst p.1 == lst q.1) = true := by kernel_rfl

theorem tab_name {p q : ByteArray × Nat} (hp : p ∈ tab) (hq : q ∈ tab) (h : p.1 = q.1) : p.2 = q.2 := by
  have h1 := List.all_eq_true.1 (List.all_eq_true.1 tab_names p hp) q hq
  rw [h] at h1
  simpa using h1
theorem tab_nr {p q : ByteArray × Nat} (hp : p ∈ tab) (hq : q ∈ tab) (h : p.2 = q.2) : p.1 = q.1 := by
  have h1 := List.all_eq_true.1 (List.all_eq_true.1 tab_nrs p hp) q hq
  rw [h] at h1
  have h2 : lst p.1 = lst q.1 := by simpa using h1
  rw [← bar_lst p.1, h2, bar_lst]

theorem nr_iff {s : ByteArray} {z : Int} : (knB s && (nrI s == z)) = true ↔ ∃ p ∈ tab, p.1 = s ∧ (p.2 : Int) = z := by
  unfold knB nrI nrOf
  cases h : tab.find? fun p => eqS p.1 s with
  | none =>
    rw [List.find?_eq_none] at h
    constructor
    · intro h1; simp at h1
    · rintro ⟨p, hp, rfl, _⟩
      exact absurd (eqS_self _) (h p hp)
  | some q =>
    have hq := List.mem_of_find?_eq_some h
    have he : q.1 = s := eqS_iff.1 (List.find?_some (p := fun p : ByteArray × Nat => eqS p.1 s) h)
    constructor
    · intro h1
      exact ⟨q, hq, he, by simpa using h1⟩
    · rintro ⟨p, hp, h1, rfl⟩
      have := tab_name hp hq (h1.trans he.symm)
      simp [this]
theorem nm_iff {s : ByteArray} {z : Int} : (isNr z && eqS (nmS z) s) = true ↔ ∃ p ∈ tab, p.1 = s ∧ (p.2 : Int) = z := by
  unfold isNr nmS nameOf
  cases h : tab.find? fun p => ((p.2 : Int) == z) with
  | none =>
    rw [List.find?_eq_none] at h
    constructor
    · intro h1; simp at h1
    · rintro ⟨p, hp, _, rfl⟩
      exact absurd (by simp) (h p hp)
  | some q =>
    have hq := List.mem_of_find?_eq_some h
    have he : (q.2 : Int) = z := by simpa using List.find?_some (p := fun p : ByteArray × Nat => ((p.2 : Int) == z)) h
    constructor
    · intro h1
      exact ⟨q, hq, eqS_iff.1 (by simpa using h1), he⟩
    · rintro ⟨p, hp, rfl, h1⟩
      have : q.1 = p.1 := tab_nr hq hp (by omega)
      simp [this, eqS_self]

theorem spk (z : Int) (s : ByteArray) : (isNr z && eqS (nmS z) s) = (knB s && (nrI s == z)) := by
  rw [Bool.eq_iff_iff, nm_iff, nr_iff]

end Go.Proofs.YtcckipimfgmmdaaGreatDoor.M

namespace Go.Proofs.YtcckipimfgmmdaaGreatDoor.M
open Go.RowKit

def hB (d : Da) (c : Xc) : Bool := holdN c.arg c.op c.mask c.val (d.g.getD c.arg.toNat 0)

theorem holdsX (x : Xc) (d : Da) (w : World) (hd : d.ok) : Calls Tryz.prog 97 #[.agg #[.int .i64 x.arg, .int .i64 x.op, .int .u64 x.mask, .int .u64 x.val], .agg d.cells.toArray] w fun e w' => e = .returned (.bool (hB d x)) ∧ Below w.heap.size w w' :=
  holds_any x.arg x.op x.mask x.val d w hd

set_option maxHeartbeats 1000000 in
theorem allHold_any (w : World) (v : Value) (l : List Xc) (d : Da) (h : CdR w v l) (hl : l.length ≤ 9000000) (hd : d.ok) :
    Calls Tryz.prog 55 #[v, .agg d.cells.toArray] w fun e w' => e = .returned (.bool (l.all (hB d))) ∧ Below w.heap.size w w' := by
  obtain ⟨p1, c1, rfl⟩ : ∃ p c, v = .slice p l.length c := by obtain ⟨p, c, e, _⟩ := h; exact ⟨p, c, e⟩
  have hsz : (Tryz.prog.info? 27).map (·.size) = some d.cells.toArray.size := d.size hd
  have HH : Hid (∀ (x : Xc) W, Calls Tryz.prog 97 #[.agg #[.int .i64 x.arg, .int .i64 x.op, .int .u64 x.mask, .int .u64 x.val], .agg d.cells.toArray] W fun e w' => e = .returned (.bool (hB d x)) ∧ Below W.heap.size W w') := fun x W => holdsX x d W hd
  have HR : Hid (∀ b, l.all (hB d) = b → b = l.all (hB d)) := fun b h => h.symm
  generalize d.cells = A at *
  have be : Below w.heap.size w (w.alloc (Obj.cells A.toArray 27)) := below_new w _
  have BE : Hid (Below w.heap.size w (w.alloc (Obj.cells A.toArray 27))) := be
  have HK : Hid (Blk (w.alloc (Obj.cells A.toArray 27)) w.heap.size 27 A) := blk_new w _ _
  have SN : Hid (CdR (w.alloc (Obj.cells A.toArray 27)) (.slice p1 l.length c1) l) := h.below be
  clear h be hd
  generalize hR : l.all (hB d) = R
  have HRR : Hid (l.all (hB d) = R) := hR
  clear hR HR
  go_enter Tryz.func55, Tryz.ntmps55
  go_wp2_with fail
  generalize (w.alloc (Obj.cells A.toArray 27)) = X at *
  go_loopw [9] (fun vi wr => ∃ i : Nat, vi = .int .i64 i ∧ i ≤ l.length ∧ ((l.take i).all (hB d)) = true ∧ Below X.heap.size X wr) (fun vi _ => l.length - (intOf vi).toNat)
  case atStart => exact ⟨0, rfl, Nat.zero_le _, rfl, Below.refl _ _⟩
  case round =>
    obtain ⟨i, rfl, hi, ht, hb⟩ := hrel
    have HT : Hid (((l.take i).all (hB d)) = true) := ht
    have HB : Hid (Below X.heap.size X wr) := hb
    clear ht
    by_cases hlt : i < l.length
    · have hi1 : (i : Int) < (l.length : Int) := by omega
      obtain ⟨b1, o1, rfl, e1⟩ := cdR_at (SN.out.below hb) hlt
      have HX : Hid (∀ W, Calls Tryz.prog 97 #[.agg #[.int .i64 l[i].arg, .int .i64 l[i].op, .int .u64 l[i].mask, .int .u64 l[i].val], .agg A.toArray] W fun e w' => e = .returned (.bool (hB d l[i])) ∧ Below W.heap.size W w') := HH.out l[i]
      have HS : Hid (hB d l[i] = true → ((l.take (i + 1)).all (hB d)) = true) := fun hq => all_step (p := hB d) hlt hq HT.out
      have HF : Hid (hB d l[i] = false → R = false) := fun hq => HRR.out.symm.trans (all_stop (p := hB d) hlt hq)
      clear HH
      generalize hB d l[i] = q at *
      generalize l[i] = x at *
      obtain ⟨xa, xo, xm, xv⟩ := x
      obtain ⟨q0, q1, q2, q3⟩ := e1
      dsimp only at q0 q1 q2 q3 HX
      have BX : Hid (Below X.heap.size X (wr.alloc (Obj.cells #[.int .i64 xa, .int .i64 xo, .int .u64 xm, .int .u64 xv] 139))) := HB.out.alloc HB.out.size _
      have KX : Hid (Blk (wr.alloc (Obj.cells #[.int .i64 xa, .int .i64 xo, .int .u64 xm, .int .u64 xv] 139)) w.heap.size 27 A) := HK.out.over BX.out
      clear hb
      cases q with
      | true =>
        go_wp2_with (first | (go_at_call 97; refine (HX.out _).mono ?_; rintro e w1 ⟨rfl, b1⟩) | (refine at_op (.load 27 (.tmp 3)) rfl ?_; refine wpList_load_row rfl 27 (.tmp 3) rfl w.heap.size rfl 27 A.toArray (0, 0) _ KX.out Tryz.underlying27 rfl hsz ?_))
        go_roundw
        case rel => exact ⟨i + 1, by go_num, hlt, HS.out trivial, BX.out.trans (b1.mono BX.out.size)⟩
        case measure => simp [intOf]; omega
      | false =>
        go_wp2_with (first | (go_at_call 97; refine (HX.out _).mono ?_; rintro e w1 ⟨rfl, b1⟩) | (refine at_op (.load 27 (.tmp 3)) rfl ?_; refine wpList_load_row rfl 27 (.tmp 3) rfl w.heap.size rfl 27 A.toArray (0, 0) _ KX.out Tryz.underlying27 rfl hsz ?_))
        go_ret
        exact ⟨ret_bool (HF.out trivial).symm, BE.out.trans ((BX.out.trans (b1.mono BX.out.size)).mono BE.out.size)⟩
    · have hge : ¬ (i : Int) < (l.length : Int) := by omega
      clear hb
      go_wp2
      go_ret
      exact ⟨ret_bool (by rw [← HRR.out]; exact (all_end hlt HT.out).symm), BE.out.trans (HB.out.mono BE.out.size)⟩

theorem wpList_load_rowG {P : Program} {ops : Array Oper} {rest : List Oper} {o : Oper} {a : Act} {w : World} {Q : Exit → Act → World → Prop} (hw : Region.wanted o (yielded ops a.tmps) = true) (ty : TypeId) (x : Operand) (ho : o.op = .load ty x)
    (g : Nat) (hx : a.eval x = .pointer (some ⟨g, 0, none⟩)) (t : TypeId) (cs : Array Value) (fr : Nat × Nat) (d : TypeDesc) (hg : w.heap[g]? = some (.cells cs t fr))
    (hu : P.underlying ty = some d) (hd : (match d with | .struct _ | .array _ _ => true | _ => false) = true) (hi : (P.info? ty).map (·.size) = some cs.size)
    (h : wpList P ops Q rest (a.put o.dst (.agg cs)) w) : wpList P ops Q (o :: rest) a w :=
  wpList_step fun K hK => by
    simp only [hw, if_true]
    exact wp_load_row ty x ho g hx t cs fr d hg hu hd hi (hK _ _ h)

def namedB (z : Int) (l : List ByteArray) : Bool := l.any fun s => eqS (nmS z) s
def meetB (d : Da) (x : Xl) : Bool := namedB d.n x.names && x.conds.all (hB d)

def verdF (d : Da) (k a : Int) : List Xl → Int × Int
  | [] => (k, a)
  | x :: r => if meetB d x = true then (x.k, x.a) else verdF d k a r
def verdP (d : Da) (k a : Int) (l : List Xl) : Int × Int := if isNr d.n = true then verdF d k a l else (k, a)

theorem verdF_step {d : Da} {k a : Int} {l : List Xr} {i : Nat} (h : i < l.length) : verdF d k a ((l.drop i).map Xr.r) = if meetB d l[i].r = true then (l[i].r.k, l[i].r.a) else verdF d k a ((l.drop (i + 1)).map Xr.r) := by
  rw [List.drop_eq_getElem_cons h]
  rfl
theorem verdF_end {d : Da} {k a : Int} {l : List Xr} {i : Nat} (h : ¬ i < l.length) : verdF d k a ((l.drop i).map Xr.r) = (k, a) := by
  rw [List.drop_eq_nil_of_le (by omega)]
  rfl

def actV (p : Int × Int) : Array Value := #[.int .i64 p.1, .int .i64 p.2]
theorem Tryz.sizeA (p : Int × Int) : (Tryz.prog.info? 36).map (·.size) = some (actV p).size := by show (Tryz.prog.info? 36).map (·.size) = some 2; kernel_rfl
theorem actV_one (p : Int × Int) : (actV p).all (·.oneCell') = true := by simp [actV, Value.oneCell']

theorem three_new (w : World) (o : Obj) (A : List Value) (B : Array Value) : Blk (((w.alloc o).alloc (Obj.cells A.toArray 27)).alloc (Obj.cells B 36)) (w.heap.size + 1) 27 A ∧ Blk (((w.alloc o).alloc (Obj.cells A.toArray 27)).alloc (Obj.cells B 36)) (w.heap.size + 1 + 1) 36 B.toList ∧ Below w.heap.size w (((w.alloc o).alloc (Obj.cells A.toArray 27)).alloc (Obj.cells B 36)) := by
  refine ⟨(blk_new' w o _ 27).alloc _, ?_, (room_below w _ _).alloc (room_below w _ _).size _⟩
  have := blk_new' (w.alloc o) (Obj.cells A.toArray 27) B 36
  rw [size_alloc'] at this
  exact this
theorem three_first (w : World) (A : List Value) (B C : Array Value) (t : TypeId) : Blk (((w.alloc (Obj.cells C t)).alloc (Obj.cells A.toArray 27)).alloc (Obj.cells B 36)) w.heap.size t C.toList := ((blk_new w C t).alloc _).alloc _

set_option maxRecDepth 8000 in
set_option maxHeartbeats 2000000 in
theorem verdict_any (w : World) (k a : Int) (v : Value) (l : List Xr) (d : Da) (h : RlR w v l) (hl : l.length ≤ 1000) (hs : ∀ x ∈ l, x.r.names.length ≤ 9000000 ∧ x.r.conds.length ≤ 9000000) (hd : d.ok) :
    Calls Tryz.prog 26 #[.agg #[.int .i64 k, .int .i64 a, v], .agg d.cells.toArray] w fun e w' => e = .returned (.agg (actV (verdP d k a (l.map Xr.r)))) ∧ Below w.heap.size w w' := by
  obtain ⟨p1, c1, rfl⟩ : ∃ p c, v = .slice p l.length c := by obtain ⟨p, c, e, _⟩ := h; exact ⟨p, c, e⟩
  have hsz : (Tryz.prog.info? 27).map (·.size) = some d.cells.toArray.size := d.size hd
  have hA0 : d.cells[0]? = some (.int .u32 d.n) := rfl
  have HH : Hid (∀ W v (x : Xl), CdR W v x.conds → x.conds.length ≤ 9000000 → Calls Tryz.prog 55 #[v, .agg d.cells.toArray] W fun e w' => e = .returned (.bool (x.conds.all (hB d))) ∧ Below W.heap.size W w') := fun W v x h1 h2 => allHold_any W v x.conds d h1 h2 hd
  have HNm : Hid (∀ W, Calls Tryz.prog 53 #[.int .u32 d.n] W fun e w' => e = .returned (.tuple #[.string (nmS d.n), .bool (isNr d.n)]) ∧ Below W.heap.size W w') := name_any _
  have HV : Hid (verdP d k a (l.map Xr.r) = if isNr d.n = true then verdF d k a ((l.drop 0).map Xr.r) else (k, a)) := rfl
  have HMB : Hid (∀ x : Xl, meetB d x = (namedB d.n x.names && x.conds.all (hB d))) := fun _ => rfl
  have HM : Hid (∀ x ∈ l, x.r.names.length ≤ 9000000 ∧ x.r.conds.length ≤ 9000000) := hs
  have h3 := three_new w (Obj.cells #[.int .i64 k, .int .i64 a, .slice p1 l.length c1] 39) d.cells #[.int .i64 0, .int .i64 0]
  have h4 := three_first w d.cells #[.int .i64 0, .int .i64 0] #[.int .i64 k, .int .i64 a, .slice p1 l.length c1] 39
  generalize hAA : d.cells = A at *
  have BE : Hid (Below w.heap.size w (((w.alloc (Obj.cells #[.int .i64 k, .int .i64 a, .slice p1 l.length c1] 39)).alloc (Obj.cells A.toArray 27)).alloc (Obj.cells #[.int .i64 0, .int .i64 0] 36))) := h3.2.2
  have KD : Hid (Blk (((w.alloc (Obj.cells #[.int .i64 k, .int .i64 a, .slice p1 l.length c1] 39)).alloc (Obj.cells A.toArray 27)).alloc (Obj.cells #[.int .i64 0, .int .i64 0] 36)) (w.heap.size + 1) 27 A) := h3.1
  have KA : Hid (Blk (((w.alloc (Obj.cells #[.int .i64 k, .int .i64 a, .slice p1 l.length c1] 39)).alloc (Obj.cells A.toArray 27)).alloc (Obj.cells #[.int .i64 0, .int .i64 0] 36)) (w.heap.size + 1 + 1) 36 [.int .i64 0, .int .i64 0]) := h3.2.1
  have KR : Hid (Blk (((w.alloc (Obj.cells #[.int .i64 k, .int .i64 a, .slice p1 l.length c1] 39)).alloc (Obj.cells A.toArray 27)).alloc (Obj.cells #[.int .i64 0, .int .i64 0] 36)) w.heap.size 39 [.int .i64 k, .int .i64 a, .slice p1 l.length c1]) := h4
  have SN : Hid (RlR _ (.slice p1 l.length c1) l) := h.below h3.2.2
  have HCt : Hid (∀ W v ns, StrR W v ns → ns.length ≤ 9000000 → Calls Tryz.prog 54 #[v, .string (nmS d.n)] W fun e w' => e = .returned (.bool (namedB d.n ns)) ∧ w' = W) := fun W v ns h1 h2 => contains_any W v ns _ h1 h2
  clear h hs hd h3 h4
  generalize verdP d k a (l.map Xr.r) = R at *
  generalize nmS d.n = nm at *
  clear hAA
  cases hq : isNr d.n with
  | false =>
    rw [hq] at HV HNm
    have HV2 : Hid (R = (k, a)) := HV.out.trans (if_neg (by decide))
    clear HV HH HCt HMB HM SN hq
    go_enter Tryz.func26, Tryz.ntmps26
    go_wp2_with fail
    generalize (((w.alloc (Obj.cells #[.int .i64 k, .int .i64 a, .slice p1 l.length c1] 39)).alloc (Obj.cells A.toArray 27)).alloc (Obj.cells #[.int .i64 0, .int .i64 0] 36)) = X at *
    refine (HNm.out _).mono ?_
    rintro e w1 ⟨rfl, b1⟩
    have t0 : w1.cell? ⟨w.heap.size, 0, none⟩ = some (.int .i64 k) := (KR.out.over b1).cell 0
    have t1 : w1.cell? ⟨w.heap.size, 1, none⟩ = some (.int .i64 a) := (KR.out.over b1).cell 1
    have KA1 : Hid (Blk w1 (w.heap.size + 1 + 1) 36 [.int .i64 0, .int .i64 0]) := KA.out.over b1
    have B1 : Hid (Below w.heap.size w w1) := BE.out.trans (b1.mono BE.out.size)
    clear b1 BE KA KR KD
    go_wp2_with (refine at_op (.store 36 (.tmp 4) (.tmp 18)) rfl ?_; refine wpList_store_row rfl 36 (.tmp 4) (.tmp 18) rfl (w.heap.size + 1 + 1) (actV (k, a)) rfl rfl 36 _ KA1.out (Tryz.sizeA _) rfl (actV_one _) ?_)
    refine bodyPost_ret (v := .agg (actV (k, a))) ?_ rfl ⟨by rw [HV2.out], ?_⟩
    · exact results_cell_row Tryz.results26 _ _ (w.heap.size + 1 + 1) 36 (actV (k, a)) (0, 0) _ rfl (Blk.row KA1.out _) Tryz.underlying36 rfl (Tryz.sizeA _)
    · exact below_setRow B1.out (by omega) _
  | true =>
    rw [hq] at HV HNm
    have HV2 : Hid (R = verdF d k a ((l.drop 0).map Xr.r)) := HV.out.trans (if_pos rfl)
    clear HV hq
    go_enter Tryz.func26, Tryz.ntmps26
    go_wp2_with fail
    generalize (((w.alloc (Obj.cells #[.int .i64 k, .int .i64 a, .slice p1 l.length c1] 39)).alloc (Obj.cells A.toArray 27)).alloc (Obj.cells #[.int .i64 0, .int .i64 0] 36)) = X at *
    refine (HNm.out _).mono ?_
    rintro e w1 ⟨rfl, b1⟩
    have t2 : w1.cell? ⟨w.heap.size, 2, none⟩ = some (.slice p1 l.length c1) := (KR.out.over b1).cell 2
    have S1 : Hid (RlR w1 (.slice p1 l.length c1) l) := SN.out.below b1
    have KA1 : Hid (Blk w1 (w.heap.size + 1 + 1) 36 [.int .i64 0, .int .i64 0]) := KA.out.over b1
    have KR1 : Hid (Blk w1 w.heap.size 39 [.int .i64 k, .int .i64 a, .slice p1 l.length c1]) := KR.out.over b1
    have KD1 : Hid (Blk w1 (w.heap.size + 1) 27 A) := KD.out.over b1
    have B1 : Hid (Below w.heap.size w w1) := BE.out.trans (b1.mono BE.out.size)
    clear b1 BE KA KR KD SN HNm hA0
    go_wp2_with fail
    clear t2
    go_loopw [22] (fun vi wr => ∃ i : Nat, vi = .int .i64 i ∧ i ≤ l.length ∧ R = verdF d k a ((l.drop i).map Xr.r) ∧ Below w1.heap.size w1 wr) (fun vi _ => l.length - (intOf vi).toNat)
    case atStart => exact ⟨0, rfl, Nat.zero_le _, HV2.out, Below.refl _ _⟩
    case round =>
      obtain ⟨i, rfl, hi, ht, hb⟩ := hrel
      have HT : Hid (R = verdF d k a ((l.drop i).map Xr.r)) := ht
      have HB : Hid (Below w1.heap.size w1 wr) := hb
      clear ht
      by_cases hlt : i < l.length
      · have hi1 : (i : Int) < (l.length : Int) := by omega
        obtain ⟨b1, o1, rfl, e1⟩ := rlR_at (S1.out.below hb) hlt
        have hmem : l[i] ∈ l := List.getElem_mem hlt
        have HX : Hid (∀ W, Below w1.heap.size w1 W → Calls Tryz.prog 54 #[l[i].vn, .string nm] W fun e w' => e = .returned (.bool (namedB d.n l[i].r.names)) ∧ w' = W) := fun W hW => by
          obtain ⟨_, _, _, _, _, _, hr⟩ := S1.out.below hW
          exact HCt.out W _ _ (hr _ hmem).1 (HM.out _ hmem).1
        have HY : Hid (∀ W, Below w1.heap.size w1 W → Calls Tryz.prog 55 #[l[i].vc, .agg A.toArray] W fun e w' => e = .returned (.bool (l[i].r.conds.all (hB d))) ∧ Below W.heap.size W w') := fun W hW => by
          obtain ⟨_, _, _, _, _, _, hr⟩ := S1.out.below hW
          exact HH.out W _ l[i].r (hr _ hmem).2 (HM.out _ hmem).2
        have HS : Hid (R = if (namedB d.n l[i].r.names && l[i].r.conds.all (hB d)) = true then (l[i].r.k, l[i].r.a) else verdF d k a ((l.drop (i + 1)).map Xr.r)) := by
          show R = _
          rw [← HMB.out]
          exact HT.out.trans (verdF_step hlt)
        obtain ⟨p3, n3, c3, e3⟩ : ∃ p n c, l[i].vn = .slice p n c := by obtain ⟨_, _, _, _, _, _, hr⟩ := S1.out; obtain ⟨p, c, e, _⟩ := (hr _ hmem).1; exact ⟨p, _, c, e⟩
        obtain ⟨p4, n4, c4, e4⟩ : ∃ p n c, l[i].vc = .slice p n c := by obtain ⟨_, _, _, _, _, _, hr⟩ := S1.out; obtain ⟨p, c, e, _⟩ := (hr _ hmem).2; exact ⟨p, _, c, e⟩
        clear hmem HT HH HCt HMB
        generalize l[i] = x at *
        obtain ⟨⟨xk, xa, ns, cs⟩, vn, vc⟩ := x
        obtain ⟨q0, q1, q2, q3⟩ := e1
        dsimp only at q0 q1 q2 q3 HX HY HS e3 e4
        subst e3 e4
        have BE : Hid (Below w1.heap.size w1 (wr.alloc (Obj.cells #[.int .i64 xk, .int .i64 xa, .slice p3 n3 c3, .slice p4 n4 c4] 87))) := HB.out.alloc HB.out.size _
        have KX : Hid (Blk (wr.alloc (Obj.cells #[.int .i64 xk, .int .i64 xa, .slice p3 n3 c3, .slice p4 n4 c4] 87)) wr.heap.size 87 [.int .i64 xk, .int .i64 xa, .slice p3 n3 c3, .slice p4 n4 c4]) := blk_new wr _ _
        have KD2 : Hid (Blk (wr.alloc (Obj.cells #[.int .i64 xk, .int .i64 xa, .slice p3 n3 c3, .slice p4 n4 c4] 87)) (w.heap.size + 1) 27 A) := KD1.out.over BE.out
        clear hb
        generalize namedB d.n ns = qn at *
        generalize cs.all (hB d) = qc at *
        cases qn with
        | false =>
          have HS2 : Hid (R = verdF d k a ((l.drop (i + 1)).map Xr.r)) := HS.out.trans (if_neg (by simp))
          clear HS HY
          go_wp2_with (go_at_call 54; refine (HX.out _ BE.out).mono ?_; rintro e w2 ⟨rfl, rfl⟩)
          go_roundw
          case rel => exact ⟨i + 1, by go_num, hlt, HS2.out, BE.out⟩
          case measure => simp [intOf]; omega
        | true =>
          cases qc with
          | false =>
            have HS2 : Hid (R = verdF d k a ((l.drop (i + 1)).map Xr.r)) := HS.out.trans (if_neg (by simp))
            clear HS
            go_wp2_with (first | (go_at_call 54; refine (HX.out _ BE.out).mono ?_; rintro e w2 ⟨rfl, rfl⟩) | (go_at_call 55; refine (HY.out _ BE.out).mono ?_; rintro e w2 ⟨rfl, b2⟩) | (refine at_op (.load 27 (.tmp 3)) rfl ?_; refine wpList_load_rowG rfl 27 (.tmp 3) rfl (w.heap.size + 1) rfl 27 A.toArray (0, 0) _ KD2.out Tryz.underlying27 rfl hsz ?_))
            go_roundw
            case rel => exact ⟨i + 1, by go_num, hlt, HS2.out, BE.out.trans (b2.mono BE.out.size)⟩
            case measure => simp [intOf]; omega
          | true =>
            have HS2 : Hid (R = (xk, xa)) := HS.out.trans (if_pos (by simp))
            clear HS
            go_wp2_with (first | (go_at_call 54; refine (HX.out _ BE.out).mono ?_; rintro e w2 ⟨rfl, rfl⟩) | (go_at_call 55; refine (HY.out _ BE.out).mono ?_; rintro e w2 ⟨rfl, b2⟩; have t0 : w2.cell? ⟨wr.heap.size, 0, none⟩ = some (.int .i64 xk) := (KX.out.over b2).cell 0; have t1 : w2.cell? ⟨wr.heap.size, 1, none⟩ = some (.int .i64 xa) := (KX.out.over b2).cell 1; have B2 : Hid (Below w1.heap.size w1 w2) := BE.out.trans (b2.mono BE.out.size); clear b2; have KA2 : Hid (Blk w2 (w.heap.size + 1 + 1) 36 [.int .i64 0, .int .i64 0]) := KA1.out.over B2.out) | (refine at_op (.load 27 (.tmp 3)) rfl ?_; refine wpList_load_rowG rfl 27 (.tmp 3) rfl (w.heap.size + 1) rfl 27 A.toArray (0, 0) _ KD2.out Tryz.underlying27 rfl hsz ?_) | (refine at_op (.store 36 (.tmp 4) (.tmp 37)) rfl ?_; refine wpList_store_row rfl 36 (.tmp 4) (.tmp 37) rfl (w.heap.size + 1 + 1) (actV (xk, xa)) rfl rfl 36 _ KA2.out (Tryz.sizeA _) rfl (actV_one _) ?_))
            refine bodyPost_ret (v := .agg (actV (xk, xa))) ?_ rfl ⟨by rw [HS2.out], ?_⟩
            · exact results_cell_row Tryz.results26 _ _ (w.heap.size + 1 + 1) 36 (actV (xk, xa)) (0, 0) _ rfl (Blk.row KA2.out _) Tryz.underlying36 rfl (Tryz.sizeA _)
            · exact below_setRow (B1.out.trans (B2.out.mono B1.out.size)) (by omega) _
      · have hge : ¬ (i : Int) < (l.length : Int) := by omega
        have HS2 : Hid (R = (k, a)) := HT.out.trans (verdF_end hlt)
        have t0 : wr.cell? ⟨w.heap.size, 0, none⟩ = some (.int .i64 k) := (KR1.out.over hb).cell 0
        have t1 : wr.cell? ⟨w.heap.size, 1, none⟩ = some (.int .i64 a) := (KR1.out.over hb).cell 1
        have KA2 : Hid (Blk wr (w.heap.size + 1 + 1) 36 [.int .i64 0, .int .i64 0]) := KA1.out.over hb
        clear hb
        go_wp2_with (refine at_op (.store 36 (.tmp 4) (.tmp 40)) rfl ?_; refine wpList_store_row rfl 36 (.tmp 4) (.tmp 40) rfl (w.heap.size + 1 + 1) (actV (k, a)) rfl rfl 36 _ KA2.out (Tryz.sizeA _) rfl (actV_one _) ?_)
        refine bodyPost_ret (v := .agg (actV (k, a))) ?_ rfl ⟨by rw [HS2.out], ?_⟩
        · exact results_cell_row Tryz.results26 _ _ (w.heap.size + 1 + 1) 36 (actV (k, a)) (0, 0) _ rfl (Blk.row KA2.out _) Tryz.underlying36 rfl (Tryz.sizeA _)
        · exact below_setRow (B1.out.trans (HB.out.mono B1.out.size)) (by omega) _

end Go.Proofs.YtcckipimfgmmdaaGreatDoor.M
