/-
  What is wrong with a rule's names.
-/
import Derived.Test.YtcckipimfgmmdaaGreatDoorMNrs
namespace Go.Proofs.YtcckipimfgmmdaaGreatDoor.M
open Go.RowKit

theorem unknown_any (s : ByteArray) (w : World) : Calls Tryz.prog 85 #[.string s] w fun e w' => e = .returned (.bool (!knB s)) ∧ Below w.heap.size w w' := by
  go_enter Tryz.func85, Tryz.ntmps85
  go_wp2_with (go_at_call 122; refine (nr_any _ _).mono ?_; rintro e w1 ⟨rfl, b1⟩)
  go_ret
  exact ⟨rfl, b1⟩

/-- the place of the first that is so, or -1. -/
def ixOf (p : ByteArray → Bool) (l : List ByteArray) : Int := match l.findIdx? p with | some i => (i : Int) | none => -1

theorem ixOf_hit {p : ByteArray → Bool} {l : List ByteArray} {i : Nat} (h : i < l.length) (hp : p l[i] = true) (ha : ((l.take i).any p) = false) : ixOf p l = i := by
  unfold ixOf
  have : l.findIdx? p = some i := by
    rw [List.findIdx?_eq_some_iff_getElem]
    refine ⟨h, hp, fun j hj => ?_⟩
    rw [List.any_eq_false] at ha
    have := ha l[j] (by rw [List.mem_take_iff_getElem]; exact ⟨j, by omega, rfl⟩)
    simpa using this
  rw [this]
theorem ixOf_none {p : ByteArray → Bool} {l : List ByteArray} (ha : l.any p = false) : ixOf p l = -1 := by
  unfold ixOf
  have : l.findIdx? p = none := by
    rw [List.findIdx?_eq_none_iff]
    rw [List.any_eq_false] at ha
    intro x hx
    simpa using ha x hx
  rw [this]
theorem ixOf_ge (p : ByteArray → Bool) (l : List ByteArray) : decide (0 ≤ ixOf p l) = l.any p := by
  unfold ixOf
  cases h : l.findIdx? p with
  | none =>
    rw [List.findIdx?_eq_none_iff] at h
    have : l.any p = false := by rw [List.any_eq_false]; intro x hx; simp [h x hx]
    rw [this]
    rfl
  | some i =>
    rw [List.findIdx?_eq_some_iff_getElem] at h
    obtain ⟨hi, hp, _⟩ := h
    have : l.any p = true := by rw [List.any_eq_true]; exact ⟨_, List.getElem_mem hi, hp⟩
    rw [this]
    exact decide_eq_true (by show (0 : Int) ≤ (i : Int); omega)
theorem any_step {p : ByteArray → Bool} {l : List ByteArray} {i : Nat} (h : i < l.length) (hp : p l[i] = false) (ht : (l.take i).any p = false) : (l.take (i + 1)).any p = false := by
  rw [List.take_succ_eq_append_getElem h, List.any_append, ht]
  simp [hp]
theorem any_end {p : ByteArray → Bool} {l : List ByteArray} {i : Nat} (h : ¬ i < l.length) (ht : (l.take i).any p = false) : l.any p = false := by
  rwa [List.take_of_length_le (by omega)] at ht

set_option maxHeartbeats 1000000 in
theorem indexF_any (w : World) (v : Value) (l : List ByteArray) (h : StrR w v l) (hl : l.length ≤ 9000000) :
    Calls Tryz.prog 121 #[v, .func (.func 85) #[] #[]] w fun e w' => e = .returned (.int .i64 (ixOf (fun s => !knB s) l)) ∧ Below w.heap.size w w' := by
  obtain ⟨p1, c1, rfl⟩ : ∃ p c, v = .slice p l.length c := by obtain ⟨p, c, e, _⟩ := h; exact ⟨p, c, e⟩
  have S1 : Hid (StrR w (.slice p1 l.length c1) l) := h
  clear h
  have HR : Hid (∀ i (hi : i < l.length), (!knB l[i]) = true → ((l.take i).any fun s => !knB s) = false → ixOf (fun s => !knB s) l = i) := fun i hi h1 h2 => ixOf_hit hi h1 h2
  have HN : Hid ((l.any fun s => !knB s) = false → ixOf (fun s => !knB s) l = -1) := ixOf_none
  generalize ixOf (fun s => !knB s) l = R at *
  go_enter Tryz.func121, Tryz.ntmps121
  go_wp2
  go_loopw [8] (fun vi wr => ∃ i : Nat, vi = .int .i64 i ∧ i ≤ l.length ∧ ((l.take i).any fun s => !knB s) = false ∧ Below w.heap.size w wr) (fun vi _ => l.length - (intOf vi).toNat)
  case atStart => exact ⟨0, rfl, Nat.zero_le _, rfl, Below.refl _ _⟩
  case round =>
    obtain ⟨i, rfl, hi, ht, hb⟩ := hrel
    have HT : Hid (((l.take i).any fun s => !knB s) = false) := ht
    have HB : Hid (Below w.heap.size w wr) := hb
    clear ht
    by_cases hlt : i < l.length
    · have hi1 : (i : Int) < (l.length : Int) := by omega
      obtain ⟨b1, o1, rfl, e1⟩ := strR_at (S1.out.below hb) hlt
      have HX : Hid (∀ W, Calls Tryz.prog 85 #[.string l[i]] W fun e w' => e = .returned (.bool (!knB l[i])) ∧ Below W.heap.size W w') := unknown_any _
      have HS : Hid ((!knB l[i]) = false → ((l.take (i + 1)).any fun s => !knB s) = false) := fun hq => any_step (p := fun s => !knB s) hlt hq HT.out
      have HF : Hid ((!knB l[i]) = true → R = i) := fun hq => HR.out i hlt hq HT.out
      clear hb HR HN
      generalize (!knB l[i]) = q at *
      generalize l[i] = s at *
      cases q with
      | true =>
        go_wp2_with (go_at_call 85; refine (HX.out _).mono ?_; rintro e w1 ⟨rfl, b1⟩)
        go_ret
        exact ⟨ret_int (HF.out trivial).symm, HB.out.trans (b1.mono HB.out.size)⟩
      | false =>
        go_wp2_with (go_at_call 85; refine (HX.out _).mono ?_; rintro e w1 ⟨rfl, b1⟩)
        go_roundw
        case rel => exact ⟨i + 1, by go_num, hlt, HS.out trivial, HB.out.trans (b1.mono HB.out.size)⟩
        case measure => simp [intOf]; omega
    · have hge : ¬ (i : Int) < (l.length : Int) := by omega
      clear hb
      go_wp2
      go_ret
      exact ⟨ret_int (HN.out (any_end hlt HT.out)).symm, HB.out⟩

theorem containsF_any (w : World) (v : Value) (l : List ByteArray) (h : StrR w v l) (hl : l.length ≤ 9000000) :
    Calls Tryz.prog 84 #[v, .func (.func 85) #[] #[]] w fun e w' => e = .returned (.bool (l.any fun s => !knB s)) ∧ Below w.heap.size w w' := by
  have HI : Hid (Calls Tryz.prog 121 #[v, .func (.func 85) #[] #[]] w fun e w' => e = .returned (.int .i64 (ixOf (fun s => !knB s) l)) ∧ Below w.heap.size w w') := indexF_any w v l h hl
  have HG : Hid (decide (0 ≤ ixOf (fun s => !knB s) l) = l.any fun s => !knB s) := ixOf_ge _ _
  obtain ⟨p1, c1, rfl⟩ : ∃ p c, v = .slice p l.length c := by obtain ⟨p, c, e, _⟩ := h; exact ⟨p, c, e⟩
  clear h
  generalize ixOf (fun s => !knB s) l = R at *
  go_enter Tryz.func84, Tryz.ntmps84
  go_wp2_with (go_at_call 121; refine HI.out.mono ?_; rintro e w1 ⟨rfl, b1⟩)
  go_ret
  exact ⟨ret_bool HG.out, b1⟩

set_option maxHeartbeats 1000000 in
theorem index_any (w : World) (v : Value) (l : List ByteArray) (x : ByteArray) (h : StrR w v l) (hl : l.length ≤ 9000000) :
    Calls Tryz.prog 96 #[v, .string x] w fun e w' => e = .returned (.int .i64 (ixOf (fun s => eqS x s) l)) ∧ w' = w := by
  obtain ⟨p1, c1, rfl⟩ : ∃ p c, v = .slice p l.length c := by obtain ⟨p, c, e, _⟩ := h; exact ⟨p, c, e⟩
  have S1 : Hid (StrR w (.slice p1 l.length c1) l) := h
  clear h
  have HR : Hid (∀ i (hi : i < l.length), eqS x l[i] = true → ((l.take i).any fun s => eqS x s) = false → ixOf (fun s => eqS x s) l = i) := fun i hi h1 h2 => ixOf_hit hi h1 h2
  have HN : Hid ((l.any fun s => eqS x s) = false → ixOf (fun s => eqS x s) l = -1) := ixOf_none
  generalize ixOf (fun s => eqS x s) l = R at *
  go_enter Tryz.func96, Tryz.ntmps96
  go_wp2
  go_loop [8] (fun vi => ∃ i : Nat, vi = .int .i64 i ∧ i ≤ l.length ∧ ((l.take i).any fun s => eqS x s) = false) (fun vi => l.length - (intOf vi).toNat)
  case atStart => exact ⟨0, rfl, Nat.zero_le _, rfl⟩
  case round =>
    obtain ⟨i, rfl, hi, ht⟩ := hrel
    have HT : Hid (((l.take i).any fun s => eqS x s) = false) := ht
    clear ht
    by_cases hlt : i < l.length
    · have hi1 : (i : Int) < (l.length : Int) := by omega
      obtain ⟨b1, o1, rfl, e1⟩ := strR_at S1.out hlt
      have HS : Hid (eqS x l[i] = false → ((l.take (i + 1)).any fun s => eqS x s) = false) := fun hq => any_step (p := fun s => eqS x s) hlt hq HT.out
      have HF : Hid (eqS x l[i] = true → R = i) := fun hq => HR.out i hlt hq HT.out
      clear HR HN
      generalize l[i] = s at *
      rcases Bool.eq_false_or_eq_true (eqS x s) with hq | hq
      · have hq' : (x.toList == s.toList) = true := (eqS_to _ _).trans hq
        go_wp2
        go_ret
        exact ⟨ret_int (HF.out hq).symm, rfl⟩
      · have hq' : (x.toList == s.toList) = false := (eqS_to _ _).trans hq
        go_wp2
        go_round
        case rel => exact ⟨i + 1, by go_num, hlt, HS.out hq⟩
        case measure => simp [intOf]; omega
    · have hge : ¬ (i : Int) < (l.length : Int) := by omega
      go_wp2
      go_ret
      exact ⟨ret_int (HN.out (any_end hlt HT.out)).symm, rfl⟩

theorem contains_any (w : World) (v : Value) (l : List ByteArray) (x : ByteArray) (h : StrR w v l) (hl : l.length ≤ 9000000) :
    Calls Tryz.prog 54 #[v, .string x] w fun e w' => e = .returned (.bool (l.any fun s => eqS x s)) ∧ w' = w := by
  have HI : Hid (Calls Tryz.prog 96 #[v, .string x] w fun e w' => e = .returned (.int .i64 (ixOf (fun s => eqS x s) l)) ∧ w' = w) := index_any w v l x h hl
  have HG : Hid (decide (0 ≤ ixOf (fun s => eqS x s) l) = l.any fun s => eqS x s) := ixOf_ge _ _
  obtain ⟨p1, c1, rfl⟩ : ∃ p c, v = .slice p l.length c := by obtain ⟨p, c, e, _⟩ := h; exact ⟨p, c, e⟩
  clear h
  generalize ixOf (fun s => eqS x s) l = R at *
  go_enter Tryz.func54, Tryz.ntmps54
  go_wp2_with (go_at_call 96; refine HI.out.mono ?_; rintro e w1 ⟨rfl, rfl⟩)
  go_ret
  exact ⟨ret_bool HG.out, rfl⟩

end Go.Proofs.YtcckipimfgmmdaaGreatDoor.M
