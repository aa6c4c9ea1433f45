/-
  Which codes are instructions': what each function that asks a code returns, proved of every code.
-/
import Derived.Test.YtinjlneeafopoaaMem
namespace Go.Proofs.Ytinjlneeafopoaa
open Go.RowKit

/-- the codes that a slice leads to. -/
def Us (w : World) (a : Option Addr) (len : Nat) (l : List Int) : Prop :=
  l.length = len ∧ ∃ b off, a = some ⟨b, off, none⟩ ∧ ∀ i, i < len → w.cell? ⟨b, off + i, none⟩ = some (.int .u16 (l.getD i 0))

/-- is a code in a list? -/
def isIn (l : List Int) (c : Int) : Bool := l.contains c

theorem isIn_zero (l : List Int) (c : Int) : isIn (l.take 0) c = false := rfl

theorem isIn_take (l : List Int) (c : Int) (k : Nat) (hk : k < l.length) : isIn (l.take (k + 1)) c = (isIn (l.take k) c || l.getD k 0 == c) := by
  have e1 : l.take (k + 1) = l.take k ++ [l[k]] := by rw [List.take_add_one, List.getElem?_eq_getElem hk]; rfl
  have e2 : l.getD k 0 = l[k] := by simp [hk]
  have e3 : (c == l[k]) = (l[k] == c) := Bool.beq_comm
  rw [e1, e2]
  unfold isIn
  rw [List.contains_eq_any_beq, List.contains_eq_any_beq, List.any_append, List.any_cons, List.any_nil, Bool.or_false, e3]

theorem isIn_get (l : List Int) (c : Int) (k : Nat) (hk : k < l.length) (h : l.getD k 0 = c) : isIn l c = true := by
  have e2 : l.getD k 0 = l[k] := by simp [hk]
  unfold isIn
  rw [← h, e2]
  simp

/-- a place that was found, or none. -/
def Idx (e : Ending) (b : Bool) : Prop := (∃ k : Nat, e = .returned (.int .i64 k) ∧ b = true) ∨ (e = .returned (.int .i64 (-1)) ∧ b = false)

set_option maxHeartbeats 400000 in
theorem index_any (a : Option Addr) (len cap : Nat) (l : List Int) (c : Int) (w : World) (hlen : len ≤ 100) (h : Us w a len l) :
    Calls Try.prog 60 #[.slice a len cap, .int .u16 c] w fun e w' => Idx e (isIn l c) ∧ w' = w := by
  obtain ⟨hll, b, off, rfl, hc⟩ := h
  have HC : Hid (∀ i, i < len → w.cell? ⟨b, off + i, none⟩ = some (.int .u16 (l.getD i 0))) := hc
  clear hc
  go_enter Try.func60, Try.ntmps60
  go_wp2
  go_loop [8] (fun i => ∃ k : Nat, k ≤ len ∧ i = .int .i64 k ∧ isIn (l.take k) c = false) (fun i => len - (intOf i).toNat)
  case atStart => exact ⟨0, Nat.zero_le _, rfl, rfl⟩
  case round =>
    obtain ⟨k, hk, rfl, hno⟩ := hrel
    by_cases hlt : k < len
    · have hck := HC.out k hlt
      have HT : Hid (isIn (l.take (k + 1)) c = (isIn (l.take k) c || l.getD k 0 == c)) := isIn_take l c k (by omega)
      have HM : Hid (l.getD k 0 = c → isIn l c = true) := isIn_get l c k (by omega)
      have HN : Hid (isIn (l.take k) c = false) := hno
      clear hno
      generalize l.getD k 0 = x at *
      by_cases hx : x = c
      · have HF : Hid (isIn l c = true) := HM.out hx
        clear HM HT HN
        subst hx
        go_wp2
        go_ret
        exact ⟨.inl ⟨k, rfl, HF.out⟩, rfl⟩
      · have hx2 : ¬ c = x := fun e => hx e.symm
        go_wp2
        go_round
        case rel => exact ⟨k + 1, by omega, by go_num, by rw [HT.out, HN.out]; simp [hx]⟩
        case measure => simp [intOf]; omega
    · have hno' : Hid (isIn l c = false) := by unfold Hid; rw [List.take_of_length_le (by omega)] at hno; exact hno
      go_wp2
      go_ret
      exact ⟨.inr ⟨rfl, hno'.out⟩, rfl⟩

theorem contains_any (a : Option Addr) (len cap : Nat) (l : List Int) (c : Int) (w : World) (hlen : len ≤ 100) (h : Us w a len l) :
    Calls Try.prog 58 #[.slice a len cap, .int .u16 c] w fun e w' => e = .returned (.bool (isIn l c)) ∧ w' = w := by
  go_enter Try.func58, Try.ntmps58
  go_wp2_with fail
  refine (index_any a len cap l c _ hlen h).mono ?_
  rintro e w2 ⟨⟨k, rfl, hz⟩ | ⟨rfl, hz⟩, rfl⟩
  · go_wp2
    go_ret
    exact ⟨by rw [hz]; rfl, rfl⟩
  · go_wp2
    go_ret
    exact ⟨by rw [hz]; rfl, rfl⟩

set_option maxHeartbeats 400000 in
theorem has_any (a : Option Addr) (len cap : Nat) (l : List Int) (c : Int) (w : World) (hlen : len ≤ 100) (h : Us w a len l) :
    Calls Try.prog 54 #[.slice a len cap, .int .u16 c] w fun e w' => e = .returned (.bool (isIn l c)) ∧ w' = w := by
  obtain ⟨hll, b, off, rfl, hc⟩ := h
  have HC : Hid (∀ i, i < len → w.cell? ⟨b, off + i, none⟩ = some (.int .u16 (l.getD i 0))) := hc
  clear hc
  go_enter Try.func54, Try.ntmps54
  go_wp2
  go_loop [5] (fun i => ∃ k : Nat, k ≤ len ∧ i = .int .i64 k ∧ isIn (l.take k) c = false) (fun i => len - (intOf i).toNat)
  case atStart => exact ⟨0, Nat.zero_le _, rfl, rfl⟩
  case round =>
    obtain ⟨k, hk, rfl, hno⟩ := hrel
    by_cases hlt : k < len
    · have hck := HC.out k hlt
      have HT : Hid (isIn (l.take (k + 1)) c = (isIn (l.take k) c || l.getD k 0 == c)) := isIn_take l c k (by omega)
      have HM : Hid (l.getD k 0 = c → isIn l c = true) := isIn_get l c k (by omega)
      have HN : Hid (isIn (l.take k) c = false) := hno
      clear hno
      generalize l.getD k 0 = x at *
      by_cases hx : x = c
      · have HF : Hid (isIn l c = true) := HM.out hx
        clear HM HT HN
        subst hx
        go_wp2
        go_ret
        exact ⟨by rw [HF.out]; rfl, rfl⟩
      · go_wp2
        go_round
        case rel => exact ⟨k + 1, by omega, by go_num, by rw [HT.out, HN.out]; simp [hx]⟩
        case measure => simp [intOf]; omega
    · have hno' : Hid (isIn l c = false) := by unfold Hid; rw [List.take_of_length_le (by omega)] at hno; exact hno
      go_wp2
      go_ret
      exact ⟨by rw [hno'.out]; rfl, rfl⟩

theorem byK_any (c : Int) (w : World) :
    Calls Try.prog 45 #[.int .u16 c] w fun e w' => e = .returned (.int .u16 (bits .andNot .u16 c 8)) ∧ w' = w := by
  go_enter Try.func45, Try.ntmps45
  go_wp2
  go_ret
  exact ⟨rfl, rfl⟩

/-- the codes that stand alone. -/
def aloneL : List Int := [32, 0, 1, 96, 97, 2, 3, 132, 5, 6, 22, 7, 135]
/-- the codes that compute. -/
def compL : List Int := [4, 20, 36, 52, 68, 84, 100, 116, 164]
/-- the codes that compare. -/
def cmpL : List Int := [21, 37, 53, 69]
/-- the document's codes, but for those by X. -/
def plainL : List Int := [32, 0, 1, 96, 97, 2, 3, 4, 20, 36, 52, 68, 84, 100, 116, 132, 164, 5, 21, 37, 53, 69, 6, 22, 7, 135]
/-- the document's codes that may be by X. -/
def withL : List Int := [4, 20, 36, 52, 68, 84, 100, 116, 164, 21, 37, 53, 69]

theorem us_alone (w : World) : Us (w.alloc (.cells #[.int .u16 32, .int .u16 0, .int .u16 1, .int .u16 96, .int .u16 97, .int .u16 2, .int .u16 3, .int .u16 132, .int .u16 5, .int .u16 6, .int .u16 22, .int .u16 7, .int .u16 135] 40)) (some ⟨w.heap.size, 0, none⟩) 13 aloneL := by
  refine ⟨rfl, _, _, rfl, fun i hi => ?_⟩
  match i, hi with
  | 0, _ | 1, _ | 2, _ | 3, _ | 4, _ | 5, _ | 6, _ | 7, _ | 8, _ | 9, _ | 10, _ | 11, _ | 12, _ => simp [aloneL]

theorem alone_any (c : Int) (w : World) :
    Calls Try.prog 46 #[.int .u16 c] w fun e w' => e = .returned (.bool (isIn aloneL c)) ∧ Below w.heap.size w w' := by
  have e1 : ∀ o, Below w.heap.size w (w.alloc o) := fun o => (Below.refl _ _).alloc (Nat.le_refl _) _
  have hu := us_alone w
  go_enter Try.func46, Try.ntmps46
  go_wp2_with (go_at_call 58; refine (contains_any _ 13 13 aloneL c _ (by decide) hu).mono ?_; rintro e w2 ⟨rfl, rfl⟩)
  go_ret
  exact ⟨rfl, e1 _⟩

end Go.Proofs.Ytinjlneeafopoaa

