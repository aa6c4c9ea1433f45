/-
  A whole run, as plain numbers: through which places it goes, and what it comes to.
-/
import Derived.Test.YtcckipimfgmmdaaGreatDoorVVCourse
import Derived.OpenShut
import Derived.ProofKit
namespace Go.Proofs.YtcckipimfgmmdaaGreatDoor.V
open Go.RowKit

/-- a run from a place on: the places that it goes through, and what it comes to. -/
def runV (l : List In) (d : Da) : Nat → Nat → St → List Nat × St
  | 0, _, s => ([], s)
  | n + 1, p, s =>
    match l[p]? with
    | none => ([], s)
    | some x => let r := runV l d n (nextV l.length d x p s).1.toNat (nextV l.length d x p s).2; (p :: r.1, r.2)

/-- a run at its beginning. -/
def St.zero : St := ⟨0, 0, fun _ => 0, 0⟩

/-- a run of a program. -/
def allV (l : List In) (d : Da) : List Nat × St := runV l d l.length 0 St.zero

theorem skipV_nn (x : In) (s : St) (hx : x.ok) : 0 ≤ skipV x s ∧ skipV x s ≤ 4294967295 := by
  unfold In.ok at hx
  unfold skipV
  repeat' split
  all_goals omega

theorem nextV_gt (len : Nat) (d : Da) (x : In) (p : Nat) (s : St) (hx : x.ok) (hp : p < len) : (p : Int) < (nextV len d x p s).1 := by
  unfold nextV
  split
  · show (p : Int) < len; omega
  · have := skipV_nn x (doV d x s) hx
    show (p : Int) < p + 1 + _
    omega

theorem runV_none (l : List In) (d : Da) (n p : Nat) (s : St) (h : l.length ≤ p) : runV l d n p s = ([], s) := by
  cases n with
  | zero => rfl
  | succ n => unfold runV; rw [List.getElem?_eq_none h]

/-- more fuel than places left makes no odds. -/
theorem runV_more (l : List In) (d : Da) (ho : ∀ x ∈ l, x.ok) (n : Nat) : ∀ (p : Nat) (s : St) (k : Nat), l.length - p ≤ n → runV l d (n + k) p s = runV l d n p s := by
  induction n with
  | zero => intro p s k h; rw [runV_none l d _ p s (by omega)]; rfl
  | succ n ih =>
    intro p s k h
    rw [show n + 1 + k = (n + k) + 1 from by omega]
    unfold runV
    rcases Nat.lt_or_ge p l.length with hp | hp
    · rw [List.getElem?_eq_getElem hp]
      have := nextV_gt l.length d l[p] p s (ho _ (List.getElem_mem hp)) hp
      dsimp only
      rw [ih _ _ k (by omega)]
    · rw [List.getElem?_eq_none hp]

/-- one place further on. -/
theorem runV_step (l : List In) (d : Da) (ho : ∀ x ∈ l, x.ok) (p : Nat) (s : St) (x : In) (hx : l[p]? = some x) :
    runV l d (l.length - p) p s = (p :: (runV l d (l.length - (nextV l.length d x p s).1.toNat) (nextV l.length d x p s).1.toNat (nextV l.length d x p s).2).1, (runV l d (l.length - (nextV l.length d x p s).1.toNat) (nextV l.length d x p s).1.toNat (nextV l.length d x p s).2).2) := by
  have hp : p < l.length := (List.getElem?_eq_some_iff.1 hx).1
  have hgt := nextV_gt l.length d x p s (ho _ (List.mem_of_getElem? hx)) hp
  obtain ⟨n, hn⟩ : ∃ n, l.length - p = n + 1 := ⟨l.length - p - 1, by omega⟩
  rw [hn]
  show (match l[p]? with | none => ([], s) | some x => let r := runV l d n (nextV l.length d x p s).1.toNat (nextV l.length d x p s).2; (p :: r.1, r.2)) = _
  rw [hx]
  show (p :: (runV l d n (nextV l.length d x p s).1.toNat (nextV l.length d x p s).2).1, (runV l d n (nextV l.length d x p s).1.toNat (nextV l.length d x p s).2).2) = _
  have := runV_more l d ho (l.length - (nextV l.length d x p s).1.toNat) (nextV l.length d x p s).1.toNat (nextV l.length d x p s).2 (n - (l.length - (nextV l.length d x p s).1.toNat)) (Nat.le_refl _)
  rw [show l.length - (nextV l.length d x p s).1.toNat + (n - (l.length - (nextV l.length d x p s).1.toNat)) = n from by omega] at this
  rw [this]

theorem runV_len (l : List In) (d : Da) (n : Nat) : ∀ (p : Nat) (s : St), (runV l d n p s).1.length ≤ n := by
  induction n with
  | zero => intro p s; exact Nat.le_refl _
  | succ n ih =>
    intro p s
    unfold runV
    cases l[p]? with
    | none => exact Nat.zero_le _
    | some x =>
      show (_ :: _).length ≤ _
      rw [List.length_cons]
      have := ih (nextV l.length d x p s).1.toNat (nextV l.length d x p s).2
      omega

theorem ldv_u (d : Da) (hd : d.ok) (k : Int) : U32 (ldv d k) := by
  unfold ldv
  split
  · exact getD_u (words_u d hd) _
  · unfold U32; decide

theorem reckV_u (c a n : Int) (ha : U32 a) (hn : U32 n) : U32 (reckV c a n) := by
  have hq : ∀ k : Nat, U32 (a / 2 ^ k) := fun k => by
    have h1 : (0 : Int) ≤ a / 2 ^ k := Int.ediv_nonneg ha.1 (Int.pow_nonneg (by decide))
    have h2 : a / 2 ^ k ≤ a := Int.ediv_le_self _ ha.1
    unfold U32 at *
    omega
  have hd : U32 (a / n) := by
    have h1 : 0 ≤ a / n := Int.ediv_nonneg ha.1 hn.1
    have h2 : a / n ≤ a := Int.ediv_le_self n ha.1
    unfold U32 at *
    omega
  have hb : ∀ op, U32 (bits op .u32 a n) := fun op => bounds_u32 (wf_bits op .u32 a n)
  have hm : ∀ z : Int, U32 (z % 4294967296) := fun z => by unfold U32; omega
  unfold reckV
  repeat' split
  · exact hm _
  · exact hm _
  · exact hm _
  · exact hd
  · exact hb _
  · exact hb _
  · exact hb _
  · exact hm _
  · exact hq _
  · exact ha

theorem chk_ok (l : List In) (h : (chk l).1 = 0) : 0 < l.length ∧ l.length ≤ 4096 ∧ (ff l 0).1 = 0 ∧ (chk l).2 = -1 := by
  unfold chk at *
  by_cases h0 : l.length = 0
  · rw [if_pos h0] at h; exact absurd h (by decide)
  · rw [if_neg h0] at *
    by_cases h4 : 4096 < l.length
    · rw [if_pos h4] at h; exact absurd h (by decide)
    · rw [if_neg h4] at *
      refine ⟨by omega, by omega, h, ?_⟩
      rcases ff_bd l 0 with h1 | h1
      · exact h1.2
      · omega

theorem ff_all (l : List In) (p : Int) (h : (ff l p).1 = 0) (i : Nat) (hi : i < l.length) : fault l[i] (l.length - 1 - i) = 0 := by
  induction l generalizing p i with
  | nil => cases hi
  | cons x r ih =>
    unfold ff at h
    by_cases hx : fault x r.length = 0
    · rw [if_pos hx] at h
      cases i with
      | zero =>
        show fault x _ = 0
        rw [show (x :: r).length - 1 - 0 = r.length from by rw [List.length_cons]; omega]
        exact hx
      | succ i =>
        have hi' : i < r.length := by rw [List.length_cons] at hi; omega
        show fault r[i] _ = 0
        rw [show (x :: r).length - 1 - (i + 1) = r.length - 1 - i from by rw [List.length_cons]; omega]
        exact ih (p + 1) h i hi'
    · rw [if_neg hx] at h
      exact absurd h hx

theorem othV_u (x : In) (s : St) (hx : x.ok) (hs : s.ok) : U32 (othV x s) := by
  unfold othV
  split
  · exact hx.2.2.2
  · exact hs.2.1

theorem doV_ok (d : Da) (x : In) (s : St) (hd : d.ok) (hx : x.ok) (hs : s.ok) : (doV d x s).ok := by
  have hk : U32 x.k := hx.2.2.2
  have hm : U32 ((-s.a) % 4294967296) := by unfold U32; omega
  obtain ⟨ha, hX, hA, hc⟩ := hs
  have hp : ∀ v, U32 v → ∀ k, U32 (putC s.c x.k v k) := by
    intro v hv k
    unfold putC
    split
    · exact hv
    · exact hc k
  unfold doV
  repeat' split
  · exact ⟨ldv_u d hd _, hX, hA, hc⟩
  · exact ⟨hk, hX, hA, hc⟩
  · exact ⟨ha, hk, hA, hc⟩
  · exact ⟨hc _, hX, hA, hc⟩
  · exact ⟨ha, hc _, hA, hc⟩
  · exact ⟨ha, hX, hA, hp _ ha⟩
  · exact ⟨ha, hX, hA, hp _ hX⟩
  · exact ⟨ha, ha, hA, hc⟩
  · exact ⟨hX, hX, hA, hc⟩
  · exact ⟨hm, hX, hA, hc⟩
  · exact ⟨reckV_u _ _ _ ha (othV_u x s hx ⟨ha, hX, hA, hc⟩), hX, hA, hc⟩

theorem tellV_u (x : In) (s : St) (hx : x.ok) (hs : s.ok) : U32 (tellV x s) := by
  unfold tellV
  repeat' split
  · exact hx.2.2.2
  · exact hs.1
  · unfold U32; decide

theorem nextV_ok (len : Nat) (d : Da) (x : In) (p : Nat) (s : St) (hd : d.ok) (hx : x.ok) (hs : s.ok) : (nextV len d x p s).2.ok := by
  unfold nextV
  split
  · exact ⟨hs.1, hs.2.1, tellV_u x s hx hs, hs.2.2.2⟩
  · exact doV_ok d x s hd hx hs

theorem kOf_52 (c : Int) (h0 : 0 ≤ c) (h1 : c ≤ 65535) (hk : kOf c = 52) : c = 52 ∨ c = 60 := by
  obtain ⟨n, rfl⟩ := Int.eq_ofNat_of_zero_le h0
  have hn : n < 65536 := by omega
  rw [kOf_nat n hn] at hk
  have hk2 : kNat n = 52 := by omega
  rcases Nat.lt_or_ge n 256 with h | h
  · have key : ∀ m : Fin 256, kNat m.val = 52 → m.val = 52 ∨ m.val = 60 := by decide +kernel
    have := key ⟨n, h⟩ hk2
    dsimp only at this
    omega
  · have := kNat_big n hn h
    omega

/-- a program that may be run never divides by 0. -/
theorem div_ok (x : In) (n : Nat) (s : St) (hx : x.ok) (hf : fault x n = 0) (he : endV x s = false) : (kOf x.c == 52) = true → ¬ othV x s = 0 := by
  intro hk
  have hk' : kOf x.c = 52 := by simpa using hk
  have hr : reckB x.c x.k = false := by
    unfold fault at hf
    cases h : reckB x.c x.k with
    | false => rfl
    | true =>
      rw [h] at hf
      repeat' split at hf
      all_goals first | (exact absurd hf (by decide)) | contradiction
  unfold othV
  rcases kOf_52 x.c hx.1.1 hx.1.2 hk' with h | h
  · rw [if_pos (by rw [hk', h]; rfl)]
    unfold reckB at hr
    rw [h] at hr
    simpa using hr
  · rw [if_neg (by rw [hk', h]; decide)]
    unfold endV at he
    rw [h] at he
    simp at he
    exact he.2

end Go.Proofs.YtcckipimfgmmdaaGreatDoor.V
