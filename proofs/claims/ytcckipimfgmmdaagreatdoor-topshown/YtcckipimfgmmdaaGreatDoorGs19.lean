/-
  KMath.
-/
import Derived.Test.YtcckipimfgmmdaaGreatDoorGs17
namespace Go.Proofs.YtcckipimfgmmdaaGreatDoor
open Go.RowKit
def ex (d : V.Da) : List V.In -> Nat -> V.St -> Nat × Int
 | [], _, s => (0, s.ans)
 | _ :: r, k + 1, s => ex d r k s
 | x :: r, 0, s => if V.endV x s = true then (1, V.tellV x s) else ((ex d r (V.skipV x (V.doV d x s)).toNat (V.doV d x s)).1 + 1, (ex d r (V.skipV x (V.doV d x s)).toNat (V.doV d x s)).2)
theorem ex_nil (d : V.Da) (k : Nat) (s : V.St) : ex d [] k s = (0, s.ans) := by cases k <;> rfl
theorem ex_succ (d : V.Da) (x : V.In) (r : List V.In) (k : Nat) (s : V.St) : ex d (x :: r) (k + 1) s = ex d r k s := rfl
theorem ex_zero (d : V.Da) (x : V.In) (r : List V.In) (s : V.St) : ex d (x :: r) 0 s = if V.endV x s = true then (1, V.tellV x s) else ((ex d r (V.skipV x (V.doV d x s)).toNat (V.doV d x s)).1 + 1, (ex d r (V.skipV x (V.doV d x s)).toNat (V.doV d x s)).2) := rfl
theorem ex_drop (d : V.Da) (l : List V.In) : ∀ (k : Nat) (s : V.St), ex d l k s = ex d (l.drop k) 0 s := by
 induction l with
 | nil => intro k s; rw [List.drop_nil, ex_nil, ex_nil]
 | cons x r ih =>
  intro k s
  cases k with
  | zero => rfl
  | succ k => rw [ex_succ, List.drop_succ_cons]; exact ih k s
theorem ex_app (d : V.Da) (a b : List V.In) (k : Nat) (s : V.St) : ex d (a ++ b) (a.length + k) s = ex d b k s := by
 rw [ex_drop, ex_drop d b k, List.drop_append, List.drop_eq_nil_of_le (by omega), List.nil_append, Nat.add_sub_cancel_left]
theorem run_ex (l : List V.In) (d : V.Da) (ho : ∀ x ∈ l, x.ok) (n : Nat) : ∀ (p : Nat) (s : V.St), l.length - p <= n ->
  ((V.runV l d (l.length - p) p s).1.length, (V.runV l d (l.length - p) p s).2.ans) = ex d (l.drop p) 0 s := by
 induction n with
 | zero =>
  intro p s h
  rw [V.runV_none l d _ p s (by omega), List.drop_eq_nil_of_le (by omega), ex_nil]
  rfl
 | succ n ih =>
  intro p s h
  by_cases hp : p < l.length
  ·have hx : l[p]? = some l[p] := List.getElem?_eq_getElem hp
   have hxo := ho _ (List.getElem_mem hp)
   rw [V.runV_step l d ho p s _ hx, List.drop_eq_getElem_cons hp, ex_zero]
   cases he : V.endV l[p] s with
   | true =>
    have e2 : V.nextV l.length d l[p] p s = ((l.length : Int), { s with ans := V.tellV l[p] s }) := by unfold V.nextV; rw [if_pos he]
    rw [e2]
    dsimp only
    rw [V.runV_none l d _ ((l.length : Nat) : Int).toNat _ (by omega), if_pos rfl]
    rfl
   | false =>
    have e2 : V.nextV l.length d l[p] p s = ((p : Int) + 1 + V.skipV l[p] (V.doV d l[p] s), V.doV d l[p] s) := by unfold V.nextV; rw [if_neg (by rw [he]; decide)]
    have hs := V.skipV_nn l[p] (V.doV d l[p] s) hxo
    rw [e2, if_neg (by decide)]
    dsimp only
    rw [show ((p : Int) + 1 + V.skipV l[p] (V.doV d l[p] s)).toNat = p + 1 + (V.skipV l[p] (V.doV d l[p] s)).toNat from by omega]
    have := ih (p + 1 + (V.skipV l[p] (V.doV d l[p] s)).toNat) (V.doV d l[p] s) (by omega)
    rw [ex_drop, List.drop_drop, <- this]
    rfl
  ·rw [V.runV_none l d _ p s (by omega), List.drop_eq_nil_of_le (by omega), ex_nil]
   rfl
def Stop (d : V.Da) (a : List V.In) (s : V.St) (m : Nat) (v : Int) : Prop := ∃ n, n <= m /\ ∀ b, ex d (a ++ b) 0 s = (n, v)
def Fall (d : V.Da) (a : List V.In) (s : V.St) (m j : Nat) : Prop := ∃ n s', n <= m /\ ∀ b, ex d (a ++ b) 0 s = ((ex d b j s').1 + n, (ex d b j s').2)
theorem ex_ret (d : V.Da) (k : Int) (b : List V.In) (s : V.St) : ex d (⟨6, 0, 0, k⟩ :: b) 0 s = (1, k) := by
 rw [ex_zero, if_pos (show V.endV ⟨6, 0, 0, k⟩ s = true from rfl)]
 rfl
theorem ex_ld (d : V.Da) (k : Int) (b : List V.In) (s : V.St) : ex d (⟨32, 0, 0, k⟩ :: b) 0 s = ((ex d b 0 { s with a := V.ldv d k }).1 + 1, (ex d b 0 { s with a := V.ldv d k }).2) := by
 have h1 : V.endV ⟨32, 0, 0, k⟩ s = false := rfl
 have h2 : V.doV d ⟨32, 0, 0, k⟩ s = { s with a := V.ldv d k } := rfl
 have h3 : ∀ t, V.skipV ⟨32, 0, 0, k⟩ t = 0 := fun t => by
  unfold V.skipV
  rw [if_pos (show V.jumpsB 32 = false by decide +kernel)]
 rw [ex_zero, if_neg (by rw [h1]; decide), h2, h3]
 rfl
theorem kOf84 : V.kOf 84 = 84 := by decide +kernel
theorem kOf21 : V.kOf 21 = 21 := by decide +kernel
theorem kOf37 : V.kOf 37 = 37 := by decide +kernel
theorem kOf53 : V.kOf 53 = 53 := by decide +kernel
theorem kOf5 : V.kOf 5 = 5 := by decide +kernel
theorem ex_and (d : V.Da) (k : Int) (b : List V.In) (s : V.St) : ex d (⟨84, 0, 0, k⟩ :: b) 0 s = ((ex d b 0 { s with a := bits .and .u32 s.a k }).1 + 1, (ex d b 0 { s with a := bits .and .u32 s.a k }).2) := by
 have h1 : V.endV ⟨84, 0, 0, k⟩ s = false := rfl
 have h4 : V.othV ⟨84, 0, 0, k⟩ s = k := by unfold V.othV; rw [if_pos (by rw [kOf84]; rfl)]
 have h2 : V.doV d ⟨84, 0, 0, k⟩ s = { s with a := bits .and .u32 s.a k } := by
  show ({ s with a := V.reckV (V.kOf 84) s.a (V.othV ⟨84, 0, 0, k⟩ s) } : V.St) = _
  rw [kOf84, h4]
  rfl
 have h3 : ∀ t, V.skipV ⟨84, 0, 0, k⟩ t = 0 := fun t => by
  unfold V.skipV
  rw [if_pos (show V.jumpsB 84 = false by decide +kernel)]
 rw [ex_zero, if_neg (by rw [h1]; decide), h2, h3]
 rfl
def Ask (c : Int) : Prop := c = 21 \/ c = 37 \/ c = 53
theorem ex_jump (d : V.Da) (c k : Int) (t f : Nat) (b : List V.In) (s : V.St) (hc : Ask c) : ex d (⟨c, t, f, k⟩ :: b) 0 s = ((ex d b (if V.holdsV c s.a k = true then t else f) s).1 + 1, (ex d b (if V.holdsV c s.a k = true then t else f) s).2) := by
 have hk : V.kOf c = c /\ V.jumpsB c = true /\ V.isIn V.endL c = false /\ c ≠ 5 := by
  rcases hc with rfl | rfl | rfl
  ·exact ⟨kOf21, by decide +kernel, by decide +kernel, by decide⟩
  ·exact ⟨kOf37, by decide +kernel, by decide +kernel, by decide⟩
  ·exact ⟨kOf53, by decide +kernel, by decide +kernel, by decide⟩
 have h1 : V.endV ⟨c, t, f, k⟩ s = false := by
  rcases hc with rfl | rfl | rfl <;> rfl
 have h4 : ∀ z : V.St, V.othV ⟨c, t, f, k⟩ z = k := fun z => by unfold V.othV; rw [if_pos (by simp [hk.1])]
 have h2 : V.doV d ⟨c, t, f, k⟩ s = s := by
  rcases hc with rfl | rfl | rfl
  ·show ({ s with a := V.reckV (V.kOf 21) s.a (V.othV ⟨21, t, f, k⟩ s) } : V.St) = _
   rw [kOf21]; rfl
  ·show ({ s with a := V.reckV (V.kOf 37) s.a (V.othV ⟨37, t, f, k⟩ s) } : V.St) = _
   rw [kOf37]; rfl
  ·show ({ s with a := V.reckV (V.kOf 53) s.a (V.othV ⟨53, t, f, k⟩ s) } : V.St) = _
   rw [kOf53]; rfl
 have h3 : V.skipV ⟨c, t, f, k⟩ s = ((if V.holdsV c s.a k = true then t else f : Nat) : Int) := by
  unfold V.skipV
  dsimp only
  rw [if_neg (by rw [hk.2.1]; decide), if_neg (by simpa using hk.2.2.2), h4, hk.1]
  split <;> rfl
 rw [ex_zero, if_neg (by rw [h1]; decide), h2, h3, Int.toNat_natCast]
theorem ex_ja (d : V.Da) (k : Nat) (b : List V.In) (s : V.St) : ex d (⟨5, 0, 0, k⟩ :: b) 0 s = ((ex d b k s).1 + 1, (ex d b k s).2) := by
 have h1 : V.endV ⟨5, 0, 0, k⟩ s = false := rfl
 have h2 : V.doV d ⟨5, 0, 0, k⟩ s = s := by
  show ({ s with a := V.reckV (V.kOf 5) s.a (V.othV ⟨5, 0, 0, k⟩ s) } : V.St) = _
  rw [kOf5]; rfl
 have h3 : V.skipV ⟨5, 0, 0, k⟩ s = (k : Int) := by
  unfold V.skipV
  dsimp only
  rw [if_neg (show ¬ V.jumpsB 5 = false by decide +kernel), if_pos (by decide)]
 rw [ex_zero, if_neg (by rw [h1]; decide), h2, h3, Int.toNat_natCast]
def Gd (m : Nat) : List V.In -> Prop
 | [] => True
 | x :: r => (x.ok /\ V.fault x (r.length + m) = 0) /\ Gd m r
theorem Gd.app {m : Nat} {a b : List V.In} (ha : Gd (b.length + m) a) (hb : Gd m b) : Gd m (a ++ b) := by
 induction a with
 | nil => exact hb
 | cons x r ih =>
  refine ⟨?_, ih ha.2⟩
  show x.ok /\ V.fault x ((r ++ b).length + m) = 0
  rw [List.length_append, Nat.add_assoc]
  exact ha.1
theorem Gd.ff {l : List V.In} (h : Gd 0 l) : ∀ p, V.ff l p = (0, -1) := by
 induction l with
 | nil => intro p; rfl
 | cons x r ih =>
  intro p
  unfold V.ff
  rw [if_pos (show V.fault x r.length = 0 from h.1.2)]
  exact ih h.2 (p + 1)
theorem Gd.ok {m : Nat} {l : List V.In} (h : Gd m l) : ∀ x ∈ l, x.ok := by
 induction l with
 | nil => intro x hx; cases hx
 | cons y r ih =>
  intro x hx
  rcases List.mem_cons.1 hx with rfl | hx
  ·exact h.1.1
  ·exact ih h.2 x hx
theorem fault_ret (k : Int) (n : Nat) : V.fault ⟨6, 0, 0, k⟩ n = 0 := by
 unfold V.fault
 have h1 : V.knownB 6 = true := by decide +kernel
 have h2 : V.loadsB 6 k = false := rfl
 have h3 : V.reckB 6 k = false := rfl
 have h4 : V.outB ⟨6, 0, 0, k⟩ n = false := by
  unfold V.outB
  have : V.jumpsB 6 = false := by decide +kernel
  rw [this]; rfl
 have h5 : V.isIn V.endL 6 = true := rfl
 dsimp only
 rw [h1, h2, h3, h4, h5]
 simp
theorem fault_ld (k : Int) (n : Nat) (h : k % 4 = 0) (hk : k < 64) (hn : 0 < n) : V.fault ⟨32, 0, 0, k⟩ n = 0 := by
 unfold V.fault
 have h1 : V.knownB 32 = true := by decide +kernel
 have h2 : V.loadsB 32 k = false := by
  unfold V.loadsB
  have : ¬ 64 <= k := by omega
  simp [h, this]
 have h3 : V.reckB 32 k = false := rfl
 have h4 : V.outB ⟨32, 0, 0, k⟩ n = false := by
  unfold V.outB
  have : V.jumpsB 32 = false := by decide +kernel
  rw [this]; rfl
 dsimp only
 rw [h1, h2, h3, h4, if_neg (by decide), if_neg (by decide), if_neg (by decide), if_neg (by decide), if_neg (by omega)]
theorem fault_and (k : Int) (n : Nat) (hn : 0 < n) : V.fault ⟨84, 0, 0, k⟩ n = 0 := by
 unfold V.fault
 have h1 : V.knownB 84 = true := by decide +kernel
 have h2 : V.loadsB 84 k = false := rfl
 have h3 : V.reckB 84 k = false := rfl
 have h4 : V.outB ⟨84, 0, 0, k⟩ n = false := by
  unfold V.outB
  have : V.jumpsB 84 = false := by decide +kernel
  rw [this]; rfl
 dsimp only
 rw [h1, h2, h3, h4, if_neg (by decide), if_neg (by decide), if_neg (by decide), if_neg (by decide), if_neg (by omega)]
theorem fault_jump (c k : Int) (t f n : Nat) (hc : Ask c) (ht : t < n) (hf : f < n) : V.fault ⟨c, t, f, k⟩ n = 0 := by
 have hk : V.knownB c = true /\ V.jumpsB c = true /\ V.loadsB c k = false /\ V.reckB c k = false := by
  rcases hc with rfl | rfl | rfl
  ·exact ⟨by decide +kernel, by decide +kernel, rfl, rfl⟩
  ·exact ⟨by decide +kernel, by decide +kernel, rfl, rfl⟩
  ·exact ⟨by decide +kernel, by decide +kernel, rfl, rfl⟩
 have h4 : V.outB ⟨c, t, f, k⟩ n = false := by
  unfold V.outB
  rw [Bool.and_eq_false_iff]
  right
  rw [List.any_eq_false]
  intro s hs
  have hs2 : s = (t : Int) \/ s = (f : Int) := by
   unfold V.skipsL at hs
   dsimp only at hs
   repeat' split at hs
   ·cases hs
   ·rename_i h5; rcases hc with rfl | rfl | rfl <;> exact absurd h5 (by decide)
   ·rename_i h5; rw [hk.2.1] at h5; cases h5
   ·left; simpa using hs
   ·simpa using hs
   ·have : s = (f : Int) \/ s = (t : Int) := by simpa using hs
    exact this.symm
  unfold V.insB
  rcases hs2 with rfl | rfl
  ·simp; omega
  ·simp; omega
 unfold V.fault
 dsimp only
 rw [hk.1, hk.2.2.1, hk.2.2.2, h4, if_neg (by decide), if_neg (by decide), if_neg (by decide), if_neg (by decide), if_neg (by omega)]
theorem fault_ja (k n : Nat) (h : k < n) : V.fault ⟨5, 0, 0, k⟩ n = 0 := by
 unfold V.fault
 have h1 : V.knownB 5 = true := by decide +kernel
 have h2 : V.loadsB 5 (k : Int) = false := rfl
 have h3 : V.reckB 5 (k : Int) = false := rfl
 have h4 : V.outB ⟨5, 0, 0, (k : Int)⟩ n = false := by
  unfold V.outB
  rw [Bool.and_eq_false_iff]
  right
  have : V.skipsL ⟨5, 0, 0, (k : Int)⟩ = [(k : Int)] := rfl
  rw [this]
  unfold V.insB
  simp
  omega
 dsimp only
 rw [h1, h2, h3, h4, if_neg (by decide), if_neg (by decide), if_neg (by decide), if_neg (by decide), if_neg (by omega)]
end Go.Proofs.YtcckipimfgmmdaaGreatDoor
