/-
  KMath.
-/
import Derived.Test.YtmcgcbgblgmmkaaGreatDoorQ27
namespace Go.Proofs.YtmcgcbgblgmmkaaGreatDoor
open Go.RowKit
def ex (d : M.Da) : List V.In -> Nat -> V.St -> Nat × Int
 | [], _, s => (0, s.ans)
 | _ :: r, k + 1, s => ex d r k s
 | x :: r, 0, s => if V.endV x s = true then (1, V.tellV x s) else ((ex d r (V.skipV x (V.doV d x s)).toNat (V.doV d x s)).1 + 1, (ex d r (V.skipV x (V.doV d x s)).toNat (V.doV d x s)).2)
theorem ex_nil (d : M.Da) (k : Nat) (s : V.St) : ex d [] k s = (0, s.ans) := by cases k <;> rfl
theorem ex_succ (d : M.Da) (x : V.In) (r : List V.In) (k : Nat) (s : V.St) : ex d (x :: r) (k + 1) s = ex d r k s := rfl
theorem ex_zero (d : M.Da) (x : V.In) (r : List V.In) (s : V.St) : ex d (x :: r) 0 s = if V.endV x s = true then (1, V.tellV x s) else ((ex d r (V.skipV x (V.doV d x s)).toNat (V.doV d x s)).1 + 1, (ex d r (V.skipV x (V.doV d x s)).toNat (V.doV d x s)).2) := rfl
theorem ex_drop (d : M.Da) (l : List V.In) : ∀ (k : Nat) (s : V.St), ex d l k s = ex d (l.drop k) 0 s := by
 induction l with
 | nil => intro k s; rw [List.drop_nil, ex_nil, ex_nil]
 | cons x r ih =>
  intro k s
  cases k with
  | zero => rfl
  | succ k => rw [ex_succ, List.drop_succ_cons]; exact ih k s
theorem ex_app (d : M.Da) (a b : List V.In) (k : Nat) (s : V.St) : ex d (a ++ b) (a.length + k) s = ex d b k s := by
 rw [ex_drop, ex_drop d b k, List.drop_append, List.drop_eq_nil_of_le (by omega), List.nil_append, Nat.add_sub_cancel_left]
def Stop (d : M.Da) (a : List V.In) (s : V.St) (m : Nat) (v : Int) : Prop := ∃ n, n <= m /\ ∀ b, ex d (a ++ b) 0 s = (n, v)
theorem kOf21 : V.kOf 21 = 21 := by decide +kernel
theorem kOf37 : V.kOf 37 = 37 := by decide +kernel
theorem kOf53 : V.kOf 53 = 53 := by decide +kernel
theorem kOf5 : V.kOf 5 = 5 := by decide +kernel
def Ask (c : Int) : Prop := c = 21 \/ c = 37 \/ c = 53
theorem ex_jump (d : M.Da) (c k : Int) (t f : Nat) (b : List V.In) (s : V.St) (hc : Ask c) : ex d (⟨c, t, f, k⟩ :: b) 0 s = ((ex d b (if V.holdsV c s.a k = true then t else f) s).1 + 1, (ex d b (if V.holdsV c s.a k = true then t else f) s).2) := by
 have hk : V.kOf c = c /\ V.jumpsB c = true /\ V.isIn V.endL c = false /\ c ≠ 5 := by
  rcases hc with rfl | rfl | rfl
  ·exact ⟨kOf21, by decide +kernel, by decide +kernel, by decide⟩
  ·exact ⟨kOf37, by decide +kernel, by decide +kernel, by decide⟩
  ·exact ⟨kOf53, by decide +kernel, by decide +kernel, by decide⟩
 have h1 : V.endV ⟨c, t, f, k⟩ s = false := by
  rcases hc with rfl | rfl | rfl <;> rfl
 have h4 : ∀ z : V.St, V.othV ⟨c, t, f, k⟩ z = k := fun z => by unfold V.othV; rw [if_pos (by simp [hk.1])]
 have h2 : V.doV d ⟨c, t, f, k⟩ s = s := by
  rcases hc with rfl | rfl | rfl
  ·show ({ s with a := V.reckV (V.kOf 21) s.a (V.othV ⟨21, t, f, k⟩ s) } : V.St) = _
   rw [kOf21]; rfl
  ·show ({ s with a := V.reckV (V.kOf 37) s.a (V.othV ⟨37, t, f, k⟩ s) } : V.St) = _
   rw [kOf37]; rfl
  ·show ({ s with a := V.reckV (V.kOf 53) s.a (V.othV ⟨53, t, f, k⟩ s) } : V.St) = _
   rw [kOf53]; rfl
 have h3 : V.skipV ⟨c, t, f, k⟩ s = ((if V.holdsV c s.a k = true then t else f : Nat) : Int) := by
  unfold V.skipV
  dsimp only
  rw [if_neg (by rw [hk.2.1]; decide), if_neg (by simpa using hk.2.2.2), h4, hk.1]
  split <;> rfl
 rw [ex_zero, if_neg (by rw [h1]; decide), h2, h3, Int.toNat_natCast]
theorem ex_ja (d : M.Da) (k : Nat) (b : List V.In) (s : V.St) : ex d (⟨5, 0, 0, k⟩ :: b) 0 s = ((ex d b k s).1 + 1, (ex d b k s).2) := by
 have h1 : V.endV ⟨5, 0, 0, k⟩ s = false := rfl
 have h2 : V.doV d ⟨5, 0, 0, k⟩ s = s := by
  show ({ s with a := V.reckV (V.kOf 5) s.a (V.othV ⟨5, 0, 0, k⟩ s) } : V.St) = _
  rw [kOf5]; rfl
 have h3 : V.skipV ⟨5, 0, 0, k⟩ s = (k : Int) := by
  unfold V.skipV
  dsimp only
  rw [if_neg (show ¬ V.jumpsB 5 = false by decide +kernel), if_pos (by decide)]
 rw [ex_zero, if_neg (by rw [h1]; decide), h2, h3, Int.toNat_natCast]
end Go.Proofs.YtmcgcbgblgmmkaaGreatDoor
