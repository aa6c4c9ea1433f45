/-
  The document's answer: the token at a place.
-/
import Derived.Test.YtdjjlccpmfhkiaaDoorNum
namespace Go.Proofs.YtdjjlccpmfhkiaaDoor
open Go.RowKit

theorem cut_while (s : ByteArray) (p : Nat) (q : UInt8 → Bool) : s.extract p (p + (((lst s).drop p).takeWhile q).length) = bar (((lst s).drop p).takeWhile q) := by
  rw [extract_bar, show p + (((lst s).drop p).takeWhile q).length - p = (((lst s).drop p).takeWhile q).length from by omega, take_while_take]

theorem two_new (w : World) (o o' : Obj) : Below w.heap.size w ((w.alloc o).alloc o') := by
  have h : Below w.heap.size w (w.alloc o) := (Below.refl _ _).alloc (Nat.le_refl _) _
  exact h.alloc h.size _

set_option maxRecDepth 4000 in
set_option maxHeartbeats 2000000 in
theorem refOne_lo (s : ByteArray) (p : Nat) (w : World) (hp : p < s.size) (hs : s.size ≤ 100000000) (hl : loN (s[p]'hp).toNat = true) :
    Calls Tryd.prog 35 #[.string s, .int .i64 p] w fun e w' => One (.ok (1, ((lst s).drop p).takeWhile ofW, 0)) p e ∧ Below w.heap.size w w' := by
  have HW : Hid (∀ W, Calls Tryd.prog 53 #[.string s, .int .i64 p] W fun e w' => e = .returned (.int .i64 (((lst s).drop p).takeWhile ofW).length) ∧ w' = W) := fun W => run_any s p W hs (by omega)
  have HB : Hid (∀ o o', Below w.heap.size w ((w.alloc o).alloc o')) := two_new w
  have hex := cut_while s p ofW
  have hle : p + (((lst s).drop p).takeWhile ofW).length ≤ s.size := by
    have := take_while_le ofW ((lst s).drop p)
    rw [List.length_drop, lst_length] at this
    omega
  generalize (((lst s).drop p).takeWhile ofW).length = L at *
  have HO : Hid (∀ e, e = .returned (.tuple #[.agg #[.int .i64 1, .int .i64 p, .string (bar (((lst s).drop p).takeWhile ofW)), .int .u64 0], .int .i64 0]) → One (.ok (1, ((lst s).drop p).takeWhile ofW, 0)) p e) := fun e h => h
  generalize One (.ok (1, ((lst s).drop p).takeWhile ofW, 0)) p = OO at *
  generalize bar (((lst s).drop p).takeWhile ofW) = t at *
  go_enter Tryd.func35, Tryd.ntmps35
  go_wp2_with (first | (go_at_call 52; refine (small_any _ _).mono ?_; rintro e w1 ⟨rfl, rfl⟩; rw [hl]) | (go_at_call 53; refine (HW.out _).mono ?_; rintro e w1 ⟨rfl, rfl⟩))
  refine bodyPost_ret (v := .tuple #[.agg #[.int .i64 1, .int .i64 p, .string t, .int .u64 0], .int .i64 0]) (by simp [results, Tryd.results35, go_sem]) rfl ⟨HO.out _ rfl, ?_⟩
  exact HB.out _ _

set_option maxRecDepth 4000 in
set_option maxHeartbeats 2000000 in
theorem refOne_dg (s : ByteArray) (p : Nat) (w : World) (hp : p < s.size) (hs : s.size ≤ 100000000) (hl : loN (s[p]'hp).toNat = false) (hd : dgN (s[p]'hp).toNat = true) :
    Calls Tryd.prog 35 #[.string s, .int .i64 p] w fun e w' => One (numR (((lst s).drop p).takeWhile ofW)) p e ∧ Below w.heap.size w w' := by
  have HW : Hid (∀ W, Calls Tryd.prog 53 #[.string s, .int .i64 p] W fun e w' => e = .returned (.int .i64 (((lst s).drop p).takeWhile ofW).length) ∧ w' = W) := fun W => run_any s p W hs (by omega)
  have HB : Hid (∀ o o', Below w.heap.size w ((w.alloc o).alloc o')) := two_new w
  have hex := cut_while s p ofW
  have hle : p + (((lst s).drop p).takeWhile ofW).length ≤ s.size := by
    have := take_while_le ofW ((lst s).drop p)
    rw [List.length_drop, lst_length] at this
    omega
  have hpos : 0 < (bar (((lst s).drop p).takeWhile ofW)).size := by
    rw [bar_size, drop_cons s p hp, List.takeWhile_cons, if_pos (show ofW _ = true from by show wN _ = true; unfold wN; rw [hl, hd]; rfl)]
    simp
  have HQ : Hid (∀ W, Calls Tryd.prog 55 #[.string (bar (((lst s).drop p).takeWhile ofW))] W fun e w' => Worth (numV (((lst s).drop p).takeWhile ofW)) e ∧ w' = W) := by
    intro W
    have := num_any (bar (((lst s).drop p).takeWhile ofW)) W hpos (by rw [bar_size]; omega)
    rw [lst_bar] at this
    exact this
  generalize (((lst s).drop p).takeWhile ofW).length = L at *
  unfold numR
  generalize numV (((lst s).drop p).takeWhile ofW) = r at *
  generalize ((lst s).drop p).takeWhile ofW = tw at *
  cases r with
  | some n =>
    have HO : Hid (∀ e, e = .returned (.tuple #[.agg #[.int .i64 2, .int .i64 p, .string (bar tw), .int .u64 n], .int .i64 0]) → One (.ok (2, tw, n)) p e) := fun e h => h
    dsimp only
    generalize One (.ok (2, tw, n)) p = OO at *
    generalize bar tw = t at *
    go_enter Tryd.func35, Tryd.ntmps35
    go_wp2_with (first | (go_at_call 52; refine (small_any _ _).mono ?_; rintro e w1 ⟨rfl, rfl⟩; rw [hl]) | (go_at_call 54; refine (digit_any _ _).mono ?_; rintro e w1 ⟨rfl, rfl⟩; rw [hd]) | (go_at_call 53; refine (HW.out _).mono ?_; rintro e w1 ⟨rfl, rfl⟩) | (go_at_call 55; refine (HQ.out _).mono ?_; rintro e w1 ⟨rfl, rfl⟩))
    refine bodyPost_ret (v := .tuple #[.agg #[.int .i64 2, .int .i64 p, .string t, .int .u64 n], .int .i64 0]) (by simp [results, Tryd.results35, go_sem]) rfl ⟨HO.out _ rfl, ?_⟩
    exact HB.out _ _
  | none =>
    have HO : Hid (∀ e, e = .returned (.tuple #[.agg #[.int .i64 0, .int .i64 0, .string ⟨#[]⟩, .int .u64 0], .int .i64 6]) → One (.error 6) p e) := fun e h => h
    dsimp only
    generalize One (.error 6) p = OO at *
    generalize bar tw = t at *
    go_enter Tryd.func35, Tryd.ntmps35
    go_wp2_with (first | (go_at_call 52; refine (small_any _ _).mono ?_; rintro e w1 ⟨rfl, rfl⟩; rw [hl]) | (go_at_call 54; refine (digit_any _ _).mono ?_; rintro e w1 ⟨rfl, rfl⟩; rw [hd]) | (go_at_call 53; refine (HW.out _).mono ?_; rintro e w1 ⟨rfl, rfl⟩) | (go_at_call 55; refine (HQ.out _).mono ?_; rintro e w1 ⟨⟨m, rfl⟩, rfl⟩))
    refine bodyPost_ret (v := .tuple #[.agg #[.int .i64 0, .int .i64 0, .string ⟨#[]⟩, .int .u64 0], .int .i64 6]) (by simp [results, Tryd.results35, go_sem]) rfl ⟨HO.out _ rfl, ?_⟩
    exact HB.out _ _

end Go.Proofs.YtdjjlccpmfhkiaaDoor
