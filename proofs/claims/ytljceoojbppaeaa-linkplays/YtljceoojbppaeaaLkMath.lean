/-
  A link in plain words: two rows of frames, and what befalls them.
-/
import Derived.Test.YtljceoojbppaeaaDMem
import Derived.BigRegion
import Derived.BigQuiet
import Derived.Deep.RegionHeld3
import Derived.RegionTactic
import Derived.ChangeAlike
import Derived.Deep.DeepCutAuto
import Derived.Laws.BitsAllLaws
namespace Go.Proofs.Ytljceoojbppaeaa
open Go.RowKit D

/-- a frame that may be under way; a row. -/
def okF (f : List Int) : Prop := Byt f ∧ 0 < f.length ∧ f.length ≤ 1024
def okR (l : List (List Int)) : Prop := l.length ≤ 64 ∧ ∀ f ∈ l, okF f
/-- both rows. -/
structure Lk where
  u : List (List Int)
  d : List (List Int)
def Lk.sel (s : Lk) (up : Bool) : List (List Int) := if up then s.u else s.d
def Lk.put (s : Lk) (up : Bool) (l : List (List Int)) : Lk := if up then { s with u := l } else { s with d := l }
def Lk.ok (s : Lk) : Prop := okR s.u ∧ okR s.d
/-- may these bytes be sent to a row? -/
def maySend (l : List (List Int)) (f : List Int) : Bool := decide (l.length < 64 ∧ 0 < f.length ∧ f.length ≤ 1024)
def Lk.send (s : Lk) (up : Bool) (f : List Int) : Lk := if maySend (s.sel up) f then s.put up (s.sel up ++ [f]) else s
/-- has a row a frame of this number? -/
def hasN (l : List (List Int)) (n : Int) : Bool := decide (0 ≤ n ∧ n < (l.length : Int))
def Lk.take (s : Lk) (up : Bool) (n : Int) : Lk := if hasN (s.sel up) n then s.put up ((s.sel up).eraseIdx n.toNat) else s
/-- in which row the n-th frame of both stands, and where there. -/
def Lk.way (s : Lk) (n : Int) : Bool := decide (n < (s.u.length : Int))
def Lk.at (s : Lk) (n : Int) : Int := if n < (s.u.length : Int) then n else n - (s.u.length : Int)
def Lk.has (s : Lk) (n : Int) : Bool := hasN (s.sel (s.way n)) (s.at n)
def Lk.drop (s : Lk) (n : Int) : Lk := s.take (s.way n) (s.at n)
def Lk.frame (s : Lk) (n : Int) : List Int := (s.sel (s.way n)).getD (s.at n).toNat []
def Lk.mayTwice (s : Lk) (n : Int) : Bool := s.has n && decide ((s.sel (s.way n)).length < 64)
def Lk.twice (s : Lk) (n : Int) : Lk := if s.mayTwice n then s.put (s.way n) (s.sel (s.way n) ++ [s.frame n]) else s
/-- which bit is turned; a byte of which a bit is turned; a frame. -/
def bitAt (f : List Int) (bit : Int) : Nat := (max bit 0).toNat % (8 * f.length)
def turnB (x : Int) (k : Nat) : Int := ((x.toNat ^^^ 2 ^ k : Nat) : Int)
def turnF (f : List Int) (bit : Int) : List Int := f.set (bitAt f bit / 8) (turnB (f.getD (bitAt f bit / 8) 0) (bitAt f bit % 8))
def Lk.spoil (s : Lk) (n bit : Int) : Lk := if s.has n then s.put (s.way n) ((s.sel (s.way n)).set (s.at n).toNat (turnF (s.frame n) bit)) else s

theorem turnB_bd (x : Int) (k : Nat) (hx : 0 ≤ x ∧ x ≤ 255) (hk : k < 8) : 0 ≤ turnB x k ∧ turnB x k ≤ 255 := by
  unfold turnB
  have h1 : x.toNat < 2 ^ 8 := by omega
  have h2 : 2 ^ k < 2 ^ 8 := Nat.pow_lt_pow_right (by decide) hk
  have := Nat.xor_lt_two_pow h1 h2
  omega
theorem turnF_len (f : List Int) (bit : Int) : (turnF f bit).length = f.length := by unfold turnF; rw [List.length_set]
theorem turnF_ok {f : List Int} (h : okF f) (bit : Int) : okF (turnF f bit) := by
  refine ⟨fun z hz => ?_, by rw [turnF_len]; exact h.2.1, by rw [turnF_len]; exact h.2.2⟩
  rcases List.mem_or_eq_of_mem_set hz with hz | hz
  · exact h.1 z hz
  · rw [hz]
    exact turnB_bd _ _ (byt_get h.1 _) (Nat.mod_lt _ (by decide))
theorem bitAt_lt {f : List Int} (h : 0 < f.length) (bit : Int) : bitAt f bit < 8 * f.length := Nat.mod_lt _ (by omega)
theorem byteAt_lt {f : List Int} (h : 0 < f.length) (bit : Int) : bitAt f bit / 8 < f.length := by have := bitAt_lt h bit; omega

theorem okR_nil : okR [] := ⟨by decide, fun f h => by cases h⟩
theorem okR_snoc {l : List (List Int)} {f : List Int} (h : okR l) (hl : l.length < 64) (hf : okF f) : okR (l ++ [f]) :=
  ⟨by rw [List.length_append, List.length_singleton]; omega, fun g hg => (List.mem_append.1 hg).elim (h.2 g) fun e => by rw [List.mem_singleton] at e; rw [e]; exact hf⟩
theorem okR_erase {l : List (List Int)} (h : okR l) (n : Nat) : okR (l.eraseIdx n) :=
  ⟨Nat.le_trans (List.length_eraseIdx_le ..) h.1, fun g hg => h.2 g (List.mem_of_mem_eraseIdx hg)⟩
theorem okR_set {l : List (List Int)} {f : List Int} (h : okR l) (n : Nat) (hf : okF f) : okR (l.set n f) :=
  ⟨by rw [List.length_set]; exact h.1, fun g hg => (List.mem_or_eq_of_mem_set hg).elim (h.2 g) fun e => by rw [e]; exact hf⟩
theorem okR_get {l : List (List Int)} (h : okR l) {n : Nat} (hn : n < l.length) : okF (l.getD n []) := by
  rw [List.getD_eq_getElem?_getD, List.getElem?_eq_getElem hn]
  exact h.2 _ (List.getElem_mem hn)
theorem hasN_lt {l : List (List Int)} {n : Int} (h : hasN l n = true) : 0 ≤ n ∧ n.toNat < l.length := by
  have := of_decide_eq_true h
  omega
theorem Lk.ok_sel {s : Lk} (h : s.ok) (up : Bool) : okR (s.sel up) := by cases up; exact h.2; exact h.1
theorem Lk.ok_put {s : Lk} (h : s.ok) (up : Bool) {l : List (List Int)} (hl : okR l) : (s.put up l).ok := by cases up; exact ⟨h.1, hl⟩; exact ⟨hl, h.2⟩
theorem Lk.ok_send {s : Lk} (h : s.ok) (up : Bool) {f : List Int} (hf : Byt f) : (s.send up f).ok := by
  unfold Lk.send
  split
  · rename_i e
    obtain ⟨h1, h2, h3⟩ := of_decide_eq_true e
    exact Lk.ok_put h up (okR_snoc (Lk.ok_sel h up) h1 ⟨hf, h2, h3⟩)
  · exact h
theorem Lk.ok_take {s : Lk} (h : s.ok) (up : Bool) (n : Int) : (s.take up n).ok := by
  unfold Lk.take
  split
  · exact Lk.ok_put h up (okR_erase (Lk.ok_sel h up) _)
  · exact h
theorem Lk.ok_frame {s : Lk} (h : s.ok) {n : Int} (hn : s.has n = true) : okF (s.frame n) := okR_get (Lk.ok_sel h _) (hasN_lt hn).2
theorem Lk.ok_twice {s : Lk} (h : s.ok) (n : Int) : (s.twice n).ok := by
  unfold Lk.twice
  split
  · rename_i e
    unfold Lk.mayTwice at e
    rw [Bool.and_eq_true] at e
    exact Lk.ok_put h _ (okR_snoc (Lk.ok_sel h _) (of_decide_eq_true e.2) (Lk.ok_frame h e.1))
  · exact h
theorem Lk.ok_spoil {s : Lk} (h : s.ok) (n bit : Int) : (s.spoil n bit).ok := by
  unfold Lk.spoil
  split
  · exact Lk.ok_put h _ (okR_set (Lk.ok_sel h _) _ (turnF_ok (Lk.ok_frame h ‹_›) bit))
  · exact h

end Go.Proofs.Ytljceoojbppaeaa
