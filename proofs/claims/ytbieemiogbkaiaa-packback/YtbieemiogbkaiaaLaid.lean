/-
  What items come to when they are laid, proved of every slice of at most 200 items.
-/
import Derived.Test.YtbieemiogbkaiaaItems
import Derived.Deep.RegionWith
import Derived.Deep.RegionHeld3
import Derived.Deep.DeepCutAuto
namespace Go.Proofs.Ytbieemiogbkaiaa
open Go.RowKit

/-- a writer, behind an item. -/
def stepW (st : List Int × Int) (x : It) : List Int × Int := if x.isText then textW st x.text else numW st x.n x.size

/-- a writer, behind items. -/
def layAll (its : List It) : List Int × Int := its.foldl stepW ([], 0)

theorem textW_len (st : List Int × Int) (s : ByteArray) : (textW st s).1.length ≤ st.1.length + 65543 := by
  unfold textW
  split
  · have := failW_len st 4
    omega
  · have h1 := layW_len (numW st s.size 2) (bytesOf s)
    have h2 := numW_len st s.size 2
    rw [bytesOf_length] at h1
    omega

theorem stepW_len (st : List Int × Int) (x : It) : (stepW st x).1.length ≤ st.1.length + 65543 := by
  unfold stepW
  split
  · exact textW_len st x.text
  · have := numW_len st x.n x.size
    omega

theorem stepW_text (st : List Int × Int) (n s : Int) (x : ByteArray) : stepW st ⟨n, s, true, x⟩ = textW st x := by unfold stepW; rw [if_pos rfl]

theorem stepW_num (st : List Int × Int) (n s : Int) (x : ByteArray) : stepW st ⟨n, s, false, x⟩ = numW st n s := by unfold stepW; rw [if_neg (by simp)]

theorem layAll_snoc (l : List It) (x : It) : layAll (l ++ [x]) = stepW (layAll l) x := by simp [layAll]

theorem layAll_len (l : List It) : (layAll l).1.length ≤ l.length * 65543 := by
  suffices ∀ r : List It, (layAll r.reverse).1.length ≤ r.length * 65543 by simpa using this l.reverse
  intro r
  induction r with
  | nil => simp [layAll]
  | cons x r ih =>
    rw [List.reverse_cons, layAll_snoc]
    have := stepW_len (layAll r.reverse) x
    rw [List.length_cons, Nat.add_mul]
    omega

theorem layAll_small (l : List It) (k : Nat) (hk : k ≤ 200) : (layAll (l.take k)).1.length ≤ 800000000 ∧ (layAll (l.take k)).1.length ≤ 900000000 := by
  have := layAll_len (l.take k)
  rw [List.length_take] at this
  have h2 : min k l.length * 65543 ≤ 200 * 65543 := Nat.mul_le_mul_right _ (by omega)
  omega

theorem takeIt_snoc (l : List It) (k : Nat) (hk : k < l.length) : l.take (k + 1) = l.take k ++ [l[k]] := by
  rw [List.take_add_one, List.getElem?_eq_getElem hk]
  rfl

theorem owns_lower {w : World} {B B' : Nat} {v : Value} {n : Nat} {xs : List Value} (h : w.ownsRow B 5 1 v n xs) (hB : B' ≤ B) : w.ownsRow B' 5 1 v n xs := by
  refine ⟨h.1, ?_⟩
  rcases h.2 with hn | ⟨g, cap, cur, hv, hg, r⟩
  · exact .inl hn
  · exact .inr ⟨g, cap, cur, hv, Nat.le_trans hB hg, r⟩

theorem wr_new (w : World) : Wr w.heap.size (w.alloc (.cells #[.slice none 0 0, .int .i64 0] 46)) w.heap.size ([], 0) := by
  refine ⟨⟨.slice none 0 0, ?_, owns_nil _ _⟩, Nat.le_refl _, by simp, fun h => absurd rfl h⟩
  unfold Two
  show (w.heap.push _)[w.heap.size]? = _
  simp

set_option maxHeartbeats 1600000 in
theorem laid_any (a : Option Addr) (len cap : Nat) (its : List It) (w : World) (hlen : len ≤ 200) (h : Items w a len its) :
    Calls Try.prog 11 #[.slice a len cap] w fun e w' => Below w.heap.size w w' ∧ ∃ v, e = .returned (.tuple #[v, .int .i64 (layAll its).2]) ∧ w'.ownsRow w.heap.size 5 1 v (layAll its).1.length (cellsB (layAll its).1) ∧ (∀ z ∈ (layAll its).1, 0 ≤ z ∧ z ≤ 255) := by
  have hll := h.1
  have hw0 := wr_new w
  have hb0 : Below w.heap.size w (w.alloc (.cells #[.slice none 0 0, .int .i64 0] 46)) := (Below.refl _ _).alloc (Nat.le_refl _) _
  go_enter Try.func11, Try.ntmps11
  go_wp2
  go_loopw [5] (fun i wr => ∃ k : Nat, k ≤ len ∧ i = .int .i64 k ∧ Wr w.heap.size wr w.heap.size (layAll (its.take k)) ∧ Below w.heap.size w wr) (fun i _ => len - (intOf i).toNat)
  case atStart => exact ⟨0, Nat.zero_le _, rfl, hw0, hb0⟩
  case round =>
    obtain ⟨k, hk, rfl, hwr, hbel⟩ := hrel
    clear hw0 hb0
    have HB : Hid ((layAll (its.take k)).1.length ≤ 800000000 ∧ (layAll (its.take k)).1.length ≤ 900000000) := layAll_small its k (by omega)
    by_cases hlt : k < len
    · have hir := h.below hbel
      obtain ⟨b, off, rfl, hc⟩ := hir.2.2 (by omega)
      obtain ⟨q1, q2, q3, q4⟩ := hc k its[k] (List.getElem?_eq_getElem (by omega))
      have hok := hir.2.1 its[k] (List.getElem_mem (by omega))
      have HS : Hid (layAll (its.take (k + 1)) = stepW (layAll (its.take k)) its[k]) := by unfold Hid; rw [takeIt_snoc its k (by omega), layAll_snoc]
      have HO : Hid (its[k].ok) := hok
      clear hc hok hir
      generalize its[k] = x at *
      generalize layAll (its.take k) = st at *
      obtain ⟨xn, xs, xt, xx⟩ := x
      simp only at q1 q2 q3 q4
      have hi1 : (k : Int) < (len : Int) := by omega
      have hbs := hbel.size
      cases xt with
      | true =>
        go_wp2_with (go_at_call 22; refine (wtext_any w.heap.size _ w.heap.size st xx hbs hwr HB.out.1).mono ?_; rintro e w2 ⟨rfl, h2, hb2⟩)
        go_roundw
        case rel => exact ⟨k + 1, by omega, by go_num, by rw [HS.out, stepW_text]; exact h2, hbel.trans hb2⟩
        case measure => simp [intOf]; omega
      | false =>
        have hwd : Wr w.heap.size wr.drew w.heap.size st := hwr.below (Below.refl _ _).drew
        have hbd : Below w.heap.size w wr.drew := hbel.drew
        have hbs2 : w.heap.size ≤ wr.drew.heap.size := hbs
        go_wp2_with fail
        go_region_with (go_at_call 20; refine (wnum_any w.heap.size wr.drew w.heap.size st xn xs hbs2 hwd HO.out.1 HO.out.2 HB.out.2).mono ?_; rintro e w2 ⟨rfl, h2, hb2⟩)
        all_goals
          go_wp2
          go_roundw
          case rel => exact ⟨k + 1, by omega, by go_num, by rw [HS.out, stepW_num]; exact h2, hbd.trans hb2⟩
          case measure => simp [intOf]; omega
    · obtain rfl : k = len := by omega
      rw [← hll, List.take_length] at hwr HB
      go_wp2_with (go_at_call 21; refine (wbytes_any w.heap.size _ w.heap.size _ hwr HB.out.2).mono ?_; rintro e w2 ⟨hb2, v, rfl, ho2⟩)
      go_ret2
      exact ⟨hbel.trans (hb2.mono hbel.size), v, rfl, owns_lower ho2 hbel.size, hwr.bd⟩

end Go.Proofs.Ytbieemiogbkaiaa
