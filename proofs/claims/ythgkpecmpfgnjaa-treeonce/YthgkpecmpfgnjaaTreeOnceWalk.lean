/-
  The law TreeOnce, walked: true for every list.
-/
import Derived.Test.YthgkpecmpfgnjaaAwake
namespace Go.Proofs.Ythgkpecmpfgnjaa
open Go.RowKit

/-- which places were met so far. -/
def flags (n : Nat) (l : List Nat) : List Bool := (List.range n).map fun i => decide (i ∈ l)
def cellsT (l : List Bool) : List Value := l.map Value.bool
theorem flags_len (n : Nat) (l : List Nat) : (flags n l).length = n := by simp [flags]
theorem flags_get (n : Nat) (l : List Nat) (i : Nat) (h : i < n) : (flags n l)[i]? = some (decide (i ∈ l)) := by
  unfold flags
  rw [List.getElem?_map, List.getElem?_range h]
  rfl
theorem flags_set (n : Nat) (l : List Nat) (x : Nat) : (flags n l).set x true = flags n (l ++ [x]) := by
  apply List.ext_getElem?
  intro i
  rw [List.getElem?_set]
  by_cases hi : i < n
  · rw [flags_get n (l ++ [x]) i hi]
    by_cases e : x = i
    · subst e
      rw [if_pos rfl, if_pos (by rw [flags_len]; exact hi)]
      simp
    · rw [if_neg e, flags_get n l i hi]
      congr 1
      rw [decide_eq_decide, List.mem_append, List.mem_singleton]
      constructor
      · exact .inl
      · rintro (h | h)
        · exact h
        · exact absurd h.symm e
  · have h1 : (flags n (l ++ [x]))[i]? = none := List.getElem?_eq_none (by rw [flags_len]; omega)
    rw [h1]
    by_cases e : x = i
    · subst e
      rw [if_pos rfl, if_neg (by rw [flags_len]; exact hi)]
    · rw [if_neg e]
      exact List.getElem?_eq_none (by rw [flags_len]; omega)
theorem flags_nil (n : Nat) : cellsT (flags n []) = List.replicate n (.bool false) := by
  unfold cellsT flags
  rw [List.map_map]
  apply List.ext_getElem?
  intro i
  rw [List.getElem?_map, List.getElem?_replicate]
  by_cases hi : i < n
  · rw [List.getElem?_range hi, if_pos hi]
    rfl
  · rw [if_neg hi, List.getElem?_eq_none (by rw [List.length_range]; omega)]
    rfl

theorem cellsT_set (l : List Bool) (i : Nat) (b : Bool) : (cellsT l).set i (.bool b) = cellsT (l.set i b) := by
  unfold cellsT
  rw [List.map_set]
theorem cellsT_get (n : Nat) (l : List Nat) (i : Nat) (h : i < n) : (cellsT (flags n l))[i]? = some (.bool (decide (i ∈ l))) := by
  unfold cellsT
  rw [List.getElem?_map, flags_get n l i h]
  rfl

theorem bErr_cases (l : List Int) : (bErr l = 4 ∧ 4096 < l.length ∧ bMids l = []) ∨ (bErr l = 1 ∧ l.length ≤ 4096 ∧ bMids l = []) ∨ (bErr l = 0 ∧ l.length ≤ 4096 ∧ bMids l = mids 0 l.length) := by
  unfold bErr bMids
  by_cases h : 4096 < l.length
  · rw [if_pos h, if_pos h]
    exact .inl ⟨rfl, h, rfl⟩
  · rw [if_neg h, if_neg h]
    by_cases h2 : rises l = true
    · rw [if_pos h2, if_pos h2]
      exact .inr (.inr ⟨rfl, by omega, rfl⟩)
    · rw [if_neg h2, if_neg h2]
      exact .inr (.inl ⟨rfl, by omega, rfl⟩)

set_option maxHeartbeats 2000000 in
theorem treeOnce_walk (a : Option Addr) (len cap : Nat) (l : List Int) (w : World) (h : Ns .u32 w a len l) :
    Calls Try.prog 7 #[.slice a len cap] w fun e w' => e = .returned (.bool true) ∧ Below w.heap.size w w' := by
  have hll := h.1
  have HB : Hid (∀ W : World, Below w.heap.size w W → Calls Try.prog 10 #[.slice a len cap] W fun e w' => Bld W w' e (bMids l) (bErr l)) := fun W hb => build_any a len cap l W (h.below hb)
  rcases bErr_cases l with ⟨e1, e2, e3⟩ | ⟨e1, e2, e3⟩ | ⟨e1, e2, e3⟩
  · rw [e1, e3] at HB
    have h4 : (4096 : Int) < (len : Int) := by omega
    clear e1 e2 e3 h hll
    go_enter Try.func7, Try.ntmps7
    go_wp2_with (first
      | (go_at_call 9; refine (awake_any _).mono ?_; rintro e w1 ⟨rfl, hb1⟩)
      | (go_at_call 10; refine (HB.out _ hb1).mono ?_; rintro e w2 ⟨hb2, v2, rfl, ho2⟩; obtain ⟨a2, c2, rfl, n2⟩ := owns_ns ho2; have hB2 := hb1.trans (hb2.mono hb1.size)))
    go_ret
    exact ⟨ret_bool (by simp), hB2⟩
  · rw [e1, e3] at HB
    have h4 : ¬ (4096 : Int) < (len : Int) := by omega
    clear e1 e2 e3 h hll
    go_enter Try.func7, Try.ntmps7
    go_wp2_with (first
      | (go_at_call 9; refine (awake_any _).mono ?_; rintro e w1 ⟨rfl, hb1⟩)
      | (go_at_call 10; refine (HB.out _ hb1).mono ?_; rintro e w2 ⟨hb2, v2, rfl, ho2⟩; obtain ⟨a2, c2, rfl, n2⟩ := owns_ns ho2; have hB2 := hb1.trans (hb2.mono hb1.size)))
    go_ret
    exact ⟨ret_bool (by simp; omega), hB2⟩
  · rw [e1, e3, hll] at HB
    have hi := fun x (hx : x ∈ mids 0 len) => mids_in hx
    have HI : Hid (∀ x ∈ mids 0 len, 0 < x ∧ x < len) := hi
    have HN : Hid (mids 0 len).Nodup := mids_nodup 0 len
    have HL : Hid ((mids 0 len).length = len - 1) := mids_len 0 len
    have hl4 : (len : Int) ≤ 4096 := by omega
    obtain ⟨i0, hi0, hz0, hz1, hz2⟩ := info_parts Try.infoB
    generalize mids 0 len = ms at *
    clear e1 e2 e3 h hll hi
    go_enter Try.func7, Try.ntmps7
    go_wp2_with (first
      | (go_at_call 9; refine (awake_any _).mono ?_; rintro e w1 ⟨rfl, hb1⟩)
      | (go_at_call 10; refine (HB.out _ hb1).mono ?_; rintro e w2 ⟨hb2, v2, rfl, ho2⟩; obtain ⟨a2, c2, rfl, n2⟩ := owns_ns ho2; have hB2 := hb1.trans (hb2.mono hb1.size))
      | (at_make; refine wpList_make_full _ rfl _ _ 42 rfl w2.heap.size 4 i0 _ 1 Try.underlying42 hi0 hz0 hz1 .i64 .i64 _ _ len rfl rfl rfl rfl (by rw [hz2]; omega) (by unfold maxLen; omega) (Nat.le_refl _) ?_; intro w3 ho3 hg3))
    have hB3 : Below w2.heap.size w2 w3 := (Below.refl _ _).grown hg3 (Nat.le_refl _) (fun k e => by cases e)
    rw [Nat.mul_one, show (Value.bool false).cells = #[Value.bool false] from rfl, toList_madeCells_one, ← flags_nil] at ho3
    have hml : Hid (ms.length ≤ 4096) := by have := HL.out; unfold Hid; omega
    have hml' := hml.out
    go_loopw [7] (fun i wr => ∃ k : Nat, k ≤ ms.length ∧ i = .int .i64 k ∧ wr.ownsRow w2.heap.size 4 1 (.slice (some ⟨w2.heap.size, 0, none⟩) len len) len (cellsT (flags len (ms.take k))) ∧ Below w2.heap.size w2 wr) (fun i _ => ms.length - (intOf i).toNat)
    case atStart => exact ⟨0, Nat.zero_le _, rfl, ho3, hB3⟩
    case round =>
      obtain ⟨k, hk, rfl, ho, hbr⟩ := hrel
      by_cases hlt : k < ms.length
      · obtain ⟨b, off, rfl, hc⟩ := (n2.below hbr).2 (by omega)
        have q1 := hc k hlt
        rw [ints_get] at q1
        obtain ⟨x, hx⟩ : ∃ x, ms[k]? = some x := ⟨ms[k], List.getElem?_eq_getElem hlt⟩
        have hx2 : ms.getD k 0 = x := by rw [List.getD_eq_getElem?_getD, hx]; rfl
        rw [hx2] at q1
        have hin := HI.out x (List.mem_of_getElem? hx)
        have htk : ms.take (k + 1) = ms.take k ++ [x] := by
          obtain ⟨h1, rfl⟩ := List.getElem?_eq_some_iff.1 hx
          exact List.take_succ_eq_append_getElem h1
        have hni : x ∉ ms.take k := by
          intro hm
          have h1 := HN.out
          rw [← List.take_append_drop (k + 1) ms, htk] at h1
          have h2 := (List.nodup_append.1 (List.nodup_append.1 h1).1).2.2 x hm x (List.mem_singleton.2 rfl)
          exact h2 rfl
        have qs := ho.cells (g := w2.heap.size) rfl x _ (cellsT_get len (ms.take k) x hin.2)
        rw [decide_eq_false hni, Addr.add_lit, Nat.zero_add] at qs
        have qf := ho.frozenAt x
        have o5 := (ho.stored x (.bool true)).1
        rw [cellsT_set, flags_set, ← htk] at o5
        have b5 := hbr.setCell (p := ⟨w2.heap.size, x, none⟩) (Nat.le_refl _) (.bool true)
        have HO : Hid ((wr.setCell ⟨w2.heap.size, x, none⟩ (.bool true)).ownsRow w2.heap.size 4 1 (.slice (some ⟨w2.heap.size, 0, none⟩) len len) len (cellsT (flags len (ms.take (k + 1))))) := o5
        have i1 : (1 : Int) ≤ (x : Int) := by omega
        have i2 : (x : Int) < (len : Int) := by omega
        have hi1 : (k : Int) < (ms.length : Int) := by omega
        clear hc hx hx2 hin htk hni ho o5 n2 ho2
        go_wp2_with fail
        go_roundw
        case rel => exact ⟨k + 1, by omega, by go_num, HO.out, b5⟩
        case measure => simp [intOf]; omega
      · have hge : ¬ (k : Int) < (ms.length : Int) := by omega
        have HK := HL.out
        have HK2 : Hid (ms.length = len - 1) := HL.out
        clear HK
        go_wp2_with fail
        all_goals go_ret
        all_goals refine ⟨ret_bool ?_, hB2.trans (hbr.mono hB2.size)⟩
        all_goals have := HK2.out
        · simp
          exact List.eq_nil_of_length_eq_zero (by omega)
        · simp
          omega

end Go.Proofs.Ythgkpecmpfgnjaa
