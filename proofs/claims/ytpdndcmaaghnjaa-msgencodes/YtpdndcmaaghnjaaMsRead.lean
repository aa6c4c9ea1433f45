/-
  The message of bytes, by package msg, read by its kind: proved of all bytes whose first is a kind.
-/
import Derived.Test.YtpdndcmaaghnjaaMsReadM
import Derived.Test.YtpdndcmaaghnjaaMsRdE
import Derived.Test.YtpdndcmaaghnjaaMsRdF
namespace Go.Proofs.Ytpdndcmaaghnjaa
open Go.RowKit
open D (Da Blk)
open K (numR textR endR numOf)

theorem num_at (l : List Int) (p s : Nat) (h1 : 1 ≤ s) (h8 : s ≤ 8) : numR (stA l p) (s : Int) = (nAt l p s, stA l (p + s)) := num_stA l p s h1 h8
theorem num_first {l : List Int} {k : Int} (hh : l.head? = some k) : numR (l, 0) 1 = (k, stA l 1) := by
  have h := num_at l 0 1 (by decide) (by decide)
  rw [stA_zero] at h
  have hl : 0 < l.length := by cases l with
    | nil => cases hh
    | cons x r => exact Nat.succ_pos _
  have e : nAt l 0 1 = k := by
    rw [nAt_1 l 0 hl]
    cases l with
    | nil => cases hh
    | cons x r => cases hh; rfl
  rw [e] at h
  exact h
theorem end_at (k : Int) (l : List Int) (p : Nat) (hn : need k = p) (hs : size k l = p) : endR (stA l p) = endM k l := by
  rw [end_stA]
  unfold endM
  rw [hn, hs]
  by_cases h : l.length < p
  · rw [if_pos h, if_pos (.inl h)]
  · rw [if_neg h, if_neg (show ¬ (l.length < p ∨ l.length < p) by omega)]

theorem zero_u64 : D.U64 0 := ⟨by decide, by decide⟩

/-- what read tells. -/
def ReadT (k : Int) (l : List Int) (w : World) (e : Ending) (w' : World) : Prop := ∃ m : Mg, m.ok ∧ e = .returned (.tuple #[m.vl, .int .i64 (endM k l)]) ∧ decM l = tellM m (endM k l) ∧ Below w.heap.size w w'

section
variable {a : Option Addr} {len cap : Nat} {l : List Int} {w : World} {k : Int}
theorem read1 (hao : a = none → cap = 0) (hlen : len ≤ 900000000) (hb : K.Bs w a len l) (hh : l.head? = some k) (hk : 1 ≤ k ∧ k ≤ 7) (h1 : k = 1) : Calls Try.prog 23 #[.slice a len cap] w (ReadT k l w) := by
  have q1 : idQ k = false := by unfold idQ; rw [h1]; rfl
  have q2 : caQ k = false := by unfold caQ; rw [h1]; rfl
  have q3 : vaQ k = false := by rw [va_iff]; exact decide_eq_false (by omega)
  have hby : D.Byt l := hb.2.1
  have hn : need k = 9 := by unfold need; rw [if_pos h1]
  have hs : size k l = 9 := by unfold size; rw [if_neg (by omega), hn]
  refine (read_none a len cap l w hao hlen hb k (nAt l 1 8) (stA l 1) (stA l 9) q1 q2 q3 (num_first hh) (num_at l 1 8 (by decide) (by decide)) (by omega) (by omega)).mono ?_
  rintro e w' ⟨rfl, hB⟩
  rw [end_at k l 9 hn hs]
  refine ⟨⟨k, nAt l 1 8, 0, 0, 0, Da.zero, []⟩, ⟨nAt_8 hby 1, zero_u64, D.zero_ok, fun z hz => by cases hz⟩, rfl, dec_tell hh hk hby fun h _ => ?_, hB⟩
  unfold rd nAt
  rw [if_pos (by omega), if_pos h1, if_neg (by omega), if_neg (by omega), if_neg (by omega), if_neg (by omega)]
theorem read2 (hao : a = none → cap = 0) (hlen : len ≤ 900000000) (hb : K.Bs w a len l) (hh : l.head? = some k) (hk : 1 ≤ k ∧ k ≤ 7) (h1 : k ≠ 1) (h2 : k ≠ 2) (h4 : ¬ (k = 4 ∨ k = 5 ∨ k = 7)) : Calls Try.prog 23 #[.slice a len cap] w (ReadT k l w) := by
  have q1 : idQ k = true := by unfold idQ; rw [beq_false_of_ne h1]; rfl
  have q2 : caQ k = false := beq_false_of_ne h2
  have q3 : vaQ k = false := by rw [va_iff]; exact decide_eq_false h4
  have hby : D.Byt l := hb.2.1
  have hn : need k = 17 := by unfold need; rw [if_neg h1, if_neg h2, if_neg h4]
  have hs : size k l = 17 := by unfold size; rw [if_neg h2, hn]
  refine (read_id a len cap l w hao hlen hb k (nAt l 1 8) (nAt l 9 8) (stA l 1) (stA l 9) (stA l 17) q1 q2 q3 (num_first hh) (num_at l 1 8 (by decide) (by decide)) (num_at l 9 8 (by decide) (by decide)) (by omega) (by omega)).mono ?_
  rintro e w' ⟨rfl, hB⟩
  rw [end_at k l 17 hn hs]
  refine ⟨⟨k, nAt l 1 8, nAt l 9 8, 0, 0, Da.zero, []⟩, ⟨nAt_8 hby 1, nAt_8 hby 9, D.zero_ok, fun z hz => by cases hz⟩, rfl, dec_tell hh hk hby fun h _ => ?_, hB⟩
  unfold rd nAt
  rw [if_pos (by omega), if_pos (by omega), if_neg h1, if_neg h2, if_neg h4, if_neg h2, if_neg h2]
theorem read4 (hao : a = none → cap = 0) (hlen : len ≤ 900000000) (hb : K.Bs w a len l) (hh : l.head? = some k) (hk : 1 ≤ k ∧ k ≤ 7) (h4 : k = 4 ∨ k = 5 ∨ k = 7) : Calls Try.prog 23 #[.slice a len cap] w (ReadT k l w) := by
  have h1 : k ≠ 1 := by omega
  have h2 : k ≠ 2 := by omega
  have q1 : idQ k = true := by unfold idQ; rw [beq_false_of_ne h1]; rfl
  have q2 : caQ k = false := beq_false_of_ne h2
  have q3 : vaQ k = true := by rw [va_iff]; exact decide_eq_true h4
  have hby : D.Byt l := hb.2.1
  have hn : need k = 19 := by unfold need; rw [if_neg h1, if_neg h2, if_pos h4]
  have hs : size k l = 19 := by unfold size; rw [if_neg h2, hn]
  have hv := nAt_2 hby 17 2 (by decide)
  refine (read_val a len cap l w hao hlen hb k (nAt l 1 8) (nAt l 9 8) (nAt l 17 2) (stA l 1) (stA l 9) (stA l 17) (stA l 19) q1 q2 q3 (num_first hh) (num_at l 1 8 (by decide) (by decide)) (num_at l 9 8 (by decide) (by decide)) (num_at l 17 2 (by decide) (by decide)) (by omega) (by omega) hv.1 hv.2).mono ?_
  rintro e w' ⟨rfl, hB⟩
  rw [end_at k l 19 hn hs]
  refine ⟨⟨k, nAt l 1 8, nAt l 9 8, 0, nAt l 17 2, Da.zero, []⟩, ⟨nAt_8 hby 1, nAt_8 hby 9, D.zero_ok, fun z hz => by cases hz⟩, rfl, dec_tell hh hk hby fun h _ => ?_, hB⟩
  unfold rd nAt
  rw [if_pos (by omega), if_pos (by omega), if_pos (by omega), if_neg h1, if_neg h2, if_pos h4, if_neg h2, if_neg h2]
theorem readC (hao : a = none → cap = 0) (hlen : len ≤ 900000000) (hb : K.Bs w a len l) (hh : l.head? = some k) (hk : 1 ≤ k ∧ k ≤ 7) (h2 : k = 2) : Calls Try.prog 23 #[.slice a len cap] w (ReadT k l w) := by
  have h1 : k ≠ 1 := by omega
  have h4 : ¬ (k = 4 ∨ k = 5 ∨ k = 7) := by omega
  have q1 : idQ k = true := by unfold idQ; rw [beq_false_of_ne h1]; rfl
  have q2 : caQ k = true := by unfold caQ; rw [h2]; rfl
  have q3 : vaQ k = false := by rw [va_iff]; exact decide_eq_false h4
  have hby : D.Byt l := hb.2.1
  have hn : need k = 84 := by unfold need; rw [if_neg h1, if_pos h2]
  have hs : size k l = 84 + (numOf ((l.drop 82).take 2)).toNat := by unfold size; rw [if_pos h2]
  have ht := nAt_2 hby 17 1 (by decide)
  have hbs := byte_stA l 18
  have hDL : D.Byt (byteR (stA l 18) 64).1 := by
    have hrd : ∀ m : List Int × Int, D.Byt m.1 → ∀ n, D.Byt (byteR m n).1 ∧ D.Byt (byteR m n).2.1 := byteR_byts
    refine (hrd (stA l 18) ?_ 64).1
    unfold stA
    split
    · exact fun z hz => hby z (List.mem_of_mem_drop hz)
    · exact fun z hz => by cases hz
  have hdo := D.decOf_ok _ hDL
  have hP : D.Byt (textR (stA l 82)).1 := by
    have htx := text_stA l 82
    by_cases h : 82 + 2 ≤ l.length
    · rw [htx.1 h]
      dsimp only
      split
      · exact byt_sub hby 84 _
      · exact fun z hz => by cases hz
    · rw [htx.2 (by omega)]
      exact fun z hz => by cases hz
  have hend : endR (textR (stA l 82)).2 = endM k l := by
    have htx := text_stA l 82
    by_cases h : 82 + 2 ≤ l.length
    · rw [htx.1 h]
      dsimp only
      rw [end_stA]
      unfold endM
      rw [hn, hs]
      by_cases h5 : l.length < 84 + (numOf ((l.drop 82).take 2)).toNat
      · rw [if_pos h5, if_pos (.inr h5)]
      · rw [if_neg h5, if_neg (show ¬ (l.length < 84 ∨ l.length < 84 + (numOf ((l.drop 82).take 2)).toNat) by omega)]
    · rw [htx.2 (by omega)]
      unfold endM
      rw [hn, if_pos (.inl (by omega))]
      rfl
  obtain ⟨DD, hD⟩ : ∃ x, D.decOf (byteR (stA l 18) 64).1 = x := ⟨_, rfl⟩
  rw [hD] at hdo
  obtain ⟨dn, da, dp, dg⟩ := DD
  have hg6 := hdo.2.2.2.1
  simp only at hg6
  obtain ⟨x0, x1, x2, x3, x4, x5, rfl⟩ := D.six hg6
  refine (read_call a len cap l w hao hlen hb k (nAt l 1 8) (nAt l 9 8) (nAt l 17 1) (stA l 1) (stA l 9) (stA l 17) (stA l 18) (stA l 82) (textR (stA l 82)).2 q1 q2 q3 dn da dp x0 x1 x2 x3 x4 x5 (byteR (stA l 18) 64).1 (strOfNums (textR (stA l 82)).1) (num_first hh) (num_at l 1 8 (by decide) (by decide)) (num_at l 9 8 (by decide) (by decide)) (num_at l 17 1 (by decide) (by decide)) (Prod.ext rfl hbs.1) hD rfl rfl (by omega) (by omega) ht.1 ht.2).mono ?_
  rintro e w' ⟨rfl, hB⟩
  rw [hend]
  refine ⟨⟨k, nAt l 1 8, nAt l 9 8, nAt l 17 1, 0, ⟨dn, da, dp, [x0, x1, x2, x3, x4, x5]⟩, (textR (stA l 82)).1⟩, ⟨nAt_8 hby 1, nAt_8 hby 9, hdo, hP⟩, rfl, dec_tell hh hk hby fun h h5 => ?_, hB⟩
  have htx := (text_stA l 82).1 (by omega)
  rw [hs] at h5
  rw [htx, ← hD, hbs.2 (by omega), nAt_1 l 17 (by omega)]
  unfold rd nAt
  rw [if_pos (by omega), if_pos (by omega), if_pos (show 82 + 2 + _ ≤ _ by omega), if_neg h1, if_pos h2, if_neg h4, if_pos h2, if_pos h2]
theorem read_all (hao : a = none → cap = 0) (hlen : len ≤ 900000000) (hb : K.Bs w a len l) (hh : l.head? = some k) (hk : 1 ≤ k ∧ k ≤ 7) : Calls Try.prog 23 #[.slice a len cap] w (ReadT k l w) := by
  by_cases h1 : k = 1
  · exact read1 hao hlen hb hh hk h1
  · by_cases h2 : k = 2
    · exact readC hao hlen hb hh hk h2
    · by_cases h4 : k = 4 ∨ k = 5 ∨ k = 7
      · exact read4 hao hlen hb hh hk h4
      · exact read2 hao hlen hb hh hk h1 h2 h4
end

end Go.Proofs.Ytpdndcmaaghnjaa
