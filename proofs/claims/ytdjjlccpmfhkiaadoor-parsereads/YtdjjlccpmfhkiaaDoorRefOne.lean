/-
  The document's answer: the token at a place; lists of tokens that are the same.
-/
import Derived.Test.YtdjjlccpmfhkiaaDoorOne
import Derived.Test.YtdjjlccpmfhkiaaDoorSgA
import Derived.Test.YtdjjlccpmfhkiaaDoorSgB
import Derived.Laws.StructEq
import Derived.BigQuiet
namespace Go.Proofs.YtdjjlccpmfhkiaaDoor
open Go.RowKit

theorem sign_two {c : UInt8} {r : (List UInt8)} (hc : c = 61 ∨ c = 33 ∨ c = 60 ∨ c = 62) : sign (c :: 61 :: r) = some [c, 61] := by
  rcases hc with rfl | rfl | rfl | rfl <;> rfl
theorem sign_plain {c : UInt8} {r : (List UInt8)} (hc : c = 59 ∨ c = 44 ∨ c = 38) : sign (c :: r) = some [c] := by
  rcases hc with rfl | rfl | rfl <;> rfl
theorem sign_lt {c : UInt8} {r : (List UInt8)} (hc : c = 60 ∨ c = 62) (hr : ∀ d q, r = d :: q → ¬ d = 61) : sign (c :: r) = some [c] := by
  cases r with
  | nil => rcases hc with rfl | rfl <;> rfl
  | cons d q =>
    have hd : ((61 : UInt8) == d) = false := by
      rw [beq_eq_false_iff_ne]
      exact fun e => hr d q rfl e.symm
    rcases hc with rfl | rfl <;> simp [sign, signs, List.find?, List.isPrefixOf, hd]
theorem sign_none {c : UInt8} {r : (List UInt8)} (h : ¬ c = 59 ∧ ¬ c = 44 ∧ ¬ c = 60 ∧ ¬ c = 62 ∧ ¬ c = 38) (hr : (¬ c = 61 ∧ ¬ c = 33) ∨ ∀ d q, r = d :: q → ¬ d = 61) : sign (c :: r) = none := by
  have k : ∀ d : UInt8, ¬ c = d → (d == c) = false := fun d hd => by
    rw [beq_eq_false_iff_ne]
    exact fun e => hd e.symm
  have k1 := k 59 h.1
  have k2 := k 44 h.2.1
  have k3 := k 60 h.2.2.1
  have k4 := k 62 h.2.2.2.1
  have k5 := k 38 h.2.2.2.2
  rcases hr with ⟨h6, h7⟩ | hr
  · have k6 := k 61 h6
    have k7 := k 33 h7
    simp [sign, signs, List.find?, List.isPrefixOf, k1, k2, k3, k4, k5, k6, k7]
  · cases r with
    | nil => simp [sign, signs, List.find?, List.isPrefixOf, k1, k2, k3, k4, k5]
    | cons d q =>
      have hd : ((61 : UInt8) == d) = false := by
        rw [beq_eq_false_iff_ne]
        exact fun e => hr d q rfl e.symm
      simp [sign, signs, List.find?, List.isPrefixOf, k1, k2, k3, k4, k5, hd]

theorem nat_of {c : UInt8} {n : Nat} (hn : n < 256) (h : c = UInt8.ofNat n) : c.toNat = n := by
  rw [h, UInt8.toNat_ofNat', Nat.mod_eq_of_lt (by simpa using hn)]

theorem cut1 (s : ByteArray) (p : Nat) (hp : p < s.size) : s.extract p (p + 1) = bar [s[p]'hp] := by
  rw [extract_bar, drop_cons s p hp, show p + 1 - p = 1 from by omega]
  rfl
theorem cut2 (s : ByteArray) (p : Nat) (hp : p < s.size) (h2 : p + 1 < s.size) : s.extract p (p + 2) = bar [s[p]'hp, s[p + 1]'h2] := by
  rw [extract_bar, drop_cons s p hp, drop_cons s (p + 1) h2, show p + 2 - p = 2 from by omega]
  rfl

theorem One.sg {t : (List UInt8)} {p : Nat} {e : Ending} {b : ByteArray} (hb : b = bar t) (h : e = .returned (.tuple #[.agg #[.int .i64 3, .int .i64 p, .string b, .int .u64 0], .int .i64 0])) : One (sgR (some t)) p e := by
  subst hb
  exact h

theorem refSg_any (s : ByteArray) (p : Nat) (w : World) (hp : p < s.size) (hs : s.size ≤ 100000000) (hl : loN (s[p]'hp).toNat = false) (hd : dgN (s[p]'hp).toNat = false) :
    Calls Tryd.prog 35 #[.string s, .int .i64 p] w fun e w' => One (sgR (sign ((lst s).drop p))) p e ∧ Below w.heap.size w w' := by
  rw [drop_cons s p hp]
  have c1 := cut1 s p hp
  have hu : ∀ n, n < 256 → ((s[p]'hp).toNat = n ↔ s[p]'hp = UInt8.ofNat n) := fun n hn => ⟨u8_of, nat_of hn⟩
  by_cases h2 : p + 1 < s.size
  · rw [drop_cons s (p + 1) h2]
    by_cases hq : (s[p + 1]'h2).toNat = 61
    · have hq' : s[p + 1]'h2 = 61 := u8_of hq
      have c2 := cut2 s p hp h2
      rw [hq'] at c2 ⊢
      by_cases h61 : (s[p]'hp).toNat = 61
      · rw [sign_two (.inl (u8_of h61))]
        exact (refSg_iii_61 s p w hp hs hl hd h2 hq h61).mono fun e w' h => ⟨One.sg c2 h.1, h.2⟩
      · by_cases h33 : (s[p]'hp).toNat = 33
        · rw [sign_two (.inr (.inl (u8_of h33)))]
          exact (refSg_iii_33 s p w hp hs hl hd h2 hq h33).mono fun e w' h => ⟨One.sg c2 h.1, h.2⟩
        · by_cases h60 : (s[p]'hp).toNat = 60
          · rw [sign_two (.inr (.inr (.inl (u8_of h60))))]
            exact (refSg_iii_60 s p w hp hs hl hd h2 hq h60).mono fun e w' h => ⟨One.sg c2 h.1, h.2⟩
          · by_cases h62 : (s[p]'hp).toNat = 62
            · rw [sign_two (.inr (.inr (.inr (u8_of h62))))]
              exact (refSg_iii_62 s p w hp hs hl hd h2 hq h62).mono fun e w' h => ⟨One.sg c2 h.1, h.2⟩
            · by_cases h59 : (s[p]'hp).toNat = 59
              · rw [sign_plain (.inl (u8_of h59))]
                exact (refSg_iii_59 s p w hp hs hl hd h2 hq h59).mono fun e w' h => ⟨One.sg c1 h.1, h.2⟩
              · by_cases h44 : (s[p]'hp).toNat = 44
                · rw [sign_plain (.inr (.inl (u8_of h44)))]
                  exact (refSg_iii_44 s p w hp hs hl hd h2 hq h44).mono fun e w' h => ⟨One.sg c1 h.1, h.2⟩
                · by_cases h38 : (s[p]'hp).toNat = 38
                  · rw [sign_plain (.inr (.inr (u8_of h38)))]
                    exact (refSg_iii_38 s p w hp hs hl hd h2 hq h38).mono fun e w' h => ⟨One.sg c1 h.1, h.2⟩
                  · rw [sign_none ⟨fun e => h59 (nat_of (by decide) e), fun e => h44 (nat_of (by decide) e), fun e => h60 (nat_of (by decide) e), fun e => h62 (nat_of (by decide) e), fun e => h38 (nat_of (by decide) e)⟩ (.inl ⟨fun e => h61 (nat_of (by decide) e), fun e => h33 (nat_of (by decide) e)⟩)]
                    exact refSg_iii_no s p w hp hs hl hd h2 hq ⟨h61, h33, h60, h62, h59, h44, h38⟩
    · have hr : ∀ d q, s[p + 1]'h2 :: (lst s).drop (p + 1 + 1) = d :: q → ¬ d = 61 := by
        intro d q e hd
        injection e with e _
        exact hq (nat_of (by decide) (e.trans hd))
      by_cases h60 : (s[p]'hp).toNat = 60
      · rw [sign_lt (.inl (u8_of h60)) hr]
        exact (refSg_ii_60 s p w hp hs hl hd h2 hq h60).mono fun e w' h => ⟨One.sg c1 h.1, h.2⟩
      · by_cases h62 : (s[p]'hp).toNat = 62
        · rw [sign_lt (.inr (u8_of h62)) hr]
          exact (refSg_ii_62 s p w hp hs hl hd h2 hq h62).mono fun e w' h => ⟨One.sg c1 h.1, h.2⟩
        · by_cases h59 : (s[p]'hp).toNat = 59
          · rw [sign_plain (.inl (u8_of h59))]
            exact (refSg_ii_59 s p w hp hs hl hd h2 hq h59).mono fun e w' h => ⟨One.sg c1 h.1, h.2⟩
          · by_cases h44 : (s[p]'hp).toNat = 44
            · rw [sign_plain (.inr (.inl (u8_of h44)))]
              exact (refSg_ii_44 s p w hp hs hl hd h2 hq h44).mono fun e w' h => ⟨One.sg c1 h.1, h.2⟩
            · by_cases h38 : (s[p]'hp).toNat = 38
              · rw [sign_plain (.inr (.inr (u8_of h38)))]
                exact (refSg_ii_38 s p w hp hs hl hd h2 hq h38).mono fun e w' h => ⟨One.sg c1 h.1, h.2⟩
              · rw [sign_none ⟨fun e => h59 (nat_of (by decide) e), fun e => h44 (nat_of (by decide) e), fun e => h60 (nat_of (by decide) e), fun e => h62 (nat_of (by decide) e), fun e => h38 (nat_of (by decide) e)⟩ (.inr hr)]
                exact refSg_ii_no s p w hp hs hl hd h2 hq ⟨h59, h44, h60, h62, h38⟩
  · have hn : (lst s).drop (p + 1) = [] := List.drop_eq_nil_of_le (by rw [lst_length]; omega)
    have hr : ∀ d q, (lst s).drop (p + 1) = d :: q → ¬ d = 61 := by
      intro d q e
      rw [hn] at e
      cases e
    by_cases h60 : (s[p]'hp).toNat = 60
    · rw [sign_lt (.inl (u8_of h60)) hr]
      exact (refSg_i_60 s p w hp hs hl hd h2 h60).mono fun e w' h => ⟨One.sg c1 h.1, h.2⟩
    · by_cases h62 : (s[p]'hp).toNat = 62
      · rw [sign_lt (.inr (u8_of h62)) hr]
        exact (refSg_i_62 s p w hp hs hl hd h2 h62).mono fun e w' h => ⟨One.sg c1 h.1, h.2⟩
      · by_cases h59 : (s[p]'hp).toNat = 59
        · rw [sign_plain (.inl (u8_of h59))]
          exact (refSg_i_59 s p w hp hs hl hd h2 h59).mono fun e w' h => ⟨One.sg c1 h.1, h.2⟩
        · by_cases h44 : (s[p]'hp).toNat = 44
          · rw [sign_plain (.inr (.inl (u8_of h44)))]
            exact (refSg_i_44 s p w hp hs hl hd h2 h44).mono fun e w' h => ⟨One.sg c1 h.1, h.2⟩
          · by_cases h38 : (s[p]'hp).toNat = 38
            · rw [sign_plain (.inr (.inr (u8_of h38)))]
              exact (refSg_i_38 s p w hp hs hl hd h2 h38).mono fun e w' h => ⟨One.sg c1 h.1, h.2⟩
            · rw [sign_none ⟨fun e => h59 (nat_of (by decide) e), fun e => h44 (nat_of (by decide) e), fun e => h60 (nat_of (by decide) e), fun e => h62 (nat_of (by decide) e), fun e => h38 (nat_of (by decide) e)⟩ (.inr hr)]
              exact refSg_i_no s p w hp hs hl hd h2 ⟨h59, h44, h60, h62, h38⟩

theorem refOne_any (s : ByteArray) (p : Nat) (w : World) (hp : p < s.size) (hs : s.size ≤ 100000000) :
    Calls Tryd.prog 35 #[.string s, .int .i64 p] w fun e w' => One (one ((lst s).drop p)) p e ∧ Below w.heap.size w w' := by
  rcases Bool.eq_false_or_eq_true (loN (s[p]'hp).toNat) with hl | hl
  · have := refOne_lo s p w hp hs hl
    rw [drop_cons s p hp, one_lo hl]
    rw [drop_cons s p hp] at this
    exact this
  · rcases Bool.eq_false_or_eq_true (dgN (s[p]'hp).toNat) with hd | hd
    · have := refOne_dg s p w hp hs hl hd
      rw [drop_cons s p hp, one_dg hl hd]
      rw [drop_cons s p hp] at this
      exact this
    · have := refSg_any s p w hp hs hl hd
      rw [drop_cons s p hp, one_sg hl hd]
      rw [drop_cons s p hp] at this
      exact this

theorem neq_tok (k p : Int) (s : ByteArray) (n : Int) (w : World) : (binOp .neq 39 (.agg #[.int .i64 k, .int .i64 p, .string s, .int .u64 n]) (.agg #[.int .i64 k, .int .i64 p, .string s, .int .u64 n])).run Tryd.prog w = .ok (.bool false) w := by
  have u3 := Tryd.underlying3
  have a3 := Tryd.isAgg3
  have z3 := Tryd.sizeOf3
  have u9 := Tryd.underlying9
  have a9 := Tryd.isAgg9
  have z9 := Tryd.sizeOf9
  have u37 := Tryd.underlying37
  have a29 := Tryd.isAgg37
  have z29 := Tryd.sizeOf37
  have hS : Tryd.prog.underlying 39 = some (.struct (Tryd.prog.fieldsOf 39)) := by kernel_rfl
  have hp : Tryd.prog.stoodInHeld 39 = false := by kernel_rfl
  rw [run_neq_struct, show (10000 : Nat) = 9999 + 1 from rfl, run_equalIn_agg w 9999 39 _ _ hS hp]
  simp only [Program.fieldsOf, Tryd.underlying39]
  go_simp

end Go.Proofs.YtdjjlccpmfhkiaaDoor
