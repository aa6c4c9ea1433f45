/-
  The document's answer for rules: acts and conditions, all ways in one.
-/
import Derived.Test.YtdjjlccpmfhkiaaDoorDCondB
namespace Go.Proofs.YtdjjlccpmfhkiaaDoor.Doc
open Go.RowKit

/-- a token that is not the end has one behind it. -/
def Ending4 (ts : List Tok) : Prop := ∀ i (h : i < ts.length), ¬ ts[i].k = 4 → i + 1 < ts.length

/-- what is told of an act. -/
def ActT (ts : List Tok) (n : Nat) (k a : Int) (m : Nat) (c p : Int) : Prop :=
  (∃ x y : Nat, actD (ts.drop n) = .error (x, y) ∧ c = x ∧ p = y ∧ ¬ x = 0) ∨ (∃ v : Ac, actD (ts.drop n) = .ok (v, ts.drop m) ∧ m < ts.length ∧ k = v.k ∧ a = v.a ∧ c = 0 ∧ p = 0)

theorem act_any (w : World) (b g cap n : Nat) (ts : List Tok) (hE : Ending4 ts) (h : Pc w b g cap ts n 0 0) (hn : n < ts.length) :
    Calls Tryd.prog 20 #[.pointer (some ⟨b, 0, none⟩)] w fun e w' => ∃ k a m c p, e = .returned (actV k a) ∧ Bt b w w' ∧ Pc w' b g cap ts m c p ∧ ActT ts n k a m c p := by
  unfold ActT
  rw [drop_at hn]
  rcases Bool.eq_false_or_eq_true (isA ts[n]) with h1 | h1
  · have h4 : ¬ ts[n].k = 4 := by
      simp [isA] at h1
      omega
    have hn1 := hE n hn h4
    rcases Bool.eq_false_or_eq_true (numK (kindOf ts[n].t)) with h2 | h2
    · rcases Bool.eq_false_or_eq_true (isN ts[n + 1]) with h3 | h3
      · have h5 : ¬ ts[n + 1].k = 4 := by
          simp [isN] at h3
          omega
        have hn2 := hE (n + 1) hn1 h5
        by_cases h6 : 65535 < ts[n + 1].n
        · refine (act_big w b g cap n ts h hn h1 h2 hn1 h3 h6).mono ?_
          rintro e w' ⟨rfl, hb, hp⟩
          refine ⟨_, _, _, _, _, rfl, hb, hp, .inl ⟨6, ts[n + 1].at', ?_, rfl, rfl, by decide⟩⟩
          simp only [actD]
          rw [if_pos h1, if_pos h2, drop_at hn1]
          simp only
          rw [if_pos h3, if_pos h6]
        · refine (act_ok w b g cap n ts h hn h1 h2 hn1 h3 (by omega)).mono ?_
          rintro e w' ⟨rfl, hb, hp⟩
          refine ⟨_, _, _, _, _, rfl, hb, hp, .inr ⟨⟨kindOf ts[n].t, ts[n + 1].n⟩, ?_, hn2, rfl, rfl, rfl, rfl⟩⟩
          simp only [actD]
          rw [if_pos h1, if_pos h2, drop_at hn1]
          simp only
          rw [if_pos h3, if_neg h6]
      · refine (act_no w b g cap n ts h hn h1 h2 hn1 h3).mono ?_
        rintro e w' ⟨rfl, hb, hp⟩
        refine ⟨_, _, _, _, _, rfl, hb, hp, .inl ⟨7, ts[n + 1].at', ?_, rfl, rfl, by decide⟩⟩
        simp only [actD]
        rw [if_pos h1, if_pos h2, drop_at hn1]
        simp only
        rw [if_neg (by rw [h3]; decide)]
    · refine (act_plain w b g cap n ts h hn h1 h2).mono ?_
      rintro e w' ⟨rfl, hb, hp⟩
      refine ⟨_, _, _, _, _, rfl, hb, hp, .inr ⟨⟨kindOf ts[n].t, 0⟩, ?_, hn1, rfl, rfl, rfl, rfl⟩⟩
      simp only [actD]
      rw [if_pos h1, if_neg (by rw [h2]; decide)]
  · refine (act_bad w b g cap n ts h hn h1).mono ?_
    rintro e w' ⟨rfl, hb, hp⟩
    refine ⟨_, _, _, _, _, rfl, hb, hp, .inl ⟨7, ts[n].at', ?_, rfl, rfl, by decide⟩⟩
    simp only [actD]
    rw [if_neg (by rw [h1]; decide)]

/-- what is told of a condition. -/
def CondT (k : Nat) (ts : List Tok) (n : Nat) (a o m v : Int) (m' : Nat) (c p : Int) : Prop :=
  (∃ x y : Nat, condD k (ts.drop n) = .error (x, y) ∧ c = x ∧ p = y ∧ ¬ x = 0) ∨ (∃ q : Cd, condD k (ts.drop n) = .ok (q, ts.drop m') ∧ m' < ts.length ∧ a = q.arg ∧ o = q.op ∧ m = q.mask ∧ v = q.val ∧ c = 0 ∧ p = 0)

theorem cond_any (w : World) (b g cap n : Nat) (ts : List Tok) (k : Nat) (hE : Ending4 ts) (h : Pc w b g cap ts n 0 0) (hn : n < ts.length) :
    Calls Tryd.prog 38 #[.pointer (some ⟨b, 0, none⟩), .int .i64 ((k + 1 : Nat) : Int)] w fun e w' => ∃ a o m v m' c p, e = .returned (condV a o m v) ∧ Bt b w w' ∧ Pc w' b g cap ts m' c p ∧ CondT k ts n a o m v m' c p := by
  unfold CondT
  rw [drop_at hn]
  rcases Bool.eq_false_or_eq_true (isG ts[n]) with h1 | h1
  · have hn1 := hE n hn (by simp [isG] at h1; omega)
    by_cases h2 : 8 ≤ k
    · refine (cond_full w b g cap n ts (k + 1) h hn h1 (by omega)).mono ?_
      rintro e w' ⟨rfl, hb, hp⟩
      refine ⟨_, _, _, _, _, _, _, rfl, hb, hp, .inl ⟨4, ts[n].at', ?_, rfl, rfl, by decide⟩⟩
      simp only [condD]
      rw [if_pos h1, if_pos h2]
    · have hj : k + 1 ≤ 8 := by omega
      rcases Bool.eq_false_or_eq_true (isS ts[n + 1] [38]) with h3 | h3
      · have hn2 := hE (n + 1) hn1 (isS_4 h3)
        rcases Bool.eq_false_or_eq_true (isN ts[n + 1 + 1]) with h4 | h4
        · have hn3 := hE (n + 1 + 1) hn2 (isN_4 h4)
          rcases Bool.eq_false_or_eq_true (isO ts[n + 1 + 1 + 1]) with h5 | h5
          · have hn4 := hE (n + 1 + 1 + 1) hn3 (isO_4 h5)
            rcases Bool.eq_false_or_eq_true (isN ts[n + 1 + 1 + 1 + 1]) with h6 | h6
            · have hn5 := hE (n + 1 + 1 + 1 + 1) hn4 (isN_4 h6)
              refine (cond_a3 w b g cap n ts (k + 1) h hn h1 hj _ rfl hn1 h3 _ rfl hn2 h4 _ rfl hn3 h5 _ rfl hn4 h6 _ rfl hn5).mono ?_
              rintro e w' ⟨rfl, hb, hp⟩
              refine ⟨_, _, _, _, _, _, _, rfl, hb, hp, .inr ⟨⟨argOf ts[n].t - 1, opOf ts[n + 1 + 1 + 1].t, ts[n + 1 + 1].n, ts[n + 1 + 1 + 1 + 1].n⟩, ?_, hn5, rfl, rfl, rfl, rfl, rfl, rfl⟩⟩
              simp only [condD]
              rw [if_pos h1, if_neg h2, drop_at hn1]
              simp only
              rw [if_pos h3, drop_at hn2]
              simp only [numD, if_pos h4, tailD]
              rw [drop_at hn3]
              simp only [opD, if_pos h5]
              rw [drop_at hn4]
              simp only [if_pos h6]
            · refine (cond_a2 w b g cap n ts (k + 1) h hn h1 hj _ rfl hn1 h3 _ rfl hn2 h4 _ rfl hn3 h5 _ rfl hn4 h6).mono ?_
              rintro e w' ⟨rfl, hb, hp⟩
              refine ⟨_, _, _, _, _, _, _, rfl, hb, hp, .inl ⟨7, ts[n + 1 + 1 + 1 + 1].at', ?_, rfl, rfl, by decide⟩⟩
              simp only [condD]
              rw [if_pos h1, if_neg h2, drop_at hn1]
              simp only
              rw [if_pos h3, drop_at hn2]
              simp only [numD, if_pos h4, tailD]
              rw [drop_at hn3]
              simp only [opD, if_pos h5]
              rw [drop_at hn4]
              simp only [if_neg (not_of h6)]
          · refine (cond_a1 w b g cap n ts (k + 1) h hn h1 hj _ rfl hn1 h3 _ rfl hn2 h4 _ rfl hn3 h5).mono ?_
            rintro e w' ⟨rfl, hb, hp⟩
            refine ⟨_, _, _, _, _, _, _, rfl, hb, hp, .inl ⟨7, ts[n + 1 + 1 + 1].at', ?_, rfl, rfl, by decide⟩⟩
            simp only [condD]
            rw [if_pos h1, if_neg h2, drop_at hn1]
            simp only
            rw [if_pos h3, drop_at hn2]
            simp only [numD, if_pos h4, tailD]
            rw [drop_at hn3]
            simp only [opD, if_neg (not_of h5)]
        · refine (cond_a0 w b g cap n ts (k + 1) h hn h1 hj _ rfl hn1 h3 _ rfl hn2 h4).mono ?_
          rintro e w' ⟨rfl, hb, hp⟩
          refine ⟨_, _, _, _, _, _, _, rfl, hb, hp, .inl ⟨7, ts[n + 1 + 1].at', ?_, rfl, rfl, by decide⟩⟩
          simp only [condD]
          rw [if_pos h1, if_neg h2, drop_at hn1]
          simp only
          rw [if_pos h3, drop_at hn2]
          simp only [numD, if_neg (not_of h4)]
      · rcases Bool.eq_false_or_eq_true (isO ts[n + 1]) with h5 | h5
        · have hn4 := hE (n + 1) hn1 (isO_4 h5)
          rcases Bool.eq_false_or_eq_true (isN ts[n + 1 + 1]) with h6 | h6
          · have hn5 := hE (n + 1 + 1) hn4 (isN_4 h6)
            refine (cond_b2 w b g cap n ts (k + 1) h hn h1 hj _ rfl hn1 h3 h5 _ rfl hn4 h6 _ rfl hn5).mono ?_
            rintro e w' ⟨rfl, hb, hp⟩
            refine ⟨_, _, _, _, _, _, _, rfl, hb, hp, .inr ⟨⟨argOf ts[n].t - 1, opOf ts[n + 1].t, 18446744073709551615, ts[n + 1 + 1].n⟩, ?_, hn5, rfl, rfl, rfl, rfl, rfl, rfl⟩⟩
            simp only [condD]
            rw [if_pos h1, if_neg h2, drop_at hn1]
            simp only
            rw [if_neg (not_of h3)]
            simp only [tailD, opD, if_pos h5]
            rw [drop_at hn4]
            simp only [numD, if_pos h6]
          · refine (cond_b1 w b g cap n ts (k + 1) h hn h1 hj _ rfl hn1 h3 h5 _ rfl hn4 h6).mono ?_
            rintro e w' ⟨rfl, hb, hp⟩
            refine ⟨_, _, _, _, _, _, _, rfl, hb, hp, .inl ⟨7, ts[n + 1 + 1].at', ?_, rfl, rfl, by decide⟩⟩
            simp only [condD]
            rw [if_pos h1, if_neg h2, drop_at hn1]
            simp only
            rw [if_neg (not_of h3)]
            simp only [tailD, opD, if_pos h5]
            rw [drop_at hn4]
            simp only [numD, if_neg (not_of h6)]
        · refine (cond_b0 w b g cap n ts (k + 1) h hn h1 hj _ rfl hn1 h3 h5).mono ?_
          rintro e w' ⟨rfl, hb, hp⟩
          refine ⟨_, _, _, _, _, _, _, rfl, hb, hp, .inl ⟨7, ts[n + 1].at', ?_, rfl, rfl, by decide⟩⟩
          simp only [condD]
          rw [if_pos h1, if_neg h2, drop_at hn1]
          simp only
          rw [if_neg (not_of h3)]
          simp only [tailD, opD, if_neg (not_of h5)]
  · refine (cond_bad w b g cap n ts (k + 1) h hn h1).mono ?_
    rintro e w' ⟨rfl, hb, hp⟩
    refine ⟨_, _, _, _, _, _, _, rfl, hb, hp, .inl ⟨7, ts[n].at', ?_, rfl, rfl, by decide⟩⟩
    simp only [condD]
    rw [if_neg (by rw [h1]; decide)]

end Go.Proofs.YtdjjlccpmfhkiaaDoor.Doc
