/-
  The document's answer: all the tokens of a text.
-/
import Derived.Test.YtdjjlccpmfhkiaaDoorRefOne
import Derived.Test.YtdjjlccpmfhkiaaDoorSkip
import Derived.Test.YtdjjlccpmfhkiaaDoorAll
namespace Go.Proofs.YtdjjlccpmfhkiaaDoor
open Go.RowKit

/-- the tokens so far. -/
structure Rw (w wr : World) (acc : List Tok) (v : Value) : Prop where
  own : wr.ownsRow w.heap.size 39 4 v acc.length (cellsT acc)
  be : Below w.heap.size w wr

section
variable {w wr : World} {acc : List Tok} {v : Value}
theorem Rw.over {X : World} (h : Rw w wr acc v) (hb : Below wr.heap.size wr X) : Rw w X acc v := ⟨owns_below h.own hb (Nat.le_refl _), h.be.trans (hb.mono h.be.size)⟩
theorem Rw.alloc (h : Rw w wr acc v) (o : Obj) : Rw w (wr.alloc o) acc v := h.over ((Below.refl _ _).alloc (Nat.le_refl _) _)
theorem Rw.app {X : World} {v' : Value} {x : Tok} (h : Rw w wr acc v) (ho : X.ownsRow w.heap.size 39 4 v' (acc.length + 1) (cellsT (acc ++ [x]))) (hg : wr.grownBy X v.ownBlock) : Rw w X (acc ++ [x]) v' :=
  ⟨by rw [List.length_append]; exact ho, h.be.grown hg h.be.size (owns_block h.own)⟩
theorem Rw.apart (h : Rw w wr acc v) {b : Nat} (hb : wr.heap.size ≤ b) : v.ownBlock ≠ some b := by
  intro e
  rcases h.own.2 with ⟨rfl, _⟩ | ⟨g, cap, cur, rfl, _, hg, _⟩
  · cases e
  · have e2 : g = b := Option.some.inj e
    have := lt_of_block hg
    omega
end

/-- how far it has gone, in plain words. -/
structure Pr (s : ByteArray) (n : Nat) (acc : List Tok) : Prop where
  eq : glue acc (go 0 n ((lst s).drop n)) = go 0 0 (lst s)
  le : n ≤ s.size
  st : ∀ h : n < s.size, blN (s[n]'h).toNat = false ∧ ¬ (s[n]'h).toNat = 35
  len : acc.length ≤ n

section
variable {s : ByteArray} {n : Nat} {acc : List Tok}
theorem pr_new (h : Skp s 0 n) : Pr s n [] := ⟨by rw [glue_nil, ← h.1.2.2]; rfl, h.1.2.1, h.2, Nat.zero_le _⟩
theorem Pr.bad (h : Pr s n acc) (hs : n < s.size) {c : Nat} (ho : one ((lst s).drop n) = .error c) : go 0 0 (lst s) = .error (c, n) := by
  have he := h.eq
  obtain ⟨h1, h2⟩ := h.st hs
  rw [drop_cons s n hs] at ho he
  rw [go_one h1 h2, ho] at he
  exact he.symm
theorem Pr.tok (h : Pr s n acc) (hs : n < s.size) {k m : Nat} {t : (List UInt8)} (ho : one ((lst s).drop n) = .ok (k, t, m)) {q : Nat} (hq : Skp s (n + t.length) q) : Pr s q (acc ++ [⟨k, n, t, m⟩]) := by
  have he := h.eq
  obtain ⟨h1, h2⟩ := h.st hs
  obtain ⟨t1, t2, t3⟩ := one_take ho
  have tl := one_le ho
  rw [List.length_drop, lst_length] at tl
  rw [drop_cons s n hs] at ho he
  rw [go_one h1 h2, ho] at he
  simp only at he
  rw [glue_glue, ← Nat.add_zero (t.length - 1), go_skip _ _ _ _ (by rw [List.length_drop, lst_length]; omega), List.drop_drop, show n + 1 + (t.length - 1) = n + t.length from by omega, hq.1.2.2] at he
  exact ⟨he, hq.1.2.1, hq.2, by have := h.len; have := hq.1.1; simp; omega⟩
theorem Pr.fin (h : Pr s n acc) (hs : ¬ n < s.size) : go 0 0 (lst s) = .ok (acc ++ [⟨4, s.size, [], 0⟩]) := by
  have he := h.eq
  have hl := h.le
  obtain rfl : n = s.size := by omega
  rw [List.drop_eq_nil_of_le (by rw [lst_length]; exact Nat.le_refl _)] at he
  exact he.symm
end

set_option maxRecDepth 4000 in
set_option maxHeartbeats 4000000 in
theorem refAll_any (s : ByteArray) (w : World) :
    Calls Tryd.prog 17 #[.string s] w fun e w' => Below w.heap.size w w' ∧ Told w.heap.size (all (lst s)) e w' := by
  by_cases hlong : 8192 < s.size
  · rw [all_long (by rw [lst_length]; exact hlong)]
    have h1 : decide ((8192 : Int) < s.size) = true := by simp; omega
    go_enter Tryd.func17, Tryd.ntmps17
    go_wp2
    go_ret3
    exact ⟨Below.refl _ _, rfl⟩
  · rw [all_short (by rw [lst_length]; exact hlong)]
    have h1 : decide ((8192 : Int) < s.size) = false := by simp; omega
    have HS : Hid (s.size ≤ 8192) := Nat.le_of_not_lt hlong
    generalize hR : go 0 0 (lst s) = R
    have HR : Hid (go 0 0 (lst s) = R) := hR
    have HK : Hid (∀ (p : Nat) W, p ≤ s.size → Calls Tryd.prog 34 #[.string s, .int .i64 p] W fun e w' => (∃ n : Nat, e = .returned (.int .i64 n) ∧ Skp s p n) ∧ w' = W) := fun p W hp => skip_any s p W (by have := HS.out; omega) hp
    have HK0 : Hid (∀ W, Calls Tryd.prog 34 #[.string s, .int .i64 0] W fun e w' => (∃ n : Nat, e = .returned (.int .i64 n) ∧ Skp s 0 n) ∧ w' = W) := fun W => HK.out 0 W (Nat.zero_le _)
    clear hlong hR
    go_enter Tryd.func17, Tryd.ntmps17
    go_wp2_with (go_at_call 34; refine (HK0.out _).mono ?_; rintro e w1 ⟨⟨n0, rfl, hn0⟩, hw1⟩; subst w1)
    have HN0 : Hid (Skp s 0 n0) := hn0
    clear hn0
    go_loopw [2, 3, 4, 5, 6] (fun r2 r3 r4 v nx wr => ∃ (n : Nat) (acc : List Tok), nx = .int .i64 n ∧ Rw w wr acc v ∧ Pr s n acc) (fun _ _ _ _ nx _ => s.size - (intOf nx).toNat)
    case atStart => exact ⟨n0, [], rfl, ⟨⟨rfl, .inl ⟨rfl, rfl⟩⟩, Below.refl _ _⟩, pr_new HN0.out⟩
    case round =>
      obtain ⟨n, acc, rfl, hh, hp⟩ := hrel
      have HM : Hid (Rw w wr acc _) := hh
      have hacc : Hid (acc.length ≤ 8192) := by have := hp.len; have := hp.le; have := HS.out; show _ ≤ _; omega
      by_cases hps : n < s.size
      · have HF : Hid (∀ W, Calls Tryd.prog 35 #[.string s, .int .i64 n] W fun e w' => One (one ((lst s).drop n)) n e ∧ Below W.heap.size W w') := fun W => refOne_any s n W hps (by have := HS.out; omega)
        have HB := fun c => hp.bad hps (c := c)
        have HT := fun k m t q => hp.tok hps (k := k) (m := m) (t := t) (q := q)
        have HO1 := @one_le ((lst s).drop n)
        have HO2 := @one_take ((lst s).drop n)
        have HE1 := @one_err ((lst s).drop n)
        have hlt : (n : Int) < s.size := by omega
        clear hp hh
        generalize one ((lst s).drop n) = Q at *
        obtain c | ⟨k, t, m⟩ := Q
        · have HB2 : Hid (R = .error (c, n)) := HR.out.symm.trans (HB c rfl)
          have hc0 := HE1 rfl
          have HF2 : Hid (∀ W, Calls Tryd.prog 35 #[.string s, .int .i64 n] W fun e w' => e = .returned (.tuple #[.agg #[.int .i64 0, .int .i64 0, .string ⟨#[]⟩, .int .u64 0], .int .i64 c]) ∧ Below W.heap.size W w') := HF.out
          clear HB HT HO1 HE1 HF HO2
          go_wp2_with (go_at_call 35; refine (HF2.out _).mono ?_; rintro e w1 ⟨rfl, b1⟩; have HM1 : Hid (Rw w w1 acc _) := HM.out.over b1)
          go_ret3
          exact ⟨(HM1.out.alloc _).be, by rw [HB2.out]; rfl⟩
        · have hlen : n + (bar t).size ≤ s.size := by have := HO1 rfl; rw [List.length_drop, lst_length] at this; rw [bar_size]; omega
          have HT1 : Hid (1 ≤ t.length) := (HO2 rfl).2.1
          have HT2 : Hid (∀ q, Skp s (n + (bar t).size) q → Pr s q (acc ++ [⟨k, n, t, m⟩])) := by
            intro q hq
            rw [bar_size] at hq
            exact HT k m t q rfl hq
          have HT3 : Hid ((bar t).size = t.length) := bar_size t
          have HF2 : Hid (∀ W, Calls Tryd.prog 35 #[.string s, .int .i64 n] W fun e w' => e = .returned (.tuple #[.agg #[.int .i64 k, .int .i64 n, .string (bar t), .int .u64 m], .int .i64 0]) ∧ Below W.heap.size W w') := HF.out
          have HK2 : Hid (∀ W, Calls Tryd.prog 34 #[.string s, .int .i64 ((n : Int) + (bar t).size)] W fun e w' => (∃ q : Nat, e = .returned (.int .i64 q) ∧ Skp s (n + (bar t).size) q) ∧ w' = W) := by
            intro W
            have := HK.out (n + (bar t).size) W hlen
            rw [Int.natCast_add] at this
            exact this
          have hq8 : (n : Int) + (bar t).size ≤ 9000 := by have := HS.out; omega
          clear HB HT HO1 HE1 HF HO2
          go_wp2_with (first | (go_at_call 35; refine (HF2.out _).mono ?_; rintro e w1 ⟨rfl, b1⟩; have HM1 : Hid (Rw w w1 acc _) := HM.out.over b1) | (go_at_call 34; refine (HK2.out _).mono ?_; rintro e w3 ⟨⟨q, rfl, hq⟩, rfl⟩) | (at_builtin; refine append_tok rfl (.tmp 28) (.tmp 30) rfl w.heap.size _ acc.length acc rfl ((HM1.out.alloc _).alloc _).own ⟨k, n, t, m⟩ ⟨w1.heap.size + 1, 0, none⟩ rfl (tok_new2 w1 _ ⟨k, n, t, m⟩) (by have := hacc.out; omega) ((HM1.out.alloc _).alloc _).be.size ?_; intro v2 w2 ho2 hg2; have HM2 : Hid (Rw w w2 (acc ++ [⟨k, n, t, m⟩]) v2) := ((HM1.out.alloc _).alloc _).app ho2 hg2; have hc2 : w2.cell? ⟨w1.heap.size, 2, none⟩ = some (.string (bar t)) := (block_grown ((blk_new w1 #[.int .i64 k, .int .i64 n, .string (bar t), .int .u64 m] 39).alloc _) hg2 (HM1.out.apart (Nat.le_refl _))).cell 2; clear ho2 hg2))
          go_roundw
          case rel => exact ⟨q, _, rfl, HM2.out, HT2.out q hq⟩
          case measure =>
            have h1 := hq.1.1
            have h2 := HT1.out
            have h3 := HT3.out
            simp [intOf]
            omega
      · have hge : ¬ (n : Int) < s.size := by omega
        have HE : Hid (R = .ok (acc ++ [⟨4, s.size, [], 0⟩])) := HR.out.symm.trans (hp.fin hps)
        clear hp hh
        go_wp2_with (at_builtin; refine append_tok rfl (.tmp 39) (.tmp 43) rfl w.heap.size _ acc.length acc rfl (HM.out.alloc _).own ⟨4, s.size, [], 0⟩ ⟨wr.heap.size, 0, none⟩ rfl (tok_new wr ⟨4, s.size, [], 0⟩) (by have := hacc.out; omega) (HM.out.alloc _).be.size ?_; intro v2 w2 ho2 hg2)
        go_ret3
        refine ⟨((HM.out.alloc _).app ho2 hg2).be, ?_⟩
        rw [HE.out]
        exact ⟨_, rfl, ((HM.out.alloc _).app ho2 hg2).own⟩

end Go.Proofs.YtdjjlccpmfhkiaaDoor
