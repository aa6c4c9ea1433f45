/-
  What is new does not hang on the order: the law's walk.
-/
import Derived.Test.YtifddbfcongepaaSeesW
namespace Go.Proofs.Ytifddbfcongepaa
open Go.RowKit Go.Maps

/-- two that mind what has come, apart. -/
structure Sn2 (w0 w : World) (s : Nat) (m : Option Nat) (S : List Int) (s' : Nat) (m' : Option Nat) (S' : List Int) : Prop where
  a : SnF w0 w s m S
  b : SnF w0 w s' m' S'
  ne : s ≠ s'
  ma : m ≠ some s'
  mb : m' ≠ some s
  mm : ∀ B, m = some B → m' ≠ some B
theorem Sn2.swap {w0 w : World} {s s' : Nat} {m m' : Option Nat} {S S' : List Int} (h : Sn2 w0 w s m S s' m' S') : Sn2 w0 w s' m' S' s m S := ⟨h.b, h.a, Ne.symm h.ne, h.mb, h.ma, fun B e1 e2 => h.mm B e2 e1⟩
def Tk2 (w0 : World) (s : Nat) (S : List Int) (z : Int) (s' : Nat) (m' : Option Nat) (S' : List Int) (e : Ending) (w' : World) : Prop := ∃ m, e = .returned (.bool (decide (z ∉ S))) ∧ Sn2 w0 w' s m (takeS S z) s' m' S'
theorem take_2 {w0 w : World} {s s' : Nat} {m m' : Option Nat} {S S' : List Int} (h : Sn2 w0 w s m S s' m' S') (z : Int) (hn : S.length ≤ 100000) (hz : U64 z) : Calls Try.prog 20 #[.pointer (some ⟨s, 0, none⟩), .int .u64 z] w fun e w' => Tk2 w0 s S z s' m' S' e w' := by
  refine (take_any s m S z w h.a.v hn hz).mono ?_
  rintro e w' ⟨B, rfl, h1, h2, h3⟩
  have hs := h.a.bel.size
  have hx : ∀ x ∈ s :: m.toList, w0.heap.size ≤ x := by
    intro x hx
    rcases List.mem_cons.1 hx with rfl | hx
    · exact h.a.s0
    · cases m with
      | none => cases hx
      | some b => simp at hx; subst hx; exact h.a.m0 _ rfl
  have hb : Below w0.heap.size w0 w' := h.a.bel.trans (fr_lift h3 hx hs).bel
  have hin : ∀ x, x ∈ s :: m.toList → x = s ∨ m = some x := by
    intro x hx
    rcases List.mem_cons.1 hx with rfl | hx
    · exact .inl rfl
    · cases m with
      | none => cases hx
      | some b => simp at hx; subst hx; exact .inr rfl
  have hlb : s' < w.heap.size := h.b.v.1.lt
  have hlm : ∀ b, m' = some b → b < w.heap.size := fun b e => (h.b.v.2.2.2 b e).lt
  refine ⟨some B, rfl, ⟨⟨h1, hb, h.a.s0, fun B' e => ?_⟩, ⟨h.b.v.fr h3 (by simp) (fun hm => ?_) (fun b e hm => ?_), hb, h.b.s0, h.b.m0⟩, h.ne, fun e => ?_, h.mb, fun b e1 e2 => ?_⟩⟩
  · cases e
    rcases h2 with h2 | ⟨_, h2⟩
    · exact h.a.m0 _ h2
    · omega
  · rcases hin _ hm with e | e
    · exact h.ne e.symm
    · exact h.ma e
  · rcases hin _ hm with e' | e'
    · rw [e'] at e
      exact h.mb e
    · exact h.mm b e' e
  · cases e
    rcases h2 with h2 | ⟨_, h2⟩
    · exact h.ma h2
    · omega
  · cases e1
    rcases h2 with h2 | ⟨_, h2⟩
    · exact h.mm _ h2 e2
    · have := hlm _ e2
      omega

/-- a row from another place on, round and round. -/
def rot (l : List Int) (t k : Nat) : List Int := (List.range k).map fun i => l.getD ((i + t) % l.length) 0
theorem rot_succ (l : List Int) (t k : Nat) : rot l t (k + 1) = rot l t k ++ [l.getD ((k + t) % l.length) 0] := by
  unfold rot
  rw [List.range_succ, List.map_append]
  rfl
theorem rot_len (l : List Int) (t k : Nat) : (rot l t k).length = k := by simp [rot]
theorem rot_all (l : List Int) (t : Nat) (hl : 0 < l.length) (z : Int) : z ∈ l ↔ z ∈ rot l t l.length := by
  unfold rot
  rw [List.mem_map]
  constructor
  · intro hz
    obtain ⟨j, hj, rfl⟩ := List.getElem_of_mem hz
    refine ⟨(j + (l.length - t % l.length)) % l.length, List.mem_range.2 (Nat.mod_lt _ hl), ?_⟩
    have e : ((j + (l.length - t % l.length)) % l.length + t) % l.length = j := by
      have h1 := Nat.mod_lt t hl
      rw [Nat.mod_add_mod, show j + (l.length - t % l.length) + t = j + (l.length + (t - t % l.length)) by have := Nat.mod_le t l.length; omega]
      have h2 : t - t % l.length = l.length * (t / l.length) := by have := Nat.div_add_mod t l.length; omega
      rw [h2, show j + (l.length + l.length * (t / l.length)) = j + l.length * (t / l.length + 1) by rw [Nat.mul_add]; omega, Nat.add_mul_mod_self_left, Nat.mod_eq_of_lt hj]
    rw [e, List.getD_eq_getElem?_getD, List.getElem?_eq_getElem hj]
    rfl
  · rintro ⟨i, _, rfl⟩
    have := Nat.mod_lt (i + t) hl
    rw [List.getD_eq_getElem?_getD, List.getElem?_eq_getElem this]
    exact List.getElem_mem this

set_option maxHeartbeats 8000000 in
set_option maxRecDepth 8000 in
theorem order_walk (w : World) (a : Option Addr) (len cap : Nat) (l : List Int) (turn : Int) (h : NumR w a len l) (ht : (Lit.int .i64 turn).wf = true) : Calls Try.prog 7 #[.slice a len cap, .int .i64 turn] w fun e w' => e = .returned (.bool true) ∧ Below w.heap.size w w' := by
  obtain rfl : len = l.length := h.1.symm
  have hmax : l.length ≤ 9223372036854775807 := by have := h.2.1; unfold maxLen at this; omega
  have HA : Hid (Calls Try.prog 8 #[] w fun e w' => e = .returned (.bool true) ∧ Below w.heap.size w w') := awake_any w
  have HR : Hid (NumR w a l.length l) := h
  have htu : turn ≤ 9223372036854775807 := by
    simp [Lit.wf, IntKind.min, IntKind.max, IntKind.signed, IntKind.bits] at ht
    omega
  clear h ht
  by_cases h200 : 200 < l.length
  · have h1 : decide ((200 : Int) < (l.length : Int)) = true := decide_eq_true (by omega)
    have h2 : (200 : Int) < (l.length : Int) := by omega
    go_enter Try.func7, Try.ntmps7
    go_wp2_with fail
    refine HA.out.mono ?_
    rintro e w1 ⟨rfl, hb1⟩
    have B1 : Hid (Below w.heap.size w w1) := hb1
    clear hb1 HA
    go_wp2_with fail
    go_ret
    exact ⟨rfl, B1.out⟩
  have h1 : decide ((200 : Int) < (l.length : Int)) = false := decide_eq_false (by omega)
  have h2 : ¬ (200 : Int) < (l.length : Int) := by omega
  by_cases hneg : turn < 0
  · have h3 : decide (turn < 0) = true := decide_eq_true hneg
    go_enter Try.func7, Try.ntmps7
    go_wp2_with fail
    refine HA.out.mono ?_
    rintro e w1 ⟨rfl, hb1⟩
    have B1 : Hid (Below w.heap.size w w1) := hb1
    clear hb1 HA
    go_wp2_with fail
    go_ret
    exact ⟨rfl, B1.out⟩
  have h3 : decide (turn < 0) = false := decide_eq_false hneg
  by_cases hz : l.length = 0
  · have h4 : ((l.length : Int) == 0) = true := by simp [hz]
    go_enter Try.func7, Try.ntmps7
    go_wp2_with fail
    refine HA.out.mono ?_
    rintro e w1 ⟨rfl, hb1⟩
    have B1 : Hid (Below w.heap.size w w1) := hb1
    clear hb1 HA
    go_wp2_with fail
    go_ret
    exact ⟨rfl, B1.out⟩
  have h4 : ((l.length : Int) == 0) = false := beq_eq_false_iff_ne.2 (by omega)
  obtain ⟨tn, rfl⟩ : ∃ tn : Nat, turn = tn := ⟨turn.toNat, by omega⟩
  have hpos : 0 < l.length := by omega
  have hne0 : (l.length : Int) ≠ 0 := by omega
  clear hneg h3 hz
  go_enter Try.func7, Try.ntmps7
  go_wp2_with fail
  refine HA.out.mono ?_
  rintro e w1 ⟨rfl, hb1⟩
  have S0 : Hid (Sn2 w ((w1.alloc (Obj.cells #[.map none] 46)).alloc (Obj.cells #[.map none] 46)) w1.heap.size none [] (w1.heap.size + 1) none []) := by
    have q1 := SnF.new w w1 hb1
    have q2 := SnF.new w (w1.alloc (Obj.cells #[.map none] 46)) (hb1.alloc hb1.size _)
    rw [size_alloc'] at q2
    have q3 := below_new (w1.alloc (Obj.cells #[.map none] 46)) (Obj.cells #[.map none] 46)
    exact ⟨⟨q1.v.over q3, q2.bel, q1.s0, q1.m0⟩, q2, by omega, by simp, by simp, fun B e => by cases e⟩
  clear hb1 HA
  go_wp2_with fail
  generalize ((w1.alloc (Obj.cells #[.map none] 46)).alloc (Obj.cells #[.map none] 46)) = w2 at *
  generalize hs' : w1.heap.size + 1 = s' at *
  generalize w1.heap.size = s at *
  clear hs'
  obtain ⟨q, hqq⟩ : ∃ q, tn % l.length = q := ⟨_, rfl⟩
  go_loopw [8, 9, 10] (fun v8 v9 v10 wr => ∃ (i : Nat) (m m' : Option Nat), v8 = .int .i64 (seen (l.take i)).length ∧ v9 = .int .i64 (seen (rot l q i)).length ∧ v10 = .int .i64 i ∧ i ≤ l.length ∧ Sn2 w wr s m (seen (l.take i)) s' m' (seen (rot l q i))) (fun _ _ v _ => l.length - (intOf v).toNat)
  case atStart => exact ⟨0, none, none, rfl, rfl, rfl, Nat.zero_le _, S0.out⟩
  case round =>
    obtain ⟨i, m, m', rfl, rfl, rfl, hi, hsn⟩ := hrel
    have HS : Hid (Sn2 w wr s m (seen (l.take i)) s' m' (seen (rot l q i))) := hsn
    clear hsn S0
    by_cases hlt : i < l.length
    · have hi1 : (i : Int) < (l.length : Int) := by omega
      have hlen : (seen (l.take i)).length ≤ 200 := Nat.le_trans (len_seen _) (by rw [List.length_take]; omega)
      have hlen' : (seen (rot l q i)).length ≤ 200 := Nat.le_trans (len_seen _) (by rw [rot_len]; omega)
      have HST : Hid (seen (l.take (i + 1)) = takeS (seen (l.take i)) l[i]) := by
        show _ = _
        rw [List.take_succ_eq_append_getElem hlt, seen_snoc]
      obtain ⟨b, o, rfl, hci, hui⟩ := (HR.out.below HS.out.a.bel).at hlt
      obtain ⟨j, hj⟩ : ∃ j, (i + q) % l.length = j := ⟨_, rfl⟩
      have hjl : j < l.length := by rw [← hj]; exact Nat.mod_lt _ hpos
      have HST2 : Hid (seen (rot l q (i + 1)) = takeS (seen (rot l q i)) l[j]) := by
        show _ = _
        rw [rot_succ, seen_snoc, hj, List.getD_eq_getElem?_getD, List.getElem?_eq_getElem hjl]
        rfl
      have HUJ : Hid (∀ W, Below w.heap.size w W → W.cell? ⟨b, o + j, none⟩ = some (.int .u64 l[j]) ∧ U64 l[j]) := fun W hW => by
        obtain ⟨b', o', e', c, u⟩ := (HR.out.below hW).at hjl
        cases e'
        exact ⟨c, u⟩
      have HT : Hid (Calls Try.prog 20 #[.pointer (some ⟨s, 0, none⟩), .int .u64 l[i]] wr fun e w' => Tk2 w s (seen (l.take i)) l[i] s' m' (seen (rot l q i)) e w') := take_2 HS.out _ (by omega) hui
      clear hui
      generalize l[i] = zi at *
      go_wp2_with fail
      refine HT.out.mono ?_
      rintro e w3 ⟨m3, rfl, hsn3⟩
      have L1 : Hid ((seen (l.take (i + 1))).length = (seen (l.take i)).length + if zi ∈ seen (l.take i) then 0 else 1) := by
        show _ = _
        rw [HST.out]
        unfold takeS
        split <;> simp
      have L2 : Hid ((seen (rot l q (i + 1))).length = (seen (rot l q i)).length + if l[j] ∈ seen (rot l q i) then 0 else 1) := by
        show _ = _
        rw [HST2.out]
        unfold takeS
        split <;> simp
      have HS3 : Hid (Sn2 w w3 s m3 (takeS (seen (l.take i)) zi) s' m' (seen (rot l q i))) := hsn3
      obtain ⟨hcj, huj⟩ := HUJ.out w3 hsn3.a.bel
      have HT2 : Hid (Calls Try.prog 20 #[.pointer (some ⟨s', 0, none⟩), .int .u64 l[j]] w3 fun e w' => Tk2 w s' (seen (rot l q i)) l[j] s m3 (takeS (seen (l.take i)) zi) e w') := take_2 hsn3.swap _ (by omega) huj
      have e1 : Int.tmod (tn : Int) (l.length : Int) = (q : Int) := by rw [Int.tmod_eq_emod_of_nonneg (by omega), ← hqq]; omega
      have hml : q < l.length := by rw [← hqq]; exact Nat.mod_lt _ hpos
      have e2 : Int.tmod ((i : Int) + (q : Int)) (l.length : Int) = (j : Int) := by rw [Int.tmod_eq_emod_of_nonneg (by omega), ← hj]; push_cast; rfl
      clear hsn3 huj HT HUJ
      have hjl1 : (j : Int) < (l.length : Int) := by omega
      generalize l[j] = zj at *
      have HN : Hid (∀ w4 m4, Sn2 w w4 s m3 (takeS (seen (l.take i)) zi) s' m4 (takeS (seen (rot l q i)) zj) → Sn2 w w4 s m3 (seen (l.take (i + 1))) s' m4 (seen (rot l q (i + 1)))) := fun w4 m4 h => by
        rw [HST.out, HST2.out]
        exact h
      clear HST HST2 HS
      generalize hA : (seen (l.take i)).length = A at *
      generalize hB : (seen (rot l q i)).length = B at *
      rcases Bool.eq_false_or_eq_true (decide (zi ∉ seen (l.take i))) with d1 | d1
      · rw [d1]
        rw [if_neg (of_decide_eq_true d1)] at L1
        go_wp2_with fail
        refine HT2.out.mono ?_
        rintro e w4 ⟨m4, rfl, hsn4⟩
        have HN4 : Hid (Sn2 w w4 s m3 (seen (l.take (i + 1))) s' m4 (seen (rot l q (i + 1)))) := HN.out _ _ hsn4.swap
        clear hsn4 HT2 HS3
        rcases Bool.eq_false_or_eq_true (decide (zj ∉ seen (rot l q i))) with d2 | d2
        · rw [d2]
          rw [if_neg (of_decide_eq_true d2)] at L2
          go_wp2_with fail
          go_roundw
          case rel => exact ⟨i + 1, m3, m4, by rw [L1.out]; go_num, by rw [L2.out]; go_num, by go_num, hlt, HN4.out⟩
          case measure => simp [intOf]; omega
        · rw [d2]
          rw [if_pos (Decidable.of_not_not (of_decide_eq_false d2))] at L2
          go_wp2_with fail
          go_roundw
          case rel => exact ⟨i + 1, m3, m4, by rw [L1.out]; go_num, by rw [L2.out]; go_num, by go_num, hlt, HN4.out⟩
          case measure => simp [intOf]; omega
      · rw [d1]
        rw [if_pos (Decidable.of_not_not (of_decide_eq_false d1))] at L1
        go_wp2_with fail
        refine HT2.out.mono ?_
        rintro e w4 ⟨m4, rfl, hsn4⟩
        have HN4 : Hid (Sn2 w w4 s m3 (seen (l.take (i + 1))) s' m4 (seen (rot l q (i + 1)))) := HN.out _ _ hsn4.swap
        clear hsn4 HT2 HS3
        rcases Bool.eq_false_or_eq_true (decide (zj ∉ seen (rot l q i))) with d2 | d2
        · rw [d2]
          rw [if_neg (of_decide_eq_true d2)] at L2
          go_wp2_with fail
          go_roundw
          case rel => exact ⟨i + 1, m3, m4, by rw [L1.out]; go_num, by rw [L2.out]; go_num, by go_num, hlt, HN4.out⟩
          case measure => simp [intOf]; omega
        · rw [d2]
          rw [if_pos (Decidable.of_not_not (of_decide_eq_false d2))] at L2
          go_wp2_with fail
          go_roundw
          case rel => exact ⟨i + 1, m3, m4, by rw [L1.out]; go_num, by rw [L2.out]; go_num, by go_num, hlt, HN4.out⟩
          case measure => simp [intOf]; omega
    · have hi1 : ¬ (i : Int) < (l.length : Int) := by omega
      obtain rfl : i = l.length := by omega
      have HEQ : Hid ((seen (rot l q l.length)).length = (seen (l.take l.length)).length) := by
        show _ = _
        rw [List.take_length]
        exact (seen_same (rot_all l q hpos)).symm
      have HM1 : Hid (Calls Try.prog 21 #[.pointer (some ⟨s, 0, none⟩)] wr fun e w' => e = .returned (.int .i64 (seen (l.take l.length)).length) ∧ w' = wr) := many_any s m _ wr HS.out.a.v
      have HM2 : Hid (Calls Try.prog 21 #[.pointer (some ⟨s', 0, none⟩)] wr fun e w' => e = .returned (.int .i64 (seen (l.take l.length)).length) ∧ w' = wr) := by
        have := many_any s' m' _ wr HS.out.b.v
        rw [HEQ.out] at this
        exact this
      rw [HEQ.out]
      generalize (seen (l.take l.length)).length = nn at *
      go_wp2_with (first
        | (go_at_call 21; refine HM1.out.mono ?_; rintro e w4 ⟨rfl, hw4⟩; subst hw4)
        | (go_at_call 21; refine HM2.out.mono ?_; rintro e w4 ⟨rfl, hw4⟩; subst hw4))
      go_ret
      exact ⟨by simp, HS.out.a.bel⟩

end Go.Proofs.Ytifddbfcongepaa
