/-
  One call at both: the last of the ways, and all of them.
-/
import Derived.Test.YtlckconhhhllkaaDoes
namespace Go.Proofs.Ytlckconhhhllkaa
open Go.RowKit

section
variable {F : World → World → Nat → Nt → Prop} {w W X X' : World} {p br base ob : Nat} {d n z k v : Int} {s r s' r' : Nt}
set_option maxHeartbeats 8000000 in
set_option maxRecDepth 8000 in
theorem does_get (I : Ifc F) (hF : F w W p s) (hR : RfT W base br s) (hb : w.heap.size ≤ base) (hU : U64 z) (hd : d = 10) : Calls Try.prog 11 #[.pointer (some ⟨p, 0, none⟩), .pointer (some ⟨br, 0, none⟩), .agg #[.int .i64 d, .int .i64 n, .int .u64 z, .int .i64 k, .int .i64 v]] W fun e w' => DoesT F w p br base e w' := by
  have HD : Hid (Bo F w (W.alloc (.cells #[.int .i64 d, .int .i64 n, .int .u64 z, .int .i64 k, .int .i64 v] 37)) p br base W.heap.size d n z k v s s) := bo_new I hF hR hb
  have HU : Hid (U64 z) := hU
  have HO : Hid (Ok s) := I.ok hF
  have hn0 : (d == 0) = false := by simp; omega
  have hn1 : (d == 1) = false := by simp; omega
  have hn2 : (d == 2) = false := by simp; omega
  have hn3 : (d == 3) = false := by simp; omega
  have hn4 : (d == 4) = false := by simp; omega
  have hn5 : (d == 5) = false := by simp; omega
  have hn6 : (d == 6) = false := by simp; omega
  have hn7 : (d == 7) = false := by simp; omega
  have hn8 : (d == 8) = false := by simp; omega
  have hn9 : (d == 9) = false := by simp; omega
  have hy : (d == 10) = true := by simp [hd]
  clear hF hR hb hU hd
  go_enter Try.func11, Try.ntmps11
  go_upto_region 1 with fail
  generalize (W.alloc (.cells #[.int .i64 d, .int .i64 n, .int .u64 z, .int .i64 k, .int .i64 v] 37)) = W1 at *
  generalize W.heap.size = ob at *
  have y0 := HD.out.o.cell 0
  obtain ⟨x, hx⟩ : ∃ x, (findI s.L z).getD En.zero = x := ⟨_, rfl⟩
  obtain ⟨q, hq⟩ : ∃ q, (findI s.L z).isSome = q := ⟨_, rfl⟩
  obtain ⟨q1, q2, q3, q4, q5, q6⟩ := x
  have HV : Hid (optV (findI s.L z) = .tuple #[.agg #[.int .u64 q1, .int .i64 q2, .int .i64 q3, .int .i64 q4, .int .i64 q5, .int .i64 q6], .bool q]) := by
    show optV (findI s.L z) = _
    unfold optV
    rw [hx, hq]
    rfl
  have HVA : Hid (valid s z = (q && (q3 == 2))) := by
    show valid s z = _
    unfold valid
    cases hf : findI s.L z with
    | none =>
      rw [hf] at hq
      subst hq
      rfl
    | some y =>
      rw [hf] at hq hx
      have e : y = ⟨q1, q2, q3, q4, q5, q6⟩ := hx
      subst e
      subst hq
      simp
  clear hx hq
  cases q with
  | false =>
    replace HVA : Hid (valid s z = false) := HVA.out
    have HG : Hid (Calls Try.prog 34 #[.pointer (some ⟨br, 0, none⟩), .int .u64 z] W1 fun e w' => e = .returned (.tuple #[.agg #[.int .u64 q1, .int .i64 q2, .int .i64 q3, .int .i64 q4, .int .i64 q5, .int .i64 q6], .bool false]) ∧ Below W1.heap.size W1 w') := by
      have := rget_any W1 base br s z HD.out.r (by have := HO.out.len; have := HO.out.z1; omega)
      rw [HV.out] at this
      exact this
    have HVC : Hid (∀ X, F w X p s → Calls Try.prog 20 #[.pointer (some ⟨p, 0, none⟩), .int .u64 z] X fun e w' => Tld F w X p s (.bool false) e w') := fun X hX => by
      have := I.valid (id := z) HU.out hX
      rw [HVA.out] at this
      exact this
    have y2 := HD.out.o.cell 2
    go_wp2_with fail
    refine HG.out.mono ?_
    rintro e w5 ⟨rfl, hb5⟩
    have HD5 : Hid (Bo F w (w5.alloc (.cells #[.int .u64 q1, .int .i64 q2, .int .i64 q3, .int .i64 q4, .int .i64 q5, .int .i64 q6] 44)) p br base ob d n z k v s s) := (HD.out.over I hb5).over I (below_new _ _)
    have B5 : Hid (Blk (w5.alloc (.cells #[.int .u64 q1, .int .i64 q2, .int .i64 q3, .int .i64 q4, .int .i64 q5, .int .i64 q6] 44)) w5.heap.size 44 [.int .u64 q1, .int .i64 q2, .int .i64 q3, .int .i64 q4, .int .i64 q5, .int .i64 q6]) := blk_new _ _ _
    clear hb5 HG HD y0 y2
    go_upto_region 29 with fail
    generalize (w5.alloc (.cells #[.int .u64 q1, .int .i64 q2, .int .i64 q3, .int .i64 q4, .int .i64 q5, .int .i64 q6] 44)) = w6 at *
    generalize w5.heap.size = b1 at *
    have y2' := HD5.out.o.cell 2
    go_wp2_with fail
    refine (HVC.out w6 HD5.out.f).mono ?_
    rintro e w7 ⟨rfl, h7, f7⟩
    have HD7 : Hid (Bo F w w7 p br base ob d n z k v s s) := HD5.out.prog h7 f7
    clear h7 f7 HVC HD5 B5 y2'
    go_wp2_with fail
    go_ret
    exact ⟨rfl, _, HD7.out.f, HD7.out.r⟩
  | true =>
    by_cases h3 : q3 = 2
    · have r3 : (q3 == 2) = true := by simp [h3]
      replace HVA : Hid (valid s z = true) := by have := HVA.out; rw [r3] at this; exact this
      clear h3
      have HG : Hid (Calls Try.prog 34 #[.pointer (some ⟨br, 0, none⟩), .int .u64 z] W1 fun e w' => e = .returned (.tuple #[.agg #[.int .u64 q1, .int .i64 q2, .int .i64 q3, .int .i64 q4, .int .i64 q5, .int .i64 q6], .bool true]) ∧ Below W1.heap.size W1 w') := by
        have := rget_any W1 base br s z HD.out.r (by have := HO.out.len; have := HO.out.z1; omega)
        rw [HV.out] at this
        exact this
      have HVC : Hid (∀ X, F w X p s → Calls Try.prog 20 #[.pointer (some ⟨p, 0, none⟩), .int .u64 z] X fun e w' => Tld F w X p s (.bool true) e w') := fun X hX => by
        have := I.valid (id := z) HU.out hX
        rw [HVA.out] at this
        exact this
      have y2 := HD.out.o.cell 2
      go_wp2_with fail
      refine HG.out.mono ?_
      rintro e w5 ⟨rfl, hb5⟩
      have HD5 : Hid (Bo F w (w5.alloc (.cells #[.int .u64 q1, .int .i64 q2, .int .i64 q3, .int .i64 q4, .int .i64 q5, .int .i64 q6] 44)) p br base ob d n z k v s s) := (HD.out.over I hb5).over I (below_new _ _)
      have B5 : Hid (Blk (w5.alloc (.cells #[.int .u64 q1, .int .i64 q2, .int .i64 q3, .int .i64 q4, .int .i64 q5, .int .i64 q6] 44)) w5.heap.size 44 [.int .u64 q1, .int .i64 q2, .int .i64 q3, .int .i64 q4, .int .i64 q5, .int .i64 q6]) := blk_new _ _ _
      clear hb5 HG HD y0 y2
      go_upto_region 29 with fail
      generalize (w5.alloc (.cells #[.int .u64 q1, .int .i64 q2, .int .i64 q3, .int .i64 q4, .int .i64 q5, .int .i64 q6] 44)) = w6 at *
      generalize w5.heap.size = b1 at *
      have y2' := HD5.out.o.cell 2
      go_wp2_with fail
      refine (HVC.out w6 HD5.out.f).mono ?_
      rintro e w7 ⟨rfl, h7, f7⟩
      have HD7 : Hid (Bo F w w7 p br base ob d n z k v s s) := HD5.out.prog h7 f7
      have m2 := (B5.out.fc f7 (by simp)).cell 2
      clear h7 f7 HVC HD5 B5 y2'
      go_wp2_with fail
      go_ret
      exact ⟨rfl, _, HD7.out.f, HD7.out.r⟩
    · have r3 : (q3 == 2) = false := by simp [h3]
      replace HVA : Hid (valid s z = false) := by have := HVA.out; rw [r3] at this; exact this
      clear h3
      have HG : Hid (Calls Try.prog 34 #[.pointer (some ⟨br, 0, none⟩), .int .u64 z] W1 fun e w' => e = .returned (.tuple #[.agg #[.int .u64 q1, .int .i64 q2, .int .i64 q3, .int .i64 q4, .int .i64 q5, .int .i64 q6], .bool true]) ∧ Below W1.heap.size W1 w') := by
        have := rget_any W1 base br s z HD.out.r (by have := HO.out.len; have := HO.out.z1; omega)
        rw [HV.out] at this
        exact this
      have HVC : Hid (∀ X, F w X p s → Calls Try.prog 20 #[.pointer (some ⟨p, 0, none⟩), .int .u64 z] X fun e w' => Tld F w X p s (.bool false) e w') := fun X hX => by
        have := I.valid (id := z) HU.out hX
        rw [HVA.out] at this
        exact this
      have y2 := HD.out.o.cell 2
      go_wp2_with fail
      refine HG.out.mono ?_
      rintro e w5 ⟨rfl, hb5⟩
      have HD5 : Hid (Bo F w (w5.alloc (.cells #[.int .u64 q1, .int .i64 q2, .int .i64 q3, .int .i64 q4, .int .i64 q5, .int .i64 q6] 44)) p br base ob d n z k v s s) := (HD.out.over I hb5).over I (below_new _ _)
      have B5 : Hid (Blk (w5.alloc (.cells #[.int .u64 q1, .int .i64 q2, .int .i64 q3, .int .i64 q4, .int .i64 q5, .int .i64 q6] 44)) w5.heap.size 44 [.int .u64 q1, .int .i64 q2, .int .i64 q3, .int .i64 q4, .int .i64 q5, .int .i64 q6]) := blk_new _ _ _
      clear hb5 HG HD y0 y2
      go_upto_region 29 with fail
      generalize (w5.alloc (.cells #[.int .u64 q1, .int .i64 q2, .int .i64 q3, .int .i64 q4, .int .i64 q5, .int .i64 q6] 44)) = w6 at *
      generalize w5.heap.size = b1 at *
      have y2' := HD5.out.o.cell 2
      go_wp2_with fail
      refine (HVC.out w6 HD5.out.f).mono ?_
      rintro e w7 ⟨rfl, h7, f7⟩
      have HD7 : Hid (Bo F w w7 p br base ob d n z k v s s) := HD5.out.prog h7 f7
      have m2 := (B5.out.fc f7 (by simp)).cell 2
      clear h7 f7 HVC HD5 B5 y2'
      go_wp2_with fail
      go_ret
      exact ⟨rfl, _, HD7.out.f, HD7.out.r⟩

set_option maxHeartbeats 8000000 in
set_option maxRecDepth 8000 in
theorem does_none (I : Ifc F) (hF : F w W p s) (hR : RfT W base br s) (hb : w.heap.size ≤ base) (hU : U64 z) (hd : d < 0 ∨ 10 < d) : Calls Try.prog 11 #[.pointer (some ⟨p, 0, none⟩), .pointer (some ⟨br, 0, none⟩), .agg #[.int .i64 d, .int .i64 n, .int .u64 z, .int .i64 k, .int .i64 v]] W fun e w' => DoesT F w p br base e w' := by
  have HD : Hid (Bo F w (W.alloc (.cells #[.int .i64 d, .int .i64 n, .int .u64 z, .int .i64 k, .int .i64 v] 37)) p br base W.heap.size d n z k v s s) := bo_new I hF hR hb
  have HU : Hid (U64 z) := hU
  have HO : Hid (Ok s) := I.ok hF
  have hn0 : (d == 0) = false := by simp; omega
  have hn1 : (d == 1) = false := by simp; omega
  have hn2 : (d == 2) = false := by simp; omega
  have hn3 : (d == 3) = false := by simp; omega
  have hn4 : (d == 4) = false := by simp; omega
  have hn5 : (d == 5) = false := by simp; omega
  have hn6 : (d == 6) = false := by simp; omega
  have hn7 : (d == 7) = false := by simp; omega
  have hn8 : (d == 8) = false := by simp; omega
  have hn9 : (d == 9) = false := by simp; omega
  have hn10 : (d == 10) = false := by simp; omega
  clear hF hR hb hU hd
  go_enter Try.func11, Try.ntmps11
  go_upto_region 1 with fail
  generalize (W.alloc (.cells #[.int .i64 d, .int .i64 n, .int .u64 z, .int .i64 k, .int .i64 v] 37)) = W1 at *
  generalize W.heap.size = ob at *
  have y0 := HD.out.o.cell 0
  go_wp2_with fail
  go_ret
  exact ⟨rfl, _, HD.out.f, HD.out.r⟩

theorem does_any (I : Ifc F) (o : Do) (hF : F w W p s) (hR : RfT W base br s) (hb : w.heap.size ≤ base) (hU : U64 o.i) : Calls Try.prog 11 #[.pointer (some ⟨p, 0, none⟩), .pointer (some ⟨br, 0, none⟩), .agg #[.int .i64 o.d, .int .i64 o.n, .int .u64 o.i, .int .i64 o.k, .int .i64 o.v]] W fun e w' => DoesT F w p br base e w' := by
  obtain ⟨d, n, z, k, v⟩ := o
  by_cases h0 : d = 0
  · exact does_add0 I hF hR hb hU h0
  by_cases h1 : d = 1
  · exact does_add1 I hF hR hb hU h1
  by_cases h2 : d = 2
  · exact does_send2 I hF hR hb hU h2
  by_cases h3 : d = 3
  · exact does_send3 I hF hR hb hU h3
  by_cases h4 : d = 4
  · exact does_reply I hF hR hb hU h4
  by_cases h5 : d = 5
  · exact does_kill I hF hR hb hU h5
  by_cases h6 : d = 6
  · exact does_tick I hF hR hb hU h6
  by_cases h7 : d = 7
  · exact does_rise I hF hR hb hU h7
  by_cases h8 : d = 8
  · exact does_drop I hF hR hb hU h8
  by_cases h9 : d = 9
  · exact does_ended I hF hR hb hU h9
  by_cases h10 : d = 10
  · exact does_get I hF hR hb hU h10
  exact does_none I hF hR hb hU (by show d < 0 ∨ 10 < d; omega)
end

end Go.Proofs.Ytlckconhhhllkaa
