/-
  The law PackLays, walked: true for all items.
-/
import Derived.Test.YtbieemiogbkaiaaRefLay
namespace Go.Proofs.Ytbieemiogbkaiaa
open Go.RowKit

/-- an item's bytes, and what is wrong, by the document. -/
def encF (x : It) : List Int × Int := if x.isText then textL x.text else layF x.n x.size

theorem encF_text (n s : Int) (t : ByteArray) : encF ⟨n, s, true, t⟩ = textL t := by unfold encF; rw [if_pos rfl]
theorem encF_num (n s : Int) (t : ByteArray) : encF ⟨n, s, false, t⟩ = layF n s := by unfold encF; rw [if_neg (by simp)]

theorem stepW_encF (l : List Int) (x : It) : stepW (l, 0) x = (if (encF x).2 = 0 then l ++ (encF x).1 else [], (encF x).2) := by
  obtain ⟨n, s, b, t⟩ := x
  cases b with
  | true =>
    rw [stepW_text, encF_text]
    unfold textW textL
    by_cases h : 65535 < t.size
    · rw [if_pos h, if_pos h, if_neg (by decide)]; rfl
    · rw [if_neg h, if_neg h, if_pos rfl]
      have e : numW (l, 0) t.size 2 = (l ++ digs 2 t.size, 0) := by
        unfold numW
        rw [if_pos ⟨by decide, by decide, by rw [show (2 : Int).toNat = 2 from rfl, show pow256 2 = 65536 from by decide]; omega⟩]
        rfl
      rw [e]
      show (l ++ digs 2 t.size ++ bytesOf t, (0 : Int)) = _
      rw [List.append_assoc]
  | false =>
    rw [stepW_num, encF_num]
    unfold numW layF
    by_cases h : 1 ≤ s ∧ s ≤ 8 ∧ n < pow256 s.toNat
    · rw [if_pos h, if_pos h, if_pos rfl]; rfl
    · rw [if_neg h, if_neg h, if_neg (by decide)]; rfl

theorem stepW_fix (st : List Int × Int) (x : It) (h : st.2 ≠ 0) : stepW st x = st := by
  have hf : ∀ c, failW st c = st := fun c => by unfold failW; rw [if_neg h]
  have hl : ∀ k, layW st k = st := fun k => by unfold layW; rw [if_neg h]
  have hn : ∀ n s, numW st n s = st := fun n s => by unfold numW; split <;> simp [hf, hl]
  unfold stepW
  split
  · unfold textW
    split
    · rw [hf]
    · rw [hn, hl]
  · rw [hn]

theorem foldW_fix (l : List It) (st : List Int × Int) (h : st.2 ≠ 0) : l.foldl stepW st = st := by
  induction l with
  | nil => rfl
  | cons x l ih => rw [List.foldl_cons, stepW_fix st x h, ih]

theorem layAll_fix (its : List It) (k : Nat) (h : (layAll (its.take k)).2 ≠ 0) : layAll its = layAll (its.take k) := by
  conv => lhs; rw [← List.take_append_drop k its]
  unfold layAll at *
  rw [List.foldl_append, foldW_fix _ _ h]

theorem encF_bd (x : It) : (∀ z ∈ (encF x).1, 0 ≤ z ∧ z ≤ 255) ∧ (encF x).1.length ≤ 65537 := by
  obtain ⟨n, s, b, t⟩ := x
  cases b with
  | true =>
    rw [encF_text]
    unfold textL
    split
    · exact ⟨by simp, by simp⟩
    · refine ⟨fun z hz => ?_, by rw [List.length_append, digs_length, bytesOf_length]; omega⟩
      rcases List.mem_append.1 hz with hz | hz
      · exact digs_bd _ _ z hz
      · exact bytesOf_bd t z hz
  | false =>
    rw [encF_num]
    unfold layF
    split
    · next h => exact ⟨digs_bd _ _, by rw [digs_length]; omega⟩
    · exact ⟨by simp, by simp⟩

/-- so far gone: what is wanted, and what is wrong. -/
structure Lys (its : List It) (k : Nat) (W : List Int) (q : Int) : Prop where
  eq : layAll (its.take k) = (if q = 0 then W else [], q)
  bd : ∀ z ∈ W, 0 ≤ z ∧ z ≤ 255
  len : W.length ≤ k * 65537

theorem Lys.step {its : List It} {k : Nat} {W : List Int} (h : Lys its k W 0) (hk : k < its.length) : Lys its (k + 1) (W ++ (encF its[k]).1) (encF its[k]).2 := by
  refine ⟨?_, fun z hz => ?_, ?_⟩
  · rw [takeIt_snoc its k hk, layAll_snoc, h.eq, if_pos rfl, stepW_encF]
  · rcases List.mem_append.1 hz with hz | hz
    · exact h.bd z hz
    · exact (encF_bd _).1 z hz
  · have h1 := h.len
    have h2 := (encF_bd its[k]).2
    rw [List.length_append, Nat.add_mul]
    omega

theorem Lys.small {its : List It} {k : Nat} {W : List Int} {q : Int} (h : Lys its k W q) (x : It) (hk : k ≤ 100) : W.length + (encF x).1.length ≤ 1000000000 := by
  have h1 := h.len
  have h2 : k * 65537 ≤ 100 * 65537 := Nat.mul_le_mul_right _ hk
  have h3 := (encF_bd x).2
  omega

theorem Lys.fin {its : List It} {k : Nat} {W : List Int} {q : Int} (h : Lys its k W q) (hk : its.length ≤ k ∨ q ≠ 0) : layAll its = (if q = 0 then W else [], q) := by
  rcases hk with hk | hk
  · have := h.eq
    rwa [List.take_of_length_le hk] at this
  · rw [layAll_fix its k (by rw [h.eq]; exact hk), h.eq]

theorem owns_kept {w w' : World} {base : Nat} {e : TypeId} {size : Nat} {v : Value} {n : Nat} {xs : List Value} (h : w.ownsRow base e size v n xs) (hb : Below w.heap.size w w') : w'.ownsRow base e size v n xs := by
  refine ⟨h.1, ?_⟩
  rcases h.2 with hn | ⟨g, cap, cur, hv, hg, hh, r⟩
  · exact .inl hn
  · exact .inr ⟨g, cap, cur, hv, hg, by rw [hb.block g (lt_of_block hh)]; exact hh, r⟩

theorem It.at.below {x : It} {w w' : World} {b o : Nat} (h : x.at w b o) (hb : Below w.heap.size w w') : x.at w' b o := by
  obtain ⟨h1, h2, h3, h4⟩ := h
  have hlt : b < w.heap.size := World.block_lt_of_cell? w _ h1
  exact ⟨(hb.cell (p := ⟨b, o, none⟩) hlt).trans h1, (hb.cell (p := ⟨b, o + 1, none⟩) hlt).trans h2, (hb.cell (p := ⟨b, o + 2, none⟩) hlt).trans h3, (hb.cell (p := ⟨b, o + 3, none⟩) hlt).trans h4⟩

set_option maxRecDepth 4000 in
set_option maxHeartbeats 6000000 in
theorem packLays_walk (a : Option Addr) (len cap : Nat) (its : List It) (w : World) (h : Items w a len its) :
    Calls Try.prog 3 #[.slice a len cap] w fun e w' => e = .returned (.bool true) ∧ Below w.heap.size w w' := by
  have hll := h.1
  go_enter Try.func3, Try.ntmps3
  go_wp2_with fail
  refine (awake_any _).mono ?_
  rintro e w1 ⟨rfl, hb1⟩
  have h1 := h.below hb1
  go_wp2_with fail
  refine (few_any a len cap its _ h1).mono ?_
  rintro e w' ⟨⟨v, rfl, hv⟩, rfl⟩
  cases v with
  | false =>
    go_wp2
    go_ret
    exact ⟨rfl, hb1⟩
  | true =>
    have hlen : len ≤ 100 := hv rfl
    clear hv
    go_wp2_with fail
    refine (laid_any a len cap its _ (by omega) h1).mono ?_
    rintro e w3 ⟨hb3, v3, rfl, ho3, hbd3⟩
    obtain ⟨a3, cap3, rfl, hbs3, _⟩ := owns_bs ho3 hbd3
    have hw3 := hb1.trans (hb3.mono hb1.size)
    have h3 := h.below hw3
    have HL0 : Hid (Lys its 0 [] 0) := ⟨by simp [layAll], by simp, by simp⟩
    clear ho3 hbd3 hb3 hb1 h1
    generalize hBE : layAll its = BE at *
    obtain ⟨B, E⟩ := BE
    have HBE : Hid (layAll its = (B, E)) := hBE
    clear hBE
    go_wp2
    go_loopw [7, 8, 9] (fun v q i wr => ∃ k : Nat, ∃ W : List Int, ∃ p : Int, k ≤ len ∧ i = .int .i64 k ∧ q = .int .i64 p ∧ wr.ownsRow w3.heap.size 5 1 v W.length (cellsB W) ∧ Lys its k W p ∧ Below w3.heap.size w3 wr) (fun _ _ i _ => len - (intOf i).toNat)
    case atStart => exact ⟨0, [], 0, Nat.zero_le _, rfl, rfl, owns_nil _ _, HL0.out, Below.refl _ _⟩
    case round =>
      obtain ⟨k, W, p, hk, rfl, rfl, ho, hly, hbr⟩ := hrel
      by_cases hgo : k < len ∧ p = 0
      · obtain ⟨hlt, rfl⟩ := hgo
        obtain ⟨b, off, rfl, hc⟩ := h3.2.2 (by omega)
        have HAT : Hid (its[k].at w3 b (off + k * 4)) := hc k its[k] (List.getElem?_eq_getElem (by omega))
        obtain ⟨q1, q2, q3, q4⟩ := HAT.out.below hbr
        have HO : Hid (its[k].ok) := h3.2.1 its[k] (List.getElem_mem (by omega))
        have HS : Hid (Lys its (k + 1) (W ++ (encF its[k]).1) (encF its[k]).2) := hly.step (by omega)
        have HW : Hid (W.length + (encF its[k]).1.length ≤ 1000000000) := hly.small its[k] (by omega)
        clear hc
        generalize its[k] = x at *
        obtain ⟨xn, xs, xt, xx⟩ := x
        simp only at q1 q2 q3 q4
        have hi1 : (k : Int) < (len : Int) := by omega
        go_wp2_with fail
        cases xt with
        | false =>
          rw [encF_num] at HS HW
          go_region_with (go_at_call 12; refine (lay_all xn xs wr.drew HO.out.1 HO.out.2).mono ?_; rintro e w4 ⟨hb4, v4, rfl, hm4⟩; obtain ⟨a4, cap4, rfl, hbs4, hao4⟩ := hm4; have AO4 : Hid (a4 = none → cap4 = 0) := hao4; clear hao4)
          all_goals
            have hb5 : Below w3.heap.size w3 w4 := hbr.drew.trans (hb4.mono hbr.size)
            obtain ⟨r1, r2, r3, r4⟩ := HAT.out.below hb5
            have ho4 := owns_kept (w := wr.drew) ho hb4
            simp only at r3
            generalize layF xn xs = lf at *
            obtain ⟨f1, f2⟩ := lf
            simp only at hbs4
            clear q1 q2 q3 q4 r1 r2 r4
            go_wp2_with (at_builtin; refine append_bytes rfl (.tmp 61) (.tmp 62) rfl w3.heap.size _ W.length W rfl ho4 a4 f1.length cap4 f1 rfl AO4.out hbs4 HW.out hb5.size ?_; intro v6 w6 ho6 hg6)
            go_roundw
            case rel => exact ⟨k + 1, W ++ f1, f2, by omega, by go_num, rfl, by rw [List.length_append]; exact ho6, HS.out, hb5.grown hg6 hb5.size (owns_block ho4)⟩
            case measure => simp [intOf]; omega
        | true =>
          rw [encF_text] at HS HW
          go_region_with (go_at_call 12; refine (lay_all xn xs wr.drew HO.out.1 HO.out.2).mono ?_; rintro e w4 ⟨hb4, v4, rfl, hm4⟩; obtain ⟨a4, cap4, rfl, hbs4, hao4⟩ := hm4; clear hao4 hbs4)
          all_goals
            have hb5 : Below w3.heap.size w3 w4 := hbr.drew.trans (hb4.mono hbr.size)
            obtain ⟨r1, r2, r3, r4⟩ := HAT.out.below hb5
            have ho4 := owns_kept (w := wr.drew) ho hb4
            simp only at r3 r4
            generalize layF xn xs = lf at *
            obtain ⟨f1, f2⟩ := lf
            clear q1 q2 q3 q4 r1 r2
            go_wp2_with (first | (go_at_call 13; refine (text_all xx _).mono ?_; rintro e w5 ⟨hb6, v5, rfl, hm5⟩; obtain ⟨a5, cap5, rfl, hbs5, hao5⟩ := hm5; have AO5 : Hid (a5 = none → cap5 = 0) := hao5; clear hao5; have hb7 : Below w3.heap.size w3 w5 := hb5.trans (hb6.mono hb5.size); have ho5 := owns_kept ho4 hb6; generalize textL xx = tl at *; obtain ⟨g1, g2⟩ := tl; simp only at hbs5) | (at_builtin; refine append_bytes rfl (.tmp 61) (.tmp 62) rfl w3.heap.size _ W.length W rfl ho5 a5 g1.length cap5 g1 rfl AO5.out hbs5 HW.out hb7.size ?_; intro v6 w6 ho6 hg6))
            go_roundw
            case rel => exact ⟨k + 1, W ++ g1, g2, by omega, by go_num, rfl, by rw [List.length_append]; exact ho6, HS.out, hb7.grown hg6 hb7.size (owns_block ho5)⟩
            case measure => simp [intOf]; omega
      · have hfin := hly.fin (by rcases Nat.lt_or_ge k len with h1 | h1; exact .inr (fun e => hgo ⟨h1, e⟩); exact .inl (by omega))
        rw [HBE.out] at hfin
        have hbw := hw3.trans (hbr.mono hw3.size)
        by_cases hp : p = 0
        · subst hp
          have hkl : ¬ (k : Int) < (len : Int) := fun h1 => hgo ⟨by omega, rfl⟩
          rw [if_pos rfl] at hfin
          obtain ⟨rfl, rfl⟩ := Prod.mk.inj hfin
          obtain ⟨a9, cap9, rfl, hbs9, _⟩ := owns_bs ho hly.bd
          have hc9 := run_text hbs9 cap9
          have hc3 := run_text (hbs3.below hbr) cap3
          clear hgo hfin ho hbs9
          go_wp2
          go_ret
          exact ⟨rfl, hbw⟩
        · rw [if_neg hp] at hfin
          obtain ⟨rfl, rfl⟩ := Prod.mk.inj hfin
          clear hgo hfin ho
          by_cases hkl : (k : Int) < (len : Int)
          · go_wp2
            go_ret
            exact ⟨rfl, hbw⟩
          · go_wp2
            go_ret
            exact ⟨rfl, hbw⟩

end Go.Proofs.Ytbieemiogbkaiaa
