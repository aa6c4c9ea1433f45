/-
  StackMore: a filter more makes no answer forbid less.
-/
import Derived.Test.YtamioifoemklfaaStBlt
import Derived.Test.YtamioifoemklfaaARefOf
namespace Go.Proofs.Ytamioifoemklfaa
open Go.RowKit

theorem most_u {ks : List (List V.In)} {d : V.Da} (h : OkS ks) (hd : d.ok) : A.U32 (A.most (ansL ks d)) := by
  by_cases hn : ks = []
  · subst hn
    show A.U32 2147418112
    exact ⟨by decide, by decide⟩
  · have hr : ansL ks d ≠ [] := fun e => hn (List.eq_nil_of_length_eq_zero (by rw [← ansL_len ks d, e]; rfl))
    obtain ⟨p, hp⟩ := A.most_fst _ hr
    have hm := List.mem_of_getElem? hp.1
    unfold ansL at hm
    rw [List.mem_reverse] at hm
    obtain ⟨l, hl, e⟩ := List.mem_map.1 hm
    have := ansV_u l d (h.1 l hl).2 hd
    rw [e] at this
    exact this

set_option maxRecDepth 8000 in
set_option maxHeartbeats 4000000 in
theorem more_walk (w : World) (v v2 : Value) (ls : List (List V.In)) (l2 : List V.In) (d : V.Da) (h : FlR w v ls) (h2 : FlV w v2 l2) (hd : d.ok) :
    Calls Try.prog 5 #[v, v2, .agg d.cells.toArray] w fun e w' => e = .returned (.bool true) ∧ Below w.heap.size w w' := by
  obtain ⟨p1, c1, rfl, hk1, hk2⟩ : ∃ p c, v = .slice p ls.length c ∧ ls.length ≤ c ∧ c ≤ 9223372036854775807 := by obtain ⟨p, c, e, h1, h2, _⟩ := h; exact ⟨p, c, e, h1, h2⟩
  obtain ⟨a2, c2, rfl, hm2⟩ : ∃ a c, v2 = .slice a l2.length c ∧ l2.length ≤ 9223372036854775807 := by obtain ⟨a, c, e, _, h3, _⟩ := h2; exact ⟨a, c, e, by unfold maxLen at h3; omega⟩
  obtain ⟨d1v, d2v, d3v, d4v, d5v, d6v, d7v, d8v, hAA⟩ := nine_of d hd
  have HRu : Hid (∀ W b vc ve ks, StkV W b vc ve ks → OkS ks → Calls Try.prog 15 #[.pointer (some ⟨b, 0, none⟩), .agg d.cells.toArray] W fun e w' => e = .returned (.tuple #[.int .u32 (A.most (ansL ks d)), .int .i64 (plN (ansL ks d))]) ∧ Below W.heap.size W w') := fun W b vc ve ks h1 h2 => run_any W b vc ve ks d h1 h2 hd
  rw [hAA] at HRu ⊢
  have HF : Hid (∀ W, Below w.heap.size w W → FlR W (.slice p1 ls.length c1) ls) := fun W hW => h.below hW
  have HF2 : Hid (∀ W, Below w.heap.size w W → FlV W (.slice a2 l2.length c2) l2) := fun W hW => h2.below hW
  have HOkA : Hid (OkS (attAll [] ls)) := okS_all [] ls okS_nil (flR_ok h)
  have HOl : Hid (∀ x ∈ l2, x.ok) := by obtain ⟨_, _, _, h3, _⟩ := h2; exact h3.2.1
  have HD : Hid (d.ok) := hd
  have BE : Hid (Below w.heap.size w (w.alloc (Obj.cells #[.int .u32 d.n, d1v, d2v, d3v, d4v, d5v, d6v, d7v, d8v] 27))) := below_new w _
  have KD : Hid (V.Blk (w.alloc (Obj.cells #[.int .u32 d.n, d1v, d2v, d3v, d4v, d5v, d6v, d7v, d8v] 27)) w.heap.size 27 [.int .u32 d.n, d1v, d2v, d3v, d4v, d5v, d6v, d7v, d8v]) := V.blk_new w _ _
  clear h h2 hAA hd
  generalize hdn : d.n = dn at *
  have h50 : decide ((5000 : Int) < (l2.length : Int)) = true ∨ decide ((5000 : Int) < (l2.length : Int)) = false := by cases decide ((5000 : Int) < (l2.length : Int)) <;> simp
  go_enter Try.func5, Try.ntmps5
  go_upto_region 1 with fail
  generalize (w.alloc (Obj.cells #[.int .u32 dn, d1v, d2v, d3v, d4v, d5v, d6v, d7v, d8v] 27)) = X1 at *
  have HKd : Hid (∀ W, Below X1.heap.size X1 W → V.Blk W w.heap.size 27 [.int .u32 dn, d1v, d2v, d3v, d4v, d5v, d6v, d7v, d8v]) := fun W hW => KD.out.over hW
  have HT : Hid (∀ W, Below X1.heap.size X1 W → Below w.heap.size w W) := fun W hW => BE.out.trans (hW.mono BE.out.size)
  go_upto_region 3 with (first | (go_at_call 8; refine (awake_any _).mono ?_; rintro e w1 ⟨rfl, b1⟩) | (go_at_call 9; refine (few_any _ _ ls (HF.out _ (HT.out _ b1))).mono ?_; rintro e w2 ⟨bb, rfl, b2, -⟩))
  have HB2 : Hid (Below X1.heap.size X1 w2) := b1.trans (b2.mono b1.size)
  clear b1 b2
  cases bb with
  | false =>
    clear h50
    go_wp2_with fail
    go_ret
    exact ⟨rfl, HT.out _ HB2.out⟩
  | true =>
    rcases h50 with h50 | h50
    · have h51 : (5000 : Int) < (l2.length : Int) := of_decide_eq_true h50
      go_wp2_with fail
      go_ret
      exact ⟨rfl, HT.out _ HB2.out⟩
    · have H51 : Hid (l2.length ≤ 5000) := by have := of_decide_eq_false h50; unfold Hid; omega
      go_upto_region 6 with (first | (go_at_call 17; refine (built_any _ _ ls (HF.out _ (HT.out _ HB2.out))).mono ?_; rintro e w3 ⟨b, vc, ve, vi, rfl, s3, hb3, f3, -, b3⟩))
      have HB3 : Hid (Below X1.heap.size X1 w3) := HB2.out.trans (b3.mono HB2.out.size)
      have HS3 : Hid (∀ W, Below w3.heap.size w3 W → StkV W b vc ve (attAll [] ls)) := fun W hW => s3.over hW
      have HX3 : Hid (X1.heap.size ≤ b) := Nat.le_trans HB2.out.size hb3
      clear s3 hb3 b3 f3 HF h50
      generalize attAll [] ls = ks at *
      have h32 := HOkA.out.2.1
      have hKd3 := HKd.out w3 HB3.out
      have n0 := hKd3.cell 0
      have n1 := hKd3.cell 1
      have n2 := hKd3.cell 2
      have n3 := hKd3.cell 3
      have n4 := hKd3.cell 4
      have n5 := hKd3.cell 5
      have n6 := hKd3.cell 6
      have n7 := hKd3.cell 7
      have n8 := hKd3.cell 8
      simp only [List.getElem?_cons_zero, List.getElem?_cons_succ] at n0 n1 n2 n3 n4 n5 n6 n7 n8
      clear hKd3
      have HRu3 : Hid (Calls Try.prog 15 #[.pointer (some ⟨b, 0, none⟩), .agg #[.int .u32 dn, d1v, d2v, d3v, d4v, d5v, d6v, d7v, d8v]] w3 fun e w' => e = .returned (.tuple #[.int .u32 (A.most (ansL ks d)), .int .i64 (plN (ansL ks d))]) ∧ Below w3.heap.size w3 w') := HRu.out w3 b vc ve ks (HS3.out w3 (Below.refl _ _)) HOkA.out
      have hcb : ks.flatten.length + 4 * ks.length ≤ 32768 := by have := HOkA.out.2.2; rw [cost_flat] at this; exact this
      have HCb : Hid (ks.flatten.length ≤ 100000 ∧ ks.length ≤ 1000 ∧ costL ks ≤ 32768) := ⟨by omega, by omega, HOkA.out.2.2⟩
      clear hcb
      go_upto_region 7 with (first | (go_at_call 15; refine HRu3.out.mono ?_; rintro e w4 ⟨rfl, b4⟩))
      clear n0 n1 n2 n3 n4 n5 n6 n7 n8 HRu3
      have HCo : Hid (Calls Try.prog 13 #[.pointer (some ⟨b, 0, none⟩)] w4 fun e w' => e = .returned (.int .i64 (costL ks : Nat)) ∧ Below w4.heap.size w4 w') := cost_any w4 b vc ve ks (HS3.out w4 b4) HCb.out.1 HCb.out.2.1
      go_upto_region 8 with (first | (go_at_call 13; refine HCo.out.mono ?_; rintro e w5 ⟨rfl, b5⟩))
      have hb5 : Below w3.heap.size w3 w5 := b4.trans (b5.mono b4.size)
      have HB5 : Hid (Below X1.heap.size X1 w5) := HB3.out.trans (hb5.mono HB3.out.size)
      have HA : Hid (Calls Try.prog 10 #[.pointer (some ⟨b, 0, none⟩), .slice a2 l2.length c2] w5 fun e Y => AttT w5 b vc ve ks l2 e Y) := attach_any w5 b vc ve _ ks l2 (HS3.out w5 hb5) HOkA.out (HF2.out w5 (HT.out w5 HB5.out))
      clear HCo b4 b5 hb5 HS3
      go_upto_region 9 with (first | (go_at_call 10; refine HA.out.mono ?_; rintro e w6 h6; obtain ⟨rfl, g6, vc6, ve6, s6⟩ := h6.any))
      have HB6 : Hid (Below X1.heap.size X1 w6) := HB5.out.trans (grown_below g6 HX3.out HB5.out.size)
      have HOk6 : Hid (OkS (attL ks l2)) := okS_attL HOkA.out HOl.out
      have HS6 : Hid (∀ W, Below w6.heap.size w6 W → StkV W b vc6 ve6 (attL ks l2)) := fun W hW => s6.over hW
      have HRu6 : Hid (Calls Try.prog 15 #[.pointer (some ⟨b, 0, none⟩), .agg #[.int .u32 dn, d1v, d2v, d3v, d4v, d5v, d6v, d7v, d8v]] w6 fun e w' => e = .returned (.tuple #[.int .u32 (A.most (ansL (attL ks l2) d)), .int .i64 (plN (ansL (attL ks l2) d))]) ∧ Below w6.heap.size w6 w') := HRu.out w6 b vc6 ve6 _ (HS6.out w6 (Below.refl _ _)) HOk6.out
      have HBe : Hid (∀ W, Below w6.heap.size w6 W → Below w.heap.size w W) := fun W hW => HT.out W (HB6.out.trans (hW.mono HB6.out.size))
      have hKd6 := HKd.out w6 HB6.out
      have n0 := hKd6.cell 0
      have n1 := hKd6.cell 1
      have n2 := hKd6.cell 2
      have n3 := hKd6.cell 3
      have n4 := hKd6.cell 4
      have n5 := hKd6.cell 5
      have n6 := hKd6.cell 6
      have n7 := hKd6.cell 7
      have n8 := hKd6.cell 8
      simp only [List.getElem?_cons_zero, List.getElem?_cons_succ] at n0 n1 n2 n3 n4 n5 n6 n7 n8
      have HLn : Hid (∀ W, Below w6.heap.size w6 W → Calls Try.prog 12 #[.pointer (some ⟨b, 0, none⟩)] W fun e w' => e = .returned (.int .i64 ((attL ks l2).length : Nat)) ∧ Below w6.heap.size w6 w') := fun W hW => (len_any W b vc6 ve6 _ (HS6.out W hW)).mono (fun e w' ⟨h1, h2⟩ => ⟨h1, h2 ▸ hW⟩)
      have HCo : Hid (∀ W, Below w6.heap.size w6 W → Calls Try.prog 13 #[.pointer (some ⟨b, 0, none⟩)] W fun e w' => e = .returned (.int .i64 (costL (attL ks l2) : Nat)) ∧ Below w6.heap.size w6 w') := fun W hW => by
        have hc := HOk6.out.2.2
        have hn := HOk6.out.2.1
        rw [cost_flat] at hc
        exact (cost_any W b vc6 ve6 _ (HS6.out W hW) (by omega) (by omega)).mono (fun e w' ⟨h1, h2⟩ => ⟨h1, hW.trans (h2.mono hW.size)⟩)
      have HOf : Hid (∀ (W : World) (z : Int), Below w6.heap.size w6 W → A.U32 z → Calls Try.prog 20 #[.int .u32 z] W fun e w' => e = .returned (.agg #[.int .i64 (A.ki z), .int .i64 (A.ar z)]) ∧ Below w6.heap.size w6 w') := fun W z hW hz => (A.refOf_any z W hz).mono (fun e w' ⟨h1, h2⟩ => ⟨h1, hW.trans (h2.mono hW.size)⟩)
      have hfd : ∀ (k a : Int) (W : World), (Instr.field 47 (.agg #[.int .i64 k, .int .i64 a]) 0).run Try.prog W = .ok (.int .i64 k) W := A.field_act
      have um := most_u HOkA.out HD.out
      have um6 := most_u HOk6.out HD.out
      clear h6 g6 s6 HA hKd6 HKd HT HB5 BE KD HRu HS6 HF2
      by_cases h0 : attE ks l2 = 0
      · have hL : attL ks l2 = ks ++ [l2] := by unfold attL; rw [if_pos h0]
        have hq : (attE ks l2 != 0) = false := by rw [h0]; rfl
        rw [hL] at HRu6 HLn HCo um6
        rw [costL_snoc] at HCo
        rw [List.length_append, List.length_singleton] at HLn
        have hmr := stack_more (ks.map fun l => V.ansV l d) (V.ansV l2 d)
        have eA : ansL ks d = (ks.map fun l => V.ansV l d).reverse := rfl
        have eB : ansL (ks ++ [l2]) d = ((ks.map fun l => V.ansV l d) ++ [V.ansV l2 d]).reverse := by unfold ansL; rw [List.map_append]; rfl
        rw [← eA, ← eB, List.length_map] at hmr
        clear eA eB hL h0
        obtain ⟨hki, hor⟩ := hmr
        have HOR : Hid ((A.most (ansL (ks ++ [l2]) d) = A.most (ansL ks d) ∧ plN (ansL (ks ++ [l2]) d) = plN (ansL ks d)) ∨ plN (ansL (ks ++ [l2]) d) = (ks.length : Int)) := hor
        clear hor
        have hcb := HCb.out.2.2
        have hl5 := H51.out
        obtain ⟨zc, hzc⟩ : ∃ zc : Int, zc = ((costL ks + (l2.length + 4) : Nat) : Int) := ⟨_, rfl⟩
        have e1 : IntKind.i64.wrap ((costL ks : Int) + (l2.length : Int)) = (costL ks : Int) + (l2.length : Int) := by rw [IntKind.wrap_i64]; omega
        have e2 : IntKind.i64.wrap ((costL ks : Int) + (l2.length : Int) + 4) = zc := by rw [IntKind.wrap_i64]; omega
        have e3 : (zc == zc) = true := by simp
        have e4 : IntKind.i64.wrap (((ks.length + 1 : Nat) : Int) - 1) = (ks.length : Int) := by rw [IntKind.wrap_i64]; omega
        rw [← hzc] at HCo
        obtain ⟨k1, hk1'⟩ : ∃ k1 : Int, k1 = ((ks.length + 1 : Nat) : Int) := ⟨_, rfl⟩
        rw [← hk1'] at HLn e4
        clear hzc hcb hl5 hk1'
        generalize costL ks = ck at *
        generalize A.most (ansL (ks ++ [l2]) d) = mb at *
        generalize A.most (ansL ks d) = ma at *
        generalize plN (ansL (ks ++ [l2]) d) = pb at *
        generalize plN (ansL ks d) = pa at *
        have hki2 : decide (A.ki mb ≤ A.ki ma) = true := by simpa using hki
        rcases HOR.out with ⟨ea, eb⟩ | eb
        · have t1 : (pb == pa) = true := by rw [eb]; simp
          have t2 : (mb == ma) = true := by rw [ea]; simp
          clear ea eb HOR
          go_wp2_with (first | (go_at_call 15; refine HRu6.out.mono ?_; rintro e w7 ⟨rfl, b7⟩) | (go_at_call 20; refine (HOf.out _ _ (by assumption) (by assumption)).mono ?_; rintro e w8 ⟨rfl, b8⟩) | (go_at_call 13; refine (HCo.out _ (by assumption)).mono ?_; rintro e w9 ⟨rfl, b9⟩) | (go_at_call 12; refine (HLn.out _ (by assumption)).mono ?_; rintro e w9 ⟨rfl, b9⟩))
          go_ret
          exact ⟨rfl, HBe.out _ (by assumption)⟩
        · by_cases hab : pb = pa
          · have t1 : (pb == pa) = true := by rw [hab]; simp
            have t3 : (pb == (ks.length : Int)) = true := by rw [eb]; simp
            clear eb hab HOR
            by_cases hmm : mb = ma
            · have t2 : (mb == ma) = true := by rw [hmm]; simp
              clear hmm
              go_wp2_with (first | (go_at_call 15; refine HRu6.out.mono ?_; rintro e w7 ⟨rfl, b7⟩) | (go_at_call 20; refine (HOf.out _ _ (by assumption) (by assumption)).mono ?_; rintro e w8 ⟨rfl, b8⟩) | (go_at_call 13; refine (HCo.out _ (by assumption)).mono ?_; rintro e w9 ⟨rfl, b9⟩) | (go_at_call 12; refine (HLn.out _ (by assumption)).mono ?_; rintro e w9 ⟨rfl, b9⟩))
              go_ret
              exact ⟨rfl, HBe.out _ (by assumption)⟩
            · have t2 : (mb == ma) = false := by simpa using hmm
              clear hmm
              go_wp2_with (first | (go_at_call 15; refine HRu6.out.mono ?_; rintro e w7 ⟨rfl, b7⟩) | (go_at_call 20; refine (HOf.out _ _ (by assumption) (by assumption)).mono ?_; rintro e w8 ⟨rfl, b8⟩) | (go_at_call 13; refine (HCo.out _ (by assumption)).mono ?_; rintro e w9 ⟨rfl, b9⟩) | (go_at_call 12; refine (HLn.out _ (by assumption)).mono ?_; rintro e w9 ⟨rfl, b9⟩))
              go_ret
              exact ⟨rfl, HBe.out _ (by assumption)⟩
          · have t1 : (pb == pa) = false := by simpa using hab
            have t3 : (pb == (ks.length : Int)) = true := by rw [eb]; simp
            clear eb hab HOR
            go_wp2_with (first | (go_at_call 15; refine HRu6.out.mono ?_; rintro e w7 ⟨rfl, b7⟩) | (go_at_call 20; refine (HOf.out _ _ (by assumption) (by assumption)).mono ?_; rintro e w8 ⟨rfl, b8⟩) | (go_at_call 13; refine (HCo.out _ (by assumption)).mono ?_; rintro e w9 ⟨rfl, b9⟩) | (go_at_call 12; refine (HLn.out _ (by assumption)).mono ?_; rintro e w9 ⟨rfl, b9⟩))
            go_ret
            exact ⟨rfl, HBe.out _ (by assumption)⟩
      · have hL : attL ks l2 = ks := by unfold attL; rw [if_neg h0]
        have hq : (attE ks l2 != 0) = true := by simpa using h0
        rw [hL] at HRu6 HLn HCo um6
        clear hL h0 HOf
        have t1 : (A.most (ansL ks d) == A.most (ansL ks d)) = true := by simp
        have t2 : (plN (ansL ks d) == plN (ansL ks d)) = true := by simp
        have t3 : ((costL ks : Int) == (costL ks : Int)) = true := by simp
        generalize A.most (ansL ks d) = ma at *
        generalize plN (ansL ks d) = pa at *
        generalize costL ks = ck at *
        go_wp2_with (first | (go_at_call 15; refine HRu6.out.mono ?_; rintro e w7 ⟨rfl, b7⟩) | (go_at_call 13; refine (HCo.out _ b7).mono ?_; rintro e w9 ⟨rfl, b9⟩))
        go_ret
        exact ⟨rfl, HBe.out _ b9⟩

end Go.Proofs.Ytamioifoemklfaa
