/-
  The program's small functions: the path of what stands in a directory, the directory that is always there, clean paths, kinds, targets.
-/
import Derived.Test.YtilemgpopjlchaaDoorTCl
import Derived.Test.YtilemgpopjlchaaDoorVIfc
import Derived.Test.YtilemgpopjlchaaDoorDWr
import Derived.Lib.IndexLaws
namespace Go.Proofs.YtilemgpopjlchaaDoor
open Go.RowKit Go.Shelf

theorem trim_join {a : List Nm} (ha : ∀ n ∈ a, OkN n) : Lib.trimSuffix (joinP a) [47] = joinF a := by
  rcases List.eq_nil_or_concat a with rfl | ⟨b, m, rfl⟩
  · decide
  · rw [List.concat_eq_append, joinP_more]
    have hm := ha m (by simp)
    unfold Lib.trimSuffix Lib.hasSuffix
    rw [if_neg]
    intro h
    rw [List.isSuffixOf_iff_suffix] at h
    obtain ⟨t, ht⟩ := h
    have e1 : joinF (b ++ [m]) = joinF b ++ 47 :: m := by
      rw [joinF_app]
      show joinF b ++ (47 :: m ++ []) = _
      rw [List.append_nil]
    rw [e1] at ht
    rcases List.eq_nil_or_concat m with rfl | ⟨m', c, rfl⟩
    · have := hm.good
      cases this
    · have h1 := congrArg List.getLast? ht
      rw [List.getLast?_append, List.concat_eq_append] at h1
      have h2 : (47 :: (m' ++ [c])).getLast? = some c := by
        rw [← List.cons_append]
        exact List.getLast?_concat
      rw [List.getLast?_append, h2] at h1
      have h3 : some 47 = some c := by simpa using h1
      cases h3
      exact hm.sl (by rw [List.concat_eq_append]; simp)

set_option maxHeartbeats 4000000 in
theorem tbelow_any (a : List Nm) (nb : ByteArray) (w : World) (ha : ∀ n ∈ a, OkN n) (hl : (joinF a).length ≤ 1000) (hn : nb.size ≤ 1000) :
    Calls Tryd.prog 44 #[.string (bar (joinP a)), .string nb] w fun e w' => e = .returned (.string (bar (joinP (a ++ [lst nb])))) ∧ w' = w := by
  have hj := joinP_len a
  have HC : Hid (Calls Tryd.prog 58 #[.string (bar (joinP a)), .string ⟨#[47]⟩] w fun e w' => e = .returned (.string (bar (joinF a))) ∧ w' = w) := by
    have h := Tryd.strings_TrimSuffix (bar (joinP a)) ⟨#[47]⟩ w (by rw [bar_size]; omega)
    have e : (bar (joinP a)).data.toList = joinP a := lst_bar _
    rw [e, show (⟨#[47]⟩ : ByteArray).data.toList = [47] from rfl, trim_join ha] at h
    exact h
  have HE : Hid (ByteArray.append (ByteArray.append (bar (joinF a)) ⟨#[47]⟩) nb = bar (joinP (a ++ [lst nb]))) := by
    apply lst_inj
    rw [joinP_more, lst_bar]
    have e1 : lst (ByteArray.append (ByteArray.append (bar (joinF a)) ⟨#[47]⟩) nb) = lst (ByteArray.append (bar (joinF a)) ⟨#[47]⟩) ++ lst nb := lst_app _ _
    have e2 : lst (ByteArray.append (bar (joinF a)) ⟨#[47]⟩) = lst (bar (joinF a)) ++ [47] := lst_app _ _
    rw [e1, e2, lst_bar, joinF_app]
    show _ = joinF a ++ (47 :: lst nb ++ [])
    rw [List.append_nil, List.append_assoc]
    rfl
  have hbz : (bar (joinF a)).size ≤ 1000 := by rw [bar_size]; exact hl
  generalize bar (joinP a) = d at *
  generalize bar (joinF a) = f at *
  have g1 : ¬ 9223372036854775807 < f.size + 1 := by omega
  have g2 : ¬ 9223372036854775807 < f.size + 1 + nb.size := by omega
  clear hbz hj ha hl hn
  go_enter Tryd.func44, Tryd.ntmps44
  go_wp2_with fail
  refine HC.out.mono ?_
  rintro e w1 ⟨rfl, hw1⟩; subst w1
  go_wp2_with fail
  go_ret
  exact ⟨congrArg (fun x => Ending.returned (.string x)) HE.out, rfl⟩

set_option maxHeartbeats 4000000 in
theorem ttop_any (w : World) : Calls Tryd.prog 22 #[] w (Tells w rootN.v) := by
  have HB : Hid (∀ o : Obj, Below w.heap.size w (w.alloc o)) := fun o => below_new w o
  obtain ⟨c0, c1, c2⟩ := nd_cells w (.string ⟨#[47]⟩) (.int .i64 2) (.string ⟨#[]⟩)
  go_enter Tryd.func22, Tryd.ntmps22
  go_wp2
  refine bodyPost_ret (v := .agg #[.string ⟨#[47]⟩, .int .i64 2, .string ⟨#[]⟩]) (by simp [results, Tryd.results22, go_sem, c0, c1, c2]) rfl ⟨rfl, HB.out _⟩

set_option maxHeartbeats 4000000 in
theorem tclean_ok (s : ByteArray) (w : World) : Calls Tryd.prog 53 #[.string s] w (Tells w (.bool (cleanOk (lst s)))) := by
  have HC : Hid (Calls Tryd.prog 17 #[.string s] w (Tells w (.tuple #[.string (bar (cleanP (lst s))), .int .i64 (errP (lst s))]))) := tclean_any s w
  cases hr : rightP (lst s) with
  | false =>
    have HR : Hid (cleanOk (lst s) = false) := by show _ = _; unfold cleanOk; rw [hr]; rfl
    rw [err_no hr] at HC
    clear hr
    go_enter Tryd.func53, Tryd.ntmps53
    go_wp2_with fail
    refine HC.out.mono ?_
    rintro e w1 ⟨rfl, hb1⟩
    go_wp2_with fail
    go_ret
    exact ⟨by rw [HR.out]; rfl, hb1⟩
  | true =>
    rw [err_ok hr] at HC
    obtain ⟨q, hq⟩ : ∃ q, ((bar (cleanP (lst s))).toList == s.toList) = q := ⟨_, rfl⟩
    have HR : Hid (cleanOk (lst s) = q) := by
      show _ = _
      unfold cleanOk
      rw [hr, ← hq, toList_bar, toList_lst, Bool.true_and]
      by_cases e : cleanP (lst s) = lst s
      · rw [decide_eq_true e, e]; exact (beq_self_eq_true _).symm
      · rw [decide_eq_false e]; exact (beq_eq_false_iff_ne.2 e).symm
    clear hr
    generalize bar (cleanP (lst s)) = c at *
    go_enter Tryd.func53, Tryd.ntmps53
    go_wp2_with fail
    refine HC.out.mono ?_
    rintro e w1 ⟨rfl, hb1⟩
    go_wp2_with fail
    go_ret
    exact ⟨by rw [HR.out]; rfl, hb1⟩

set_option maxHeartbeats 4000000 in
theorem ttarget_any (s : ByteArray) (w : World) : Calls Tryd.prog 67 #[.string s] w fun e w' => e = .returned (.bool (targetOk (lst s))) ∧ w' = w := by
  by_cases h0 : lst s = []
  · have e0 : (s.toList == []) = true := by rw [toList_lst, h0]; rfl
    have e0' : s.toList.isEmpty = true := by rw [toList_lst, h0]; rfl
    have HR : Hid (targetOk (lst s) = false) := target_bad (.inl (by rw [h0]; rfl))
    clear h0
    go_enter Tryd.func67, Tryd.ntmps67
    go_wp2
    go_ret
    exact ⟨by rw [HR.out]; rfl, rfl⟩
  · have e0 : (s.toList == []) = false := by rw [toList_lst]; exact beq_eq_false_iff_ne.2 h0
    have e0' : s.toList.isEmpty = false := by rw [toList_lst]; cases hq : lst s with
      | nil => exact absurd hq h0
      | cons _ _ => rfl
    by_cases h1 : s.size ≤ 256
    · have e1 : decide ((s.size : Int) ≤ (256 : Int)) = true := decide_eq_true (by omega)
      have e1' : (s.size : Int) ≤ (256 : Int) := by omega
      have h : Calls Tryd.prog 42 #[.string s, .int .u8 0] w fun e w' => e = .returned (.int .i64 (Lib.indexByte (lst s) 0)) ∧ w' = w := Tryd.strings_IndexByte s 0 w
      by_cases hi : Lib.indexByte (lst s) 0 = -1
      · rw [hi] at h
        have HI : Hid (Calls Tryd.prog 42 #[.string s, .int .u8 0] w fun e w' => e = .returned (.int .i64 (-1)) ∧ w' = w) := h
        have HR : Hid (targetOk (lst s) = true) := target_good (List.length_pos_iff.2 h0) (by rw [lst_length]; exact h1) fun k c hc e => Lib.indexByte_none hi k (by rw [hc, e])
        clear h hi h0 h1
        go_enter Tryd.func67, Tryd.ntmps67
        go_wp2_with fail
        refine HI.out.mono ?_
        rintro e w1 ⟨rfl, hw1⟩; subst w1
        go_wp2_with fail
        go_ret
        exact ⟨by rw [HR.out]; rfl, rfl⟩
      · obtain ⟨o, ho⟩ : ∃ o : Nat, Lib.indexByte (lst s) 0 = o := ⟨(Lib.indexByte (lst s) 0).toNat, by have := Lib.indexByte_ge (lst s) 0; omega⟩
        rw [ho] at h
        have HI : Hid (Calls Tryd.prog 42 #[.string s, .int .u8 0] w fun e w' => e = .returned (.int .i64 (o : Int)) ∧ w' = w) := h
        have HR : Hid (targetOk (lst s) = false) := target_bad (.inr (.inr ⟨o, (Lib.indexByte_some ho).1⟩))
        have q : decide ((o : Int) < 0) = false := decide_eq_false (by omega)
        have q' : ¬ (o : Int) < 0 := by omega
        clear h hi h0 h1 ho
        go_enter Tryd.func67, Tryd.ntmps67
        go_wp2_with fail
        refine HI.out.mono ?_
        rintro e w1 ⟨rfl, hw1⟩; subst w1
        go_wp2_with fail
        go_ret
        exact ⟨by rw [HR.out]; rfl, rfl⟩
    · have e1 : decide ((s.size : Int) ≤ (256 : Int)) = false := decide_eq_false (by omega)
      have e1' : ¬ (s.size : Int) ≤ (256 : Int) := by omega
      have HR : Hid (targetOk (lst s) = false) := target_bad (.inr (.inl (by rw [lst_length]; omega)))
      clear h1 h0
      go_enter Tryd.func67, Tryd.ntmps67
      go_wp2
      go_ret
      exact ⟨by rw [HR.out]; rfl, rfl⟩

set_option maxHeartbeats 4000000 in
theorem tkind_any (sp st : ByteArray) (k : Int) (w : World) : Calls Tryd.prog 54 #[.agg #[.string sp, .int .i64 k, .string st]] w (Tells w (.bool (kindOk ⟨lst sp, k, lst st⟩))) := by
  have HB : Hid (Below w.heap.size w (w.alloc (.cells #[.string sp, .int .i64 k, .string st] 29))) := below_new w _
  obtain ⟨c0, c1, c2⟩ := nd_cells w (.string sp) (.int .i64 k) (.string st)
  obtain ⟨q, hq⟩ : ∃ q, (st.toList == []) = q := ⟨_, rfl⟩
  have hq2 : st.toList.isEmpty = q := by
    rw [← hq]
    cases st.toList <;> rfl
  have HQ : Hid (decide (lst st = []) = q) := by
    show _ = _
    rw [← hq, toList_lst]
    by_cases e : lst st = []
    · rw [decide_eq_true e, e]; rfl
    · rw [decide_eq_false e]; exact (beq_eq_false_iff_ne.2 e).symm
  by_cases h1 : k = 1
  · subst h1
    go_enter Tryd.func54, Tryd.ntmps54
    go_wp2_with fail
    go_ret
    exact ⟨by rw [kind_one, HQ.out]; rfl, HB.out⟩
  by_cases h2 : k = 2
  · subst h2
    go_enter Tryd.func54, Tryd.ntmps54
    go_wp2_with fail
    go_ret
    exact ⟨by rw [kind_two, HQ.out]; rfl, HB.out⟩
  by_cases h3 : k = 3
  · subst h3
    have HT : Hid (∀ W, Calls Tryd.prog 67 #[.string st] W fun e w' => e = .returned (.bool (targetOk (lst st))) ∧ w' = W) := fun W => ttarget_any st W
    have HK : Hid (kindOk ⟨lst sp, 3, lst st⟩ = targetOk (lst st)) := by show (if (3 : Int) = 3 then _ else _) = _; rw [if_pos rfl]
    clear h1 h2
    go_enter Tryd.func54, Tryd.ntmps54
    go_wp2_with fail
    refine (HT.out _).mono ?_
    rintro e w1 ⟨rfl, hw1⟩; subst w1
    go_wp2_with fail
    go_ret
    exact ⟨by rw [HK.out]; rfl, HB.out⟩
  · have g1 : (k == 1) = false := beq_eq_false_iff_ne.2 h1
    have g2 : (k == 2) = false := beq_eq_false_iff_ne.2 h2
    have g3 : (k == 3) = false := beq_eq_false_iff_ne.2 h3
    have HK : Hid (kindOk ⟨lst sp, k, lst st⟩ = false) := kind_bad h1 h2 h3
    clear h1 h2 h3
    go_enter Tryd.func54, Tryd.ntmps54
    go_wp2_with fail
    go_ret
    exact ⟨by rw [HK.out]; rfl, HB.out⟩

end Go.Proofs.YtilemgpopjlchaaDoor
