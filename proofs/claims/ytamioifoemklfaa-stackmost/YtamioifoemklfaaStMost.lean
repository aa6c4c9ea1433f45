/-
  StackMost: the answer is one filter's, and forbids at least as much as each one's.
-/
import Derived.Test.YtamioifoemklfaaStBlt
import Derived.Test.YtamioifoemklfaaAOf
namespace Go.Proofs.Ytamioifoemklfaa
open Go.RowKit

theorem most_nil (d : V.Da) : A.most (ansL [] d) = 2147418112 ∧ plN (ansL [] d) = -1 := ⟨rfl, rfl⟩

set_option linter.unusedSimpArgs false in
set_option maxRecDepth 8000 in
set_option maxHeartbeats 4000000 in
theorem most_walk (w : World) (v : Value) (ls : List (List V.In)) (d : V.Da) (h : FlR w v ls) (hd : d.ok) :
    Calls Try.prog 4 #[v, .agg d.cells.toArray] w fun e w' => e = .returned (.bool true) ∧ Below w.heap.size w w' := by
  obtain ⟨p1, c1, rfl, hk1, hk2⟩ : ∃ p c, v = .slice p ls.length c ∧ ls.length ≤ c ∧ c ≤ 9223372036854775807 := by obtain ⟨p, c, e, h1, h2, _⟩ := h; exact ⟨p, c, e, h1, h2⟩
  obtain ⟨d1v, d2v, d3v, d4v, d5v, d6v, d7v, d8v, hAA⟩ := nine_of d hd
  have HR : Hid (∀ W a cap (l : List V.In), V.Ins W a l.length l → l.length ≤ maxLen → Calls Try.prog 19 #[.slice a l.length cap, .agg d.cells.toArray] W fun e w' => V.RunTold W w' e l d) := fun W a cap l h1 h2 => V.run_any a l.length cap l d W h2 h1 hd
  have HRu : Hid (∀ W b vc ve ks, StkV W b vc ve ks → OkS ks → Calls Try.prog 15 #[.pointer (some ⟨b, 0, none⟩), .agg d.cells.toArray] W fun e w' => e = .returned (.tuple #[.int .u32 (A.most (ansL ks d)), .int .i64 (plN (ansL ks d))]) ∧ Below W.heap.size W w') := fun W b vc ve ks h1 h2 => run_any W b vc ve ks d h1 h2 hd
  rw [hAA] at HR HRu ⊢
  have HF : Hid (∀ W, Below w.heap.size w W → FlR W (.slice p1 ls.length c1) ls) := fun W hW => h.below hW
  have HOkA : Hid (OkS (attAll [] ls)) := okS_all [] ls okS_nil (flR_ok h)
  have HD : Hid (d.ok) := hd
  have BE : Hid (Below w.heap.size w (w.alloc (Obj.cells #[.int .u32 d.n, d1v, d2v, d3v, d4v, d5v, d6v, d7v, d8v] 27))) := below_new w _
  have KD : Hid (V.Blk (w.alloc (Obj.cells #[.int .u32 d.n, d1v, d2v, d3v, d4v, d5v, d6v, d7v, d8v] 27)) w.heap.size 27 [.int .u32 d.n, d1v, d2v, d3v, d4v, d5v, d6v, d7v, d8v]) := V.blk_new w _ _
  clear h hAA hd
  generalize hdn : d.n = dn at *
  go_enter Try.func4, Try.ntmps4
  go_upto_region 1 with fail
  generalize (w.alloc (Obj.cells #[.int .u32 dn, d1v, d2v, d3v, d4v, d5v, d6v, d7v, d8v] 27)) = X1 at *
  have HKd : Hid (∀ W, Below X1.heap.size X1 W → V.Blk W w.heap.size 27 [.int .u32 dn, d1v, d2v, d3v, d4v, d5v, d6v, d7v, d8v]) := fun W hW => KD.out.over hW
  have HT : Hid (∀ W, Below X1.heap.size X1 W → Below w.heap.size w W) := fun W hW => BE.out.trans (hW.mono BE.out.size)
  go_upto_region 3 with (first | (go_at_call 8; refine (awake_any _).mono ?_; rintro e w1 ⟨rfl, b1⟩) | (go_at_call 9; refine (few_any _ _ ls (HF.out _ (HT.out _ b1))).mono ?_; rintro e w2 ⟨bb, rfl, b2, -⟩))
  have HB2 : Hid (Below X1.heap.size X1 w2) := b1.trans (b2.mono b1.size)
  clear b1 b2
  cases bb with
  | false =>
    go_wp2_with fail
    go_ret
    exact ⟨rfl, HT.out _ HB2.out⟩
  | true =>
    go_upto_region 6 with (first | (go_at_call 17; refine (built_any _ _ ls (HF.out _ (HT.out _ HB2.out))).mono ?_; rintro e w3 ⟨b, vc, ve, vi, rfl, s3, hb3, f3, -, b3⟩; obtain ⟨us3, ho3, hc3⟩ := f3; obtain ⟨ai, qi, rfl⟩ := own_slice ho3))
    have HB3 : Hid (Below X1.heap.size X1 w3) := HB2.out.trans (b3.mono HB2.out.size)
    have HS3 : Hid (∀ W, Below w3.heap.size w3 W → StkV W b vc ve (attAll [] ls)) := fun W hW => s3.over hW
    have HF3 : Hid (∀ W, Below w3.heap.size w3 W → FlR W (.slice ai (attAll [] ls).length qi) (attAll [] ls)) := fun W hW => (FlO.flR ⟨us3, ho3, hc3⟩ b3).below hW
    clear s3 hb3 b3 ho3 hc3 HF
    generalize attAll [] ls = ks at *
    have h32 := HOkA.out.2.1
    have hKd3 := HKd.out w3 HB3.out
    have n0 := hKd3.cell 0
    have n1 := hKd3.cell 1
    have n2 := hKd3.cell 2
    have n3 := hKd3.cell 3
    have n4 := hKd3.cell 4
    have n5 := hKd3.cell 5
    have n6 := hKd3.cell 6
    have n7 := hKd3.cell 7
    have n8 := hKd3.cell 8
    simp only [List.getElem?_cons_zero, List.getElem?_cons_succ] at n0 n1 n2 n3 n4 n5 n6 n7 n8
    clear hKd3
    have HRu3 := HRu.out w3 b vc ve ks (HS3.out w3 (Below.refl _ _)) HOkA.out
    have HRu4 : Hid (Calls Try.prog 15 #[.pointer (some ⟨b, 0, none⟩), .agg #[.int .u32 dn, d1v, d2v, d3v, d4v, d5v, d6v, d7v, d8v]] w3 fun e w' => e = .returned (.tuple #[.int .u32 (A.most (ansL ks d)), .int .i64 (plN (ansL ks d))]) ∧ Below w3.heap.size w3 w') := HRu3
    clear HRu3 HRu
    have HUm : Hid (A.U32 (A.most (ansL ks d)) ∧ ∀ l ∈ ks, A.U32 (V.ansV l d)) := by
      have hu : ∀ l ∈ ks, A.U32 (V.ansV l d) := fun l hl => ansV_u l d (HOkA.out.1 l hl).2 HD.out
      refine ⟨?_, hu⟩
      by_cases hn : ks = []
      · subst hn
        rw [(most_nil d).1]
        exact ⟨by decide, by decide⟩
      · have hr : ansL ks d ≠ [] := fun e => hn (List.eq_nil_of_length_eq_zero (by rw [← ansL_len ks d, e]; rfl))
        obtain ⟨p, hp⟩ := A.most_fst _ hr
        have hm := List.mem_of_getElem? hp.1
        unfold ansL at hm
        rw [List.mem_reverse] at hm
        obtain ⟨l, hl, e⟩ := List.mem_map.1 hm
        have := hu l hl
        rw [e] at this
        exact this
    have HOf : Hid (∀ (W : World) (z : Int), Below w3.heap.size w3 W → A.U32 z → Calls Try.prog 18 #[.int .u32 z] W fun e w' => e = .returned (.agg #[.int .i64 (A.ki z), .int .i64 (A.ar z)]) ∧ Below w3.heap.size w3 w') := fun W z hW hz => (A.of_any z W hz).mono (fun e w' ⟨h1, h2⟩ => ⟨h1, hW.trans (h2.mono hW.size)⟩)
    have hfd : ∀ (k a : Int) (W : World), (Instr.field 47 (.agg #[.int .i64 k, .int .i64 a]) 0).run Try.prog W = .ok (.int .i64 k) W := A.field_act
    have HLn : Hid (∀ W, Below w3.heap.size w3 W → Calls Try.prog 12 #[.pointer (some ⟨b, 0, none⟩)] W fun e w' => e = .returned (.int .i64 (ks.length : Nat)) ∧ w' = W) := fun W hW => len_any W b vc ve ks (HS3.out W hW)
    have HBe : Hid (∀ W, Below w3.heap.size w3 W → Below w.heap.size w W) := fun W hW => HT.out W (HB3.out.trans (hW.mono HB3.out.size))
    have HKe : Hid (∀ W, Below w3.heap.size w3 W → V.Blk W w.heap.size 27 [.int .u32 dn, d1v, d2v, d3v, d4v, d5v, d6v, d7v, d8v]) := fun W hW => HKd.out W (HB3.out.trans (hW.mono HB3.out.size))
    clear HKd HT HB2 BE KD HS3
    by_cases hk0 : ks = []
    · subst hk0
      have em : A.most (ansL [] d) = 2147418112 := rfl
      have ep : plN (ansL [] d) = -1 := rfl
      rw [em, ep] at HRu4
      have u32 : A.U32 2147418112 := ⟨by decide, by decide⟩
      have ek : A.ki 2147418112 = 8 := rfl
      have ea : A.ar 2147418112 = 0 := rfl
      have heq : ∀ W : World, (Op.equalIn 10000 47 (.agg #[.int .i64 8, .int .i64 0]) (.agg #[.int .i64 8, .int .i64 0])).run Try.prog W = .ok true W := fun W => A.equalIn_act 8 0 8 0 W
      have HOf2 : Hid (∀ (W : World), Below w3.heap.size w3 W → Calls Try.prog 18 #[.int .u32 2147418112] W fun e w' => e = .returned (.agg #[.int .i64 8, .int .i64 0]) ∧ Below w3.heap.size w3 w') := fun W hW => by have := HOf.out W 2147418112 hW u32; rw [ek, ea] at this; exact this
      clear HOf em ep ek ea
      go_wp2_with (first | (go_at_call 15; refine HRu4.out.mono ?_; rintro e w4 ⟨rfl, b4⟩) | (go_at_call 18; refine (HOf2.out _ b4).mono ?_; rintro e w5 ⟨rfl, b5⟩))
      go_ret
      exact ⟨rfl, HBe.out _ b5⟩
    · have hks : 0 < ks.length := List.length_pos_iff.2 hk0
      have hz0 : ((ks.length : Int) == 0) = false := by simp; omega
      obtain ⟨n, hn1, hn2, hn3, hn4, hn5⟩ := stack_most (ks.map fun l => V.ansV l d) (by simpa using hk0)
      rw [List.length_map] at hn2
      have eA : ansL ks d = (ks.map fun l => V.ansV l d).reverse := rfl
      rw [← eA] at hn1 hn3 hn4 hn5
      have HM4 : Hid (∀ (i : Nat) (hi : i < ks.length), A.ki (A.most (ansL ks d)) ≤ A.ki (V.ansV ks[i] d) ∧ (n < i → A.ki (A.most (ansL ks d)) < A.ki (V.ansV ks[i] d)) ∧ (i = n → V.ansV ks[i] d = A.most (ansL ks d))) := fun i hi => by
        have e1 : (ks.map fun l => V.ansV l d)[i]? = some (V.ansV ks[i] d) := by rw [List.getElem?_map, List.getElem?_eq_getElem hi]; rfl
        refine ⟨hn4 i _ e1, fun h => hn5 i _ h e1, fun h => ?_⟩
        subst h
        rw [hn3] at e1
        exact (Option.some.inj e1).symm
      clear hn3 hn4 hn5 eA hk0
      rw [hn1] at HRu4
      have um := HUm.out.1
      generalize A.most (ansL ks d) = mo at *
      have hn0 : ¬ (n : Int) < 0 := by omega
      have hn6 : ¬ (ks.length : Int) ≤ (n : Int) := by omega
      have hn7 : decide ((n : Int) < 0) = false := by simp
      have hn8 : decide (ks.length ≤ n) = false := by simp; omega
      have hn9 : ¬ ks.length ≤ n := by omega
      have hne : ((ks.length : Int) != (ks.length : Int)) = false := by simp
      go_wp2_with (first | (go_at_call 15; refine HRu4.out.mono ?_; rintro e w4 ⟨rfl, b4⟩) | (go_at_call 12; refine (HLn.out _ b4).mono ?_; rintro e w5 ⟨rfl, rfl⟩))
      clear n0 n1 n2 n3 n4 n5 n6 n7 n8 HRu4
      go_loopw [11] (fun vi wr => ∃ i : Nat, vi = .int .i64 i ∧ i ≤ ks.length ∧ Below w3.heap.size w3 wr) (fun vi _ => ks.length - (intOf vi).toNat)
      case atStart => exact ⟨0, rfl, Nat.zero_le _, b4⟩
      case round =>
        obtain ⟨i, rfl, hi2, hb⟩ := hrel
        have HB : Hid (Below w3.heap.size w3 wr) := hb
        by_cases hlt : i < ks.length
        · have hi1 : (i : Int) < (ks.length : Int) := by omega
          obtain ⟨fb, fo, fa, fc, rfl, e1, e2⟩ := flR_at (HF3.out w3 (Below.refl _ _)) hlt
          obtain ⟨fa', fc', ef, fi, fm, _, _⟩ := e2
          cases ef
          have HFi : Hid (∀ W, Below w3.heap.size w3 W → W.cell? ⟨fb, fo + i, none⟩ = some (.slice fa ks[i].length fc) ∧ V.Blk W w.heap.size 27 [.int .u32 dn, d1v, d2v, d3v, d4v, d5v, d6v, d7v, d8v]) := fun W hW => ⟨cellK e1 hW, HKe.out W hW⟩
          have HRx : Hid (∀ W, Below w3.heap.size w3 W → Calls Try.prog 19 #[.slice fa ks[i].length fc, .agg #[.int .u32 dn, d1v, d2v, d3v, d4v, d5v, d6v, d7v, d8v]] W fun e w' => V.RunTold W w' e ks[i] d) := fun W hW => HR.out W fa fc ks[i] (fi.below hW) fm
          have ev0 : V.errV ks[i] = 0 := (HOkA.out.1 ks[i] (List.getElem_mem hlt)).1
          have uv := HUm.out.2 ks[i] (List.getElem_mem hlt)
          obtain ⟨m1, m2, m3⟩ := HM4.out i hlt
          unfold V.RunTold at HRx
          rw [ev0] at HRx
          generalize ks[i] = fl at *
          generalize V.ansV fl d = av at *
          generalize V.plV fl d = pv at *
          clear e1 fi fm ev0
          go_upto_region 14 with fail
          have hHx : Below w3.heap.size w3 wr.drew := HB.out.drew
          have hS0 := HFi.out wr.drew hHx
          have hSb : ∀ W, Below wr.drew.heap.size wr.drew W → (fun w' => w'.cell? ⟨fb, fo + i, none⟩ = some (.slice fa fl.length fc) ∧ V.Blk w' w.heap.size 27 [.int .u32 dn, d1v, d2v, d3v, d4v, d5v, d6v, d7v, d8v]) W := fun W hW => HFi.out W (hHx.trans (hW.mono hHx.size))
          refine wp_region_held_drew (S := (fun w' => w'.cell? ⟨fb, fo + i, none⟩ = some (.slice fa fl.length fc) ∧ V.Blk w' w.heap.size 27 [.int .u32 dn, d1v, d2v, d3v, d4v, d5v, d6v, d7v, d8v])) (by kernel_rfl) (hS0) (fun hHeld => ?_)
          simp only [List.size_toArray, List.length_cons, List.length_nil, Nat.reduceAdd]
          generalize wr.drew = Z at *
          refine wpAnyH_take (i := 0) (v := ?_) rfl (by kernel_rfl) (by kernel_rfl) (by kernel_rfl) (fun _ _ _ h => h) (Or.inl ⟨by rfl, ?_⟩) hHeld ?_
          rotate_left
          · (intro w hSw; (try dsimp only at hSw); have s0 := hSw.1; have n0 := hSw.2.cell 0; have n1 := hSw.2.cell 1; have n2 := hSw.2.cell 2; have n3 := hSw.2.cell 3; have n4 := hSw.2.cell 4; have n5 := hSw.2.cell 5; have n6 := hSw.2.cell 6; have n7 := hSw.2.cell 7; have n8 := hSw.2.cell 8; go_simp; try with_reducible rfl)
          try simp only [Act.put, List.setIfInBounds_toArray, List.set_cons_zero, List.set_cons_succ, List.getElem_toArray, List.getElem_cons_zero, List.getElem_cons_succ]
          refine wpAnyH_take (i := 1) (v := ?_) rfl (by kernel_rfl) (by kernel_rfl) (by kernel_rfl) (fun _ _ _ h => h) (Or.inl ⟨by rfl, ?_⟩) hHeld ?_
          rotate_left
          · (intro w hSw; (try dsimp only at hSw); have s0 := hSw.1; have n0 := hSw.2.cell 0; have n1 := hSw.2.cell 1; have n2 := hSw.2.cell 2; have n3 := hSw.2.cell 3; have n4 := hSw.2.cell 4; have n5 := hSw.2.cell 5; have n6 := hSw.2.cell 6; have n7 := hSw.2.cell 7; have n8 := hSw.2.cell 8; go_simp; try with_reducible rfl)
          try simp only [Act.put, List.setIfInBounds_toArray, List.set_cons_zero, List.set_cons_succ, List.getElem_toArray, List.getElem_cons_zero, List.getElem_cons_succ]
          refine wpAnyH_take (i := 2) (v := ?_) rfl (by kernel_rfl) (by kernel_rfl) (by kernel_rfl) (fun _ _ _ h => h) (Or.inl ⟨by rfl, ?_⟩) hHeld ?_
          rotate_left
          · (intro w hSw; (try dsimp only at hSw); have s0 := hSw.1; have n0 := hSw.2.cell 0; have n1 := hSw.2.cell 1; have n2 := hSw.2.cell 2; have n3 := hSw.2.cell 3; have n4 := hSw.2.cell 4; have n5 := hSw.2.cell 5; have n6 := hSw.2.cell 6; have n7 := hSw.2.cell 7; have n8 := hSw.2.cell 8; go_simp; try with_reducible rfl)
          try simp only [Act.put, List.setIfInBounds_toArray, List.set_cons_zero, List.set_cons_succ, List.getElem_toArray, List.getElem_cons_zero, List.getElem_cons_succ]
          refine wpAnyH_take (i := 3) (v := ?_) rfl (by kernel_rfl) (by kernel_rfl) (by kernel_rfl) (fun _ _ _ h => h) (Or.inl ⟨by rfl, ?_⟩) hHeld ?_
          rotate_left
          · (intro w hSw; (try dsimp only at hSw); have s0 := hSw.1; have n0 := hSw.2.cell 0; have n1 := hSw.2.cell 1; have n2 := hSw.2.cell 2; have n3 := hSw.2.cell 3; have n4 := hSw.2.cell 4; have n5 := hSw.2.cell 5; have n6 := hSw.2.cell 6; have n7 := hSw.2.cell 7; have n8 := hSw.2.cell 8; go_simp; try with_reducible rfl)
          try simp only [Act.put, List.setIfInBounds_toArray, List.set_cons_zero, List.set_cons_succ, List.getElem_toArray, List.getElem_cons_zero, List.getElem_cons_succ]
          refine wpAnyH_take (i := 4) (v := ?_) rfl (by kernel_rfl) (by kernel_rfl) (by kernel_rfl) (fun _ _ _ h => h) (Or.inl ⟨by rfl, ?_⟩) hHeld ?_
          rotate_left
          · (intro w hSw; (try dsimp only at hSw); have s0 := hSw.1; have n0 := hSw.2.cell 0; have n1 := hSw.2.cell 1; have n2 := hSw.2.cell 2; have n3 := hSw.2.cell 3; have n4 := hSw.2.cell 4; have n5 := hSw.2.cell 5; have n6 := hSw.2.cell 6; have n7 := hSw.2.cell 7; have n8 := hSw.2.cell 8; go_simp; try with_reducible rfl)
          try simp only [Act.put, List.setIfInBounds_toArray, List.set_cons_zero, List.set_cons_succ, List.getElem_toArray, List.getElem_cons_zero, List.getElem_cons_succ]
          refine wpAnyH_ready (rs := [5]) (by kernel_rfl) (by simp) ?_
          refine AllReadyH.cons rfl (fun K hK => ?_) AllReadyH.nil
          go_simp
          refine (HRx.out _ hHx).mono ?_
          rintro e w4 ⟨rfl, b4⟩
          have hS4 := hSb w4 b4
          go_wp2_with fail
          refine hK.out _ _ (hS4) (fun hHeld => ?_)
          clear hK K
          try simp only [Act.put, List.setIfInBounds_toArray, List.set_cons_zero, List.set_cons_succ, List.getElem_toArray, List.getElem_cons_zero, List.getElem_cons_succ]
          refine wpAnyH_take (i := 6) (v := ?_) rfl (by kernel_rfl) (by kernel_rfl) (by kernel_rfl) (fun _ _ _ h => h) (Or.inl ⟨by rfl, ?_⟩) hHeld ?_
          rotate_left
          · (intro w hSw; (try dsimp only at hSw); go_simp; try with_reducible rfl)
          try simp only [Act.put, List.setIfInBounds_toArray, List.set_cons_zero, List.set_cons_succ, List.getElem_toArray, List.getElem_cons_zero, List.getElem_cons_succ]
          refine wpAnyH_take (i := 7) (v := ?_) rfl (by kernel_rfl) (by kernel_rfl) (by kernel_rfl) (fun _ _ _ h => h) (Or.inl ⟨by rfl, ?_⟩) hHeld ?_
          rotate_left
          · (intro w hSw; (try dsimp only at hSw); go_simp; try with_reducible rfl)
          try simp only [Act.put, List.setIfInBounds_toArray, List.set_cons_zero, List.set_cons_succ, List.getElem_toArray, List.getElem_cons_zero, List.getElem_cons_succ]
          refine wpAnyH_take (i := 8) (v := ?_) rfl (by kernel_rfl) (by kernel_rfl) (by kernel_rfl) (fun _ _ _ h => h) (Or.inl ⟨by rfl, ?_⟩) hHeld ?_
          rotate_left
          · (intro w hSw; (try dsimp only at hSw); go_simp; try with_reducible rfl)
          try simp only [Act.put, List.setIfInBounds_toArray, List.set_cons_zero, List.set_cons_succ, List.getElem_toArray, List.getElem_cons_zero, List.getElem_cons_succ]
          refine wpAnyH_take (i := 9) (v := ?_) rfl (by kernel_rfl) (by kernel_rfl) (by kernel_rfl) (fun _ _ _ h => h) (Or.inl ⟨by rfl, ?_⟩) hHeld ?_
          rotate_left
          · (intro w hSw; (try dsimp only at hSw); go_simp; try with_reducible rfl)
          try simp only [Act.put, List.setIfInBounds_toArray, List.set_cons_zero, List.set_cons_succ, List.getElem_toArray, List.getElem_cons_zero, List.getElem_cons_succ]
          refine wpAnyH_take (i := 10) (v := ?_) rfl (by kernel_rfl) (by kernel_rfl) (by kernel_rfl) (fun _ _ _ h => h) (Or.inl ⟨by rfl, ?_⟩) hHeld ?_
          rotate_left
          · (intro w hSw; (try dsimp only at hSw); go_simp; try with_reducible rfl)
          try simp only [Act.put, List.setIfInBounds_toArray, List.set_cons_zero, List.set_cons_succ, List.getElem_toArray, List.getElem_cons_zero, List.getElem_cons_succ]
          refine wpAnyH_take (i := 11) (v := ?_) rfl (by kernel_rfl) (by kernel_rfl) (by kernel_rfl) (fun _ _ _ h => h) (Or.inl ⟨by rfl, ?_⟩) hHeld ?_
          rotate_left
          · (intro w hSw; (try dsimp only at hSw); go_simp; try with_reducible rfl)
          try simp only [Act.put, List.setIfInBounds_toArray, List.set_cons_zero, List.set_cons_succ, List.getElem_toArray, List.getElem_cons_zero, List.getElem_cons_succ]
          refine wpAnyH_take (i := 12) (v := ?_) rfl (by kernel_rfl) (by kernel_rfl) (by kernel_rfl) (fun _ _ _ h => h) (Or.inl ⟨by rfl, ?_⟩) hHeld ?_
          rotate_left
          · (intro w hSw; (try dsimp only at hSw); go_simp; try with_reducible rfl)
          try simp only [Act.put, List.setIfInBounds_toArray, List.set_cons_zero, List.set_cons_succ, List.getElem_toArray, List.getElem_cons_zero, List.getElem_cons_succ]
          refine wpAnyH_done (by kernel_rfl) ?_ _
          have b5 : Below w3.heap.size w3 w4 := hHx.trans (b4.mono hHx.size)
          clear hHx hS0 hSb b4 hS4 hHeld HB hb HFi HRx
          have m1b : ¬ A.ki av < A.ki mo := by omega
          rcases Nat.lt_trichotomy i n with hin | hin | hin
          · have q1 : ((i : Int) == (n : Int)) = false := by simp; omega
            have q1n : ¬ i = n := by omega
            have q1m : (i == n) = false := by simp; omega
            have q2 : ¬ (n : Int) < (i : Int) := by omega
            have q2n : ¬ n < i := by omega
            clear m2 m3
            go_wp2_with (first | (go_at_call 18; refine (HOf.out _ _ (by assumption) (by assumption)).mono ?_; rintro e w7 ⟨rfl, b7⟩))
            go_roundw
            case rel => exact ⟨i + 1, by go_num, hlt, by assumption⟩
            case measure => simp [intOf]; omega
          · have e3 := m3 hin
            have q1 : ((i : Int) == (n : Int)) = true := by simp; omega
            have q2 : ¬ (n : Int) < (i : Int) := by omega
            have q2n : ¬ n < i := by omega
            subst e3
            have q3 : (av != av) = false := by simp
            clear m2 m3 hin
            go_wp2_with (first | (go_at_call 18; refine (HOf.out _ _ (by assumption) (by assumption)).mono ?_; rintro e w7 ⟨rfl, b7⟩))
            go_roundw
            case rel => exact ⟨i + 1, by go_num, hlt, by assumption⟩
            case measure => simp [intOf]; omega
          · have q1 : ((i : Int) == (n : Int)) = false := by simp; omega
            have q1n : ¬ i = n := by omega
            have q1m : (i == n) = false := by simp; omega
            have q2 : (n : Int) < (i : Int) := by omega
            have q2n : n < i := hin
            have q4 := m2 hin
            have q3 : (A.ki av == A.ki mo) = false := by simp; omega
            clear m2 m3
            go_wp2_with (first | (go_at_call 18; refine (HOf.out _ _ (by assumption) (by assumption)).mono ?_; rintro e w7 ⟨rfl, b7⟩))
            go_roundw
            case rel => exact ⟨i + 1, by go_num, hlt, by assumption⟩
            case measure => simp [intOf]; omega
        · have hi1 : ¬ (i : Int) < (ks.length : Int) := by omega
          go_wp2_with fail
          go_ret
          exact ⟨rfl, HBe.out _ hb⟩

end Go.Proofs.Ytamioifoemklfaa
