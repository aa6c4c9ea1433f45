/-
  The program's Reply.
-/
import Derived.Test.YtlckconhhhllkaaTSend
namespace Go.Proofs.Ytlckconhhhllkaa
open Go.RowKit Go.Maps

set_option maxHeartbeats 16000000 in
set_option maxRecDepth 8000 in
theorem reply_any (w : World) (b B : Nat) (s : Nt) (ep z k v : Int) (h : TaV w b B s) (ho : Ok s) (hz : U64 z) :
    Calls Try.prog 19 #[.pointer (some ⟨b, 0, none⟩), .int .u64 ep, .int .u64 z, .agg #[.int .i64 k, .int .i64 v]] w fun e w' => e = .returned (.int .i64 (replyE s ep z k)) ∧ Rs w w' b B (replyS s ep z k v) := by
  have HT : Hid (TaV w b B s ∧ Ok s) := ⟨h, ho⟩
  have HU : Hid (U64 z) := hz
  obtain ⟨RE, hRE⟩ : ∃ q, replyE s ep z k = q := ⟨_, rfl⟩
  obtain ⟨RS, hRS⟩ : ∃ q, replyS s ep z k v = q := ⟨_, rfl⟩
  have HA : Hid (replyE s ep z k = RE ∧ replyS s ep z k v = RS) := ⟨hRE, hRS⟩
  have HE : Hid (∀ e : Int, replyE s ep z k = e → e ≠ 0 → RE = e ∧ RS = s) := fun e h1 h2 => by
    refine ⟨hRE.symm.trans h1, ?_⟩
    rw [← hRS]
    unfold replyS
    rw [if_neg (by rw [h1]; exact h2)]
  rw [hRE, hRS]
  have H1 : Hid (Blk (w.alloc (.cells #[.int .i64 k, .int .i64 v] 35)) w.heap.size 35 [.int .i64 k, .int .i64 v] ∧ Below w.heap.size w (w.alloc (.cells #[.int .i64 k, .int .i64 v] 35)) ∧ TaV (w.alloc (.cells #[.int .i64 k, .int .i64 v] 35)) b B s) := ⟨blk_new _ _ _, below_new _ _, h.over (below_new _ _)⟩
  clear h ho hz hRE hRS
  go_enter Try.func19, Try.ntmps19
  go_upto_region 1 with fail
  obtain ⟨ob, hob⟩ : ∃ q, w.heap.size = q := ⟨_, rfl⟩
  have HOB : Hid (w.heap.size = ob) := hob
  rw [hob] at H1 ⊢
  clear hob
  generalize (w.alloc (.cells #[.int .i64 k, .int .i64 v] 35)) = w1 at *
  have HB1 : Hid (Below w.heap.size w w1) := by rw [HOB.out]; exact H1.out.2.1
  have c3 := H1.out.2.2.blk.cell 3
  have c4 := H1.out.2.2.blk.cell 4
  by_cases hep : ep = s.ep
  · have r0 : (ep != s.ep) = false := by simp [hep]
    have r0' : (ep == s.ep) = true := by simp [hep]
    have HEP : Hid (ep = s.ep) := hep
    clear hep
    have HBN : Hid (∀ C : Array Value, Blk (w1.alloc (.cells C 44)) ob 35 [.int .i64 k, .int .i64 v] ∧ Blk (w1.alloc (.cells C 44)) w1.heap.size 44 C.toList ∧ Below w.heap.size w (w1.alloc (.cells C 44))) := fun C => ⟨H1.out.1.over (below_new _ _), blk_new _ _ _, HB1.out.alloc HB1.out.size _⟩
    have HBX0 : Hid (w.heap.size ≤ w1.heap.size) := HB1.out.size
    cases hfd : findI s.L z with
    | none =>
      have HK : Hid (RE = 17 ∧ RS = s) := HE.out 17 (by unfold replyE; rw [if_neg (by rw [HEP.out]; simp), hfd]) (by omega)
      have HX : Hid ((findI s.L z).getD En.zero = En.zero ∧ (findI s.L z).isSome = false) := by constructor <;> rw [hfd] <;> rfl
      clear hfd
      have H3 := (HBN.out #[.int .u64 0, .int .i64 0, .int .i64 0, .int .i64 0, .int .i64 0, .int .i64 0]).2.2
      have H3' : Hid (Below w.heap.size w (w1.alloc (.cells #[.int .u64 0, .int .i64 0, .int .i64 0, .int .i64 0, .int .i64 0, .int .i64 0] 44))) := H3
      clear H3
      go_upto_region 4 with (first | (at_lookup; refine list_getE rfl _ _ rfl rfl rfl HU.out H1.out.2.2.m ?_; rw [HX.out.1, HX.out.2]; dsimp only [En.v, En.zero]) | go_in)
      go_wp2_with fail
      go_ret
      exact ⟨by rw [HK.out.1]; rfl, by rw [HK.out.2]; exact Rs.below HT.out.1 H3'.out⟩
    | some x =>
      obtain ⟨hx1, rfl⟩ := findI_some hfd
      obtain ⟨z, q2, q3, q4, q5, q6⟩ := x
      simp only at *
      have HX : Hid ((⟨z, q2, q3, q4, q5, q6⟩ : En) ∈ s.L) := hx1
      have HXX : Hid ((findI s.L z).getD En.zero = ⟨z, q2, q3, q4, q5, q6⟩ ∧ (findI s.L z).isSome = true) := by constructor <;> rw [hfd] <;> rfl
      have HF0 : Hid (replyE s ep z k = if q3 ≠ 2 then 18 else if k < 1 ∨ 3 < k then 1 else 0) := by
        show _ = _
        unfold replyE
        rw [if_neg (by rw [HEP.out]; simp), hfd]
      clear hfd hx1
      have H3 : Hid (Blk (w1.alloc (.cells #[.int .u64 z, .int .i64 q2, .int .i64 q3, .int .i64 q4, .int .i64 q5, .int .i64 q6] 44)) ob 35 [.int .i64 k, .int .i64 v] ∧ Blk (w1.alloc (.cells #[.int .u64 z, .int .i64 q2, .int .i64 q3, .int .i64 q4, .int .i64 q5, .int .i64 q6] 44)) w1.heap.size 44 [.int .u64 z, .int .i64 q2, .int .i64 q3, .int .i64 q4, .int .i64 q5, .int .i64 q6] ∧ Below w.heap.size w (w1.alloc (.cells #[.int .u64 z, .int .i64 q2, .int .i64 q3, .int .i64 q4, .int .i64 q5, .int .i64 q6] 44))) := HBN.out #[.int .u64 z, .int .i64 q2, .int .i64 q3, .int .i64 q4, .int .i64 q5, .int .i64 q6]
      go_upto_region 4 with (first | (at_lookup; refine list_getE rfl _ _ rfl rfl rfl HU.out H1.out.2.2.m ?_; rw [HXX.out.1, HXX.out.2]; dsimp only [En.v]) | go_in)
      have HBX : Hid (w.heap.size ≤ w1.heap.size) := HBX0.out
      clear HBN HBX0 c3 c4 HB1 H1
      generalize (w1.alloc (.cells #[.int .u64 z, .int .i64 q2, .int .i64 q3, .int .i64 q4, .int .i64 q5, .int .i64 q6] 44)) = w3 at *
      generalize w1.heap.size = bx at *
      by_cases hq3 : q3 = 2
      · subst hq3
        have HF : Hid (replyE s ep z k = if k < 1 ∨ 3 < k then 1 else 0) := by
          show _ = _
          rw [HF0.out, if_neg (by omega)]
        clear HF0
        have m2 := H3.out.2.1.cell 2
        have o0 := H3.out.1.cell 0
        by_cases hk1 : k = 1
        · have r1 : (k == 1) = true := by simp [hk1]
          have hkr : 1 ≤ k ∧ k ≤ 3 := by omega
          clear hk1
          have HK : Hid (RE = 0 ∧ RS = { s with L := putL s.L ⟨z, q2, 3, q4, k, v⟩ }) := by
            have hz : replyE s ep z k = 0 := by rw [HF.out, if_neg (by omega)]
            refine ⟨HA.out.1.symm.trans hz, ?_⟩
            rw [← HA.out.2]
            unfold replyS
            rw [if_pos hz]
            have := reply_put HT.out.2 HX.out k v
            simp only at this
            rw [this]
            rfl
          clear HF hkr HE
          go_upto_region 13 with fail
          have m0 := H3.out.2.1.cell 0
          have m1 := H3.out.2.1.cell 1
          have m2 := H3.out.2.1.cell 2
          have m3 := H3.out.2.1.cell 3
          have m4 := H3.out.2.1.cell 4
          have m5 := H3.out.2.1.cell 5
          have f0 := H3.out.2.1.f 0
          have f1 := H3.out.2.1.f 1
          have f2 := H3.out.2.1.f 2
          have f3 := H3.out.2.1.f 3
          have f4 := H3.out.2.1.f 4
          have f5 := H3.out.2.1.f 5
          have o0 := H3.out.1.cell 0
          have o1 := H3.out.1.cell 1
          go_big_region
          clear m0 m1 m2 m3 m4 m5 f0 f1 f2 f3 f4 f5 o0 o1
          have H4 : Hid (Blk (((w3.setCell ⟨bx, 2, none⟩ (.int .i64 3)).setCell ⟨bx, 4, none⟩ (.int .i64 k)).setCell ⟨bx, 5, none⟩ (.int .i64 v)).drew bx 44 [.int .u64 z, .int .i64 q2, .int .i64 3, .int .i64 q4, .int .i64 k, .int .i64 v] ∧ Below w.heap.size w (((w3.setCell ⟨bx, 2, none⟩ (.int .i64 3)).setCell ⟨bx, 4, none⟩ (.int .i64 k)).setCell ⟨bx, 5, none⟩ (.int .i64 v)).drew) :=
            ⟨(((H3.out.2.1.set 2 _).set 4 _).set 5 _).drew, (H3.out.2.2.trans ((below_set HBX.out).trans ((below_set HBX.out).trans (below_set HBX.out)))).drew⟩
          generalize (((w3.setCell ⟨bx, 2, none⟩ (.int .i64 3)).setCell ⟨bx, 4, none⟩ (.int .i64 k)).setCell ⟨bx, 5, none⟩ (.int .i64 v)).drew = W4 at *
          have H5 : Hid (TaV W4 b B s) := HT.out.1.over H4.out.2
          obtain ⟨w5, hrun, h6, _, h8⟩ := run_putE (x := ⟨z, q2, 3, q4, k, v⟩) (w := W4.drew) (H5.out.m.over (Below.refl _ _).drew) HU.out (by have h1 := HT.out.2.len; have h2 := HT.out.2.z1; omega)
          dsimp only [En.v] at hrun
          have H6 : Hid (Rs w w5 b B { s with L := putL s.L ⟨z, q2, 3, q4, k, v⟩ }) := by
            have hf : Fr [] [B] 0 W4.drew w5 := fr_turn h8.grown (by simp)
            have hd : Below W4.heap.size W4 W4.drew := (Below.refl _ _).drew
            exact ⟨⟨(H5.out.blk.over hd).fr hf (by simp) (by simpa using H5.out.ne), h6 ⟨_, HX.out, rfl⟩, H5.out.ne⟩, (fr_below H4.out.2 (Nat.zero_le _)).trans ((fr_below hd (Nat.zero_le _)).trans (hf.mono (by simp) (by simp)))⟩
          clear h6 h8
          have c4 := H5.out.blk.cell 4
          have m0 := H4.out.1.cell 0
          have m1 := H4.out.1.cell 1
          have m2 := H4.out.1.cell 2
          have m3 := H4.out.1.cell 3
          have m4 := H4.out.1.cell 4
          have m5 := H4.out.1.cell 5
          go_upto_region 14 with fail
          go_big_region
          go_wp2_with fail
          go_ret
          exact ⟨by rw [HK.out.1]; rfl, by rw [HK.out.2]; exact H6.out⟩
        · have r1 : (k == 1) = false := by simp [hk1]
          by_cases hk2 : k = 2
          · have r2 : (k == 2) = true := by simp [hk2]
            have hkr : 1 ≤ k ∧ k ≤ 3 := by omega
            clear hk1 hk2
            have HK : Hid (RE = 0 ∧ RS = { s with L := putL s.L ⟨z, q2, 3, q4, k, v⟩ }) := by
              have hz : replyE s ep z k = 0 := by rw [HF.out, if_neg (by omega)]
              refine ⟨HA.out.1.symm.trans hz, ?_⟩
              rw [← HA.out.2]
              unfold replyS
              rw [if_pos hz]
              have := reply_put HT.out.2 HX.out k v
              simp only at this
              rw [this]
              rfl
            clear HF hkr HE
            go_upto_region 13 with fail
            have m0 := H3.out.2.1.cell 0
            have m1 := H3.out.2.1.cell 1
            have m2 := H3.out.2.1.cell 2
            have m3 := H3.out.2.1.cell 3
            have m4 := H3.out.2.1.cell 4
            have m5 := H3.out.2.1.cell 5
            have f0 := H3.out.2.1.f 0
            have f1 := H3.out.2.1.f 1
            have f2 := H3.out.2.1.f 2
            have f3 := H3.out.2.1.f 3
            have f4 := H3.out.2.1.f 4
            have f5 := H3.out.2.1.f 5
            have o0 := H3.out.1.cell 0
            have o1 := H3.out.1.cell 1
            go_big_region
            clear m0 m1 m2 m3 m4 m5 f0 f1 f2 f3 f4 f5 o0 o1
            have H4 : Hid (Blk (((w3.setCell ⟨bx, 2, none⟩ (.int .i64 3)).setCell ⟨bx, 4, none⟩ (.int .i64 k)).setCell ⟨bx, 5, none⟩ (.int .i64 v)).drew bx 44 [.int .u64 z, .int .i64 q2, .int .i64 3, .int .i64 q4, .int .i64 k, .int .i64 v] ∧ Below w.heap.size w (((w3.setCell ⟨bx, 2, none⟩ (.int .i64 3)).setCell ⟨bx, 4, none⟩ (.int .i64 k)).setCell ⟨bx, 5, none⟩ (.int .i64 v)).drew) :=
              ⟨(((H3.out.2.1.set 2 _).set 4 _).set 5 _).drew, (H3.out.2.2.trans ((below_set HBX.out).trans ((below_set HBX.out).trans (below_set HBX.out)))).drew⟩
            generalize (((w3.setCell ⟨bx, 2, none⟩ (.int .i64 3)).setCell ⟨bx, 4, none⟩ (.int .i64 k)).setCell ⟨bx, 5, none⟩ (.int .i64 v)).drew = W4 at *
            have H5 : Hid (TaV W4 b B s) := HT.out.1.over H4.out.2
            obtain ⟨w5, hrun, h6, _, h8⟩ := run_putE (x := ⟨z, q2, 3, q4, k, v⟩) (w := W4.drew) (H5.out.m.over (Below.refl _ _).drew) HU.out (by have h1 := HT.out.2.len; have h2 := HT.out.2.z1; omega)
            dsimp only [En.v] at hrun
            have H6 : Hid (Rs w w5 b B { s with L := putL s.L ⟨z, q2, 3, q4, k, v⟩ }) := by
              have hf : Fr [] [B] 0 W4.drew w5 := fr_turn h8.grown (by simp)
              have hd : Below W4.heap.size W4 W4.drew := (Below.refl _ _).drew
              exact ⟨⟨(H5.out.blk.over hd).fr hf (by simp) (by simpa using H5.out.ne), h6 ⟨_, HX.out, rfl⟩, H5.out.ne⟩, (fr_below H4.out.2 (Nat.zero_le _)).trans ((fr_below hd (Nat.zero_le _)).trans (hf.mono (by simp) (by simp)))⟩
            clear h6 h8
            have c4 := H5.out.blk.cell 4
            have m0 := H4.out.1.cell 0
            have m1 := H4.out.1.cell 1
            have m2 := H4.out.1.cell 2
            have m3 := H4.out.1.cell 3
            have m4 := H4.out.1.cell 4
            have m5 := H4.out.1.cell 5
            go_upto_region 14 with fail
            go_big_region
            go_wp2_with fail
            go_ret
            exact ⟨by rw [HK.out.1]; rfl, by rw [HK.out.2]; exact H6.out⟩
          · have r2 : (k == 2) = false := by simp [hk2]
            by_cases hk3 : k = 3
            · have r3 : (k == 3) = true := by simp [hk3]
              have hkr : 1 ≤ k ∧ k ≤ 3 := by omega
              clear hk1 hk2 hk3
              have HK : Hid (RE = 0 ∧ RS = { s with L := putL s.L ⟨z, q2, 3, q4, k, v⟩ }) := by
                have hz : replyE s ep z k = 0 := by rw [HF.out, if_neg (by omega)]
                refine ⟨HA.out.1.symm.trans hz, ?_⟩
                rw [← HA.out.2]
                unfold replyS
                rw [if_pos hz]
                have := reply_put HT.out.2 HX.out k v
                simp only at this
                rw [this]
                rfl
              clear HF hkr HE
              go_upto_region 13 with fail
              have m0 := H3.out.2.1.cell 0
              have m1 := H3.out.2.1.cell 1
              have m2 := H3.out.2.1.cell 2
              have m3 := H3.out.2.1.cell 3
              have m4 := H3.out.2.1.cell 4
              have m5 := H3.out.2.1.cell 5
              have f0 := H3.out.2.1.f 0
              have f1 := H3.out.2.1.f 1
              have f2 := H3.out.2.1.f 2
              have f3 := H3.out.2.1.f 3
              have f4 := H3.out.2.1.f 4
              have f5 := H3.out.2.1.f 5
              have o0 := H3.out.1.cell 0
              have o1 := H3.out.1.cell 1
              go_big_region
              clear m0 m1 m2 m3 m4 m5 f0 f1 f2 f3 f4 f5 o0 o1
              have H4 : Hid (Blk (((w3.setCell ⟨bx, 2, none⟩ (.int .i64 3)).setCell ⟨bx, 4, none⟩ (.int .i64 k)).setCell ⟨bx, 5, none⟩ (.int .i64 v)).drew bx 44 [.int .u64 z, .int .i64 q2, .int .i64 3, .int .i64 q4, .int .i64 k, .int .i64 v] ∧ Below w.heap.size w (((w3.setCell ⟨bx, 2, none⟩ (.int .i64 3)).setCell ⟨bx, 4, none⟩ (.int .i64 k)).setCell ⟨bx, 5, none⟩ (.int .i64 v)).drew) :=
                ⟨(((H3.out.2.1.set 2 _).set 4 _).set 5 _).drew, (H3.out.2.2.trans ((below_set HBX.out).trans ((below_set HBX.out).trans (below_set HBX.out)))).drew⟩
              generalize (((w3.setCell ⟨bx, 2, none⟩ (.int .i64 3)).setCell ⟨bx, 4, none⟩ (.int .i64 k)).setCell ⟨bx, 5, none⟩ (.int .i64 v)).drew = W4 at *
              have H5 : Hid (TaV W4 b B s) := HT.out.1.over H4.out.2
              obtain ⟨w5, hrun, h6, _, h8⟩ := run_putE (x := ⟨z, q2, 3, q4, k, v⟩) (w := W4.drew) (H5.out.m.over (Below.refl _ _).drew) HU.out (by have h1 := HT.out.2.len; have h2 := HT.out.2.z1; omega)
              dsimp only [En.v] at hrun
              have H6 : Hid (Rs w w5 b B { s with L := putL s.L ⟨z, q2, 3, q4, k, v⟩ }) := by
                have hf : Fr [] [B] 0 W4.drew w5 := fr_turn h8.grown (by simp)
                have hd : Below W4.heap.size W4 W4.drew := (Below.refl _ _).drew
                exact ⟨⟨(H5.out.blk.over hd).fr hf (by simp) (by simpa using H5.out.ne), h6 ⟨_, HX.out, rfl⟩, H5.out.ne⟩, (fr_below H4.out.2 (Nat.zero_le _)).trans ((fr_below hd (Nat.zero_le _)).trans (hf.mono (by simp) (by simp)))⟩
              clear h6 h8
              have c4 := H5.out.blk.cell 4
              have m0 := H4.out.1.cell 0
              have m1 := H4.out.1.cell 1
              have m2 := H4.out.1.cell 2
              have m3 := H4.out.1.cell 3
              have m4 := H4.out.1.cell 4
              have m5 := H4.out.1.cell 5
              go_upto_region 14 with fail
              go_big_region
              go_wp2_with fail
              go_ret
              exact ⟨by rw [HK.out.1]; rfl, by rw [HK.out.2]; exact H6.out⟩
            · have r3 : (k == 3) = false := by simp [hk3]
              have HK : Hid (RE = 1 ∧ RS = s) := HE.out 1 (by rw [HF.out, if_pos (by omega)]) (by omega)
              clear hk1 hk2 hk3
              go_wp2_with fail
              go_ret
              exact ⟨by rw [HK.out.1]; rfl, by rw [HK.out.2]; exact Rs.below HT.out.1 H3.out.2.2⟩
      · have r1 : (q3 != 2) = true := by simp [hq3]
        have r1' : (q3 == 2) = false := by simp [hq3]
        have HK : Hid (RE = 18 ∧ RS = s) := HE.out 18 (by rw [HF0.out, if_pos hq3]) (by omega)
        have m2 := H3.out.2.1.cell 2
        clear hq3
        go_wp2_with fail
        go_ret
        exact ⟨by rw [HK.out.1]; rfl, by rw [HK.out.2]; exact Rs.below HT.out.1 H3.out.2.2⟩
  · have r0 : (ep != s.ep) = true := by simp [hep]
    have r0' : (ep == s.ep) = false := by simp [hep]
    have HK : Hid (RE = 22 ∧ RS = s) := HE.out 22 (by unfold replyE; rw [if_pos hep]) (by omega)
    clear hep
    go_wp2_with fail
    go_ret
    exact ⟨by rw [HK.out.1]; rfl, by rw [HK.out.2]; exact Rs.below HT.out.1 HB1.out⟩

end Go.Proofs.Ytlckconhhhllkaa
