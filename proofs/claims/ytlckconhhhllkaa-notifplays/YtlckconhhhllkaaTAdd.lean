/-
  The program's Add.
-/
import Derived.Test.YtlckconhhhllkaaTOps
import Derived.Test.YtlckconhhhllkaaRAdd
namespace Go.Proofs.Ytlckconhhhllkaa
open Go.RowKit Go.Maps

/-- a cell of a box that may turn. -/
theorem fr_box {K X : List Nat} {w : World} {b i : Nat} {v : Value} (hX : b ∈ X) : Fr K X 0 w (w.setCell ⟨b, i, none⟩ v) :=
  ⟨⟨by simp [World.setCell], by simp [World.setCell], by simp [World.setCell], by simp, fun k hk => absurd hk (Nat.not_lt_zero _)⟩, fun k o hk _ hx => by
    rw [heap_setCell_other w ⟨b, i, none⟩ k v (fun e => hx (by have : k = b := e; rw [this]; exact hX))]
    exact hk⟩
theorem hasTask_ofO {L : List En} {t : Int} : hasTask L t = (ofO L t).isSome := by
  cases h : ofO L t with
  | none =>
    show _ = false
    rw [Bool.eq_false_iff]
    intro e
    obtain ⟨x, hx, e⟩ := hasTask_iff.1 e
    exact ofO_no h x hx e
  | some x => exact hasTask_iff.2 ⟨x, (ofO_in h).1, (ofO_in h).2⟩
/-- 'len(m)' where a region draws. -/
theorem run_lenE {w : World} {B : Nat} {L : List En} (h : MpE w B L) (n : Nat) (ty : TypeId) : (Builtin.len_ #[60] ty #[.map (some B)]).run Try.prog (w.drewN n) = .ok (.int .i64 L.length) (w.drewN n) := by
  obtain ⟨D, ho, hv⟩ := h.over (below_drewN w n)
  rw [ho.len Try.underlying60 ty, hv.size]

set_option maxHeartbeats 16000000 in
set_option maxRecDepth 8000 in
theorem add_any (w : World) (b B : Nat) (s : Nt) (t : Int) (h : TaV w b B s) (ho : Ok s) :
    Calls Try.prog 21 #[.pointer (some ⟨b, 0, none⟩), .int .i64 t] w fun e w' => e = .returned (.tuple #[.int .u64 (addI s t), .int .i64 (addE s t)]) ∧ Rs w w' b B (addS s t) := by
  have HT : Hid (TaV w b B s ∧ Ok s) := ⟨h, ho⟩
  obtain ⟨AIx, hAI⟩ : ∃ q, addI s t = q := ⟨_, rfl⟩
  obtain ⟨AEx, hAE⟩ : ∃ q, addE s t = q := ⟨_, rfl⟩
  obtain ⟨ASx, hAS⟩ : ∃ q, addS s t = q := ⟨_, rfl⟩
  have HAD : Hid (addI s t = AIx ∧ addE s t = AEx ∧ addS s t = ASx) := ⟨hAI, hAE, hAS⟩
  have HER : Hid (∀ e : Int, addE s t = e → e ≠ 0 → AIx = 0 ∧ AEx = e ∧ ASx = s) := fun e h1 h2 => by
    obtain ⟨q1, q2, q3⟩ := add_err h1 h2
    exact ⟨hAI.symm.trans q1, hAE.symm.trans q2, hAS.symm.trans q3⟩
  have HOF : Hid (Calls Try.prog 35 #[.pointer (some ⟨b, 0, none⟩), .int .i64 t] w fun e w' => e = .returned (optV (ofO s.L t)) ∧ Below w.heap.size w w') := of_any w b B s t h ho.one ho.up
  rw [hAI, hAE, hAS]
  clear h ho hAI hAE hAS
  by_cases ht1 : t < 1
  · have r1 : decide (t < 1) = true := decide_eq_true ht1
    have HK : Hid (AIx = 0 ∧ AEx = 1 ∧ ASx = s) := HER.out 1 (by unfold addE; rw [if_pos (by omega)]) (by omega)
    clear HER HAD HOF
    go_enter Try.func21, Try.ntmps21
    go_wp2_with fail
    go_ret2
    exact ⟨by rw [HK.out.1, HK.out.2.1]; rfl, by rw [HK.out.2.2]; exact Rs.below HT.out.1 (Below.refl _ _)⟩
  · have r1 : decide (t < 1) = false := decide_eq_false ht1
    by_cases ht4 : 4 < t
    · have r2 : decide (4 < t) = true := decide_eq_true ht4
      have HK : Hid (AIx = 0 ∧ AEx = 1 ∧ ASx = s) := HER.out 1 (by unfold addE; rw [if_pos (by omega)]) (by omega)
      clear HER HAD HOF
      go_enter Try.func21, Try.ntmps21
      go_wp2_with fail
      go_ret2
      exact ⟨by rw [HK.out.1, HK.out.2.1]; rfl, by rw [HK.out.2.2]; exact Rs.below HT.out.1 (Below.refl _ _)⟩
    · have r2 : decide (4 < t) = false := decide_eq_false ht4
      have HT4 : Hid (¬ (t < 1 ∨ 4 < t)) := by show ¬ _; omega
      go_enter Try.func21, Try.ntmps21
      go_wp2_with fail
      refine HOF.out.mono ?_
      rintro e w2 ⟨rfl, hb2⟩
      cases hof : ofO s.L t with
      | some x =>
        have HK : Hid (AIx = 0 ∧ AEx = 21 ∧ ASx = s) := HER.out 21 (by unfold addE; rw [if_neg HT4.out, if_pos (by rw [hasTask_ofO, hof]; rfl)]) (by omega)
        have HB : Hid (Below w.heap.size w w2) := hb2
        clear HER HAD HOF hof hb2
        obtain ⟨q1, q2, q3, q4, q5, q6⟩ := x
        have H3 : Hid (Below w.heap.size w (w2.alloc (.cells #[.int .u64 q1, .int .i64 q2, .int .i64 q3, .int .i64 q4, .int .i64 q5, .int .i64 q6] 44))) := HB.out.alloc HB.out.size _
        unfold optV
        dsimp only [Option.getD, Option.isSome, En.v]
        go_wp2_with fail
        go_ret2
        exact ⟨by rw [HK.out.1, HK.out.2.1]; rfl, by rw [HK.out.2.2]; exact Rs.below HT.out.1 H3.out⟩
      | none =>
        have HNT : Hid (¬ hasTask s.L t = true) := by show ¬ _; rw [hasTask_ofO, hof]; exact Bool.false_ne_true
        have H3 : Hid (TaV (w2.alloc (.cells #[.int .u64 0, .int .i64 0, .int .i64 0, .int .i64 0, .int .i64 0, .int .i64 0] 44)) b B s ∧ Below w.heap.size w (w2.alloc (.cells #[.int .u64 0, .int .i64 0, .int .i64 0, .int .i64 0, .int .i64 0, .int .i64 0] 44))) := ⟨(HT.out.1.over hb2).over (below_new _ _), hb2.alloc hb2.size _⟩
        clear HOF hof hb2
        unfold optV
        dsimp only [Option.getD, Option.isSome, En.v, En.zero]
        go_upto_region 4 with fail
        generalize (w2.alloc (.cells #[.int .u64 0, .int .i64 0, .int .i64 0, .int .i64 0, .int .i64 0, .int .i64 0] 44)) = w3 at *
        obtain ⟨sz, wt, nx, e0, L⟩ := s
        obtain ⟨n, hn⟩ : ∃ n, L.length = n := ⟨_, rfl⟩
        have HN : Hid (L.length = n ∧ n ≤ 8) := ⟨hn, by have h1 := HT.out.2.len; have h2 := HT.out.2.z1; simp only at h1 h2; omega⟩
        have hlen : ∀ (k : Nat) (ty : TypeId), (Builtin.len_ #[60] ty #[.map (some B)]).run Try.prog (w3.drewN k) = .ok (.int .i64 n) (w3.drewN k) := fun k ty => by
          have := run_lenE H3.out.1.m k ty
          simp only at this
          rw [hn] at this
          exact this
        have HFN : Hid (addE ⟨sz, wt, nx, e0, L⟩ t = if sz ≤ (n : Int) ∨ nx = 18446744073709551615 then 16 else 0) := by
          show _ = _
          unfold addE
          rw [if_neg HT4.out, if_neg HNT.out]
          simp only
          rw [hn]
        have HNX : Hid (0 ≤ nx ∧ nx ≤ 18446744073709551615) := ⟨HT.out.2.n0, HT.out.2.n1⟩
        have HAS : Hid (addE ⟨sz, wt, nx, e0, L⟩ t = 0 → AIx = nx ∧ AEx = 0 ∧ ASx = ⟨sz, wt, nx + 1, e0, L ++ [⟨nx, t, 1, wt, 0, 0⟩]⟩) := fun he => by
          refine ⟨?_, HAD.out.2.1.symm.trans he, ?_⟩
          · rw [← HAD.out.1]
            unfold addI
            rw [if_pos he]
          · rw [← HAD.out.2.2]
            unfold addS
            rw [if_pos he]
        have k0 := H3.out.1.blk.cell 0
        have k2 := H3.out.1.blk.cell 2
        have k4 := H3.out.1.blk.cell 4
        clear hn HAD
        by_cases hfl : sz ≤ (n : Int)
        · have r3 : decide (sz ≤ (n : Int)) = true := decide_eq_true hfl
          have r3' : sz ≤ (n : Int) := hfl
          have HK : Hid (AIx = 0 ∧ AEx = 16 ∧ ASx = ⟨sz, wt, nx, e0, L⟩) := HER.out 16 (by rw [HFN.out, if_pos (.inl hfl)]) (by omega)
          have HFD : Hid (∀ m, Below w.heap.size w (w3.drewN m)) := fun m => H3.out.2.trans ((below_drewN w3 m).mono H3.out.2.size)
          clear hfl HER HAS
          go_wp2_with fail
          go_quiet (fail)
          go_wp2_with fail
          go_ret2
          exact ⟨by rw [HK.out.1, HK.out.2.1]; rfl, by rw [HK.out.2.2]; exact Rs.below HT.out.1 (HFD.out _)⟩
        · have r3 : decide (sz ≤ (n : Int)) = false := decide_eq_false hfl
          by_cases hmx : nx = 18446744073709551615
          · have r4 : (nx == 18446744073709551615) = true := by simp [hmx]
            have HK : Hid (AIx = 0 ∧ AEx = 16 ∧ ASx = ⟨sz, wt, nx, e0, L⟩) := HER.out 16 (by rw [HFN.out, if_pos (.inr hmx)]) (by omega)
            have HFD : Hid (∀ m, Below w.heap.size w (w3.drewN m)) := fun m => H3.out.2.trans ((below_drewN w3 m).mono H3.out.2.size)
            clear hmx HER HAS
            go_wp2_with fail
            go_quiet (fail)
            go_wp2_with fail
            go_ret2
            exact ⟨by rw [HK.out.1, HK.out.2.1]; rfl, by rw [HK.out.2.2]; exact Rs.below HT.out.1 (HFD.out _)⟩
          · have r4 : (nx == 18446744073709551615) = false := by simp [hmx]
            have HK : Hid (AIx = nx ∧ AEx = 0 ∧ ASx = ⟨sz, wt, nx + 1, e0, L ++ [⟨nx, t, 1, wt, 0, 0⟩]⟩) := HAS.out (by rw [HFN.out, if_neg (by omega)])
            have w1' : IntKind.u64.wrap (nx + 1) = nx + 1 := wrap_u' (by have := HNX.out; omega) (by have := HNX.out; omega)
            have w2' : IntKind.u64.wrap (nx + 1 - 1) = nx := by rw [show nx + 1 - 1 = nx by omega]; exact wrap_u' HNX.out.1 (by have := HNX.out; omega)
            have w3' : IntKind.u64.wrap nx = nx := wrap_u' HNX.out.1 (by have := HNX.out; omega)
            have HQD : Hid (∀ m, TaV (w3.drewN m) b B ⟨sz, wt, nx, e0, L⟩ ∧ Below w.heap.size w (w3.drewN m)) := fun m => ⟨H3.out.1.over (below_drewN w3 m), H3.out.2.trans ((below_drewN w3 m).mono H3.out.2.size)⟩
            have HU : Hid (U64 nx) := by have := HNX.out; exact ⟨this.1, by omega⟩
            clear hmx hfl HER HAS
            go_wp2_with fail
            go_quiet (fail)
            have H4 : Hid (TaV (w3.drewN nq) b B ⟨sz, wt, nx, e0, L⟩ ∧ Below w.heap.size w (w3.drewN nq)) := HQD.out nq
            clear HQD k0 k2 k4 hlen H3
            generalize w3.drewN nq = W1 at *
            have k2 := H4.out.1.blk.cell 2
            have f2 := H4.out.1.blk.f 2
            have HB5 : Hid (Blk (W1.setCell ⟨b, 2, none⟩ (.int .u64 (nx + 1))) b 62 [.int .i64 sz, .int .i64 wt, .int .u64 (nx + 1), .int .u64 e0, .map (some B)]) := H4.out.1.blk.set 2 _
            have HF5 : Fr [] [b] 0 W1 (W1.setCell ⟨b, 2, none⟩ (.int .u64 (nx + 1))) := fr_box (by simp)
            have H5 : Hid (MpE (W1.setCell ⟨b, 2, none⟩ (.int .u64 (nx + 1))).drew B L ∧ Blk (W1.setCell ⟨b, 2, none⟩ (.int .u64 (nx + 1))).drew b 62 [.int .i64 sz, .int .i64 wt, .int .u64 (nx + 1), .int .u64 e0, .map (some B)] ∧ Fr [] [b, B] 0 W1 (W1.setCell ⟨b, 2, none⟩ (.int .u64 (nx + 1))).drew) :=
              ⟨(H4.out.1.m.fr HF5 (by simpa using fun e : B = b => H4.out.1.ne e.symm)).over (Below.refl _ _).drew, HB5.out.over (Below.refl _ _).drew, (HF5.mono (by simp) (by simp)).trans (fr_below (Below.refl _ _).drew (Nat.zero_le _))⟩
            obtain ⟨w5, hrun, _, h7, h8⟩ := run_putE (x := ⟨nx, t, 1, wt, 0, 0⟩) H5.out.1 HU.out (by have := HN.out; omega)
            dsimp only [En.v] at hrun
            have H6 : Hid (TaV w5 b B ⟨sz, wt, nx + 1, e0, L ++ [⟨nx, t, 1, wt, 0, 0⟩]⟩ ∧ Fr [] [b, B] 0 (W1.setCell ⟨b, 2, none⟩ (.int .u64 (nx + 1))).drew w5) := by
              have hf : Fr [] [B] 0 (W1.setCell ⟨b, 2, none⟩ (.int .u64 (nx + 1))).drew w5 := fr_turn h8.grown (by simp)
              exact ⟨⟨H5.out.2.1.fr hf (by simp) (by simpa using H4.out.1.ne), h7 fun y hy e => by
                have h9 := (HT.out.2.all y hy).i1
                simp only at h9 e
                omega, H4.out.1.ne⟩, hf.mono (by simp) (by simp)⟩
            clear h7 h8 HF5
            go_upto_region 10 with fail
            generalize W1.setCell ⟨b, 2, none⟩ (.int .u64 (nx + 1)) = W2 at *
            clear k2 f2
            have c1 := HB5.out.cell 1
            have c4 := HB5.out.cell 4
            go_big_region
            go_wp2_with fail
            go_ret2
            refine ⟨by rw [HK.out.1, HK.out.2.1]; rfl, ?_⟩
            rw [HK.out.2.2]
            exact ⟨H6.out.1, (fr_below H4.out.2 (Nat.zero_le _)).trans (H5.out.2.2.trans H6.out.2)⟩

end Go.Proofs.Ytlckconhhhllkaa
