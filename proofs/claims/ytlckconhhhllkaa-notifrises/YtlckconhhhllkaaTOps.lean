/-
  New, Valid, Get, Len, Epoch, Ended of the program.
-/
import Derived.Test.YtlckconhhhllkaaTMem
namespace Go.Proofs.Ytlckconhhhllkaa
open Go.RowKit Go.Maps

set_option maxHeartbeats 4000000 in
theorem valid_any (w : World) (b B : Nat) (s : Nt) (z : Int) (h : TaV w b B s) (hz : U64 z) :
    Calls Try.prog 20 #[.pointer (some ⟨b, 0, none⟩), .int .u64 z] w fun e w' => e = .returned (.bool (valid s z)) ∧ w' = w := by
  obtain ⟨x, hx⟩ : ∃ x, (findI s.L z).getD En.zero = x := ⟨_, rfl⟩
  have HV : Hid (valid s z = (x.st == 2)) := by
    show valid s z = _
    unfold valid
    rw [← hx]
    cases findI s.L z <;> rfl
  have HX : Hid ((findI s.L z).getD En.zero = x) := hx
  have HM : Hid (MpE w B s.L) := h.m
  have HU : Hid (U64 z) := hz
  have c4 := h.blk.cell 4
  clear h hz hx
  obtain ⟨q1, q2, q3, q4, q5, q6⟩ := x
  have hfd : ∀ w : World, (Instr.field 44 (.agg #[.int .u64 q1, .int .i64 q2, .int .i64 q3, .int .i64 q4, .int .i64 q5, .int .i64 q6]) 2).run Try.prog w = .ok (.int .i64 q3) w := fun _ => by kernel_rfl
  go_enter Try.func20, Try.ntmps20
  go_wp2_with (first
    | (at_lookup; refine list_atE rfl _ _ rfl rfl rfl HU.out HM.out ?_; rw [HX.out]; dsimp only [En.v])
    | go_in)
  go_ret
  exact ⟨by rw [HV.out]; rfl, rfl⟩

set_option maxHeartbeats 4000000 in
theorem get_any (w : World) (b B : Nat) (s : Nt) (z : Int) (h : TaV w b B s) (hz : U64 z) :
    Calls Try.prog 14 #[.pointer (some ⟨b, 0, none⟩), .int .u64 z] w fun e w' => e = .returned (optV (findI s.L z)) ∧ Below w.heap.size w w' := by
  obtain ⟨x, hx⟩ : ∃ x, (findI s.L z).getD En.zero = x := ⟨_, rfl⟩
  obtain ⟨q, hq⟩ : ∃ q, (findI s.L z).isSome = q := ⟨_, rfl⟩
  have HX : Hid ((findI s.L z).getD En.zero = x ∧ (findI s.L z).isSome = q) := ⟨hx, hq⟩
  have HR : Hid (TaV (w.alloc (.cells #[.int .u64 0, .int .i64 0, .int .i64 0, .int .i64 0, .int .i64 0, .int .i64 0] 44)) b B s) := h.over (below_new w _)
  have HBE : Hid (Blk (w.alloc (.cells #[.int .u64 0, .int .i64 0, .int .i64 0, .int .i64 0, .int .i64 0, .int .i64 0] 44)) w.heap.size 44 [.int .u64 0, .int .i64 0, .int .i64 0, .int .i64 0, .int .i64 0, .int .i64 0]) := blk_new w _ _
  have HBZ : Hid (Below w.heap.size w (w.alloc (.cells #[.int .u64 0, .int .i64 0, .int .i64 0, .int .i64 0, .int .i64 0, .int .i64 0] 44))) := below_new w _
  have HU : Hid (U64 z) := hz
  clear h hz hx hq
  go_enter Try.func14, Try.ntmps14
  go_upto_region 1 with fail
  obtain ⟨be, hbe⟩ : ∃ k, w.heap.size = k := ⟨_, rfl⟩
  rw [hbe] at HBE ⊢
  have HE : Hid (w.heap.size = be) := hbe
  clear hbe
  generalize (w.alloc (.cells #[.int .u64 0, .int .i64 0, .int .i64 0, .int .i64 0, .int .i64 0, .int .i64 0] 44)) = w1 at *
  have c4 := HR.out.blk.cell 4
  obtain ⟨q1, q2, q3, q4, q5, q6⟩ := x
  have H2 : Hid (Blk (w1.alloc (.cells #[.int .u64 q1, .int .i64 q2, .int .i64 q3, .int .i64 q4, .int .i64 q5, .int .i64 q6] 44)) w1.heap.size 44 [.int .u64 q1, .int .i64 q2, .int .i64 q3, .int .i64 q4, .int .i64 q5, .int .i64 q6] ∧ Blk (w1.alloc (.cells #[.int .u64 q1, .int .i64 q2, .int .i64 q3, .int .i64 q4, .int .i64 q5, .int .i64 q6] 44)) be 44 [.int .u64 0, .int .i64 0, .int .i64 0, .int .i64 0, .int .i64 0, .int .i64 0] ∧ Below be w (w1.alloc (.cells #[.int .u64 q1, .int .i64 q2, .int .i64 q3, .int .i64 q4, .int .i64 q5, .int .i64 q6] 44))) := ⟨blk_new _ _ _, HBE.out.over (below_new _ _), by have := HBZ.out.trans ((below_new w1 (.cells #[.int .u64 q1, .int .i64 q2, .int .i64 q3, .int .i64 q4, .int .i64 q5, .int .i64 q6] 44)).mono HBZ.out.size); rw [HE.out] at this; exact this⟩
  go_upto_region 2 with (first | (at_lookup; refine list_getE rfl _ _ rfl rfl rfl HU.out HR.out.m ?_; rw [HX.out.1, HX.out.2]; dsimp only [En.v]) | go_in)
  generalize (w1.alloc (.cells #[.int .u64 q1, .int .i64 q2, .int .i64 q3, .int .i64 q4, .int .i64 q5, .int .i64 q6] 44)) = w2 at *
  generalize w1.heap.size = bx at *
  have m0 := H2.out.1.cell 0
  have m1 := H2.out.1.cell 1
  have m2 := H2.out.1.cell 2
  have m3 := H2.out.1.cell 3
  have m4 := H2.out.1.cell 4
  have m5 := H2.out.1.cell 5
  have k0 := H2.out.2.1.cell 0
  have k1 := H2.out.2.1.cell 1
  have k2 := H2.out.2.1.cell 2
  have k3 := H2.out.2.1.cell 3
  have k4 := H2.out.2.1.cell 4
  have k5 := H2.out.2.1.cell 5
  have f0 := H2.out.2.1.f 0
  have f1 := H2.out.2.1.f 1
  have f2 := H2.out.2.1.f 2
  have f3 := H2.out.2.1.f 3
  have f4 := H2.out.2.1.f 4
  have f5 := H2.out.2.1.f 5
  go_wp2_with fail
  have HP : Blk (put6 w2 be ⟨q1, q2, q3, q4, q5, q6⟩) be 44 (⟨q1, q2, q3, q4, q5, q6⟩ : En).cells := put6_blk (y := En.zero) H2.out.2.1
  refine bodyPost_ret (v := optV (findI s.L z)) (by unfold optV; rw [HX.out.1, HX.out.2]; exact res_en Try.results14 _ _ be ⟨q1, q2, q3, q4, q5, q6⟩ q rfl HP rfl) rfl ⟨rfl, ?_⟩
  have hb := (put6_fr (x := ⟨q1, q2, q3, q4, q5, q6⟩) (y := En.zero) H2.out.2.1 (Nat.le_refl _)).bel
  have := H2.out.2.2.trans hb
  rw [HE.out]
  exact this


set_option maxHeartbeats 4000000 in
theorem many_any (w : World) (b B : Nat) (s : Nt) (h : TaV w b B s) :
    Calls Try.prog 12 #[.pointer (some ⟨b, 0, none⟩)] w fun e w' => e = .returned (.int .i64 s.L.length) ∧ w' = w := by
  have HM : Hid (MpE w B s.L) := h.m
  have c4 := h.blk.cell 4
  obtain ⟨n, hn⟩ : ∃ n, s.L.length = n := ⟨_, rfl⟩
  have HN : Hid (s.L.length = n) := hn
  clear h hn
  go_enter Try.func12, Try.ntmps12
  go_wp2_with (first | (at_len; refine list_lenE rfl _ rfl rfl HM.out ?_; rw [HN.out]) | go_in)
  go_ret
  exact ⟨by rw [HN.out]; rfl, rfl⟩
set_option maxHeartbeats 4000000 in
theorem epoch_any (w : World) (b B : Nat) (s : Nt) (h : TaV w b B s) :
    Calls Try.prog 13 #[.pointer (some ⟨b, 0, none⟩)] w fun e w' => e = .returned (.int .u64 s.ep) ∧ w' = w := by
  have c3 := h.blk.cell 3
  clear h
  go_enter Try.func13, Try.ntmps13
  go_wp2_with fail
  go_ret
  exact ⟨rfl, rfl⟩

/-- a table that was just begun. -/
def NewE (w : World) (s : Nt) (e : Ending) (w' : World) : Prop := ∃ p B, w.heap.size ≤ p ∧ w.heap.size ≤ B ∧ e = .returned (.tuple #[.pointer (some ⟨p, 0, none⟩), .int .i64 0]) ∧ TaV w' p B s ∧ Below w.heap.size w w'
set_option maxHeartbeats 4000000 in
theorem new_any (w : World) (a b c : Int) (h : newE a b = false) :
    Calls Try.prog 9 #[.int .i64 a, .int .i64 b, .int .u64 c] w fun e w' => NewE w (newS a b c) e w' := by
  unfold newE at h
  have h1 := of_decide_eq_false h
  have c1 : decide (a < 1) = false := decide_eq_false (by omega)
  have c2 : ¬ a < 1 := by omega
  have c3 : decide (8 < a) = false := decide_eq_false (by omega)
  have c4 : ¬ 8 < a := by omega
  have d1 : decide (b < 1) = false := decide_eq_false (by omega)
  have d2 : ¬ b < 1 := by omega
  have d3 : decide (1000 < b) = false := decide_eq_false (by omega)
  have d4 : ¬ 1000 < b := by omega
  have M0 : Hid (MpE (w.alloc (.map #[] 0)) w.heap.size []) := MpE.made w
  have hmm := @run_makeMap Try.prog
  clear h h1
  go_enter Try.func9, Try.ntmps9
  go_wp2_with fail
  clear hmm
  go_ret2
  refine ⟨w.heap.size + 1, w.heap.size, by omega, Nat.le_refl _, by simp, ⟨?_, ?_, by omega⟩, room_below w _ _⟩
  · exact blk_new' w _ _ _
  · exact M0.out.over (below_new _ _)

set_option maxHeartbeats 4000000 in
theorem new_not (w : World) (a b c : Int) (h : newE a b = true) :
    Calls Try.prog 9 #[.int .i64 a, .int .i64 b, .int .u64 c] w fun e w' => e = .returned (.tuple #[.pointer none, .int .i64 1]) ∧ w' = w := by
  unfold newE at h
  have h1 := of_decide_eq_true h
  clear h
  by_cases ha : a < 1
  · have c1 : decide (a < 1) = true := decide_eq_true ha
    clear h1
    go_enter Try.func9, Try.ntmps9
    go_wp2_with fail
    go_ret2
    exact ⟨rfl, rfl⟩
  · have c1 : decide (a < 1) = false := decide_eq_false ha
    by_cases ha2 : 8 < a
    · have c3 : decide (8 < a) = true := decide_eq_true ha2
      clear h1
      go_enter Try.func9, Try.ntmps9
      go_wp2_with fail
      go_ret2
      exact ⟨rfl, rfl⟩
    · have c3 : decide (8 < a) = false := decide_eq_false ha2
      by_cases hb : b < 1
      · have d1 : decide (b < 1) = true := decide_eq_true hb
        clear h1
        go_enter Try.func9, Try.ntmps9
        go_wp2_with fail
        go_ret2
        exact ⟨rfl, rfl⟩
      · have d1 : decide (b < 1) = false := decide_eq_false hb
        have hb2 : 1000 < b := by omega
        have d3 : decide (1000 < b) = true := decide_eq_true hb2
        clear h1
        go_enter Try.func9, Try.ntmps9
        go_wp2_with fail
        go_ret2
        exact ⟨rfl, rfl⟩

theorem Fr.below {X K : List Nat} {w w' w'' : World} (h : Fr K X 0 w w') (hb : Below w.heap.size w' w'') : Fr K X 0 w w'' :=
  ⟨⟨hb.os.trans h.bel.os, hb.tape.trans h.bel.tape, hb.output.trans h.bel.output, Nat.le_trans h.bel.size hb.size, fun k hk => absurd hk (Nat.not_lt_zero _)⟩, fun k o hk ht hx => by rw [hb.block k (Array.getElem?_eq_some_iff.1 hk).1]; exact h.blk k o hk ht hx⟩
theorem endO_no {L : List En} {t : Int} (h : ∀ x ∈ L, x.ta = t → x.waits = true) : endO L t = none ∧ endL L t = L := by
  constructor
  · cases he : endO L t with
    | none => rfl
    | some x =>
      obtain ⟨h1, h2, h3⟩ := endO_some he
      rw [h x h1 h2] at h3
      cases h3
  · unfold endL
    refine List.filter_eq_self.2 fun x hx => ?_
    by_cases e : x.ta = t
    · simp [h x hx e]
    · simp [e]
theorem ofO_in {L : List En} {t : Int} {x : En} (h : ofO L t = some x) : x ∈ L ∧ x.ta = t := ⟨List.mem_of_find?_eq_some h, by simpa using List.find?_some h⟩
theorem ofO_no {L : List En} {t : Int} (h : ofO L t = none) : ∀ x ∈ L, x.ta ≠ t := fun x hx => by simpa using List.find?_eq_none.1 h x hx

set_option maxHeartbeats 8000000 in
theorem ended_any (w : World) (b B : Nat) (s : Nt) (t : Int) (h : TaV w b B s) (ho : Ok s) :
    Calls Try.prog 16 #[.pointer (some ⟨b, 0, none⟩), .int .i64 t] w fun e w' => e = .returned (optV (endO s.L t)) ∧ Rs w w' b B (endS s t) := by
  have HR : Hid (TaV (w.alloc (.cells #[.int .u64 0, .int .i64 0, .int .i64 0, .int .i64 0, .int .i64 0, .int .i64 0] 44)) b B s ∧ Below w.heap.size w (w.alloc (.cells #[.int .u64 0, .int .i64 0, .int .i64 0, .int .i64 0, .int .i64 0, .int .i64 0] 44))) := ⟨h.over (below_new w _), below_new w _⟩
  have HBE : Hid (Blk (w.alloc (.cells #[.int .u64 0, .int .i64 0, .int .i64 0, .int .i64 0, .int .i64 0, .int .i64 0] 44)) w.heap.size 44 [.int .u64 0, .int .i64 0, .int .i64 0, .int .i64 0, .int .i64 0, .int .i64 0]) := blk_new w _ _
  have HO : Hid (Ok s) := ho
  have HTA : Hid (TaV w b B s) := h
  have HOF : Hid (∀ W, TaV W b B s → Calls Try.prog 35 #[.pointer (some ⟨b, 0, none⟩), .int .i64 t] W fun e w' => e = .returned (optV (ofO s.L t)) ∧ Below W.heap.size W w') := fun W hW => of_any W b B s t hW ho.one ho.up
  clear h ho
  go_enter Try.func16, Try.ntmps16
  go_upto_region 1 with fail
  obtain ⟨be, hbe⟩ : ∃ k, w.heap.size = k := ⟨_, rfl⟩
  rw [hbe] at HBE ⊢
  have HE : Hid (w.heap.size = be) := hbe
  clear hbe
  generalize (w.alloc (.cells #[.int .u64 0, .int .i64 0, .int .i64 0, .int .i64 0, .int .i64 0, .int .i64 0] 44)) = w1 at *
  go_wp2_with fail
  refine (HOF.out w1 HR.out.1).mono ?_
  rintro e w2 ⟨rfl, hb2⟩
  cases hof : ofO s.L t with
  | none =>
    obtain ⟨n1, n2⟩ := endO_no (L := s.L) (t := t) fun x hx e => absurd e (ofO_no hof x hx)
    have HN : Hid (endO s.L t = none ∧ endS s t = s) := ⟨n1, by unfold endS; rw [n2]⟩
    have H2 : Hid (TaV w2 b B s ∧ Below w.heap.size w w2 ∧ Blk w2 be 44 [.int .u64 0, .int .i64 0, .int .i64 0, .int .i64 0, .int .i64 0, .int .i64 0]) := ⟨HR.out.1.over hb2, HR.out.2.trans (hb2.mono HR.out.2.size), HBE.out.over hb2⟩
    have H3 : Hid (Blk (w2.alloc (.cells #[.int .u64 0, .int .i64 0, .int .i64 0, .int .i64 0, .int .i64 0, .int .i64 0] 44)) be 44 [.int .u64 0, .int .i64 0, .int .i64 0, .int .i64 0, .int .i64 0, .int .i64 0] ∧ Below w.heap.size w (w2.alloc (.cells #[.int .u64 0, .int .i64 0, .int .i64 0, .int .i64 0, .int .i64 0, .int .i64 0] 44))) := ⟨H2.out.2.2.over (below_new _ _), H2.out.2.1.alloc H2.out.2.1.size _⟩
    clear n1 n2 hof hb2
    unfold optV
    dsimp only [Option.getD, Option.isSome, En.v, En.zero]
    go_upto_region 2 with fail
    generalize (w2.alloc (.cells #[.int .u64 0, .int .i64 0, .int .i64 0, .int .i64 0, .int .i64 0, .int .i64 0] 44)) = w3 at *
    have k0 := H3.out.1.cell 0
    have k1 := H3.out.1.cell 1
    have k2 := H3.out.1.cell 2
    have k3 := H3.out.1.cell 3
    have k4 := H3.out.1.cell 4
    have k5 := H3.out.1.cell 5
    have f0 := H3.out.1.f 0
    have f1 := H3.out.1.f 1
    have f2 := H3.out.1.f 2
    have f3 := H3.out.1.f 3
    have f4 := H3.out.1.f 4
    have f5 := H3.out.1.f 5
    go_wp2_with fail
    have HP : Blk (put6 w3 be En.zero) be 44 En.zero.cells := put6_blk (y := En.zero) H3.out.1
    refine bodyPost_ret (v := optV none) (res_en Try.results16 _ _ be En.zero false rfl HP rfl) rfl ?_
    refine ⟨by rw [HN.out.1], ?_⟩
    rw [HN.out.2]
    have h1 := (put6_fr (x := En.zero) (y := En.zero) H3.out.1 (Nat.le_refl be)).bel
    exact Rs.below HTA.out (H3.out.2.trans (by rw [HE.out]; exact h1))
  | some x =>
    obtain ⟨hxL, hxt⟩ := ofO_in hof
    have HXW : Hid (∀ W, Calls Try.prog 36 #[x.v] W fun e w' => e = .returned (.bool x.waits) ∧ Below W.heap.size W w') := waits_any x
    cases hw : x.waits with
    | true =>
      obtain ⟨n1, n2⟩ := endO_no (L := s.L) (t := t) fun y hy e => by
        rw [ofO_some HO.out.one hy e] at hof
        cases hof
        exact hw
      have HN : Hid (endO s.L t = none ∧ endS s t = s) := ⟨n1, by unfold endS; rw [n2]⟩
      have H2 : Hid (TaV w2 b B s ∧ Below w.heap.size w w2 ∧ Blk w2 be 44 [.int .u64 0, .int .i64 0, .int .i64 0, .int .i64 0, .int .i64 0, .int .i64 0]) := ⟨HR.out.1.over hb2, HR.out.2.trans (hb2.mono HR.out.2.size), HBE.out.over hb2⟩
      rw [hw] at HXW
      clear n1 n2 hof hb2 hxL hxt hw
      obtain ⟨q1, q2, q3, q4, q5, q6⟩ := x
      replace HXW : Hid (∀ W, Calls Try.prog 36 #[.agg #[.int .u64 q1, .int .i64 q2, .int .i64 q3, .int .i64 q4, .int .i64 q5, .int .i64 q6]] W fun e w' => e = .returned (.bool true) ∧ Below W.heap.size W w') := HXW
      have H3 : Hid (Blk (w2.alloc (.cells #[.int .u64 q1, .int .i64 q2, .int .i64 q3, .int .i64 q4, .int .i64 q5, .int .i64 q6] 44)) be 44 [.int .u64 0, .int .i64 0, .int .i64 0, .int .i64 0, .int .i64 0, .int .i64 0] ∧ Below w.heap.size w (w2.alloc (.cells #[.int .u64 q1, .int .i64 q2, .int .i64 q3, .int .i64 q4, .int .i64 q5, .int .i64 q6] 44)) ∧ Blk (w2.alloc (.cells #[.int .u64 q1, .int .i64 q2, .int .i64 q3, .int .i64 q4, .int .i64 q5, .int .i64 q6] 44)) w2.heap.size 44 [.int .u64 q1, .int .i64 q2, .int .i64 q3, .int .i64 q4, .int .i64 q5, .int .i64 q6]) := ⟨H2.out.2.2.over (below_new _ _), H2.out.2.1.alloc H2.out.2.1.size _, blk_new _ _ _⟩
      unfold optV
      dsimp only [Option.getD, Option.isSome, En.v]
      go_upto_region 2 with fail
      generalize (w2.alloc (.cells #[.int .u64 q1, .int .i64 q2, .int .i64 q3, .int .i64 q4, .int .i64 q5, .int .i64 q6] 44)) = w3 at *
      generalize w2.heap.size = bx at *
      have m0 := H3.out.2.2.cell 0
      have m1 := H3.out.2.2.cell 1
      have m2 := H3.out.2.2.cell 2
      have m3 := H3.out.2.2.cell 3
      have m4 := H3.out.2.2.cell 4
      have m5 := H3.out.2.2.cell 5
      have k0 := H3.out.1.cell 0
      have k1 := H3.out.1.cell 1
      have k2 := H3.out.1.cell 2
      have k3 := H3.out.1.cell 3
      have k4 := H3.out.1.cell 4
      have k5 := H3.out.1.cell 5
      have f0 := H3.out.1.f 0
      have f1 := H3.out.1.f 1
      have f2 := H3.out.1.f 2
      have f3 := H3.out.1.f 3
      have f4 := H3.out.1.f 4
      have f5 := H3.out.1.f 5
      go_wp2_with fail
      refine (HXW.out w3).mono ?_
      rintro e w4 ⟨rfl, hb4⟩
      have H4 : Hid (Blk w4 be 44 [.int .u64 0, .int .i64 0, .int .i64 0, .int .i64 0, .int .i64 0, .int .i64 0] ∧ Below w.heap.size w w4) := ⟨H3.out.1.over hb4, H3.out.2.1.trans (hb4.mono H3.out.2.1.size)⟩
      clear hb4 k0 k1 k2 k3 k4 k5 f0 f1 f2 f3 f4 f5 m0 m1 m2 m3 m4 m5
      have k0 := H4.out.1.cell 0
      have k1 := H4.out.1.cell 1
      have k2 := H4.out.1.cell 2
      have k3 := H4.out.1.cell 3
      have k4 := H4.out.1.cell 4
      have k5 := H4.out.1.cell 5
      have f0 := H4.out.1.f 0
      have f1 := H4.out.1.f 1
      have f2 := H4.out.1.f 2
      have f3 := H4.out.1.f 3
      have f4 := H4.out.1.f 4
      have f5 := H4.out.1.f 5
      go_wp2_with fail
      have HP : Blk (put6 w4 be En.zero) be 44 En.zero.cells := put6_blk (y := En.zero) H4.out.1
      refine bodyPost_ret (v := optV none) (res_en Try.results16 _ _ be En.zero false rfl HP rfl) rfl ?_
      refine ⟨by rw [HN.out.1], ?_⟩
      rw [HN.out.2]
      have h1 := (put6_fr (x := En.zero) (y := En.zero) H4.out.1 (Nat.le_refl be)).bel
      exact Rs.below HTA.out (H4.out.2.trans (by rw [HE.out]; exact h1))
    | false =>
      obtain ⟨n1, n2⟩ := end_del HO.out hxL hw
      rw [hxt] at n1 n2
      have HN : Hid (endO s.L t = some x ∧ endS s t = { s with L := delL s.L x.id }) := ⟨n2, n1⟩
      have HU : Hid (U64 x.id) := by
        have h1 := HO.out.all x hxL
        have h2 := HO.out.n1
        exact ⟨h1.i0, by have := h1.i1; omega⟩
      have H2 : Hid (TaV w2 b B s ∧ Below w.heap.size w w2 ∧ Blk w2 be 44 [.int .u64 0, .int .i64 0, .int .i64 0, .int .i64 0, .int .i64 0, .int .i64 0]) := ⟨HR.out.1.over hb2, HR.out.2.trans (hb2.mono HR.out.2.size), HBE.out.over hb2⟩
      rw [hw] at HXW
      clear n1 n2 hof hb2 hxL hxt hw
      obtain ⟨q1, q2, q3, q4, q5, q6⟩ := x
      replace HXW : Hid (∀ W, Calls Try.prog 36 #[.agg #[.int .u64 q1, .int .i64 q2, .int .i64 q3, .int .i64 q4, .int .i64 q5, .int .i64 q6]] W fun e w' => e = .returned (.bool false) ∧ Below W.heap.size W w') := HXW
      have H3 : Hid (Blk (w2.alloc (.cells #[.int .u64 q1, .int .i64 q2, .int .i64 q3, .int .i64 q4, .int .i64 q5, .int .i64 q6] 44)) be 44 [.int .u64 0, .int .i64 0, .int .i64 0, .int .i64 0, .int .i64 0, .int .i64 0] ∧ Below w.heap.size w (w2.alloc (.cells #[.int .u64 q1, .int .i64 q2, .int .i64 q3, .int .i64 q4, .int .i64 q5, .int .i64 q6] 44)) ∧ Blk (w2.alloc (.cells #[.int .u64 q1, .int .i64 q2, .int .i64 q3, .int .i64 q4, .int .i64 q5, .int .i64 q6] 44)) w2.heap.size 44 [.int .u64 q1, .int .i64 q2, .int .i64 q3, .int .i64 q4, .int .i64 q5, .int .i64 q6] ∧ TaV (w2.alloc (.cells #[.int .u64 q1, .int .i64 q2, .int .i64 q3, .int .i64 q4, .int .i64 q5, .int .i64 q6] 44)) b B s) := ⟨H2.out.2.2.over (below_new _ _), H2.out.2.1.alloc H2.out.2.1.size _, blk_new _ _ _, H2.out.1.over (below_new _ _)⟩
      unfold optV
      dsimp only [Option.getD, Option.isSome, En.v]
      go_upto_region 2 with fail
      generalize (w2.alloc (.cells #[.int .u64 q1, .int .i64 q2, .int .i64 q3, .int .i64 q4, .int .i64 q5, .int .i64 q6] 44)) = w3 at *
      generalize w2.heap.size = bx at *
      have m0 := H3.out.2.2.1.cell 0
      have m1 := H3.out.2.2.1.cell 1
      have m2 := H3.out.2.2.1.cell 2
      have m3 := H3.out.2.2.1.cell 3
      have m4 := H3.out.2.2.1.cell 4
      have m5 := H3.out.2.2.1.cell 5
      go_wp2_with fail
      refine (HXW.out w3).mono ?_
      rintro e w4 ⟨rfl, hb4⟩
      have H4 : Hid (Blk w4 be 44 [.int .u64 0, .int .i64 0, .int .i64 0, .int .i64 0, .int .i64 0, .int .i64 0] ∧ Below w.heap.size w w4 ∧ Blk w4 bx 44 [.int .u64 q1, .int .i64 q2, .int .i64 q3, .int .i64 q4, .int .i64 q5, .int .i64 q6] ∧ TaV w4 b B s) := ⟨H3.out.1.over hb4, H3.out.2.1.trans (hb4.mono H3.out.2.1.size), H3.out.2.2.1.over hb4, H3.out.2.2.2.over hb4⟩
      clear hb4 m0 m1 m2 m3 m4 m5
      obtain ⟨D, hown, hv⟩ := H4.out.2.2.2.m
      obtain ⟨w5, hrun, ho5, hg5⟩ := hown.drew.drop lawU Try.underlying60 (key_u HU.out) 0
      have H5 : Hid (MpE w5 B (delL s.L q1) ∧ w4.grownBy w5 (some B)) := ⟨mpE_of ho5 (hv.del HO.out.up q1), ⟨hg5.grown.os, hg5.grown.tape, hg5.grown.output, hg5.grown.size, hg5.grown.block⟩⟩
      clear ho5 hg5 hown hv
      have c4 := H4.out.2.2.2.blk.cell 4
      have m0 := H4.out.2.2.1.cell 0
      have m1 := H4.out.2.2.1.cell 1
      have m2 := H4.out.2.2.1.cell 2
      have m3 := H4.out.2.2.1.cell 3
      have m4 := H4.out.2.2.1.cell 4
      have m5 := H4.out.2.2.1.cell 5
      go_upto_region 4 with fail
      go_big_region
      have H6 : Hid (Blk w5 be 44 [.int .u64 0, .int .i64 0, .int .i64 0, .int .i64 0, .int .i64 0, .int .i64 0] ∧ Blk w5 bx 44 [.int .u64 q1, .int .i64 q2, .int .i64 q3, .int .i64 q4, .int .i64 q5, .int .i64 q6] ∧ TaV w5 b B { s with L := delL s.L q1 } ∧ be ≠ B ∧ B < w.heap.size) := by
        have hl4 := H4.out.2.2.2.m.lt
        have hB : B < w.heap.size := HTA.out.m.lt
        have hne : be ≠ B := by have := HE.out; omega
        have hbx : bx ≠ B := fun e => by
          obtain ⟨D', ⟨es, c, h1, _⟩, _⟩ := H4.out.2.2.2.m
          have h2 := H4.out.2.2.1
          unfold Blk at h2
          rw [e, h1] at h2
          cases h2
        have hfr := fr_turn (X := [B]) H5.out.2 (by simp)
        exact ⟨H4.out.1.fr hfr (by simp) (by simpa using hne), H4.out.2.2.1.fr hfr (by simp) (by simpa using hbx), ⟨H4.out.2.2.2.blk.fr hfr (by simp) (by simpa using H4.out.2.2.2.ne), H5.out.1, H4.out.2.2.2.ne⟩, hne, hB⟩
      clear m0 m1 m2 m3 m4 m5 c4 hrun
      have m0 := H6.out.2.1.cell 0
      have m1 := H6.out.2.1.cell 1
      have m2 := H6.out.2.1.cell 2
      have m3 := H6.out.2.1.cell 3
      have m4 := H6.out.2.1.cell 4
      have m5 := H6.out.2.1.cell 5
      have k0 := H6.out.1.cell 0
      have k1 := H6.out.1.cell 1
      have k2 := H6.out.1.cell 2
      have k3 := H6.out.1.cell 3
      have k4 := H6.out.1.cell 4
      have k5 := H6.out.1.cell 5
      have f0 := H6.out.1.f 0
      have f1 := H6.out.1.f 1
      have f2 := H6.out.1.f 2
      have f3 := H6.out.1.f 3
      have f4 := H6.out.1.f 4
      have f5 := H6.out.1.f 5
      go_wp2_with fail
      have HP : Blk (put6 w5 be ⟨q1, q2, q3, q4, q5, q6⟩) be 44 (⟨q1, q2, q3, q4, q5, q6⟩ : En).cells := put6_blk (y := En.zero) H6.out.1
      refine bodyPost_ret (v := optV (some ⟨q1, q2, q3, q4, q5, q6⟩)) (res_en Try.results16 _ _ be ⟨q1, q2, q3, q4, q5, q6⟩ true rfl HP rfl) rfl ?_
      refine ⟨by rw [HN.out.1], ?_⟩
      rw [HN.out.2]
      have h1 : Fr [44] [] be w5 (put6 w5 be ⟨q1, q2, q3, q4, q5, q6⟩) := put6_fr (y := En.zero) H6.out.1 (Nat.le_refl be)
      have h4 : Fr [] [b, B] 0 w w5 := (fr_below H4.out.2.1 (Nat.zero_le _)).trans (fr_turn H5.out.2 (by simp))
      have h5 : Below w.heap.size w5 (put6 w5 be ⟨q1, q2, q3, q4, q5, q6⟩) := h1.bel.mono (by have := HE.out; omega)
      exact ⟨H6.out.2.2.1.fr h1 (by simp) (by simp) (by simp), h4.below h5⟩

end Go.Proofs.Ytlckconhhhllkaa
