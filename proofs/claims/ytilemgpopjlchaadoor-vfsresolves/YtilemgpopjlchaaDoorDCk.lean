/-
  The document's Check.
-/
import Derived.Test.YtilemgpopjlchaaDoorDWr
import Derived.Deep.RegionWith
namespace Go.Proofs.YtilemgpopjlchaaDoor
open Go.RowKit

theorem chk_step {L : List Nd} {i : Nat} (hi : i < L.length) : chkA (L.take i) (L.drop i) = if wrongN (L.take i) L[i] = 0 then chkA (L.take (i + 1)) (L.drop (i + 1)) else (wrongN (L.take i) L[i], (i : Int)) := by
  rw [List.drop_eq_getElem_cons hi, chkA_cons, List.take_add_one, List.getElem?_eq_getElem hi, List.length_take, Nat.min_eq_left (Nat.le_of_lt hi)]
  rfl
theorem chk_start {L : List Nd} (h : ¬ 64 < L.length) : chkA (L.take 0) (L.drop 0) = chkN L := by
  unfold chkN
  rw [if_neg h]
  rfl
theorem chk_end {L : List Nd} {i : Nat} (h : L.length ≤ i) : chkA (L.take i) (L.drop i) = (0, -1) := by
  rw [List.drop_of_length_le h]
  rfl
theorem Lt.take {L : List Nd} (h : Lt L) (i : Nat) : Lt (L.take i) :=
  ⟨by rw [List.length_take]; have := h.n; omega, fun x hx => h.p x (List.mem_of_mem_take hx), fun x hx => h.t x (List.mem_of_mem_take hx)⟩
theorem tellC_eq {c : Int × Int} {a b : Int} (h : c = (a, b)) : tellC c = .tuple #[.int .i64 a, .int .i64 b] := by rw [h]; rfl

set_option maxHeartbeats 16000000 in
theorem dcheck_any (v : Value) (L : List Nd) (w : World) (h : NdR w v L) (hl : Lt L) : Calls Tryd.prog 12 #[v] w (Tells w (tellC (chkN L))) := by
  obtain ⟨p, c, rfl⟩ := h.form
  obtain ⟨n, hn⟩ : ∃ n, L.length = n := ⟨_, rfl⟩
  have HN : Hid (L.length = n ∧ n ≤ 70) := ⟨hn, hn ▸ hl.n⟩
  have HX : Hid (Lt L) := hl
  have H0 : Hid (NdR w (.slice p n c) L) := by rw [← hn]; exact h
  have hn70 := HN.out.2
  rw [hn]
  clear h hl hn
  by_cases h64 : 64 < n
  · have r1 : (64 : Int) < (n : Int) := by omega
    have r1' : decide ((64 : Int) < (n : Int)) = true := decide_eq_true r1
    have HC : Hid (chkN L = (4, 64)) := by show _ = _; unfold chkN; rw [if_pos (by rw [HN.out.1]; exact h64)]
    clear h64
    go_enter Tryd.func12, Tryd.ntmps12
    go_wp2
    go_ret2
    exact ⟨by rw [tellC_eq HC.out]; rfl, Below.refl _ _⟩
  · have r1 : ¬ (64 : Int) < (n : Int) := by omega
    have r1' : decide ((64 : Int) < (n : Int)) = false := decide_eq_false r1
    have HS : Hid (chkA (L.take 0) (L.drop 0) = chkN L) := chk_start (by rw [HN.out.1]; exact h64)
    clear h64
    go_enter Tryd.func12, Tryd.ntmps12
    go_wp2
    go_loopw [4, 5] (fun v4 _ wr => ∃ i : Nat, v4 = .int .i64 i ∧ i ≤ n ∧ chkA (L.take i) (L.drop i) = chkN L ∧ Below w.heap.size w wr) (fun v4 _ _ => n - (intOf v4).toNat)
    case atStart => exact ⟨0, rfl, Nat.zero_le _, HS.out, Below.refl _ _⟩
    case round =>
      obtain ⟨i, rfl, hi, heq, hbw⟩ := hrel
      have HB : Hid (Below w.heap.size w wr ∧ NdR wr (.slice p n c) L ∧ chkA (L.take i) (L.drop i) = chkN L) := ⟨hbw, H0.out.over hbw, heq⟩
      have hi70 : i ≤ 70 := by omega
      clear heq hbw
      by_cases hlt : i < n
      · have hi1 : (i : Int) < (n : Int) := by omega
        have hiL : i < L.length := by rw [HN.out.1]; exact hlt
        have hcut := HB.out.2.1.cut i (by omega)
        have HTK := HB.out.2.1.take (k := i) (by omega)
        obtain ⟨b, o, rfl, t0, t1, t2⟩ := HB.out.2.1.at hiL
        have HST := HB.out.2.2
        rw [chk_step hiL] at HST
        have hbl : bar (lst (bar L[i].p)) = bar L[i].p := bar_lst _
        have HWR : Hid (∀ X, Below wr.heap.size wr X → Calls Tryd.prog 21 #[.slice (some ⟨b, o, none⟩) i c, .agg #[.string (bar L[i].p), .int .i64 L[i].k, .string (bar L[i].t)]] X fun e w' => e = .returned (.int .i64 (wrongN (L.take i) L[i])) ∧ Below wr.heap.size wr w') := fun X hX => by
          have h1 := HX.out.take i
          have hm := HX.out.p _ (List.getElem_mem hiL)
          have := dwrong_at (.slice (some ⟨b, o, none⟩) i c) (L.take i) (bar L[i].p) (bar L[i].t) L[i].k X (HTK.over hX) (by have := h1.n; omega) (by rw [bar_size]; omega)
          rw [lst_bar, lst_bar] at this
          exact this.mono fun e w' ⟨h1, h2⟩ => ⟨h1, hX.trans (h2.mono hX.size)⟩
        clear HTK hbl
        generalize bar L[i].p = xp at *
        generalize bar L[i].t = xt at *
        have HST' : Hid _ := HST
        clear HST
        generalize wrongN (L.take i) L[i] = e at *
        generalize L[i].k = xk at *
        have s0 : Below wr.heap.size wr wr.drew := (Below.refl wr.heap.size wr).drew
        go_wp2_with fail
        go_region_with (go_at_call 21; refine (HWR.out _ (by assumption)).mono ?_; rintro e w8 ⟨rfl, s8⟩)
        all_goals
          by_cases he : e = 0
          · subst he
            go_wp2_with fail
            go_roundw
            case rel => exact ⟨i + 1, by go_num, hlt, by rw [← HST'.out]; exact (if_pos rfl).symm, HB.out.1.trans (s8.mono HB.out.1.size)⟩
            case measure => simp [intOf]; omega
          · have g1 : (e == 0) = false := beq_eq_false_iff_ne.2 he
            have g2 : (e != 0) = true := by simp [bne, g1]
            go_wp2_with fail
            go_ret2
            exact ⟨by rw [tellC_eq (HST'.out.symm.trans (if_neg he))]; rfl, HB.out.1.trans (s8.mono HB.out.1.size)⟩
      · have hi1 : ¬ (i : Int) < (n : Int) := by omega
        have HE : Hid (chkN L = (0, -1)) := by
          have := HB.out.2.2
          rw [chk_end (by rw [HN.out.1]; omega)] at this
          exact this.symm
        go_wp2
        go_ret2
        exact ⟨by rw [tellC_eq HE.out]; rfl, HB.out.1⟩

end Go.Proofs.YtilemgpopjlchaaDoor
