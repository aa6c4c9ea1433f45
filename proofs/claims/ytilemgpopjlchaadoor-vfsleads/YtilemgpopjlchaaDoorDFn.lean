/-
  The document's Find, and which targets may be.
-/
import Derived.Test.YtilemgpopjlchaaDoorVIfc
namespace Go.Proofs.YtilemgpopjlchaaDoor
open Go.RowKit

theorem toList_lst (s : ByteArray) : s.toList = lst s := by rw [ByteArray.toList_eq]; rfl
theorem find_at {L : List Nd} {i : Nat} (hi : i < L.length) {p : Nm} (hno : ∀ x ∈ L.take i, x.p ≠ p) (hp : L[i].p = p) : findL L p = some L[i] := by
  unfold findL
  rw [List.find?_eq_some_iff_getElem]
  refine ⟨by rw [hp]; exact beq_self_eq_true _, i, hi, rfl, fun j hj => ?_⟩
  have hm : L[j] ∈ L.take i := List.mem_iff_getElem.2 ⟨j, by rw [List.length_take]; omega, by rw [List.getElem_take]⟩
  simpa using hno _ hm
theorem find_no {L : List Nd} {p : Nm} (hno : ∀ x ∈ L, x.p ≠ p) : findL L p = none := by
  unfold findL
  rw [List.find?_eq_none]
  exact fun x hx => by simpa using hno x hx

/-- a node of one's own, just laid. -/
theorem nd_cells (w : World) (x y z : Value) : (w.alloc (.cells #[x, y, z] 29)).cell? ⟨w.heap.size, 0, none⟩ = some x ∧ (w.alloc (.cells #[x, y, z] 29)).cell? ⟨w.heap.size, 1, none⟩ = some y ∧ (w.alloc (.cells #[x, y, z] 29)).cell? ⟨w.heap.size, 2, none⟩ = some z := by
  have hb := heap_alloc_new w (.cells #[x, y, z] 29)
  refine ⟨?_, ?_, ?_⟩ <;> (rw [cell_of_row _ _ _ _ _ _ hb]; rfl)

set_option maxHeartbeats 8000000 in
theorem dfind_any (v : Value) (L : List Nd) (s : ByteArray) (w : World) (h : NdR w v L) (hl : L.length ≤ 1000) : Calls Tryd.prog 14 #[v, .string s] w (Tells w (tellF (findN L (lst s)))) := by
  obtain ⟨p, c, rfl⟩ := h.form
  have hb0 := below_new w (.cells #[.string ⟨#[]⟩, .int .i64 0, .string ⟨#[]⟩] 29)
  have HB : Hid ((∀ o : Obj, Below w.heap.size w (w.alloc o)) ∧ NdR (w.alloc (.cells #[.string ⟨#[]⟩, .int .i64 0, .string ⟨#[]⟩] 29)) (.slice p L.length c) L) := ⟨fun o => below_new w o, h.over hb0⟩
  clear h hb0
  obtain ⟨n, hn⟩ : ∃ n, L.length = n := ⟨_, rfl⟩
  have HN : Hid (L.length = n) := hn
  rw [hn] at HB hl ⊢
  clear hn
  by_cases hr : lst s = [47]
  · have e1 : (s.toList == [47]) = true := by rw [toList_lst, hr]; rfl
    have HR : Hid (findN L (lst s) = some rootN) := if_pos hr
    clear hr
    obtain ⟨c0, c1, c2⟩ := nd_cells w (.string ⟨#[47]⟩) (.int .i64 2) (.string ⟨#[]⟩)
    go_enter Tryd.func14, Tryd.ntmps14
    go_wp2
    refine bodyPost_ret (v := .tuple #[.agg #[.string ⟨#[47]⟩, .int .i64 2, .string ⟨#[]⟩], .bool true]) (by simp [results, Tryd.results14, go_sem, c0, c1, c2]) rfl ⟨by rw [HR.out]; rfl, HB.out.1 _⟩
  · have e1 : (s.toList == [47]) = false := by rw [toList_lst]; exact beq_eq_false_iff_ne.2 hr
    have HR : Hid (findN L (lst s) = findL L (lst s)) := if_neg hr
    clear hr
    go_enter Tryd.func14, Tryd.ntmps14
    go_wp2
    go_loopw [6] (fun v6 wr => ∃ i : Nat, v6 = .int .i64 i ∧ i ≤ n ∧ (∀ x ∈ L.take i, x.p ≠ lst s) ∧ wr = w.alloc (.cells #[.string ⟨#[]⟩, .int .i64 0, .string ⟨#[]⟩] 29)) (fun v6 _ => n - (intOf v6).toNat)
    case atStart => exact ⟨0, rfl, Nat.zero_le _, fun x hx => by simp at hx, rfl⟩
    case round =>
      obtain ⟨i, rfl, hi, hno, hw⟩ := hrel
      subst hw
      have HNO : Hid (∀ x ∈ L.take i, x.p ≠ lst s) := hno
      have hi5 : i ≤ 1000 := by omega
      clear hno
      by_cases hlt : i < n
      · have hi1 : (i : Int) < (n : Int) := by omega
        have hiL : i < L.length := by rw [HN.out]; exact hlt
        obtain ⟨b, o, rfl, t0, t1, t2⟩ := HB.out.2.at hiL
        by_cases heq : L[i].p = lst s
        · have e2 : ((bar L[i].p).toList == s.toList) = true := by rw [toList_bar, toList_lst, heq]; exact beq_self_eq_true _
          have HF : Hid (findN L (lst s) = some L[i]) := by show _ = _; rw [HR.out]; exact find_at hiL HNO.out heq
          have HV : Hid ((fndN (some L[i])).v = .agg #[.string (bar L[i].p), .int .i64 L[i].k, .string (bar L[i].t)]) := rfl
          clear heq
          generalize hx : L[i] = x at *
          generalize bar x.p = xp at *
          generalize x.k = xk at *
          generalize bar x.t = xt at *
          obtain ⟨c0, c1, c2⟩ := nd_cells w (.string xp) (.int .i64 xk) (.string xt)
          go_wp2
          refine bodyPost_ret (v := .tuple #[.agg #[.string xp, .int .i64 xk, .string xt], .bool true]) (by simp [results, Tryd.results14, go_sem, c0, c1, c2]) rfl ⟨by rw [HF.out]; unfold tellF; rw [HV.out]; rfl, HB.out.1 _⟩
        · have e2 : ((bar L[i].p).toList == s.toList) = false := by rw [toList_bar, toList_lst]; exact beq_eq_false_iff_ne.2 heq
          have HX2 : Hid (∀ x ∈ L.take (i + 1), x.p ≠ lst s) := fun x hx => by
            rw [List.take_add_one, List.getElem?_eq_getElem hiL] at hx
            rcases List.mem_append.1 hx with hx | hx
            · exact HNO.out x hx
            · rw [Option.toList_some, List.mem_singleton] at hx
              subst hx
              exact heq
          clear heq t1 t2
          generalize bar L[i].p = xp at *
          go_wp2
          go_roundw
          case rel => exact ⟨i + 1, by go_num, hlt, HX2.out, by trivial⟩
          case measure => simp [intOf]; omega
      · have hi1 : ¬ (i : Int) < (n : Int) := by omega
        have HF : Hid (findN L (lst s) = none) := by
          show _ = _
          rw [HR.out]
          refine find_no fun x hx => ?_
          have h9 := HNO.out
          rw [List.take_of_length_le (by have := HN.out; omega)] at h9
          exact h9 x hx
        obtain ⟨c0, c1, c2⟩ := nd_cells w (.string ⟨#[]⟩) (.int .i64 0) (.string ⟨#[]⟩)
        go_wp2
        refine bodyPost_ret (v := .tuple #[.agg #[.string ⟨#[]⟩, .int .i64 0, .string ⟨#[]⟩], .bool false]) (by simp [results, Tryd.results14, go_sem, c0, c1, c2]) rfl ⟨by rw [HF.out]; rfl, HB.out.1 _⟩

/-! which targets may be -/
theorem target_bad {l : Nm} (h : l.length = 0 ∨ 256 < l.length ∨ ∃ k : Nat, l[k]? = some 0) : targetOk l = false := by
  rw [Bool.eq_false_iff]
  intro e
  obtain ⟨h1, h2, h3⟩ := target_ok e
  rcases h with h | h | ⟨k, hk⟩
  · exact h1 (List.eq_nil_of_length_eq_zero h)
  · omega
  · exact h3 0 (List.mem_of_getElem? hk) rfl
theorem target_good {l : Nm} (h0 : 0 < l.length) (h1 : l.length ≤ 256) (h3 : ∀ (k : Nat) (c : UInt8), l[k]? = some c → c ≠ 0) : targetOk l = true := by
  unfold targetOk
  simp only [Bool.and_eq_true, decide_eq_true_eq, List.all_eq_true, bne_iff_ne]
  refine ⟨⟨(fun e => by rw [e] at h0; cases h0), h1⟩, fun c hc => ?_⟩
  obtain ⟨k, hk⟩ := List.getElem?_of_mem hc
  exact h3 k c hk
set_option maxHeartbeats 4000000 in
theorem dtarget_any (s : ByteArray) (w : World) : Calls Tryd.prog 38 #[.string s] w fun e w' => e = .returned (.bool (targetOk (lst s))) ∧ w' = w := by
  by_cases h0 : s.size = 0
  · have e0 : ((s.size : Int) == 0) = true := by simp [h0]
    have HR : Hid (targetOk (lst s) = false) := target_bad (.inl (by rw [lst_length]; exact h0))
    clear h0
    go_enter Tryd.func38, Tryd.ntmps38
    go_wp2
    go_ret
    exact ⟨by rw [HR.out]; rfl, rfl⟩
  · have e0 : ((s.size : Int) == 0) = false := beq_eq_false_iff_ne.2 (by omega)
    by_cases h1 : 256 < s.size
    · have e1 : decide ((256 : Int) < (s.size : Int)) = true := decide_eq_true (by omega)
      have e1' : (256 : Int) < (s.size : Int) := by omega
      have HR : Hid (targetOk (lst s) = false) := target_bad (.inr (.inl (by rw [lst_length]; exact h1)))
      clear h0 h1
      go_enter Tryd.func38, Tryd.ntmps38
      go_wp2
      go_ret
      exact ⟨by rw [HR.out]; rfl, rfl⟩
    · have e1 : decide ((256 : Int) < (s.size : Int)) = false := decide_eq_false (by omega)
      have e1' : ¬ (256 : Int) < (s.size : Int) := by omega
      have HS : Hid (0 < s.size ∧ s.size ≤ 256) := ⟨by omega, by omega⟩
      have hs5 : s.size ≤ 256 := by omega
      clear h0 h1
      go_enter Tryd.func38, Tryd.ntmps38
      go_wp2
      go_loopw [3] (fun v wr => ∃ i : Nat, v = .int .i64 i ∧ i ≤ s.size ∧ (∀ (k : Nat) (c : UInt8), k < i → (lst s)[k]? = some c → c ≠ 0) ∧ wr = w) (fun v _ => s.size - (intOf v).toNat)
      case atStart => exact ⟨0, rfl, Nat.zero_le _, fun k c hk => absurd hk (Nat.not_lt_zero _), rfl⟩
      case round =>
        obtain ⟨i, rfl, hi, hno, hw⟩ := hrel
        subst hw
        have HNO : Hid (∀ (k : Nat) (c : UInt8), k < i → (lst s)[k]? = some c → c ≠ 0) := hno
        clear hno
        by_cases hlt : i < s.size
        · have hi1 : (i : Int) < (s.size : Int) := by omega
          have hat := lst_at s i hlt
          by_cases hz : s[i]'hlt = 0
          · have hzz : (((s[i]'hlt).toNat : Int) == 0) = true := by rw [hz]; rfl
            have HR : Hid (targetOk (lst s) = false) := target_bad (.inr (.inr ⟨i, by rw [hat, hz]⟩))
            clear hz hat
            go_wp2
            go_ret
            exact ⟨by rw [HR.out]; rfl, rfl⟩
          · have hzz : (((s[i]'hlt).toNat : Int) == 0) = false := u8_ne (d := 0) hz
            have HX : Hid (∀ (k : Nat) (c : UInt8), k < i + 1 → (lst s)[k]? = some c → c ≠ 0) := fun k c hk hc => by
              by_cases e : k = i
              · subst e
                rw [hat] at hc
                cases hc
                exact hz
              · exact HNO.out k c (by omega) hc
            clear hz hat
            go_wp2
            go_roundw
            case rel => exact ⟨i + 1, by go_num, hlt, HX.out, by trivial⟩
            case measure => simp [intOf]; omega
        · have hi1 : ¬ (i : Int) < (s.size : Int) := by omega
          have HR : Hid (targetOk (lst s) = true) := target_good (by rw [lst_length]; exact HS.out.1) (by rw [lst_length]; exact HS.out.2) fun k c hc => HNO.out k c (by
            have := (List.getElem?_eq_some_iff.1 hc).1
            rw [lst_length] at this
            omega) hc
          go_wp2
          go_ret
          exact ⟨by rw [HR.out]; rfl, rfl⟩

end Go.Proofs.YtilemgpopjlchaaDoor
