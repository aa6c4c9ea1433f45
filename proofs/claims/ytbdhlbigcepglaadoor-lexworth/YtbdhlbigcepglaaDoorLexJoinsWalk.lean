/-
  The law LexJoins, walked: true for every text.
-/
import Derived.Test.YtbdhlbigcepglaaDoorAwake
import Derived.Test.YtbdhlbigcepglaaDoorLexLiesWalk
import Derived.Laws.Concat
import Derived.BigQuiet
namespace Go.Proofs.YtbdhlbigcepglaaDoor
open Go.RowKit

theorem bar_app (l m : List UInt8) : bar l ++ bar m = bar (l ++ m) := ByteArray.mk_append_mk l m

theorem all_jn {l sep : List UInt8} (hs : Sep sep) {ts : List Tok} (h : Ch l 0 ts) (hl : l.length ≤ 2000) : ∃ us, all (32 :: jn sep ts) = .ok us ∧ us.map kv = ts.map kv := by
  obtain ⟨us, h1, h2⟩ := go_jn hs h 1
  refine ⟨us, ?_, h2⟩
  have := jn_len hs h
  unfold all
  rw [if_neg (by simp; omega), go_blank (by decide)]
  exact h1

theorem jn_take {sep : List UInt8} {ts : List Tok} (k : Nat) (hk : k < ts.length) : jn sep (ts.take (k + 1)) = jn sep (ts.take k) ++ (ts[k].t ++ sep) := by
  rw [← jn_snoc, List.take_succ_eq_append_getElem hk]

theorem jn_le {l sep : List UInt8} (hs : Sep sep) {ts : List Tok} (h : Ch l 0 ts) (hl : l.length ≤ 2000) (k : Nat) : (jn sep (ts.take k)).length ≤ 8003 := by
  have h1 := jn_len hs h
  have h2 : (jn sep ts).length = (jn sep (ts.take k)).length + (jn sep (ts.drop k)).length := by
    conv => lhs; rw [← List.take_append_drop k ts]
    unfold jn
    rw [List.flatMap_append, List.length_append]
  omega

theorem kv_at {us ts : List Tok} (h : us.map kv = ts.map kv) (k : Nat) (hk : k < ts.length) (hk' : k < us.length) : us[k].k = ts[k].k ∧ us[k].t = ts[k].t ∧ us[k].n = ts[k].n := by
  have h1 : (us.map kv)[k]? = (ts.map kv)[k]? := by rw [h]
  rw [List.getElem?_map, List.getElem?_map, List.getElem?_eq_getElem hk, List.getElem?_eq_getElem hk'] at h1
  simp [kv] at h1
  exact h1

set_option maxRecDepth 4000 in
set_option maxHeartbeats 4000000 in
theorem lexJoins_walk (s : ByteArray) (note : Bool) (w : World) (hv : Vars w) :
    Calls Tryd.prog 6 #[.string s, .bool note] w fun e w' => e = .returned (.bool true) ∧ Below w.heap.size w w' := by
  have HV : Hid (Vars w) := hv
  have HA : Hid (∀ W, Vars W → Calls Tryd.prog 10 #[.string s] W fun e w' => Below W.heap.size W w' ∧ Told W.heap.size (all (lst s)) e w') := fun W h => all_any s W h
  clear hv
  by_cases hlong : 2000 < s.size
  · have h1 : decide ((2000 : Int) < s.size) = true := by simp; omega
    go_enter Tryd.func6, Tryd.ntmps6
    go_wp2_with (go_at_call 9; refine (awake_any _ HV.out).mono ?_; rintro e w1 ⟨rfl, b1⟩)
    go_ret
    exact ⟨rfl, b1⟩
  · have h1 : decide ((2000 : Int) < s.size) = false := by simp; omega
    have HE := fun c q => @all_err (lst s) c q
    have HC := fun ts => @all_ch (lst s) ts
    have HL := fun ts => @all_len (lst s) ts
    have hll : (lst s).length ≤ 2000 := by rw [lst_length]; omega
    generalize all (lst s) = R at *
    obtain ⟨c, q⟩ | ts := R
    · have hc0 : ((c : Int) == 0) = false := by
        rw [beq_eq_false_iff_ne]
        have := (HE c q rfl (by omega)).1
        omega
      clear HE HC HL hlong hll
      go_enter Tryd.func6, Tryd.ntmps6
      go_wp2_with (first | (go_at_call 9; refine (awake_any _ HV.out).mono ?_; rintro e w1 ⟨rfl, b1⟩; have V1 : Hid (Vars w1) := HV.out.below b1) | (go_at_call 10; refine (HA.out _ V1.out).mono ?_; rintro e w2 ⟨b2, rfl⟩))
      go_ret
      exact ⟨rfl, b1.trans (b2.mono b1.size)⟩
    · obtain ⟨sep, hsep, hss⟩ : ∃ sep : List UInt8, Sep sep ∧ bar sep = (if note then ⟨#[35, 59, 10]⟩ else ⟨#[9]⟩) := by
        cases note with
        | true => exact ⟨_, sep_note, rfl⟩
        | false => exact ⟨_, sep_tab, rfl⟩
      have HCH : Hid (Ch (lst s) 0 ts) := HC ts rfl
      have hlen : ts.length ≤ 8193 := HL ts rfl
      have HJ : Hid (∀ k, (jn sep (ts.take k)).length ≤ 8003) := jn_le hsep HCH.out hll
      obtain ⟨us, hus, hkv⟩ := all_jn hsep HCH.out hll
      have HKV : Hid (us.map kv = ts.map kv) := hkv
      have hul : us.length = ts.length := by have := congrArg List.length hkv; simpa using this
      have HA2 : Hid (∀ W, Vars W → Calls Tryd.prog 10 #[.string (bar (32 :: jn sep ts))] W fun e w' => Below W.heap.size W w' ∧ ∃ v, e = .returned (.tuple #[v, .int .i64 0, .int .i64 (-1)]) ∧ w'.ownsRow W.heap.size 31 4 v us.length (cellsT us)) := by
        intro W hW
        have := all_any (bar (32 :: jn sep ts)) W hW
        rw [lst_bar, hus] at this
        exact this
      have HS3 : Hid (sep.length ≤ 3) := hsep.len
      clear HE HC HL hlong hll hus hkv hsep
      go_enter Tryd.func6, Tryd.ntmps6
      go_wp2_with (first | (go_at_call 9; refine (awake_any _ HV.out).mono ?_; rintro e w1 ⟨rfl, b1⟩; have V1 : Hid (Vars w1) := HV.out.below b1) | (go_at_call 10; refine (HA.out _ V1.out).mono ?_; rintro e w2 ⟨b2, v, rfl, ho⟩; obtain ⟨a, ca, rfl, hT⟩ := owns_toks ho; have T1 : Hid (Toks w2 a ts.length ts) := hT; have B2 : Hid (Below w.heap.size w w2) := b1.trans (b2.mono b1.size); have V2 : Hid (Vars w2) := V1.out.below b2; clear ho hT b2 b1))
      go_loop [9, 10] (fun va vi => ∃ k : Nat, va = .string (bar (32 :: jn sep (ts.take k))) ∧ vi = .int .i64 k ∧ k ≤ ts.length) (fun _ vi => ts.length - (intOf vi).toNat)
      case atStart => exact ⟨0, rfl, rfl, Nat.zero_le _⟩
      case round =>
        obtain ⟨k, rfl, rfl, hk⟩ := hrel
        by_cases hlt : k < ts.length
        · obtain ⟨g, rfl, hc⟩ := T1.out.2 (by omega)
          have p3 := (hc k ts[k] (List.getElem?_eq_getElem hlt)).2.2.1
          have hi1 : (k : Int) < (ts.length : Int) := by omega
          have HJ1 : Hid (bar (32 :: jn sep (ts.take (k + 1))) = bar (32 :: jn sep (ts.take k)) ++ bar ts[k].t ++ bar sep) := by
            show _ = _
            rw [jn_take k hlt, bar_app, bar_app]
            simp
          have hz1 : (bar (32 :: jn sep (ts.take k))).size ≤ 8004 := by have := HJ.out k; rw [bar_size]; simp; omega
          have hz2 : (bar ts[k].t).size ≤ 8004 := by
            have := HJ.out (k + 1)
            rw [jn_take k hlt] at this
            simp at this
            rw [bar_size]
            omega
          have hz3 : (bar (32 :: jn sep (ts.take k)) ++ bar ts[k].t).size ≤ 16008 := by rw [ByteArray.size_append]; omega
          clear hc
          generalize ts[k].t = xt at *
          rw [hss] at HJ1
          generalize bar (32 :: jn sep (ts.take k)) = A at *
          generalize bar xt = B at *
          cases note with
          | true =>
            go_wp2
            go_round
            case rel => exact ⟨k + 1, by rw [HJ1.out]; rfl, by go_num, hlt⟩
            case measure => simp [intOf]; omega
          | false =>
            go_wp2
            go_round
            case rel => exact ⟨k + 1, by rw [HJ1.out]; rfl, by go_num, hlt⟩
            case measure => simp [intOf]; omega
        · obtain rfl : k = ts.length := by omega
          rw [List.take_length]
          have hge : ¬ (ts.length : Int) < (ts.length : Int) := by omega
          go_wp2_with (go_at_call 10; refine (HA2.out _ V2.out).mono ?_; rintro e w3 ⟨b3, v, rfl, ho⟩; obtain ⟨b, cb, rfl, hT⟩ := owns_toks ho; rw [hul] at hT ⊢; have U1 : Hid (Toks w3 b ts.length us) := hT; have T3 : Hid (Toks w3 a ts.length ts) := T1.out.below b3; have B3 : Hid (Below w.heap.size w w3) := B2.out.trans (b3.mono B2.out.size); clear ho hT b3)
          go_loopw [4, 14] (fun r vi wr => ∃ k : Nat, vi = .int .i64 k ∧ k ≤ ts.length ∧ Below w3.heap.size w3 wr) (fun _ vi _ => ts.length - (intOf vi).toNat)
          case atStart => exact ⟨0, rfl, Nat.zero_le _, Below.refl _ _⟩
          case round =>
            obtain ⟨j, rfl, hj, hb⟩ := hrel
            have HB : Hid (Below w3.heap.size w3 wr) := hb
            by_cases hlt : j < ts.length
            · obtain ⟨g1, rfl, c1⟩ := (T3.out.below hb).2 (by omega)
              obtain ⟨g2, rfl, c2⟩ := (U1.out.below hb).2 (by omega)
              obtain ⟨p1, p2, p3, p4⟩ := c1 j ts[j] (List.getElem?_eq_getElem hlt)
              obtain ⟨q1, q2, q3, q4⟩ := c2 j us[j] (List.getElem?_eq_getElem (by omega))
              obtain ⟨e1, e2, e3⟩ := kv_at HKV.out j hlt (by omega)
              rw [e1] at q1
              rw [e2] at q3
              rw [e3] at q4
              have hi1 : (j : Int) < (ts.length : Int) := by omega
              clear c1 c2 e1 e2 e3 p2 q2 hb
              generalize ts[j].k = xk at *
              generalize ts[j].t = xt at *
              generalize ts[j].n = xn at *
              generalize bar xt = bt at *
              go_wp2
              go_quiet (fail)
              go_wp2
              go_roundw
              case rel => exact ⟨j + 1, by go_num, hlt, HB.out.trans ((below_drewN _ _).mono HB.out.size)⟩
              case measure => simp [intOf]; omega
            · have hge2 : ¬ (j : Int) < (ts.length : Int) := by omega
              go_wp2
              go_ret
              exact ⟨rfl, B3.out.trans (HB.out.mono B3.out.size)⟩

end Go.Proofs.YtbdhlbigcepglaaDoor
