/-
  What a number is worth, and its token, by package lex.
-/
import Derived.Test.YtcckipimfgmmdaaGreatDoorPErr
import Derived.BigQuiet
namespace Go.Proofs.YtcckipimfgmmdaaGreatDoor.P
open Go.RowKit

/-- what is told of a number. -/
def Worth (r : Option Nat) (e : Ending) : Prop :=
  match r with
  | some n => e = .returned (.tuple #[.int .u64 n, .bool true])
  | none => ∃ m, e = .returned (.tuple #[.int .u64 m, .bool false])

theorem pre_0x (s : ByteArray) : pre s ⟨#[48, 120]⟩ = decide ((lst s).take 2 = [48, 120]) := by
  unfold pre
  rw [Bool.eq_iff_iff, List.isPrefixOf_iff_prefix, List.prefix_iff_eq_take, decide_eq_true_iff]
  exact eq_comm

theorem drop2 (s : ByteArray) : lst (s.extract 2 s.size) = (lst s).drop 2 := by
  rw [lst_extract]
  exact List.take_of_length_le (by rw [List.length_drop, lst_length]; exact Nat.le_refl _)

theorem numV_hex {l : (List UInt8)} (h : l.take 2 = [48, 120]) : numV l = if l.length = 2 then none else (if l.length ≤ 18 then parse 16 0 (l.drop 2) else none) := by
  have hl : 2 ≤ l.length := by
    have := congrArg List.length h
    rw [List.length_take] at this
    simp at this
    omega
  unfold numV
  rw [if_pos h]
  by_cases h2 : l.length = 2
  · rw [if_pos h2, if_neg (by omega)]
  · rw [if_neg h2]
    by_cases h3 : l.length ≤ 18
    · rw [if_pos h3, if_pos ⟨by omega, h3⟩]
    · rw [if_neg h3, if_neg (by omega)]

theorem numV_zero {l : (List UInt8)} (h : ¬ l.take 2 = [48, 120]) (h0 : l.take 1 = [48]) : numV l = if l = [48] then some 0 else none := by
  unfold numV
  rw [if_neg h, if_pos h0]

theorem numV_ten {l : (List UInt8)} (h0 : ¬ l.take 1 = [48]) : numV l = parse 10 0 l := by
  unfold numV
  rw [if_neg, if_neg h0]
  intro h
  apply h0
  match l, h with
  | [a, b], h => simp at h ⊢; exact h.1
  | a :: b :: c :: r, h => simp at h ⊢; exact h.1

theorem take1 (s : ByteArray) (h : 0 < s.size) : (lst s).take 1 = [s[0]'h] := by
  have := drop_cons s 0 h
  rw [List.drop_zero] at this
  rw [this]
  rfl

theorem size2 (s : ByteArray) : (s.extract 2 s.size).size = s.size - 2 := by
  rw [← lst_length, drop2, List.length_drop, lst_length]

set_option maxHeartbeats 2000000 in
theorem worth_any (s : ByteArray) (w : World) (h0 : 0 < s.size) (hw : ∀ c ∈ lst s, wN c.toNat = true) (hs : s.size ≤ 100000000) (hv : Vars w) :
    Calls Tryz.prog 118 #[.string s] w fun e w' => Below w.heap.size w w' ∧ Worth (numV (lst s)) e := by
  have HC := cut_any s ⟨#[48, 120]⟩ w
  rw [pre_0x] at HC
  by_cases h : (lst s).take 2 = [48, 120]
  · rw [decide_eq_true h, if_pos rfl, show (ByteArray.mk #[48, 120]).size = 2 from rfl] at HC
    have HQ := read16_any (s.extract 2 s.size) w (fun c hc => hw c (by rw [drop2] at hc; exact List.mem_of_mem_drop hc)) (by rw [size2]; omega) hv
    rw [drop2, size2] at HQ
    rw [numV_hex h, lst_length]
    have hl : 2 ≤ s.size := by
      have := congrArg List.length h
      rw [List.length_take, lst_length] at this
      simp at this
      omega
    have hsz := size2 s
    generalize s.extract 2 s.size = d at *
    by_cases h2 : s.size = 2
    · rw [if_pos (by omega)] at HQ
      rw [if_pos h2]
      clear h hw hv h2 hsz
      go_enter Tryz.func118, Tryz.ntmps118
      go_wp2_with (first | (go_at_call 137; refine HC.mono ?_; rintro e w1 ⟨rfl, rfl⟩) | (go_at_call 138; refine HQ.mono ?_; rintro e w1 ⟨hb, m, t, x, rfl⟩))
      go_ret2
      exact ⟨hb, _, rfl⟩
    · rw [if_neg (by omega)] at HQ
      rw [if_neg h2]
      generalize parse 16 0 ((lst s).drop 2) = r at *
      cases r with
      | none =>
        rw [ite_self]
        clear h hw hv h2 hsz
        go_enter Tryz.func118, Tryz.ntmps118
        go_wp2_with (first | (go_at_call 137; refine HC.mono ?_; rintro e w1 ⟨rfl, rfl⟩) | (go_at_call 138; refine HQ.mono ?_; rintro e w1 ⟨hb, m, t, x, rfl⟩))
        go_ret2
        exact ⟨hb, _, rfl⟩
      | some n =>
        have HN : Hid (∀ e, e = .returned (.tuple #[.int .u64 n, .bool (decide ((d.size : Int) ≤ 16))]) → Worth (if s.size ≤ 18 then some n else none) e) := by
          rintro e rfl
          by_cases h3 : s.size ≤ 18
          · rw [if_pos h3]
            show _ = _
            rw [show decide ((d.size : Int) ≤ 16) = true from by simp; omega]
          · rw [if_neg h3]
            refine ⟨n, ?_⟩
            rw [show decide ((d.size : Int) ≤ 16) = false from by simp; omega]
        generalize (if s.size ≤ 18 then some n else none) = R at *
        clear h hw hv h2 hsz hl h0
        go_enter Tryz.func118, Tryz.ntmps118
        go_wp2_with (first | (go_at_call 137; refine HC.mono ?_; rintro e w1 ⟨rfl, rfl⟩) | (go_at_call 138; refine HQ.mono ?_; rintro e w1 ⟨hb, rfl⟩))
        go_ret2
        exact ⟨hb, HN.out _ rfl⟩
  · rw [decide_eq_false h, if_neg (by decide)] at HC
    have ht := take1 s h0
    by_cases hz : (lst s).take 1 = [48]
    · rw [numV_zero h hz]
      have hc : (s[0]'h0).toNat = 48 := by
        rw [hz] at ht
        injection ht with ht _
        rw [← ht]
        rfl
      have HN : Hid (∀ e, e = .returned (.tuple #[.int .u64 0, .bool (s.toList == [48])]) → Worth (if lst s = [48] then some 0 else none) e) := by
        rintro e rfl
        rw [show s.toList = lst s from ByteArray.toList_eq s]
        by_cases h3 : lst s = [48]
        · rw [if_pos h3, h3]
          show _ = _
          rfl
        · rw [if_neg h3]
          refine ⟨0, ?_⟩
          rw [show (lst s == [48]) = false from by
            rw [beq_eq_false_iff_ne]
            exact h3]
      have hix : ((s[0]'h0).toNat : Int) = 48 := by omega
      generalize (if lst s = [48] then some 0 else none) = R at *
      clear h hw hv hz ht hc
      go_enter Tryz.func118, Tryz.ntmps118
      go_wp2_with (first | (go_at_call 137; refine HC.mono ?_; rintro e w1 ⟨rfl, rfl⟩))
      go_ret2
      exact ⟨Below.refl _ _, HN.out _ rfl⟩
    · rw [numV_ten hz]
      have HQ := read10_any s w hw hs hv
      rw [if_neg (by omega)] at HQ
      have hix : (((s[0]'h0).toNat : Int) == 48) = false := by
        rw [beq_eq_false_iff_ne]
        intro e
        apply hz
        rw [ht]
        have : s[0]'h0 = 48 := UInt8.toNat_inj.1 (by show _ = 48; omega)
        rw [this]
      generalize parse 10 0 (lst s) = r at *
      clear h hw hv hz ht
      cases r with
      | none =>
        go_enter Tryz.func118, Tryz.ntmps118
        go_wp2_with (first | (go_at_call 137; refine HC.mono ?_; rintro e w1 ⟨rfl, rfl⟩) | (go_at_call 138; refine HQ.mono ?_; rintro e w1 ⟨hb, m, t, x, rfl⟩))
        go_quiet (fail)
        go_wp2
        go_ret2
        exact ⟨hb.trans ((below_drewN _ _).mono hb.size), _, rfl⟩
      | some n =>
        go_enter Tryz.func118, Tryz.ntmps118
        go_wp2_with (first | (go_at_call 137; refine HC.mono ?_; rintro e w1 ⟨rfl, rfl⟩) | (go_at_call 138; refine HQ.mono ?_; rintro e w1 ⟨hb, rfl⟩))
        go_quiet (fail)
        go_wp2
        go_ret2
        exact ⟨hb.trans ((below_drewN _ _).mono hb.size), rfl⟩

end Go.Proofs.YtcckipimfgmmdaaGreatDoor.P
