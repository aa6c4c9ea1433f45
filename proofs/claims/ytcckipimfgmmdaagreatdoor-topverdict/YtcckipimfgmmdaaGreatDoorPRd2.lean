/-
  The reader's words: kinds of acts, ops, arguments.
-/
import Derived.Test.YtcckipimfgmmdaaGreatDoorPRd1
namespace Go.Proofs.YtcckipimfgmmdaaGreatDoor.P
open Go.RowKit

theorem txt_is (l m : List UInt8) (h : l = m) : ((bar l).toList == m) = true := by
  rw [ByteArray.toList_eq]
  show (lst (bar l) == m) = true
  rw [lst_bar, h]
  exact beq_self_eq_true _
theorem txt_not (l m : List UInt8) (h : ¬ l = m) : ((bar l).toList == m) = false := by
  rw [ByteArray.toList_eq]
  show (lst (bar l) == m) = false
  rw [lst_bar]
  exact beq_eq_false_iff_ne.2 h

set_option maxHeartbeats 2000000 in
theorem kind_any (t : List UInt8) (w : World) :
    Calls Tryz.prog 78 #[.string (bar t)] w fun e w' => e = .returned (.int .i64 (kindOf t)) ∧ w' = w := by
  by_cases h1 : t = wKill
  · have e1 : ((bar t).toList == [107, 105, 108, 108]) = true := txt_is t _ h1
    have HK : Hid (kindOf t = 1) := by show _ = _; subst h1; rfl
    clear h1
    generalize bar t = bt at *
    go_enter Tryz.func78, Tryz.ntmps78
    go_wp2
    go_ret
    exact ⟨by rw [HK.out]; rfl, rfl⟩
  have e1 : ((bar t).toList == [107, 105, 108, 108]) = false := txt_not t _ h1
  by_cases h2 : t = wThread
  · have e2 : ((bar t).toList == [116, 104, 114, 101, 97, 100]) = true := txt_is t _ h2
    have HK : Hid (kindOf t = 2) := by show _ = _; subst h2; rfl
    clear h1 h2
    generalize bar t = bt at *
    go_enter Tryz.func78, Tryz.ntmps78
    go_wp2
    go_ret
    exact ⟨by rw [HK.out]; rfl, rfl⟩
  have e2 : ((bar t).toList == [116, 104, 114, 101, 97, 100]) = false := txt_not t _ h2
  by_cases h3 : t = wTrap
  · have e3 : ((bar t).toList == [116, 114, 97, 112]) = true := txt_is t _ h3
    have HK : Hid (kindOf t = 3) := by show _ = _; subst h3; rfl
    clear h1 h2 h3
    generalize bar t = bt at *
    go_enter Tryz.func78, Tryz.ntmps78
    go_wp2
    go_ret
    exact ⟨by rw [HK.out]; rfl, rfl⟩
  have e3 : ((bar t).toList == [116, 114, 97, 112]) = false := txt_not t _ h3
  by_cases h4 : t = wErrno
  · have e4 : ((bar t).toList == [101, 114, 114, 110, 111]) = true := txt_is t _ h4
    have HK : Hid (kindOf t = 4) := by show _ = _; subst h4; rfl
    clear h1 h2 h3 h4
    generalize bar t = bt at *
    go_enter Tryz.func78, Tryz.ntmps78
    go_wp2
    go_ret
    exact ⟨by rw [HK.out]; rfl, rfl⟩
  have e4 : ((bar t).toList == [101, 114, 114, 110, 111]) = false := txt_not t _ h4
  by_cases h5 : t = wNotify
  · have e5 : ((bar t).toList == [110, 111, 116, 105, 102, 121]) = true := txt_is t _ h5
    have HK : Hid (kindOf t = 5) := by show _ = _; subst h5; rfl
    clear h1 h2 h3 h4 h5
    generalize bar t = bt at *
    go_enter Tryz.func78, Tryz.ntmps78
    go_wp2
    go_ret
    exact ⟨by rw [HK.out]; rfl, rfl⟩
  have e5 : ((bar t).toList == [110, 111, 116, 105, 102, 121]) = false := txt_not t _ h5
  by_cases h6 : t = wTrace
  · have e6 : ((bar t).toList == [116, 114, 97, 99, 101]) = true := txt_is t _ h6
    have HK : Hid (kindOf t = 6) := by show _ = _; subst h6; rfl
    clear h1 h2 h3 h4 h5 h6
    generalize bar t = bt at *
    go_enter Tryz.func78, Tryz.ntmps78
    go_wp2
    go_ret
    exact ⟨by rw [HK.out]; rfl, rfl⟩
  have e6 : ((bar t).toList == [116, 114, 97, 99, 101]) = false := txt_not t _ h6
  by_cases h7 : t = wLog
  · have e7 : ((bar t).toList == [108, 111, 103]) = true := txt_is t _ h7
    have HK : Hid (kindOf t = 7) := by show _ = _; subst h7; rfl
    clear h1 h2 h3 h4 h5 h6 h7
    generalize bar t = bt at *
    go_enter Tryz.func78, Tryz.ntmps78
    go_wp2
    go_ret
    exact ⟨by rw [HK.out]; rfl, rfl⟩
  have e7 : ((bar t).toList == [108, 111, 103]) = false := txt_not t _ h7
  by_cases h8 : t = wAllow
  · have e8 : ((bar t).toList == [97, 108, 108, 111, 119]) = true := txt_is t _ h8
    have HK : Hid (kindOf t = 8) := by show _ = _; subst h8; rfl
    clear h1 h2 h3 h4 h5 h6 h7 h8
    generalize bar t = bt at *
    go_enter Tryz.func78, Tryz.ntmps78
    go_wp2
    go_ret
    exact ⟨by rw [HK.out]; rfl, rfl⟩
  have e8 : ((bar t).toList == [97, 108, 108, 111, 119]) = false := txt_not t _ h8
  have HK : Hid (kindOf t = 0) := by
    show _ = _
    unfold kindOf
    rw [if_neg h1, if_neg h2, if_neg h3, if_neg h4, if_neg h5, if_neg h6, if_neg h7, if_neg h8]
  clear h1 h2 h3 h4 h5 h6 h7 h8
  generalize bar t = bt at *
  go_enter Tryz.func78, Tryz.ntmps78
  go_wp2
  go_ret
  exact ⟨by rw [HK.out]; rfl, rfl⟩

set_option maxHeartbeats 2000000 in
theorem op_any (t : List UInt8) (w : World) :
    Calls Tryz.prog 140 #[.string (bar t)] w fun e w' => e = .returned (.int .i64 (opOf t)) ∧ w' = w := by
  by_cases h1 : t = [61, 61]
  · have e1 : ((bar t).toList == [61, 61]) = true := txt_is t _ h1
    have HK : Hid (opOf t = 1) := by show _ = _; subst h1; rfl
    clear h1
    generalize bar t = bt at *
    go_enter Tryz.func140, Tryz.ntmps140
    go_wp2
    go_ret
    exact ⟨by rw [HK.out]; rfl, rfl⟩
  have e1 : ((bar t).toList == [61, 61]) = false := txt_not t _ h1
  by_cases h2 : t = [33, 61]
  · have e2 : ((bar t).toList == [33, 61]) = true := txt_is t _ h2
    have HK : Hid (opOf t = 2) := by show _ = _; subst h2; rfl
    clear h1 h2
    generalize bar t = bt at *
    go_enter Tryz.func140, Tryz.ntmps140
    go_wp2
    go_ret
    exact ⟨by rw [HK.out]; rfl, rfl⟩
  have e2 : ((bar t).toList == [33, 61]) = false := txt_not t _ h2
  by_cases h3 : t = [60]
  · have e3 : ((bar t).toList == [60]) = true := txt_is t _ h3
    have HK : Hid (opOf t = 3) := by show _ = _; subst h3; rfl
    clear h1 h2 h3
    generalize bar t = bt at *
    go_enter Tryz.func140, Tryz.ntmps140
    go_wp2
    go_ret
    exact ⟨by rw [HK.out]; rfl, rfl⟩
  have e3 : ((bar t).toList == [60]) = false := txt_not t _ h3
  by_cases h4 : t = [60, 61]
  · have e4 : ((bar t).toList == [60, 61]) = true := txt_is t _ h4
    have HK : Hid (opOf t = 4) := by show _ = _; subst h4; rfl
    clear h1 h2 h3 h4
    generalize bar t = bt at *
    go_enter Tryz.func140, Tryz.ntmps140
    go_wp2
    go_ret
    exact ⟨by rw [HK.out]; rfl, rfl⟩
  have e4 : ((bar t).toList == [60, 61]) = false := txt_not t _ h4
  by_cases h5 : t = [62]
  · have e5 : ((bar t).toList == [62]) = true := txt_is t _ h5
    have HK : Hid (opOf t = 5) := by show _ = _; subst h5; rfl
    clear h1 h2 h3 h4 h5
    generalize bar t = bt at *
    go_enter Tryz.func140, Tryz.ntmps140
    go_wp2
    go_ret
    exact ⟨by rw [HK.out]; rfl, rfl⟩
  have e5 : ((bar t).toList == [62]) = false := txt_not t _ h5
  by_cases h6 : t = [62, 61]
  · have e6 : ((bar t).toList == [62, 61]) = true := txt_is t _ h6
    have HK : Hid (opOf t = 6) := by show _ = _; subst h6; rfl
    clear h1 h2 h3 h4 h5 h6
    generalize bar t = bt at *
    go_enter Tryz.func140, Tryz.ntmps140
    go_wp2
    go_ret
    exact ⟨by rw [HK.out]; rfl, rfl⟩
  have e6 : ((bar t).toList == [62, 61]) = false := txt_not t _ h6
  have HK : Hid (opOf t = 0) := by
    show _ = _
    unfold opOf
    rw [if_neg h1, if_neg h2, if_neg h3, if_neg h4, if_neg h5, if_neg h6]
  clear h1 h2 h3 h4 h5 h6
  generalize bar t = bt at *
  go_enter Tryz.func140, Tryz.ntmps140
  go_wp2
  go_ret
  exact ⟨by rw [HK.out]; rfl, rfl⟩

set_option maxHeartbeats 2000000 in
theorem has_any (k : Nat) (w : World) : Calls Tryz.prog 80 #[.int .i64 k] w fun e w' => e = .returned (.bool (numK k)) ∧ w' = w := by
  by_cases h3 : k = 3
  · subst h3
    go_enter Tryz.func80, Tryz.ntmps80
    go_wp2
    go_ret
    exact ⟨rfl, rfl⟩
  by_cases h4 : k = 4
  · subst h4
    go_enter Tryz.func80, Tryz.ntmps80
    go_wp2
    go_ret
    exact ⟨rfl, rfl⟩
  by_cases h6 : k = 6
  · subst h6
    go_enter Tryz.func80, Tryz.ntmps80
    go_wp2
    go_ret
    exact ⟨rfl, rfl⟩
  have e3 : ((k : Int) == 3) = false := by rw [beq_eq_false_iff_ne]; omega
  have e4 : ((k : Int) == 4) = false := by rw [beq_eq_false_iff_ne]; omega
  have e6 : ((k : Int) == 6) = false := by rw [beq_eq_false_iff_ne]; omega
  have HK : Hid (numK k = false) := by
    show _ = _
    simp [numK, h3, h4, h6]
  clear h3 h4 h6
  go_enter Tryz.func80, Tryz.ntmps80
  go_wp2
  go_ret
  exact ⟨by rw [HK.out]; rfl, rfl⟩

end Go.Proofs.YtcckipimfgmmdaaGreatDoor.P
