/-
  All the tokens of a text, by package lex: the walk.
-/
import Derived.Test.YtcckipimfgmmdaaGreatDoorPWay
namespace Go.Proofs.YtcckipimfgmmdaaGreatDoor.P
open Go.RowKit

theorem all_short {l : (List UInt8)} (h : ¬ 8192 < l.length) : all l = go 0 0 l := by unfold all; rw [if_neg h]
theorem all_long {l : (List UInt8)} (h : 8192 < l.length) : all l = .error (4, 0) := by unfold all; rw [if_pos h]

theorem rest_lst (s : ByteArray) (pos : Nat) : lst (s.extract pos s.size) = (lst s).drop pos := by
  rw [lst_extract]
  exact List.take_of_length_le (by rw [List.length_drop, lst_length]; exact Nat.le_refl _)
theorem rest_size (s : ByteArray) (pos : Nat) : (s.extract pos s.size).size = s.size - pos := by
  rw [← lst_length, rest_lst, List.length_drop, lst_length]
theorem rest_head (s : ByteArray) (pos : Nat) (h : pos < s.size) (hz : 0 < (s.extract pos s.size).size) : (s.extract pos s.size)[0]'hz = s[pos]'h := by
  have h1 := lst_at (s.extract pos s.size) 0 hz
  rw [rest_lst, List.getElem?_drop, Nat.add_zero, lst_at s pos h] at h1
  exact (Option.some.inj h1).symm

theorem kindBl : Kind blN false := ⟨fun _ h => blN_high h⟩

theorem tok_new (w : World) (x : Tok) : ∀ j u, x.cells[j]? = some u → (w.alloc (.cells #[.int .i64 x.k, .int .i64 x.at', .string (bar x.t), .int .u64 x.n] 108)).cell? ((⟨w.heap.size, 0, none⟩ : Addr).add j) = some u := new_cells w x _ rfl

theorem tok_new2 (w : World) (o : Obj) (x : Tok) : ∀ j u, x.cells[j]? = some u → ((w.alloc o).alloc (.cells #[.int .i64 x.k, .int .i64 x.at', .string (bar x.t), .int .u64 x.n] 108)).cell? ((⟨w.heap.size + 1, 0, none⟩ : Addr).add j) = some u := by
  have := tok_new (w.alloc o) x
  rw [size_alloc'] at this
  exact this

theorem one_err {l : (List UInt8)} {c : Nat} (h : one l = .error c) : ((c : Int) == 0) = false := by
  have : c = 5 ∨ c = 6 := by
    match l, h with
    | [], h => cases h; exact .inl rfl
    | d :: r, h =>
      unfold one at h
      simp only at h
      split at h
      · cases h
      · split at h
        · unfold numR at h
          split at h
          · cases h
          · cases h; exact .inr rfl
        · unfold sgR at h
          split at h
          · cases h
          · cases h; exact .inl rfl
  rcases this with rfl | rfl <;> rfl

theorem pos_of {w : World} {b pos : Nat} {s : ByteArray} (h : w.heap[b]? = some (.stringIter s pos)) : w.iterPos b = pos := by
  unfold World.iterPos
  rw [h]

theorem block_grown {X Y : World} {row : Option Nat} {b : Nat} {t : TypeId} {l : List Value} (h : Blk X b t l) (hg : X.grownBy Y row) (hr : row ≠ some b) : Blk Y b t l := by
  unfold Blk
  rw [hg.block b h.lt (fun e => hr e.symm)]
  exact h

set_option maxRecDepth 4000 in
set_option maxHeartbeats 4000000 in
theorem all_any (s : ByteArray) (w : World) (hv : Vars w) :
    Calls Tryz.prog 21 #[.string s] w fun e w' => Below w.heap.size w w' ∧ Told w.heap.size (all (lst s)) e w' := by
  by_cases hlong : 8192 < s.size
  · rw [all_long (by rw [lst_length]; exact hlong)]
    have h1 : decide ((8192 : Int) < s.size) = true := by simp; omega
    go_enter Tryz.func21, Tryz.ntmps21
    go_wp2
    go_step3
    go_wp2
    rw [Exit.noGoto_ret]
    go_ret3
    exact ⟨Below.refl _ _, rfl⟩
  · rw [all_short (by rw [lst_length]; exact hlong)]
    have h1 : decide ((8192 : Int) < s.size) = false := by simp; omega
    have HS : Hid (s.size ≤ 8192) := Nat.le_of_not_lt hlong
    have HV : Hid (Vars w) := hv
    generalize hR : go 0 0 (lst s) = R
    have HR : Hid (go 0 0 (lst s) = R) := hR
    clear hlong hv hR
    go_enter Tryz.func21, Tryz.ntmps21
    go_wp2
    go_step3
    go_wp2
    go_step3
    go_wp2
    go_loopw [2, 3, 4, 5, 6] (fun r2 r3 r4 v nx wr => ∃ (pos next : Nat) (acc : List Tok), nx = .int .i64 next ∧ Ho w s wr pos acc v ∧ Pl s pos next acc) (fun _ _ _ _ _ wr => s.size - wr.iterPos w.heap.size)
    case atStart => exact ⟨0, 0, [], rfl, ho_new w s, pl_new s⟩
    case round =>
      obtain ⟨pos, next, acc, rfl, hh, hp⟩ := hrel
      have hi0 := pos_of hh.it
      by_cases hps : pos < s.size
      · have hnx : ∀ ty, (Instr.next (.pointer (some ⟨w.heap.size, 0, none⟩)) true ty).run Tryz.prog wr = _ := fun ty => next_at wr w.heap.size s pos ty hh.it hps
        have hM := hh.move (pos + (Utf8.decode s pos).2)
        have hwd := width_pos s pos hps
        have hi1 := pos_of hM.it
        have HM : Hid (Ho w s (iterTo wr w.heap.size s (pos + (Utf8.decode s pos).2)) (pos + (Utf8.decode s pos).2) acc _) := hM
        have HP : Hid (Pl s pos next acc) := hp
        have HMS : Hid (∀ X acc' v', Ho w s X (pos + (Utf8.decode s pos).2) acc' v' → s.size - X.iterPos w.heap.size < s.size - wr.iterPos w.heap.size) := by
          intro X acc' v' hX
          rw [hi0, pos_of hX.it]
          omega
        clear hM hi1 hi0
        by_cases hpn : pos < next
        · have HP2 : Hid (Pl s (pos + (Utf8.decode s pos).2) next acc) := hp.skip hpn
          clear hp hh
          generalize iterTo wr w.heap.size s (pos + (Utf8.decode s pos).2) = X at *
          go_wp2
          go_roundw
          case rel => exact ⟨_, _, _, rfl, HM.out, HP2.out⟩
          case measure => exact HMS.out _ _ _ HM.out
        · rcases Bool.eq_false_or_eq_true (blN (Utf8.decode s pos).1) with hbl | hbl
          · have HP2 : Hid (Pl s (pos + (Utf8.decode s pos).2) next acc) := hp.blank hpn hps hbl
            clear hp hh
            generalize iterTo wr w.heap.size s (pos + (Utf8.decode s pos).2) = X at *
            generalize (Utf8.decode s pos).1 = n at *
            go_wp2_with (go_at_call 40; refine (bl_any n _).mono ?_; rintro e w1 ⟨rfl, rfl⟩; rw [hbl])
            go_roundw
            case rel => exact ⟨_, _, _, rfl, HM.out, HP2.out⟩
            case measure => exact HMS.out _ _ _ HM.out
          · by_cases hno : (Utf8.decode s pos).1 = 35
            · have HP2 : Hid (Pl s (pos + (Utf8.decode s pos).2) (pos + (((lst s).drop pos).takeWhile ofN).length) acc) := hp.note hpn hps hno
              have HZ : Hid (∀ W, Calls Tryz.prog 41 #[.string (s.extract pos s.size), .func (.func 42) #[] #[]] W fun e w' => e = .returned (.int .i64 (((lst s).drop pos).takeWhile ofN).length) ∧ Below W.heap.size W w') := by
                intro W
                have := sizeN_any (s.extract pos s.size) W
                rw [rest_lst] at this
                exact this
              have hL : pos + (((lst s).drop pos).takeWhile ofN).length ≤ 8192 := by have := HP2.out.nx; have := HS.out; omega
              clear hp hh
              generalize iterTo wr w.heap.size s (pos + (Utf8.decode s pos).2) = X at *
              generalize (((lst s).drop pos).takeWhile ofN).length = L at *
              have hn35 : (((Utf8.decode s pos).1 : Int) == 35) = true := by rw [hno]; rfl
              clear hno
              generalize (Utf8.decode s pos).1 = n at *
              go_wp2_with (first | (go_at_call 40; refine (bl_any n _).mono ?_; rintro e w1 ⟨rfl, rfl⟩; rw [hbl]) | (go_at_call 41; refine (HZ.out _).mono ?_; rintro e w1 ⟨rfl, b1⟩; have HM1 : Hid (Ho w s w1 _ acc _) := HM.out.over b1))
              go_roundw
              case rel => exact ⟨_, _, _, by go_num, HM1.out, HP2.out⟩
              case measure => exact HMS.out _ _ _ HM1.out
            · have hdz : 0 < (s.extract pos s.size).size := by rw [rest_size]; omega
              have HF : Hid (∀ W, Vars W → Calls Tryz.prog 43 #[.string (s.extract pos s.size), .int .i32 (Utf8.decode s pos).1] W fun e w' => Below W.heap.size W w' ∧ One (one ((lst s).drop pos)) 0 e) := by
                intro W hW
                have := first_any (s.extract pos s.size) (Utf8.decode s pos).1 W hdz (by rw [rest_head s pos hps hdz]; exact kindLo.rune s pos hps) (by rw [rest_head s pos hps hdz]; exact kindDg.rune s pos hps) (by rw [rest_size]; have := HS.out; omega) hW
                rw [rest_lst] at this
                exact this
              have hn35 : (((Utf8.decode s pos).1 : Int) == 35) = false := by
                rw [beq_eq_false_iff_ne]
                omega
              have HB := fun c => hp.bad hpn hps hbl hno (c := c)
              have HT := fun k m t => hp.tok hpn hps hbl hno (k := k) (m := m) (t := t)
              have HV1 : Hid (Vars (iterTo wr w.heap.size s (pos + (Utf8.decode s pos).2))) := HV.out.below HM.out.be
              have HO1 := @one_le ((lst s).drop pos)
              have HE1 := @one_err ((lst s).drop pos)
              have hacc : Hid (acc.length ≤ 8192) := by have := hp.len; have := HS.out; show _ ≤ _; omega
              clear hp hh hno hdz
              generalize iterTo wr w.heap.size s (pos + (Utf8.decode s pos).2) = X at *
              generalize (Utf8.decode s pos).1 = n at *
              generalize one ((lst s).drop pos) = Q at *
              obtain c | ⟨k, t, m⟩ := Q
              · have HB2 : Hid (R = .error (c, pos)) := HR.out.symm.trans (HB c rfl)
                have hc0 := HE1 rfl
                have HF2 : Hid (∀ W, Vars W → Calls Tryz.prog 43 #[.string (s.extract pos s.size), .int .i32 n] W fun e w' => Below W.heap.size W w' ∧ e = .returned (.tuple #[.agg #[.int .i64 0, .int .i64 0, .string ⟨#[]⟩, .int .u64 0], .int .i64 c])) := HF.out
                clear HB HT HO1 HE1 HF
                go_wp2_with (first | (go_at_call 40; refine (bl_any n _).mono ?_; rintro e w1 ⟨rfl, rfl⟩; rw [hbl]) | (go_at_call 43; refine (HF2.out _ HV1.out).mono ?_; rintro e w1 ⟨b1, rfl⟩; have HM1 : Hid (Ho w s w1 _ acc _) := HM.out.over b1))
                rw [Exit.noGoto_ret]
                go_ret3
                exact ⟨(HM1.out.alloc _).be, by rw [HB2.out]; rfl⟩
              · have HT2 : Hid (Pl s (pos + (Utf8.decode s pos).2) (pos + t.length) (acc ++ [⟨k, pos, t, m⟩])) := HT k m t rfl
                have hlen : (bar t).size ≤ 8192 := by have := HO1 rfl; rw [List.length_drop, lst_length] at this; rw [bar_size]; have := HS.out; omega
                have HT3 : Hid ((bar t).size = t.length) := bar_size t
                have HF2 : Hid (∀ W, Vars W → Calls Tryz.prog 43 #[.string (s.extract pos s.size), .int .i32 n] W fun e w' => Below W.heap.size W w' ∧ e = .returned (.tuple #[.agg #[.int .i64 k, .int .i64 0, .string (bar t), .int .u64 m], .int .i64 0])) := HF.out
                clear HB HT HO1 HE1 HF
                go_wp2_with (first | (go_at_call 40; refine (bl_any n _).mono ?_; rintro e w1 ⟨rfl, rfl⟩; rw [hbl]) | (go_at_call 43; refine (HF2.out _ HV1.out).mono ?_; rintro e w1 ⟨b1, rfl⟩; have HM1 : Hid (Ho w s w1 _ acc _) := HM.out.over b1) | (at_builtin; refine append_tok rfl (.tmp 51) (.tmp 53) rfl w.heap.size _ acc.length acc rfl ((HM1.out.alloc _).alloc _).own ⟨k, pos, t, m⟩ ⟨w1.heap.size + 1, 0, none⟩ rfl (tok_new2 w1 _ ⟨k, pos, t, m⟩) (by have := hacc.out; omega) ((HM1.out.alloc _).alloc _).be.size ?_; intro v2 w2 ho2 hg2; have HM2 : Hid (Ho w s w2 _ (acc ++ [⟨k, pos, t, m⟩]) v2) := ((HM1.out.alloc _).alloc _).app ho2 hg2; have hc2 : w2.cell? ⟨w1.heap.size, 2, none⟩ = some (.string (bar t)) := (block_grown ((blk_new w1 #[.int .i64 k, .int .i64 pos, .string (bar t), .int .u64 m] 108).alloc _) hg2 (HM1.out.apart (Nat.le_refl _))).cell 2; clear ho2 hg2))
                go_roundw
                case rel => exact ⟨_, _, _, by have hq : s.size ≤ 8192 := HS.out; rw [← HT3.out]; congr 1; unfold wrap64; omega, HM2.out, HT2.out⟩
                case measure => exact HMS.out _ _ _ HM2.out
      · have hnx : ∀ ty, (Instr.next (.pointer (some ⟨w.heap.size, 0, none⟩)) true ty).run Tryz.prog wr = _ := fun ty => next_end wr w.heap.size s pos ty hh.it hps
        have HE : Hid (R = .ok (acc ++ [⟨4, s.size, [], 0⟩])) := HR.out.symm.trans (hp.fin hps)
        have HM : Hid (Ho w s wr pos acc _) := hh
        have hacc : Hid (acc.length ≤ 8192) := by have := hp.len; have := hp.le; have := HS.out; show _ ≤ _; omega
        clear hp hi0 hh
        go_wp2_with (at_builtin; refine append_tok rfl (.tmp 60) (.tmp 64) rfl w.heap.size _ acc.length acc rfl (HM.out.alloc _).own ⟨4, s.size, [], 0⟩ ⟨wr.heap.size, 0, none⟩ rfl (tok_new wr ⟨4, s.size, [], 0⟩) (by have := hacc.out; omega) (HM.out.alloc _).be.size ?_; intro v2 w2 ho2 hg2)
        rw [Exit.noGoto_ret]
        go_ret3
        refine ⟨((HM.out.alloc _).app ho2 hg2).be, ?_⟩
        rw [HE.out]
        exact ⟨_, rfl, ((HM.out.alloc _).app ho2 hg2).own⟩

end Go.Proofs.YtcckipimfgmmdaaGreatDoor.P
