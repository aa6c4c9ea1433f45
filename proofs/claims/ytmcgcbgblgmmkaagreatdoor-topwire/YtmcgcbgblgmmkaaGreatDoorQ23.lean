/-
  PWay PAll PPar.
-/
import Derived.Test.YtmcgcbgblgmmkaaGreatDoorQ22
import Derived.Test.YtmcgcbgblgmmkaaGreatDoorQ21
set_option maxRecDepth 8000
set_option maxHeartbeats 4000000
namespace Go.Proofs.YtmcgcbgblgmmkaaGreatDoor.P
open M (Kind Kind.mk drop_cons lst lst_at lst_length)
open Go.RowKit
def Told (base : Nat) (r : (Except (Nat × Nat) (List Tok))) (e : Ending) (w' : World) : Prop :=
 match r with
 | .error (c, p) => e = .returned (.tuple #[.slice none 0 0, .int .i64 c, .int .i64 p])
 | .ok ts => ∃ v, e = .returned (.tuple #[v, .int .i64 0, .int .i64 (-1)]) /\ w'.ownsRow base 142 4 v ts.length (cellsT ts)
structure Ho (w : World) (s : ByteArray) (wr : World) (pos : Nat) (acc : List Tok) (v : Value) : Prop where
 it : wr.heap[w.heap.size]? = some (.stringIter s pos)
 own : wr.ownsRow w.heap.size 142 4 v acc.length (cellsT acc)
 be : Below w.heap.size w wr
section
variable {w wr : World} {s : ByteArray} {pos : Nat} {acc : List Tok} {v : Value}
theorem Ho.lt (h : Ho w s wr pos acc v) : w.heap.size < wr.heap.size := (Array.getElem?_eq_some_iff.1 h.it).1
theorem Ho.move (h : Ho w s wr pos acc v) (pos' : Nat) : Ho w s (iterTo wr w.heap.size s pos') pos' acc v :=
 ⟨iterTo_at h.it, iterTo_owns h.own h.it, iterTo_below h.be (Nat.le_refl _) _ _⟩
theorem Ho.over {X : World} (h : Ho w s wr pos acc v) (hb : Below wr.heap.size wr X) : Ho w s X pos acc v :=
 ⟨by rw [hb.block _ h.lt]; exact h.it, owns_below h.own hb (Nat.le_refl _), h.be.trans (hb.mono h.be.size)⟩
theorem Ho.alloc (h : Ho w s wr pos acc v) (o : Obj) : Ho w s (wr.alloc o) pos acc v := h.over ((Below.refl _ _).alloc (Nat.le_refl _) _)
theorem Ho.ne (h : Ho w s wr pos acc v) : v.ownBlock ≠ some w.heap.size := by
 intro e
 rcases h.own.2 with ⟨rfl, _⟩ | ⟨g, cap, cur, rfl, hb, hg, _⟩
 ·cases e
 ·have e2 : g = w.heap.size := Option.some.inj e
  subst e2
  rw [h.it] at hg
  cases hg
theorem Ho.app {X : World} {v' : Value} {x : Tok} (h : Ho w s wr pos acc v) (ho : X.ownsRow w.heap.size 142 4 v' (acc.length + 1) (cellsT (acc ++ [x]))) (hg : wr.grownBy X v.ownBlock) : Ho w s X pos (acc ++ [x]) v' :=
 ⟨by rw [hg.block _ h.lt (fun e => h.ne e.symm)]; exact h.it, by rw [List.length_append]; exact ho, h.be.grown hg h.be.size (owns_block h.own)⟩
theorem Ho.apart (h : Ho w s wr pos acc v) {b : Nat} (hb : wr.heap.size <= b) : v.ownBlock ≠ some b := by
 intro e
 rcases h.own.2 with ⟨rfl, _⟩ | ⟨g, cap, cur, rfl, _, hg, _⟩
 ·cases e
 ·have e2 : g = b := Option.some.inj e
  have := lt_of_block hg
  omega
end
theorem ho_new (w : World) (s : ByteArray) : Ho w s (w.iter s 0) 0 [] (.slice none 0 0) :=
 ⟨World.iter_heap w s 0, ⟨rfl, .inl ⟨rfl, rfl⟩⟩, (Below.refl _ _).alloc (Nat.le_refl _) _⟩
structure Pl (s : ByteArray) (pos next : Nat) (acc : List Tok) : Prop where
 eq : glue acc (go (next - pos) pos ((lst s).drop pos)) = go 0 0 (lst s)
 le : pos <= s.size
 st : pos <= next -> Stop (lst s) pos next
 len : acc.length <= pos
 nx : next <= s.size
theorem pl_new (s : ByteArray) : Pl s 0 0 [] :=
 ⟨by rw [glue_nil]; rfl, Nat.zero_le _, fun _ => ⟨Nat.zero_le _, .inl fun i c _ h => by omega⟩, Nat.zero_le _, Nat.zero_le _⟩
section
variable {s : ByteArray} {pos next : Nat} {acc : List Tok}
theorem Pl.skip (h : Pl s pos next acc) (hp : pos < next) : Pl s (pos + (Utf8.decode s pos).2) next acc := by
 obtain ⟨h1, h2⟩ := (h.st (by omega)).step hp
 have hl := h2.1
 rw [lst_length] at hl
 refine ⟨?_, by omega, fun _ => h2, by have := h.len; omega, h.nx⟩
 have he := h.eq
 rw [show next - pos = (Utf8.decode s pos).2 + (next - (pos + (Utf8.decode s pos).2)) from by omega] at he
 rw [go_skip _ _ _ _ (by rw [List.length_drop, lst_length]; omega), List.drop_drop] at he
 exact he
theorem Pl.blank (h : Pl s pos next acc) (hp : ¬ pos < next) (hs : pos < s.size) (hb : blN (Utf8.decode s pos).1 = true) : Pl s (pos + (Utf8.decode s pos).2) next acc := by
 have ha : (s[pos]'hs).toNat < 128 := by
  rcases Nat.lt_or_ge (s[pos]'hs).toNat 128 with h | h
  ·exact h
  ·rw [blN_high (decode_high s pos hs h).1] at hb; cases hb
 rw [decode_ascii s pos hs ha] at hb ⊢
 refine ⟨?_, by omega, fun h => by simp at h; omega, by have := h.len; omega, h.nx⟩
 have he := h.eq
 rw [show next - pos = 0 from by omega, drop_cons s pos hs, go_blank hb] at he
 rw [show next - (pos + 1) = 0 from by omega]
 exact he
theorem Pl.note (h : Pl s pos next acc) (hp : ¬ pos < next) (hs : pos < s.size) (hb : (Utf8.decode s pos).1 = 35) : Pl s (pos + (Utf8.decode s pos).2) (pos + (((lst s).drop pos).takeWhile ofN).length) acc := by
 have ha : (s[pos]'hs).toNat < 128 := by
  rcases Nat.lt_or_ge (s[pos]'hs).toNat 128 with h | h
  ·exact h
  ·have := (decode_high s pos hs h).1; omega
 rw [decode_ascii s pos hs ha] at hb ⊢
 have hle := take_while_le ofN ((lst s).drop pos)
 rw [List.length_drop, lst_length] at hle
 have hn : (((lst s).drop pos).takeWhile ofN).length = (((lst s).drop (pos + 1)).takeWhile ofN).length + 1 := by
  rw [drop_cons s pos hs]
  exact note_len hb
 refine ⟨?_, by omega, fun _ => ⟨by rw [lst_length]; omega, ?_⟩, by have := h.len; omega, by omega⟩
 ·have he := h.eq
  rw [show next - pos = 0 from by omega, drop_cons s pos hs, go_note hb, note_len hb, go_over (Nat.succ_pos _)] at he
  rw [hn]
  rw [show pos + ((((lst s).drop (pos + 1)).takeWhile ofN).length + 1) - (pos + 1) = (((lst s).drop (pos + 1)).takeWhile ofN).length from by omega]
  exact he
 ·right
  rcases Nat.lt_or_ge (pos + (((lst s).drop pos).takeWhile ofN).length) s.size with hlt | hge
  ·right
   have hc := lst_at s _ hlt
   refine ⟨_, hc, ?_⟩
   have := take_while_next ofN ((lst s).drop pos) _ (by rw [List.getElem?_drop]; exact hc)
   simp [ofN, noN] at this
   omega
  ·left
   rw [lst_length]
   omega
theorem Pl.bad (h : Pl s pos next acc) (hp : ¬ pos < next) (hs : pos < s.size) (hb : blN (Utf8.decode s pos).1 = false) (hn : ¬ (Utf8.decode s pos).1 = 35) {c : Nat} (ho : one ((lst s).drop pos) = .error c) : go 0 0 (lst s) = .error (c, pos) := by
 have he := h.eq
 have h1 : blN (s[pos]'hs).toNat = false := by rw [<- (Kind.mk (fun _ h => blN_high h) : Kind blN false).rune s pos hs]; exact hb
 have h2 : ¬ (s[pos]'hs).toNat = 35 := by
  intro e
  rw [decode_ascii s pos hs (by omega)] at hn
  exact hn e
 rw [drop_cons s pos hs] at ho he
 rw [show next - pos = 0 from by omega, go_one h1 h2, ho] at he
 exact he.symm
theorem Pl.tok (h : Pl s pos next acc) (hp : ¬ pos < next) (hs : pos < s.size) (hb : blN (Utf8.decode s pos).1 = false) (hn : ¬ (Utf8.decode s pos).1 = 35) {k m : Nat} {t : (List UInt8)} (ho : one ((lst s).drop pos) = .ok (k, t, m)) :
  Pl s (pos + (Utf8.decode s pos).2) (pos + t.length) (acc ++ [⟨k, pos, t, m⟩]) := by
 have he := h.eq
 have h1 : blN (s[pos]'hs).toNat = false := by rw [<- (Kind.mk (fun _ h => blN_high h) : Kind blN false).rune s pos hs]; exact hb
 have h2 : ¬ (s[pos]'hs).toNat = 35 := by
  intro e
  rw [decode_ascii s pos hs (by omega)] at hn
  exact hn e
 obtain ⟨t1, t2, t3⟩ := one_take ho
 have tl := one_le ho
 rw [List.length_drop, lst_length] at tl
 have ha : (s[pos]'hs).toNat < 128 := by
  apply t3
  rw [<- t1, drop_cons s pos hs]
  match t, t2 with
  | d :: t', _ => simp
 rw [decode_ascii s pos hs ha]
 rw [drop_cons s pos hs] at ho he
 rw [show next - pos = 0 from by omega, go_one h1 h2, ho] at he
 refine ⟨?_, by simp; omega, fun _ => ⟨by rw [lst_length]; omega, .inl fun i c hi1 hi2 hc => ?_⟩, by have := h.len; simp; omega, by omega⟩
 ·simp only at he
  rw [glue_glue] at he
  rw [show pos + t.length - (pos + 1) = t.length - 1 from by omega]
  exact he
 ·apply t3
  rw [<- t1]
  have : ((lst s).drop pos)[i - pos]? = some c := by rw [List.getElem?_drop, show pos + (i - pos) = i from by omega]; exact hc
  exact List.mem_of_getElem? (i := i - pos) (by rw [List.getElem?_take_of_lt (by omega)]; exact this)
theorem Pl.fin (h : Pl s pos next acc) (hs : ¬ pos < s.size) : go 0 0 (lst s) = .ok (acc ++ [⟨4, s.size, [], 0⟩]) := by
 have he := h.eq
 have hl := h.le
 obtain rfl : pos = s.size := by omega
 rw [List.drop_eq_nil_of_le (by rw [lst_length]; exact Nat.le_refl _)] at he
 exact he.symm
end
open F.D (Blk blk_new size_alloc')
open M (bar width_pos)
theorem all_short {l : (List UInt8)} (h : ¬ 8192 < l.length) : all l = go 0 0 l := by unfold all; rw [if_neg h]
theorem all_long {l : (List UInt8)} (h : 8192 < l.length) : all l = .error (4, 0) := by unfold all; rw [if_pos h]
theorem rest_lst (s : ByteArray) (pos : Nat) : lst (s.extract pos s.size) = (lst s).drop pos := by
 rw [lst_extract]
 exact List.take_of_length_le (by rw [List.length_drop, lst_length]; exact Nat.le_refl _)
theorem rest_size (s : ByteArray) (pos : Nat) : (s.extract pos s.size).size = s.size - pos := by
 rw [<- lst_length, rest_lst, List.length_drop, lst_length]
theorem rest_head (s : ByteArray) (pos : Nat) (h : pos < s.size) (hz : 0 < (s.extract pos s.size).size) : (s.extract pos s.size)[0]'hz = s[pos]'h := by
 have h1 := lst_at (s.extract pos s.size) 0 hz
 rw [rest_lst, List.getElem?_drop, Nat.add_zero, lst_at s pos h] at h1
 exact (Option.some.inj h1).symm
theorem tok_new (w : World) (x : Tok) : ∀ j u, x.cells[j]? = some u -> (w.alloc (.cells #[.int .i64 x.k, .int .i64 x.at', .string (bar x.t), .int .u64 x.n] 142)).cell? ((⟨w.heap.size, 0, none⟩ : Addr).add j) = some u := new_cells w x _ rfl
theorem tok_new2 (w : World) (o : Obj) (x : Tok) : ∀ j u, x.cells[j]? = some u -> ((w.alloc o).alloc (.cells #[.int .i64 x.k, .int .i64 x.at', .string (bar x.t), .int .u64 x.n] 142)).cell? ((⟨w.heap.size + 1, 0, none⟩ : Addr).add j) = some u := by
 have := tok_new (w.alloc o) x
 rw [size_alloc'] at this
 exact this
theorem one_err {l : (List UInt8)} {c : Nat} (h : one l = .error c) : ((c : Int) == 0) = false := by
 have : c = 5 \/ c = 6 := by
  match l, h with
  | [], h => cases h; exact .inl rfl
  | d :: r, h =>
   unfold one at h
   simp only at h
   split at h
   ·cases h
   ·split at h
    ·unfold numR at h
     split at h
     ·cases h
     ·cases h; exact .inr rfl
    ·unfold sgR at h
     split at h
     ·cases h
     ·cases h; exact .inl rfl
 rcases this with rfl | rfl <;> rfl
theorem pos_of {w : World} {b pos : Nat} {s : ByteArray} (h : w.heap[b]? = some (.stringIter s pos)) : w.iterPos b = pos := by
 unfold World.iterPos
 rw [h]
theorem block_grown {X Y : World} {row : Option Nat} {b : Nat} {t : TypeId} {l : List Value} (h : Blk X b t l) (hg : X.grownBy Y row) (hr : row ≠ some b) : Blk Y b t l := by
 unfold Blk
 rw [hg.block b h.lt (fun e => hr e.symm)]
 exact h
theorem all_any (s : ByteArray) (w : World) (hv : Vars w) :
  Calls Tryz.prog 33 #[.string s] w fun e w' => Below w.heap.size w w' /\ Told w.heap.size (all (lst s)) e w' := by
 by_cases hlong : 8192 < s.size
 ·rw [all_long (by rw [lst_length]; exact hlong)]
  have h1 : decide ((8192 : Int) < s.size) = true := by simp; omega
  go_enter Tryz.func33, Tryz.ntmps33
  go_wp2
  go_step3
  go_wp2
  rw [Exit.noGoto_ret]
  go_ret3
  exact ⟨Below.refl _ _, rfl⟩
 ·rw [all_short (by rw [lst_length]; exact hlong)]
  have h1 : decide ((8192 : Int) < s.size) = false := by simp; omega
  have HS : Hid (s.size <= 8192) := Nat.le_of_not_lt hlong
  have HV : Hid (Vars w) := hv
  generalize hR : go 0 0 (lst s) = R
  have HR : Hid (go 0 0 (lst s) = R) := hR
  clear hlong hv hR
  go_enter Tryz.func33, Tryz.ntmps33
  go_wp2
  go_step3
  go_wp2
  go_step3
  go_wp2
  go_loopw [2, 3, 4, 5, 6] (fun r2 r3 r4 v nx wr => ∃ (pos next : Nat) (acc : List Tok), nx = .int .i64 next /\ Ho w s wr pos acc v /\ Pl s pos next acc) (fun _ _ _ _ _ wr => s.size - wr.iterPos w.heap.size)
  case atStart => exact ⟨0, 0, [], rfl, ho_new w s, pl_new s⟩
  case round =>
   obtain ⟨pos, next, acc, rfl, hh, hp⟩ := hrel
   have hi0 := pos_of hh.it
   by_cases hps : pos < s.size
   ·have hnx : ∀ ty, (Instr.next (.pointer (some ⟨w.heap.size, 0, none⟩)) true ty).run Tryz.prog wr = _ := fun ty => next_at wr w.heap.size s pos ty hh.it hps
    have hM := hh.move (pos + (Utf8.decode s pos).2)
    have hwd := width_pos s pos hps
    have hi1 := pos_of hM.it
    have HM : Hid (Ho w s (iterTo wr w.heap.size s (pos + (Utf8.decode s pos).2)) (pos + (Utf8.decode s pos).2) acc _) := hM
    have HP : Hid (Pl s pos next acc) := hp
    have HMS : Hid (∀ X acc' v', Ho w s X (pos + (Utf8.decode s pos).2) acc' v' -> s.size - X.iterPos w.heap.size < s.size - wr.iterPos w.heap.size) := by
     intro X acc' v' hX
     rw [hi0, pos_of hX.it]
     omega
    clear hM hi1 hi0
    by_cases hpn : pos < next
    ·have HP2 : Hid (Pl s (pos + (Utf8.decode s pos).2) next acc) := hp.skip hpn
     clear hp hh
     generalize iterTo wr w.heap.size s (pos + (Utf8.decode s pos).2) = X at *
     go_wp2
     go_roundw
     case rel => exact ⟨_, _, _, rfl, HM.out, HP2.out⟩
     case measure => exact HMS.out _ _ _ HM.out
    ·rcases Bool.eq_false_or_eq_true (blN (Utf8.decode s pos).1) with hbl | hbl
     ·have HP2 : Hid (Pl s (pos + (Utf8.decode s pos).2) next acc) := hp.blank hpn hps hbl
      clear hp hh
      generalize iterTo wr w.heap.size s (pos + (Utf8.decode s pos).2) = X at *
      generalize (Utf8.decode s pos).1 = n at *
      go_wp2_with (go_at_call 65; refine (bl_any n _).mono ?_; rintro e w1 ⟨rfl, rfl⟩; rw [hbl])
      go_roundw
      case rel => exact ⟨_, _, _, rfl, HM.out, HP2.out⟩
      case measure => exact HMS.out _ _ _ HM.out
     ·by_cases hno : (Utf8.decode s pos).1 = 35
      ·have HP2 : Hid (Pl s (pos + (Utf8.decode s pos).2) (pos + (((lst s).drop pos).takeWhile ofN).length) acc) := hp.note hpn hps hno
       have HZ : Hid (∀ W, Calls Tryz.prog 66 #[.string (s.extract pos s.size), .func (.func 67) #[] #[]] W fun e w' => e = .returned (.int .i64 (((lst s).drop pos).takeWhile ofN).length) /\ Below W.heap.size W w') := by
        intro W
        have := sizeN_any (s.extract pos s.size) W
        rw [rest_lst] at this
        exact this
       have hL : pos + (((lst s).drop pos).takeWhile ofN).length <= 8192 := by have := HP2.out.nx; have := HS.out; omega
       clear hp hh
       generalize iterTo wr w.heap.size s (pos + (Utf8.decode s pos).2) = X at *
       generalize (((lst s).drop pos).takeWhile ofN).length = L at *
       have hn35 : (((Utf8.decode s pos).1 : Int) == 35) = true := by rw [hno]; rfl
       clear hno
       generalize (Utf8.decode s pos).1 = n at *
       go_wp2_with (first | (go_at_call 65; refine (bl_any n _).mono ?_; rintro e w1 ⟨rfl, rfl⟩; rw [hbl]) | (go_at_call 66; refine (HZ.out _).mono ?_; rintro e w1 ⟨rfl, b1⟩; have HM1 : Hid (Ho w s w1 _ acc _) := HM.out.over b1))
       go_roundw
       case rel => exact ⟨_, _, _, by go_num, HM1.out, HP2.out⟩
       case measure => exact HMS.out _ _ _ HM1.out
      ·have hdz : 0 < (s.extract pos s.size).size := by rw [rest_size]; omega
       have HF : Hid (∀ W, Vars W -> Calls Tryz.prog 68 #[.string (s.extract pos s.size), .int .i32 (Utf8.decode s pos).1] W fun e w' => Below W.heap.size W w' /\ One (one ((lst s).drop pos)) 0 e) := by
        intro W hW
        have := first_any (s.extract pos s.size) (Utf8.decode s pos).1 W hdz (by rw [rest_head s pos hps hdz]; exact kindLo.rune s pos hps) (by rw [rest_head s pos hps hdz]; exact kindDg.rune s pos hps) (by rw [rest_size]; have := HS.out; omega) hW
        rw [rest_lst] at this
        exact this
       have hn35 : (((Utf8.decode s pos).1 : Int) == 35) = false := by
        rw [beq_eq_false_iff_ne]
        omega
       have HB := fun c => hp.bad hpn hps hbl hno (c := c)
       have HT := fun k m t => hp.tok hpn hps hbl hno (k := k) (m := m) (t := t)
       have HV1 : Hid (Vars (iterTo wr w.heap.size s (pos + (Utf8.decode s pos).2))) := HV.out.below HM.out.be
       have HO1 := @one_le ((lst s).drop pos)
       have HE1 := @one_err ((lst s).drop pos)
       have hacc : Hid (acc.length <= 8192) := by have := hp.len; have := HS.out; show _ <= _; omega
       clear hp hh hno hdz
       generalize iterTo wr w.heap.size s (pos + (Utf8.decode s pos).2) = X at *
       generalize (Utf8.decode s pos).1 = n at *
       generalize one ((lst s).drop pos) = Q at *
       obtain c | ⟨k, t, m⟩ := Q
       ·have HB2 : Hid (R = .error (c, pos)) := HR.out.symm.trans (HB c rfl)
        have hc0 := HE1 rfl
        have HF2 : Hid (∀ W, Vars W -> Calls Tryz.prog 68 #[.string (s.extract pos s.size), .int .i32 n] W fun e w' => Below W.heap.size W w' /\ e = .returned (.tuple #[.agg #[.int .i64 0, .int .i64 0, .string ⟨#[]⟩, .int .u64 0], .int .i64 c])) := HF.out
        clear HB HT HO1 HE1 HF
        go_wp2_with (first | (go_at_call 65; refine (bl_any n _).mono ?_; rintro e w1 ⟨rfl, rfl⟩; rw [hbl]) | (go_at_call 68; refine (HF2.out _ HV1.out).mono ?_; rintro e w1 ⟨b1, rfl⟩; have HM1 : Hid (Ho w s w1 _ acc _) := HM.out.over b1))
        rw [Exit.noGoto_ret]
        go_ret3
        exact ⟨(HM1.out.alloc _).be, by rw [HB2.out]; rfl⟩
       ·have HT2 : Hid (Pl s (pos + (Utf8.decode s pos).2) (pos + t.length) (acc ++ [⟨k, pos, t, m⟩])) := HT k m t rfl
        have hlen : (bar t).size <= 8192 := by have := HO1 rfl; rw [List.length_drop, lst_length] at this; rw [bar_size]; have := HS.out; omega
        have HT3 : Hid ((bar t).size = t.length) := bar_size t
        have HF2 : Hid (∀ W, Vars W -> Calls Tryz.prog 68 #[.string (s.extract pos s.size), .int .i32 n] W fun e w' => Below W.heap.size W w' /\ e = .returned (.tuple #[.agg #[.int .i64 k, .int .i64 0, .string (bar t), .int .u64 m], .int .i64 0])) := HF.out
        clear HB HT HO1 HE1 HF
        go_wp2_with (first | (go_at_call 65; refine (bl_any n _).mono ?_; rintro e w1 ⟨rfl, rfl⟩; rw [hbl]) | (go_at_call 68; refine (HF2.out _ HV1.out).mono ?_; rintro e w1 ⟨b1, rfl⟩; have HM1 : Hid (Ho w s w1 _ acc _) := HM.out.over b1) | (at_builtin; refine append_tok rfl (.tmp 51) (.tmp 53) rfl w.heap.size _ acc.length acc rfl ((HM1.out.alloc _).alloc _).own ⟨k, pos, t, m⟩ ⟨w1.heap.size + 1, 0, none⟩ rfl (tok_new2 w1 _ ⟨k, pos, t, m⟩) (by have := hacc.out; omega) ((HM1.out.alloc _).alloc _).be.size ?_; intro v2 w2 ho2 hg2; have HM2 : Hid (Ho w s w2 _ (acc ++ [⟨k, pos, t, m⟩]) v2) := ((HM1.out.alloc _).alloc _).app ho2 hg2; have hc2 : w2.cell? ⟨w1.heap.size, 2, none⟩ = some (.string (bar t)) := (block_grown ((blk_new w1 #[.int .i64 k, .int .i64 pos, .string (bar t), .int .u64 m] 142).alloc _) hg2 (HM1.out.apart (Nat.le_refl _))).cell 2; clear ho2 hg2))
        go_roundw
        case rel => exact ⟨_, _, _, by have hq : s.size <= 8192 := HS.out; rw [<- HT3.out]; congr 1; unfold wrap64; omega, HM2.out, HT2.out⟩
        case measure => exact HMS.out _ _ _ HM2.out
   ·have hnx : ∀ ty, (Instr.next (.pointer (some ⟨w.heap.size, 0, none⟩)) true ty).run Tryz.prog wr = _ := fun ty => next_end wr w.heap.size s pos ty hh.it hps
    have HE : Hid (R = .ok (acc ++ [⟨4, s.size, [], 0⟩])) := HR.out.symm.trans (hp.fin hps)
    have HM : Hid (Ho w s wr pos acc _) := hh
    have hacc : Hid (acc.length <= 8192) := by have := hp.len; have := hp.le; have := HS.out; show _ <= _; omega
    clear hp hi0 hh
    go_wp2_with (at_builtin; refine append_tok rfl (.tmp 60) (.tmp 64) rfl w.heap.size _ acc.length acc rfl (HM.out.alloc _).own ⟨4, s.size, [], 0⟩ ⟨wr.heap.size, 0, none⟩ rfl (tok_new wr ⟨4, s.size, [], 0⟩) (by have := hacc.out; omega) (HM.out.alloc _).be.size ?_; intro v2 w2 ho2 hg2)
    rw [Exit.noGoto_ret]
    go_ret3
    refine ⟨((HM.out.alloc _).app ho2 hg2).be, ?_⟩
    rw [HE.out]
    exact ⟨_, rfl, ((HM.out.alloc _).app ho2 hg2).own⟩
theorem glue_ok {a : List Tok} {r : (Except (Nat × Nat) (List Tok))} {ts : List Tok} (h : glue a r = .ok ts) : ∃ t, r = .ok t /\ ts = a ++ t := by
 cases r with
 | error e => cases h
 | ok t => cases h; exact ⟨t, rfl, rfl⟩
theorem go_len : ∀ (l : (List UInt8)) (k p : Nat) (ts : List Tok), go k p l = .ok ts -> ts.length <= l.length + 1 := by
 intro l
 induction l with
 | nil => intro k p ts h; cases h; simp
 | cons c r ih =>
  intro k p ts h
  unfold go at h
  split at h
  ·have := ih _ _ _ h; simp; omega
  ·split at h
   ·have := ih _ _ _ h; simp; omega
   ·split at h
    ·have := ih _ _ _ h; simp; omega
    ·split at h
     ·cases h
     ·obtain ⟨t, h1, rfl⟩ := glue_ok h
      have := ih _ _ _ h1
      simp
      omega
theorem all_len {l : (List UInt8)} {ts : List Tok} (h : all l = .ok ts) : ts.length <= 8193 := by
 unfold all at h
 split at h
 ·cases h
 ·have := go_len _ _ _ _ h
  omega
def ParR (base : Nat) (r : Except (Nat × Nat) (Ac × List Rl)) (e : Ending) (w' : World) : Prop :=
 match r with
 | .error (c, p) => e = .returned (.tuple #[.agg #[.int .i64 0, .int .i64 0, .slice none 0 0], .int .i64 c, .int .i64 p])
 | .ok (d, rs) => ∃ v rv, rs = List.map Rv.r rv /\ e = .returned (.tuple #[.agg #[.int .i64 d.k, .int .i64 d.a, v], .int .i64 0, .int .i64 (-1)]) /\ w'.ownsRow base 150 4 v rv.length (cellsR rv) /\ ∀ x ∈ rv, Rows2 w' base x
theorem cq_new (w : World) : Cq w w.heap.size w.heap.size (w.heap.size + 1) (w.heap.size + 1 + 1) (rulL 0 0 (.slice none 0 0)) [.int .i64 0] [.int .i64 0] (((w.alloc (Obj.cells #[.int .i64 0, .int .i64 0, .slice none 0 0] 58)).alloc (Obj.cells #[.int .i64 0] 38)).alloc (Obj.cells #[.int .i64 0] 3)) := by
 have e1 : (w.alloc (Obj.cells #[.int .i64 0, .int .i64 0, .slice none 0 0] 58)).heap.size = w.heap.size + 1 := size_alloc' _ _
 have e2 : ((w.alloc (Obj.cells #[.int .i64 0, .int .i64 0, .slice none 0 0] 58)).alloc (Obj.cells #[.int .i64 0] 38)).heap.size = w.heap.size + 1 + 1 := by rw [size_alloc', e1]
 have h1 := blk_new (w.alloc (Obj.cells #[.int .i64 0, .int .i64 0, .slice none 0 0] 58)) #[.int .i64 0] 38
 have h2 := blk_new ((w.alloc (Obj.cells #[.int .i64 0, .int .i64 0, .slice none 0 0] 58)).alloc (Obj.cells #[.int .i64 0] 38)) #[.int .i64 0] 3
 rw [e1] at h1
 rw [e2] at h2
 refine ⟨((blk_new w _ 58).alloc _).alloc _, h1.alloc _, h2, ?_, Nat.le_refl _, by omega, by omega⟩
 exact (((Below.refl _ _).alloc (Nat.le_refl _) _).alloc (by rw [e1]; omega) _).alloc (by rw [e2]; omega) _
theorem Cq.on {w X Y : World} {N B0 B1 B2 b : Nat} {l0 l1 l2 : List Value} (h : Cq w N B0 B1 B2 l0 l1 l2 X) (hb : Bt b X Y) (h0 : B0 < b) (h1 : B1 < b) (h2 : B2 < b) : Cq w N B0 B1 B2 l0 l1 l2 Y := by
 have n0 := h.n0
 have n1 := h.n1
 have n2 := h.n2
 refine ⟨hb.blk h.b0 (by omega), hb.blk h.b1 (by omega), hb.blk h.b2 (by omega), ⟨hb.os.trans h.be.os, hb.tape.trans h.be.tape, hb.output.trans h.be.output, Nat.le_trans h.be.size hb.size, fun k hk => ?_⟩, n0, n1, n2⟩
 have := h.b0.lt
 rw [hb.block k (by omega) (by omega)]
 exact h.be.block k hk
theorem all_code {l : List UInt8} {c p : Nat} (h : all l = .error (c, p)) : ¬ c = 0 /\ c < 100 := by
 unfold all at h
 split at h
 ·cases h; decide
 ·have := go_err l l [] 0 c p rfl h
  omega
theorem results10 {w X : World} {N B0 B1 B2 : Nat} {k a c p : Int} {v : Value} (tmps : Array Value) (h : Cq w N B0 B1 B2 (rulL k a v) [.int .i64 c] [.int .i64 p] X)
  (h0 : tmps.getD 2 undef = .pointer (some ⟨B0, 0, none⟩)) (h1 : tmps.getD 3 undef = .pointer (some ⟨B1, 0, none⟩)) (h2 : tmps.getD 4 undef = .pointer (some ⟨B2, 0, none⟩)) :
  (results Tryz.f14 tmps).run Tryz.prog X = .ok (.tuple #[.agg (rulL k a v).toArray, .int .i64 c, .int .i64 p]) X := by
 have h0' : tmps[2]?.getD undef = .pointer (some ⟨B0, 0, none⟩) := by simpa using h0
 have h1' : tmps[3]?.getD undef = .pointer (some ⟨B1, 0, none⟩) := by simpa using h1
 have h2' : tmps[4]?.getD undef = .pointer (some ⟨B2, 0, none⟩) := by simpa using h2
 have c1 : X.cell? ⟨B1, 0, none⟩ = some (.int .i64 c) := h.b1.cell 0
 have c2 : X.cell? ⟨B2, 0, none⟩ = some (.int .i64 p) := h.b2.cell 0
 have d0 : X.cell? ⟨B0, 0, none⟩ = some (.int .i64 k) := h.b0.cell 0
 have d1 : X.cell? ⟨B0, 1, none⟩ = some (.int .i64 a) := h.b0.cell 1
 have d2 : X.cell? ⟨B0, 2, none⟩ = some v := h.b0.cell 2
 simp [results, Tryz.results14, h0', h1', h2', asAddr, c1, c2, d0, d1, d2, go_sem, rulL]
theorem toks_rd {w : World} {base : Nat} {v : Value} {ts : List Tok} (ho : w.ownsRow base 142 4 v ts.length (cellsT ts)) (hp : 0 < ts.length) : ∃ g cap, v = .slice (some ⟨g, 0, none⟩) ts.length cap /\ base <= g /\ g < w.heap.size /\ ts.length <= cap /\ cap <= 9223372036854775807 /\ Toks w (some ⟨g, 0, none⟩) ts.length ts := by
 obtain ⟨a, c, hv, hT⟩ := owns_toks ho
 rcases ho.2 with ⟨_, h0⟩ | ⟨g, cap, cur, hv2, hb, hg, hnc, hcm, _⟩
 ·omega
 ·subst hv2
  cases hv
  exact ⟨g, c, rfl, hb, lt_of_block hg, hnc, by unfold maxLen at hcm; omega, hT⟩
theorem tks_of {l : List UInt8} {ts : List Tok} (h : all l = .ok ts) : Tks ts := by
 obtain ⟨A, hA, gA, _⟩ := ch_init (all_ch h)
 have hl := all_len h
 refine ⟨fun i hi => all_tk h _ (List.getElem_mem hi), fun i hi h4 => ?_, ?_, by omega⟩
 ·rcases Nat.lt_or_ge (i + 1) ts.length with h1 | h1
  ·exact h1
  ·exfalso
   have hlen : ts.length = A.length + 1 := by rw [hA]; simp
   obtain rfl : i = A.length := by omega
   apply h4
   subst hA
   simp
 ·rw [hA]
  simp
set_option linter.unusedSimpArgs false in
theorem parse_any (s : ByteArray) (w : World) (hv : Vars w) :
  Calls Tryz.prog 14 #[.string s] w fun e w' => Below w.heap.size w w' /\ ParR w.heap.size (prs (lst s)) e w' := by
 have C0 : Hid (Cq w w.heap.size w.heap.size (w.heap.size + 1) (w.heap.size + 1 + 1) (rulL 0 0 (.slice none 0 0)) [.int .i64 0] [.int .i64 0] (((w.alloc (Obj.cells #[.int .i64 0, .int .i64 0, .slice none 0 0] 58)).alloc (Obj.cells #[.int .i64 0] 38)).alloc (Obj.cells #[.int .i64 0] 3))) := cq_new w
 have HA : Hid (∀ W, Vars W -> Calls Tryz.prog 33 #[.string s] W fun e w' => Below W.heap.size W w' /\ Told W.heap.size (all (lst s)) e w') := fun W h => all_any s W h
 have HV : Hid (Vars (((w.alloc (Obj.cells #[.int .i64 0, .int .i64 0, .slice none 0 0] 58)).alloc (Obj.cells #[.int .i64 0] 38)).alloc (Obj.cells #[.int .i64 0] 3))) := hv.below C0.out.be
 have hmf : ∀ (fn : Fn) (first cap : Array Value) (w : World), (Instr.makeFunc fn first cap).run Tryz.prog w = .ok (.func fn first cap) w := fun _ _ _ _ => rfl
 have HCE : Hid (∀ c p, all (lst s) = .error (c, p) -> ¬ c = 0 /\ c < 100) := fun c p h => all_code h
 clear hv
 unfold prs
 rcases hR : all (lst s) with ⟨c, p⟩ | ts
 ·have HE0 := HCE.out c p hR
  rw [hR] at HA
  clear hR HCE
  have HE : Hid (¬ c = 0 /\ c < 100) := HE0
  have hc1 : ((c : Int) == 0) = false := by rw [beq_eq_false_iff_ne]; have := HE.out.1; omega
  have hc2 : ((c : Int) != 0) = true := by rw [bne, hc1]; rfl
  go_enter_defers Tryz.func14, Tryz.ntmps14
  go_wp2_with fail
  generalize (((w.alloc (Obj.cells #[.int .i64 0, .int .i64 0, .slice none 0 0] 58)).alloc (Obj.cells #[.int .i64 0] 38)).alloc (Obj.cells #[.int .i64 0] 3)) = X at *
  generalize w.heap.size + 1 + 1 = B2 at *
  generalize w.heap.size + 1 = B1 at *
  refine (HA.out _ HV.out).mono ?_
  rintro e w1 ⟨b1, rfl⟩
  have C1 : Hid (Cq w w.heap.size w.heap.size B1 B2 (rulL 0 0 (.slice none 0 0)) [.int .i64 0] [.int .i64 0] w1) := C0.out.over b1
  obtain ⟨Z1, hZ1⟩ : ∃ Z, w1.setCell ⟨B1, 0, none⟩ (.int .i64 c) = Z := ⟨_, rfl⟩
  have HZ1 : Hid (w1.setCell ⟨B1, 0, none⟩ (.int .i64 c) = Z1) := hZ1
  have C2 : Hid (Cq w w.heap.size w.heap.size B1 B2 (rulL 0 0 (.slice none 0 0)) [.int .i64 c] [.int .i64 0] Z1) := by
   show Cq w w.heap.size w.heap.size B1 B2 (rulL 0 0 (.slice none 0 0)) [.int .i64 c] [.int .i64 0] Z1
   rw [<- hZ1]
   exact C1.out.set1 _
  obtain ⟨Z2, hZ2⟩ : ∃ Z, Z1.setCell ⟨B2, 0, none⟩ (.int .i64 p) = Z := ⟨_, rfl⟩
  have HZ2 : Hid (Z1.setCell ⟨B2, 0, none⟩ (.int .i64 p) = Z2) := hZ2
  have C3 : Hid (Cq w w.heap.size w.heap.size B1 B2 (rulL 0 0 (.slice none 0 0)) [.int .i64 c] [.int .i64 p] Z2) := by
   show Cq w w.heap.size w.heap.size B1 B2 (rulL 0 0 (.slice none 0 0)) [.int .i64 c] [.int .i64 p] Z2
   rw [<- hZ2]
   exact C2.out.set2 _
  have t1 : w1.cell? ⟨B1, 0, none⟩ = some (.int .i64 0) := C1.out.b1.cell 0
  have g1 := C1.out.b1.f 0
  have t2 : Z1.cell? ⟨B2, 0, none⟩ = some (.int .i64 0) := C2.out.b2.cell 0
  have g2 := C2.out.b2.f 0
  have t3 : Z2.cell? ⟨B1, 0, none⟩ = some (.int .i64 c) := C3.out.b1.cell 0
  clear hZ1 hZ2 b1 C0 C1 HV HA
  go_wp2_with (first | (refine switch_world' HZ1.out ?_) | (refine switch_world' HZ2.out ?_))
  clear t1 t2 t3 g1 g2 HZ1 HZ2 C2
  have t0 : Z2.cell? ⟨w.heap.size, 0, none⟩ = some (.int .i64 0) := C3.out.b0.cell 0
  have t1 : Z2.cell? ⟨w.heap.size, 1, none⟩ = some (.int .i64 0) := C3.out.b0.cell 1
  have t2 : Z2.cell? ⟨w.heap.size, 2, none⟩ = some (.slice none 0 0) := C3.out.b0.cell 2
  have t3 : Z2.cell? ⟨B1, 0, none⟩ = some (.int .i64 c) := C3.out.b1.cell 0
  have t4 : Z2.cell? ⟨B2, 0, none⟩ = some (.int .i64 p) := C3.out.b2.cell 0
  have g0 := C3.out.b0.f 0
  have g1 := C3.out.b0.f 1
  have g2 := C3.out.b0.f 2
  have g3 := C3.out.b1.f 0
  have g4 := C3.out.b2.f 0
  have n1 : ¬ B1 = w.heap.size := by have := C3.out.n1; omega
  have n2 : ¬ B2 = w.heap.size := by have := C3.out.n1; have := C3.out.n2; omega
  have n3 : ¬ B2 = B1 := by have := C3.out.n2; omega
  have n4 : ¬ w.heap.size = B1 := by omega
  have n5 : ¬ w.heap.size = B2 := by omega
  have n6 : ¬ B1 = B2 := by omega
  go_region
  all_goals
   go_wp2_with fail
   have C9 : Cq w w.heap.size w.heap.size B1 B2 (rulL 0 0 (.slice none 0 0)) [.int .i64 c] [.int .i64 p] (((((Z2.setCell ⟨w.heap.size, 0, none⟩ (.int .i64 0)).setCell ⟨w.heap.size, 1, none⟩ (.int .i64 0)).setCell ⟨w.heap.size, 2, none⟩ (.slice none 0 0)).setCell ⟨B1, 0, none⟩ (.int .i64 c)).setCell ⟨B2, 0, none⟩ (.int .i64 p)).drew := (((((C3.out.setc 0 _).setc 1 _).setc 2 _).set1 _).set2 _).over (Below.refl _ _).drew
   exact ⟨_, results10 _ C9 rfl rfl rfl, C9.be, rfl⟩
 ·have HT : Hid (Tks ts) := tks_of hR
  rw [hR] at HA
  clear hR HCE
  dsimp only
  obtain ⟨R, hRR⟩ : ∃ R, run .s0 ts = R := ⟨_, rfl⟩
  rw [hRR]
  have HRR : Hid (run .s0 ts = R) := hRR
  clear hRR
  go_enter_defers Tryz.func14, Tryz.ntmps14
  go_wp2_with fail
  generalize (((w.alloc (Obj.cells #[.int .i64 0, .int .i64 0, .slice none 0 0] 58)).alloc (Obj.cells #[.int .i64 0] 38)).alloc (Obj.cells #[.int .i64 0] 3)) = X at *
  generalize w.heap.size + 1 + 1 = B2 at *
  generalize w.heap.size + 1 = B1 at *
  refine (HA.out _ HV.out).mono ?_
  rintro e w1 ⟨b1, v, rfl, ho⟩
  obtain ⟨g, cap, rfl, hg1, hg2, hg3, hg4, hT1⟩ := toks_rd ho HT.out.pos
  have C1 : Hid (Cq w w.heap.size w.heap.size B1 B2 (rulL 0 0 (.slice none 0 0)) [.int .i64 0] [.int .i64 0] w1) := C0.out.over b1
  obtain ⟨Z1, hZ1⟩ : ∃ Z, w1.setCell ⟨B1, 0, none⟩ (.int .i64 0) = Z := ⟨_, rfl⟩
  have HZ1 : Hid (w1.setCell ⟨B1, 0, none⟩ (.int .i64 0) = Z1) := hZ1
  have C2 : Hid (Cq w w.heap.size w.heap.size B1 B2 (rulL 0 0 (.slice none 0 0)) [.int .i64 0] [.int .i64 0] Z1) := by
   show Cq w w.heap.size w.heap.size B1 B2 (rulL 0 0 (.slice none 0 0)) [.int .i64 0] [.int .i64 0] Z1
   rw [<- hZ1]
   exact C1.out.set1 _
  obtain ⟨Z2, hZ2⟩ : ∃ Z, Z1.setCell ⟨B2, 0, none⟩ (.int .i64 (-1)) = Z := ⟨_, rfl⟩
  have HZ2 : Hid (Z1.setCell ⟨B2, 0, none⟩ (.int .i64 (-1)) = Z2) := hZ2
  have C3 : Hid (Cq w w.heap.size w.heap.size B1 B2 (rulL 0 0 (.slice none 0 0)) [.int .i64 0] [.int .i64 (-1)] Z2) := by
   show Cq w w.heap.size w.heap.size B1 B2 (rulL 0 0 (.slice none 0 0)) [.int .i64 0] [.int .i64 (-1)] Z2
   rw [<- hZ2]
   exact C2.out.set2 _
  have hgB : B1 < X.heap.size /\ B2 < X.heap.size := ⟨C0.out.b1.lt, C0.out.b2.lt⟩
  have T2 : Toks Z2 (some ⟨g, 0, none⟩) ts.length ts := by
   rw [<- hZ2, <- hZ1]
   exact (hT1.bt (b := B1) ((Bt.refl B1 w1).setCell 0 _) (by omega)).bt (b := B2) ((Bt.refl B2 _).setCell 0 _) (by omega)
  have C4 : Hid (Cq w w.heap.size w.heap.size B1 B2 (rulL 0 0 (.slice none 0 0)) [.int .i64 0] [.int .i64 (-1)] (Z2.alloc (Obj.cells #[.slice (some ⟨g, 0, none⟩) ts.length cap] 101))) := C3.out.over ((Below.refl _ _).alloc (Nat.le_refl _) _)
  have hgz : g < Z2.heap.size := by
   rw [<- hZ2, <- hZ1]
   simpa using hg2
  have R4 : Hid (Rd (Z2.alloc (Obj.cells #[.slice (some ⟨g, 0, none⟩) ts.length cap] 101)) Z2.heap.size g cap ts 0) := by
   refine ⟨?_, T2.below ((Below.refl _ _).alloc (Nat.le_refl _) _), by omega, hg3, hg4⟩
   rw [Nat.zero_mul, Nat.sub_zero, Nat.sub_zero]
   exact blk_new Z2 _ 101
  have t1 : w1.cell? ⟨B1, 0, none⟩ = some (.int .i64 0) := C1.out.b1.cell 0
  have g1 := C1.out.b1.f 0
  have t2 : Z1.cell? ⟨B2, 0, none⟩ = some (.int .i64 0) := C2.out.b2.cell 0
  have g2 := C2.out.b2.f 0
  have t3 : Z2.cell? ⟨B1, 0, none⟩ = some (.int .i64 0) := C3.out.b1.cell 0
  clear hZ1 hZ2 b1 C0 C1 HV HA hgB hgz T2 ho hg1 hg2 hg3 hg4 hT1
  go_wp2_with (first | (refine switch_world' HZ1.out ?_) | (refine switch_world' HZ2.out ?_))
  clear t1 t2 t3 g1 g2 HZ1 HZ2 C2
  have HB : Hid (w.heap.size <= Z2.heap.size) := C3.out.be.size
  have HL : Hid (B1 < Z2.heap.size /\ B2 < Z2.heap.size /\ w.heap.size < Z2.heap.size) := ⟨C3.out.b1.lt, C3.out.b2.lt, C3.out.b0.lt⟩
  generalize Z2.alloc (Obj.cells #[.slice (some ⟨g, 0, none⟩) ts.length cap] 101) = Y at *
  generalize Z2.heap.size = b at *
  clear C3
  refine (rules_any _ b g cap ts HT.out R4.out).mono ?_
  rintro e w3 ⟨b3, ⟨c, p, rfl, h3⟩ | ⟨d, rv, v, rfl, o3, r3, h3⟩⟩
  ·have C5 : Hid (Cq w w.heap.size w.heap.size B1 B2 (rulL 0 0 (.slice none 0 0)) [.int .i64 0] [.int .i64 (-1)] w3) := C4.out.on b3 (by have := HL.out; omega) (by have := HL.out; omega) (by have := HL.out; omega)
   have HR2 : Hid (R = .error (c, p)) := HRR.out.symm.trans h3
   clear h3 HRR
   show bodyPostD Tryz.prog Tryz.f14 _ (Exit.panic (fltC c p)) _ w3
   refine leaves_cons (f := 34) (args := #[.pointer (some ⟨w.heap.size, 0, none⟩), .pointer (some ⟨B1, 0, none⟩), .pointer (some ⟨B2, 0, none⟩)]) (by simp) (by simp [go_sem]) ?_
   refine (catch_panicking w w.heap.size w.heap.size B1 B2 0 0 _ _ _ c p w3 C5.out).mono ?_
   rintro e u' w'' ⟨rfl, rfl, hc⟩
   exact ⟨_, results10 _ hc rfl rfl rfl, hc.be, by rw [HR2.out]; rfl⟩
  ·have C5 : Hid (Cq w w.heap.size w.heap.size B1 B2 (rulL 0 0 (.slice none 0 0)) [.int .i64 0] [.int .i64 (-1)] w3) := C4.out.on b3 (by have := HL.out; omega) (by have := HL.out; omega) (by have := HL.out; omega)
   have HR2 : Hid (R = .ok (d, rv.map Rv.r)) := HRR.out.symm.trans h3
   have HLY : Hid (b < Y.heap.size) := R4.out.blk.lt
   clear h3 HRR
   obtain ⟨Y1, hY1⟩ : ∃ Z, w3.setRow w.heap.size (rulL d.k d.a v).toArray = Z := ⟨_, rfl⟩
   have HY1 : Hid (w3.setRow w.heap.size (rulL d.k d.a v).toArray = Y1) := hY1
   have D1 : Hid (Cq w w.heap.size w.heap.size B1 B2 (rulL d.k d.a v) [.int .i64 0] [.int .i64 (-1)] Y1) := by
    show Cq w w.heap.size w.heap.size B1 B2 (rulL d.k d.a v) [.int .i64 0] [.int .i64 (-1)] Y1
    rw [<- hY1]
    exact C5.out.set0 _
   obtain ⟨Y2, hY2⟩ : ∃ Z, Y1.setCell ⟨B1, 0, none⟩ (.int .i64 0) = Z := ⟨_, rfl⟩
   have HY2 : Hid (Y1.setCell ⟨B1, 0, none⟩ (.int .i64 0) = Y2) := hY2
   have D2 : Hid (Cq w w.heap.size w.heap.size B1 B2 (rulL d.k d.a v) [.int .i64 0] [.int .i64 (-1)] Y2) := by
    show Cq w w.heap.size w.heap.size B1 B2 (rulL d.k d.a v) [.int .i64 0] [.int .i64 (-1)] Y2
    rw [<- hY2]
    exact D1.out.set1 _
   obtain ⟨Y3, hY3⟩ : ∃ Z, Y2.setCell ⟨B2, 0, none⟩ (.int .i64 (-1)) = Z := ⟨_, rfl⟩
   have HY3 : Hid (Y2.setCell ⟨B2, 0, none⟩ (.int .i64 (-1)) = Y3) := hY3
   have D3 : Hid (Cq w w.heap.size w.heap.size B1 B2 (rulL d.k d.a v) [.int .i64 0] [.int .i64 (-1)] Y3) := by
    show Cq w w.heap.size w.heap.size B1 B2 (rulL d.k d.a v) [.int .i64 0] [.int .i64 (-1)] Y3
    rw [<- hY3]
    exact D2.out.set2 _
   have HK3 : Hid (∀ j, Y.heap.size <= j -> Y3.heap[j]? = w3.heap[j]?) := by
    intro j hj
    have h1 := HL.out
    have h2 : b < Y.heap.size := HLY.out
    rw [<- hY3, heap_setCell_other Y2 ⟨B2, 0, none⟩ j _ (by show j ≠ B2; omega), <- hY2, heap_setCell_other Y1 ⟨B1, 0, none⟩ j _ (by show j ≠ B1; omega), <- hY1, setRow_other _ _ _ _ (by omega)]
   have HO : Hid (Y3.ownsRow w.heap.size 150 4 v rv.length (cellsR rv) /\ ∀ x ∈ rv, Rows2 Y3 w.heap.size x) := by
    have h1 := HL.out
    have h2 : b < Y.heap.size := HLY.out
    exact ⟨owns_lower (owns_same o3 fun j hj => HK3.out j (owns_block o3 j hj)) (by omega), fun x hx => ⟨owns_lower (owns_same (r3 x hx).1 fun j hj => HK3.out j (owns_block (r3 x hx).1 j hj)) (by omega), owns_lower (owns_same (r3 x hx).2 fun j hj => HK3.out j (owns_block (r3 x hx).2 j hj)) (by omega)⟩⟩
   have HV1 : Hid (v.oneCell' = true) := owns_cell o3
   have t1 : Y1.cell? ⟨B1, 0, none⟩ = some (.int .i64 0) := D1.out.b1.cell 0
   have g1 := D1.out.b1.f 0
   have t2 : Y2.cell? ⟨B2, 0, none⟩ = some (.int .i64 (-1)) := D2.out.b2.cell 0
   have g2 := D2.out.b2.f 0
   clear hY1 hY2 hY3 HK3 o3 r3 D1 D2 C4 R4 b3 HLY
   go_wp2_with (first | (refine at_op' (.store 58 (.tmp 2) (.tmp 21)) rfl ?_; refine wpList_store_row rfl 58 (.tmp 2) (.tmp 21) rfl w.heap.size (rulL d.k d.a v).toArray rfl rfl 58 _ C5.out.b0 (rulL_size _ _ _) rfl (rulL_one HV1.out) ?_; refine switch_world' HY1.out ?_) | (refine switch_world' HY2.out ?_) | (refine switch_world' HY3.out ?_))
   rw [HY3.out]
   show bodyPostD Tryz.prog Tryz.f14 _ Exit.ret _ Y3
   refine leaves_cons (f := 34) (args := #[.pointer (some ⟨w.heap.size, 0, none⟩), .pointer (some ⟨B1, 0, none⟩), .pointer (some ⟨B2, 0, none⟩)]) (by simp) (by simp [go_sem]) ?_
   refine (catch_idle w.heap.size B1 B2 Y3).mono ?_
   rintro e u' w'' ⟨rfl, rfl, hw2⟩
   subst w''
   exact ⟨_, results10 _ D3.out rfl rfl rfl, D3.out.be, by rw [HR2.out]; exact ⟨v, rv, rfl, rfl, HO.out.1, HO.out.2⟩⟩
end Go.Proofs.YtmcgcbgblgmmkaaGreatDoor.P
