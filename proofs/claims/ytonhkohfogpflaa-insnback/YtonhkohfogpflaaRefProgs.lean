/-
  A program's bytes, and the program of bytes, by the document's own words; two programs that are the same, compared.
-/
import Derived.Test.YtonhkohfogpflaaProgs
import Derived.Test.YtonhkohfogpflaaRefDec
import Derived.Test.YtonhkohfogpflaaRefEnc
import Derived.Test.YtonhkohfogpflaaSame
import Derived.Deep.QuietTactic
import Derived.BigQuiet
namespace Go.Proofs.Ytonhkohfogpflaa
open Go.RowKit

set_option maxHeartbeats 800000 in
theorem refBytes_any (a : Option Addr) (len cap : Nat) (ins : List In) (w : World) (hlen : len ≤ 100000) (h : Ins w a len ins) :
    Calls Try.prog 24 #[.slice a len cap] w fun e w' => Below w.heap.size w w' ∧ ∃ v, e = .returned v ∧ w'.ownsRow w.heap.size 5 1 v (len * 8) (cellsB (encAll ins)) := by
  have hll := h.1
  go_enter Try.func24, Try.ntmps24
  go_wp2
  go_loopw [3, 4] (fun v i wr => ∃ k : Nat, k ≤ len ∧ i = .int .i64 k ∧ wr.ownsRow w.heap.size 5 1 v (k * 8) (cellsB (encAll (ins.take k))) ∧ Below w.heap.size w wr) (fun _ i _ => len - (intOf i).toNat)
  case atStart => exact ⟨0, Nat.zero_le _, rfl, ⟨rfl, .inl ⟨rfl, rfl⟩⟩, Below.refl _ _⟩
  case round =>
    obtain ⟨k, hk, rfl, ho, hbr⟩ := hrel
    by_cases hlt : k < len
    · have hir := h.below hbr
      obtain ⟨b, off, rfl, hc⟩ := hir.2.2 (by omega)
      obtain ⟨q1, q2, q3, q4⟩ := hc k ins[k] (List.getElem?_eq_getElem (by omega))
      have HO : Hid (ins[k].ok) := hir.2.1 ins[k] (List.getElem_mem (by omega))
      have HS : Hid (encAll (ins.take (k + 1)) = encAll (ins.take k) ++ ins[k].enc) := encAll_take ins k (by omega)
      have HE : Hid (Byt ins[k].enc) := ins[k].enc_byt HO.out
      have HL : Hid (∀ W : World, Calls Try.prog 19 #[ins[k].val] W fun e w' => Below W.heap.size W w' ∧ ∃ v', e = .returned v' ∧ w'.ownsRow W.heap.size 5 1 v' 8 (cellsB ins[k].enc)) := fun W => refEncode_any ins[k] W HO.out
      clear hc hir h HO
      generalize ins[k] = x at *
      generalize x.enc = ex at *
      generalize encAll (ins.take k) = el at *
      obtain ⟨xc, xt, xf, xk⟩ := x
      unfold In.val at *
      simp only at q1 q2 q3 q4
      have hi1 : (k : Int) < (len : Int) := by omega
      have hbs := hbr.size
      go_wp2_with (first | (go_at_call 19; refine (HL.out _).mono ?_; rintro e w2 ⟨hb2, v2, rfl, ho2⟩; have ho1 := owns_below ho hb2 (Nat.le_refl _); have hbw2 := hbr.trans (hb2.mono hbs); obtain ⟨a2, cap2, rfl, bs2, _, hao2⟩ := owns_bs ho2 HE.out) | (at_builtin; refine append_bytes rfl (.tmp 11) (.tmp 16) rfl w.heap.size _ (k * 8) el rfl ho1 a2 8 cap2 ex rfl hao2 bs2 (by omega) hbw2.size ?_; intro v4 w4 ho4 hg4))
      go_roundw
      case rel => exact ⟨k + 1, by omega, by go_num, by rw [HS.out, Nat.add_mul, Nat.one_mul]; exact ho4, hbw2.grown hg4 hbw2.size (owns_block ho1)⟩
      case measure => simp [intOf]; omega
    · obtain rfl : k = len := by omega
      have hta : ins.take k = ins := by rw [← hll, List.take_length]
      rw [hta] at ho
      go_wp2
      go_ret
      exact ⟨hbr, _, rfl, ho⟩

theorem new_cells' (w : World) (x : In) (o2 o : Obj) (ho : o = .cells #[.int .u16 x.c, .int .u8 x.t, .int .u8 x.f, .int .u32 x.k] 27) : ∀ j u, x.cells[j]? = some u → ((w.alloc o2).alloc o).cell? ((⟨w.heap.size + 1, 0, none⟩ : Addr).add j) = some u := by
  have := new_cells (w.alloc o2) x o ho
  rw [size_alloc'] at this
  exact this

set_option maxHeartbeats 800000 in
theorem refAll_any (a : Option Addr) (len cap : Nat) (l : List Int) (w : World) (hlen : len ≤ 100000) (hcap : len ≤ cap) (hb : Bs w a len l) :
    Calls Try.prog 21 #[.slice a len cap] w fun e w' => Below w.heap.size w w' ∧ ∃ v, e = .returned (.tuple #[v, .int .i64 (errAll len)]) ∧ w'.ownsRow w.heap.size 27 4 v (decAll l).length (cellsI (decAll l)) := by
  have hll := hb.1
  by_cases h8 : len % 8 = 0
  · obtain ⟨n, rfl⟩ : ∃ n, len = n * 8 := ⟨len / 8, by omega⟩
    have hd : decAll l = decN l n := by unfold decAll; rw [if_pos (by omega), hll, Nat.mul_div_cancel _ (by decide)]
    have he : errAll (n * 8) = 0 := by unfold errAll; rw [if_pos h8]
    rw [hd, he, decN_len]
    have hr8 : Int.tmod ((n * 8 : Nat) : Int) 8 = 0 := by rw [Int.tmod_eq_emod_of_nonneg (by omega)]; omega
    clear hd he
    go_enter Try.func21, Try.ntmps21
    go_wp2
    go_loopw [4, 5] (fun v i wr => ∃ k : Nat, k ≤ n ∧ i = .int .i64 ((k * 8 : Nat) : Int) ∧ wr.ownsRow w.heap.size 27 4 v k (cellsI (decN l k)) ∧ Below w.heap.size w wr) (fun _ i _ => n * 8 - (intOf i).toNat)
    case atStart => exact ⟨0, Nat.zero_le _, rfl, ⟨rfl, .inl ⟨rfl, rfl⟩⟩, Below.refl _ _⟩
    case round =>
      obtain ⟨k, hk, rfl, ho, hbr⟩ := hrel
      clear hr8
      by_cases hlt : k < n
      · have hbw := hb.below hbr
        obtain ⟨b, off, rfl, hc⟩ := hbw.2.2 (by omega)
        clear hc
        have HB : Hid (Bs wr (some ⟨b, off + k * 8, none⟩) 8 ((l.drop (k * 8)).take 8)) := hbw.sub (k * 8) 8 (by omega)
        have HS : Hid (decN l (k + 1) = decN l k ++ [dec ((l.drop (k * 8)).take 8)]) := by unfold Hid; rw [decN_succ, dec_take]
        have HR : Hid (∀ c : Nat, Calls Try.prog 17 #[.slice (some ⟨b, off + k * 8, none⟩) 8 c] wr fun e w' => e = .returned (.tuple #[(dec ((l.drop (k * 8)).take 8)).val, .int .i64 0]) ∧ Below wr.heap.size wr w') := fun c => refDecode_eight _ c _ wr HB.out
        clear hbw HB hb
        generalize dec ((l.drop (k * 8)).take 8) = x at *
        obtain ⟨xc, xt, xf, xk⟩ := x
        unfold In.val at *
        dsimp only at *
        have hp1 : Hid (n * 8 ≤ 100000 ∧ k < n) := ⟨hlen, hlt⟩
        have hk8 : k * 8 + 8 ≤ n * 8 := by omega
        have hk9 : k * 8 + 8 ≤ cap := by omega
        have hbs := hbr.size
        go_wp2_with (first | (go_at_call 17; refine (HR.out _).mono ?_; rintro e w2 ⟨rfl, hb2⟩; have ho2 := owns_below ho hb2 (Nat.le_refl _); have hbw2 := hbr.trans (hb2.mono hbs)) | (at_builtin; refine append_in rfl (.tmp 27) (.tmp 29) rfl w.heap.size _ k (decN l k) rfl ((ho2.alloc _).alloc _) ⟨xc, xt, xf, xk⟩ ⟨w2.heap.size + 1, 0, none⟩ rfl (new_cells' w2 _ _ _ rfl) (by omega) (by rw [size_alloc', size_alloc']; have := hbw2.size; omega) ?_; intro v4 w4 ho4 hg4))
        go_roundw
        case rel =>
          have hb3 := hbw2.alloc hbw2.size (Obj.cells #[.int .u16 xc, .int .u8 xt, .int .u8 xf, .int .u32 xk] 27)
          have hb4 := hb3.alloc hb3.size (Obj.cells #[.int .u16 xc, .int .u8 xt, .int .u8 xf, .int .u32 xk] 27)
          exact ⟨k + 1, by omega, by go_num, by rw [HS.out]; exact ho4, hb4.grown hg4 hb4.size (owns_block ho2)⟩
        case measure => simp [intOf]; omega
      · obtain rfl : k = n := by omega
        go_wp2
        go_ret2
        exact ⟨hbr, _, rfl, ho⟩
  · have hd : decAll l = [] := by unfold decAll; rw [if_neg (by omega)]
    have he : errAll len = 3 := by unfold errAll; rw [if_neg h8]
    rw [hd, he]
    have hr8 : ¬ (Int.tmod (len : Int) 8 = 0) := by rw [Int.tmod_eq_emod_of_nonneg (by omega)]; omega
    clear hd he hb hll
    go_enter Try.func21, Try.ntmps21
    go_wp2
    go_ret2
    exact ⟨Below.refl _ _, _, rfl, rfl, .inl ⟨rfl, rfl⟩⟩

theorem bel_drewN (w : World) (n : Nat) : Below w.heap.size w (w.drewN n) := ⟨rfl, rfl, rfl, Nat.le_refl _, fun _ _ => rfl⟩

set_option maxHeartbeats 800000 in
theorem same_eq (a1 a2 : Option Addr) (len cap1 cap2 : Nat) (ins : List In) (w : World) (hlen : len ≤ 100000) (h1 : Ins w a1 len ins) (h2 : Ins w a2 len ins) :
    Calls Try.prog 22 #[.slice a1 len cap1, .slice a2 len cap2] w fun e w' => e = .returned (.bool true) ∧ Below w.heap.size w w' := by
  have hll := h1.1
  go_enter Try.func22, Try.ntmps22
  go_wp2
  go_loopw [5] (fun i wr => ∃ k : Nat, k ≤ len ∧ i = .int .i64 k ∧ Below w.heap.size w wr) (fun i _ => len - (intOf i).toNat)
  case atStart => exact ⟨0, Nat.zero_le _, rfl, Below.refl _ _⟩
  case round =>
    obtain ⟨k, hk, rfl, hbr⟩ := hrel
    by_cases hlt : k < len
    · have hr1 := h1.below hbr
      have hr2 := h2.below hbr
      obtain ⟨b, off, rfl, hc⟩ := hr1.2.2 (by omega)
      obtain ⟨b', off', rfl, hc'⟩ := hr2.2.2 (by omega)
      obtain ⟨q1, q2, q3, q4⟩ := hc k ins[k] (List.getElem?_eq_getElem (by omega))
      obtain ⟨p1, p2, p3, p4⟩ := hc' k ins[k] (List.getElem?_eq_getElem (by omega))
      clear hc hc' hr1 hr2 h1 h2
      generalize ins[k] = x at *
      have hq1 : ∀ W : World, (binOp .neq 27 x.val x.val).run Try.prog W = .ok (.bool false) W := fun W => by rw [neq_in, In.same_self]; rfl
      have hq2 : ∀ W : World, (Op.equalIn 10000 27 x.val x.val).run Try.prog W = .ok true W := fun W => by rw [equalIn_in, In.same_self]
      obtain ⟨xc, xt, xf, xk⟩ := x
      unfold In.val at *
      simp only at q1 q2 q3 q4 p1 p2 p3 p4
      have hi1 : (k : Int) < (len : Int) := by omega
      go_wp2_with fail
      go_quiet (fail)
      go_wp2
      go_roundw
      case rel => exact ⟨k + 1, by omega, by go_num, hbr.trans ((bel_drewN _ _).mono hbr.size)⟩
      case measure => simp [intOf]; omega
    · go_wp2
      go_ret
      exact ⟨rfl, hbr⟩

end Go.Proofs.Ytonhkohfogpflaa
