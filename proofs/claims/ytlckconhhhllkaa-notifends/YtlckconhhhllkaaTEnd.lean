/-
  The program's Kill, Drop, Rise.
-/
import Derived.Test.YtlckconhhhllkaaTLeaveT
import Derived.Test.YtlckconhhhllkaaTLeaveK
import Derived.Test.YtlckconhhhllkaaTLeaveD
namespace Go.Proofs.Ytlckconhhhllkaa
open Go.RowKit Go.Maps

theorem Rs.trans {w W W' : World} {b B : Nat} {s' : Nt} (h : Fr [] [b, B] 0 w W) (k : Rs W W' b B s') : Rs w W' b B s' := ⟨k.ta, h.trans k.fr⟩
theorem Ok.u64 {s : Nt} (h : Ok s) : ∀ x ∈ s.L, U64 x.id := fun x hx => by
  have h1 := h.all x hx
  have h2 := h.n1
  exact ⟨h1.i0, by have := h1.i1; omega⟩
theorem Ok.len8 {s : Nt} (h : Ok s) : s.L.length ≤ 8 := by have h1 := h.len; have h2 := h.z1; omega
theorem kill_lv (s : Nt) (t : Int) : ({ s with L := s.L.map (lvF (fun x => x.ta == t) 4) } : Nt) = killS s t := by
  unfold killS
  congr 1
  refine List.map_congr_left fun x _ => ?_
  unfold lvF goneW
  by_cases e : x.ta = t
  · simp [e]
  · simp [e]
theorem kill_len (s : Nt) (t : Int) : (decide ((0 : Int) < ((lvI (fun x => x.ta == t) s.L).length : Int))) = killB s t := by
  unfold killB
  rw [Bool.eq_iff_iff, decide_eq_true_iff, List.any_eq_true]
  have e0 : (lvI (fun x => x.ta == t) s.L).length = (s.L.filter fun x => x.waits && (x.ta == t)).length := by unfold lvI; rw [List.length_map]
  rw [e0]
  constructor
  · intro h
    obtain ⟨x, hx⟩ := List.exists_mem_of_length_pos (l := s.L.filter fun x => x.waits && (x.ta == t)) (by omega)
    have h2 := List.mem_filter.1 hx
    exact ⟨x, h2.1, by rw [Bool.and_comm]; exact h2.2⟩
  · rintro ⟨x, h1, h2⟩
    have h3 : x ∈ s.L.filter fun x => x.waits && (x.ta == t) := List.mem_filter.2 ⟨h1, by rw [Bool.and_comm]; exact h2⟩
    have := List.length_pos_of_mem h3
    omega
theorem drop_lv (s : Nt) : ({ s with L := s.L.map (lvF (fun _ => true) 7) } : Nt) = dropS s := by
  unfold dropS
  congr 1
  refine List.map_congr_left fun x _ => ?_
  unfold lvF goneW
  simp

set_option maxHeartbeats 4000000 in
theorem kill_call (w : World) (b B : Nat) (s : Nt) (t : Int) (h : TaV w b B s) (ho : Ok s) :
    Calls Try.prog 26 #[.pointer (some ⟨b, 0, none⟩), .int .i64 t] w fun e w' => e = .returned (.bool (killB s t)) ∧ Rs w w' b B (killS s t) := by
  have H1 : Hid (Below w.heap.size w (w.alloc (.cells #[.int .i64 t] 3)) ∧ Calls Try.prog 37 #[.pointer (some ⟨b, 0, none⟩), .int .i64 4, .func (.func 40) #[] #[.pointer (some ⟨w.heap.size, 0, none⟩)]] (w.alloc (.cells #[.int .i64 t] 3)) fun e w' => LvR (w.alloc (.cells #[.int .i64 t] 3)) b B s (fun x => x.ta == t) 4 e w') :=
    ⟨below_new _ _, leaveK _ b B s 4 t w.heap.size (h.over (below_new _ _)) ho.up ho.u64 ho.len8 (blk_new w _ _)⟩
  obtain ⟨n, hn⟩ : ∃ n, (lvI (fun x => x.ta == t) s.L).length = n := ⟨_, rfl⟩
  have HK : Hid (killB s t = decide (0 < n)) := by
    show _ = _
    rw [← kill_len, hn]
    exact decide_eq_decide.2 (by omega)
  have HN : Hid ((lvI (fun x => x.ta == t) s.L).length = n) := hn
  clear h ho hn
  go_enter Try.func26, Try.ntmps26
  go_wp2_with fail
  refine H1.out.2.mono ?_
  rintro e w2 ⟨v, rfl, hrow, hrs⟩
  have HR : Hid (Rs w w2 b B (killS s t)) := by
    have h2 := Rs.trans (fr_below H1.out.1 (Nat.zero_le _)) hrs
    rw [kill_lv] at h2
    exact h2
  rw [HN.out] at hrow
  obtain ⟨p, cap, rfl⟩ : ∃ p cap, v = .slice p n cap := by
    rcases hrow.2 with ⟨rfl, h0⟩ | ⟨g, cap, cur, rfl, _⟩
    · exact ⟨none, 0, by rw [h0]⟩
    · exact ⟨_, cap, rfl⟩
  clear hrow hrs H1
  go_wp2_with fail
  go_ret
  exact ⟨by rw [HK.out]; rfl, HR.out⟩

set_option maxHeartbeats 4000000 in
theorem drop_call (w : World) (b B : Nat) (s : Nt) (h : TaV w b B s) (hu : s.L.Pairwise fun x y => x.id < y.id) (hi : ∀ x ∈ s.L, U64 x.id) (h8 : s.L.length ≤ 8) :
    Calls Try.prog 31 #[.pointer (some ⟨b, 0, none⟩)] w fun e w' => e = .returned (.tuple #[]) ∧ Rs w w' b B (dropS s) := by
  have H1 : Hid (Calls Try.prog 37 #[.pointer (some ⟨b, 0, none⟩), .int .i64 7, .func (.func 43) #[] #[]] w fun e w' => LvR w b B s (fun _ => true) 7 e w') := leaveD w b B s 7 h hu hi h8
  clear h hu hi h8
  go_enter Try.func31, Try.ntmps31
  go_wp2_with fail
  refine H1.out.mono ?_
  rintro e w2 ⟨v, rfl, _, hrs⟩
  have HR : Hid (Rs w w2 b B (dropS s)) := by
    rw [drop_lv] at hrs
    exact hrs
  clear hrs H1
  go_wp2_with fail
  go_end0
  exact ⟨rfl, HR.out⟩

set_option maxHeartbeats 4000000 in
theorem rise_call (w : World) (b B : Nat) (s : Nt) (ep : Int) (h : TaV w b B s) (ho : Ok s) :
    Calls Try.prog 18 #[.pointer (some ⟨b, 0, none⟩), .int .u64 ep] w fun e w' => e = .returned (.int .i64 (riseE s ep)) ∧ Rs w w' b B (riseS s ep) := by
  have HT : Hid (TaV w b B s) := h
  have c3 := h.blk.cell 3
  have f3 := h.blk.f 3
  by_cases he : ep ≤ s.ep
  · have r1 : decide (ep ≤ s.ep) = true := decide_eq_true he
    have HK : Hid (riseE s ep = 22 ∧ riseS s ep = s) := ⟨if_pos he, if_pos he⟩
    clear h ho
    go_enter Try.func18, Try.ntmps18
    go_wp2_with fail
    go_ret
    exact ⟨by rw [HK.out.1]; rfl, by rw [HK.out.2]; exact Rs.below HT.out (Below.refl _ _)⟩
  · have r1 : decide (ep ≤ s.ep) = false := decide_eq_false he
    have HK : Hid (riseE s ep = 0 ∧ riseS s ep = dropS { s with ep := ep }) := ⟨if_neg he, by unfold riseS; rw [if_neg he]; rfl⟩
    have H2 : Hid (Fr [] [b, B] 0 w (w.setCell ⟨b, 3, none⟩ (.int .u64 ep)) ∧ Calls Try.prog 31 #[.pointer (some ⟨b, 0, none⟩)] (w.setCell ⟨b, 3, none⟩ (.int .u64 ep)) fun e w' => e = .returned (.tuple #[]) ∧ Rs (w.setCell ⟨b, 3, none⟩ (.int .u64 ep)) w' b B (dropS { s with ep := ep })) := by
      have hf : Fr [] [b] 0 w (w.setCell ⟨b, 3, none⟩ (.int .u64 ep)) := fr_box (by simp)
      exact ⟨hf.mono (by simp) (by simp), drop_call _ b B { s with ep := ep } ⟨h.blk.set 3 _, h.m.fr hf (by simpa using fun e : B = b => h.ne e.symm), h.ne⟩ ho.up ho.u64 ho.len8⟩
    clear h ho
    go_enter Try.func18, Try.ntmps18
    go_wp2_with fail
    refine H2.out.2.mono ?_
    rintro e w2 ⟨rfl, hrs⟩
    have HR : Hid (Rs w w2 b B (dropS { s with ep := ep })) := Rs.trans H2.out.1 hrs
    clear hrs H2
    go_wp2_with fail
    go_ret
    exact ⟨by rw [HK.out.1]; rfl, by rw [HK.out.2]; exact HR.out⟩

end Go.Proofs.Ytlckconhhhllkaa
