/-
  The law LexLies, walked: true for every text.
-/
import Derived.Test.YtbdhlbigcepglaaDoorAwake
import Derived.Test.YtbdhlbigcepglaaDoorLies
import Derived.BigQuiet
namespace Go.Proofs.YtbdhlbigcepglaaDoor
open Go.RowKit

theorem bar_list (t : List UInt8) : (bar t).toList = t := by rw [ByteArray.toList_eq]; exact lst_bar t

theorem all_err {l : List UInt8} {c q : Nat} (h : all l = .error (c, q)) (hl : ¬ 8192 < l.length) : (c = 5 ∨ c = 6) ∧ q < l.length := by
  unfold all at h
  rw [if_neg hl] at h
  exact go_err l l [] 0 c q rfl h

/-- at a place of the tokens: the last, or one that stands in the text. -/
theorem ch_at {l : List UInt8} {last k : Nat} {ts : List Tok} (h : Ch l last (ts.drop k)) (hk : k < ts.length) :
    (ts[k] = ⟨4, l.length, [], 0⟩ ∧ k + 1 = ts.length ∧ last ≤ l.length) ∨ (last ≤ ts[k].at' ∧ Good l ts[k] ∧ Ch l (ts[k].at' + ts[k].t.length) (ts.drop (k + 1)) ∧ k + 1 < ts.length) := by
  have hd : ts.drop k = ts[k] :: ts.drop (k + 1) := List.drop_eq_getElem_cons hk
  rw [hd] at h
  generalize hx : ts[k] = x at h
  generalize hr : ts.drop (k + 1) = r at h
  cases h using Ch.two with
  | fin h =>
    left
    have := congrArg List.length hr
    rw [List.length_drop] at this
    simp at this
    exact ⟨rfl, by omega, h⟩
  | tok h hx hr' =>
    right
    have := congrArg List.length hr
    rw [List.length_drop] at this
    simp at this
    exact ⟨h, hx, hr', by omega⟩

theorem ch_last {l : List UInt8} {last : Nat} {ts : List Tok} (h : Ch l last ts) : 0 < ts.length ∧ ts[ts.length - 1]? = some ⟨4, l.length, [], 0⟩ := by
  induction h using Ch.ind with
  | fin h => exact ⟨by simp, rfl⟩
  | @tok last x y r h hx hr ih =>
    refine ⟨by simp, ?_⟩
    have := ih.2
    simp at this ⊢
    exact this

set_option maxRecDepth 4000 in
set_option maxHeartbeats 4000000 in
theorem lexLies_walk (s : ByteArray) (w : World) (hv : Vars w) :
    Calls Tryd.prog 5 #[.string s] w fun e w' => e = .returned (.bool true) ∧ Below w.heap.size w w' := by
  have HV : Hid (Vars w) := hv
  have HA : Hid (∀ W, Vars W → Calls Tryd.prog 10 #[.string s] W fun e w' => Below W.heap.size W w' ∧ Told W.heap.size (all (lst s)) e w') := fun W h => all_any s W h
  clear hv
  by_cases hlong : 8192 < s.size
  · have h1 : decide ((8192 : Int) < s.size) = true := by simp; omega
    rw [all_long (by rw [lst_length]; exact hlong)] at HA
    clear hlong
    go_enter Tryd.func5, Tryd.ntmps5
    go_wp2_with (first | (go_at_call 9; refine (awake_any _ HV.out).mono ?_; rintro e w1 ⟨rfl, b1⟩; have V1 : Hid (Vars w1) := HV.out.below b1) | (go_at_call 10; refine (HA.out _ V1.out).mono ?_; rintro e w2 ⟨b2, rfl⟩))
    go_ret
    exact ⟨rfl, b1.trans (b2.mono b1.size)⟩
  · have h1 : decide ((8192 : Int) < s.size) = false := by simp; omega
    have HE := fun c q => @all_err (lst s) c q
    have HC := fun ts => @all_ch (lst s) ts
    have HL := fun ts => @all_len (lst s) ts
    rw [lst_length] at HE
    have hs8 : Hid (s.size ≤ 8192) := Nat.le_of_not_lt hlong
    generalize all (lst s) = R at *
    obtain ⟨c, q⟩ | ts := R
    · obtain ⟨hc, hq⟩ := HE c q rfl hlong
      have hq1 : (q : Int) < s.size := by omega
      clear HE HC HL hlong hq
      rcases hc with rfl | rfl
      · go_enter Tryd.func5, Tryd.ntmps5
        go_wp2_with (first | (go_at_call 9; refine (awake_any _ HV.out).mono ?_; rintro e w1 ⟨rfl, b1⟩; have V1 : Hid (Vars w1) := HV.out.below b1) | (go_at_call 10; refine (HA.out _ V1.out).mono ?_; rintro e w2 ⟨b2, rfl⟩))
        go_ret
        exact ⟨rfl, b1.trans (b2.mono b1.size)⟩
      · go_enter Tryd.func5, Tryd.ntmps5
        go_wp2_with (first | (go_at_call 9; refine (awake_any _ HV.out).mono ?_; rintro e w1 ⟨rfl, b1⟩; have V1 : Hid (Vars w1) := HV.out.below b1) | (go_at_call 10; refine (HA.out _ V1.out).mono ?_; rintro e w2 ⟨b2, rfl⟩))
        go_ret
        exact ⟨rfl, b1.trans (b2.mono b1.size)⟩
    · have HCH : Hid (Ch (lst s) 0 ts) := HC ts rfl
      have hlen : ts.length ≤ 8193 := HL ts rfl
      have HLS : Hid ((lst s).length = s.size) := lst_length s
      clear HE HC HL hlong
      go_enter Tryd.func5, Tryd.ntmps5
      go_wp2_with (first | (go_at_call 9; refine (awake_any _ HV.out).mono ?_; rintro e w1 ⟨rfl, b1⟩; have V1 : Hid (Vars w1) := HV.out.below b1) | (go_at_call 10; refine (HA.out _ V1.out).mono ?_; rintro e w2 ⟨b2, v, rfl, ho⟩; obtain ⟨a, ca, rfl, hT⟩ := owns_toks ho; have T1 : Hid (Toks w2 a ts.length ts) := hT; have B2 : Hid (Below w.heap.size w w2) := b1.trans (b2.mono b1.size); clear ho hT b2 b1))
      go_loopw [2, 10, 11] (fun r vl vi wr => ∃ (k last : Nat), vl = .int .i64 last ∧ vi = .int .i64 k ∧ Below w2.heap.size w2 wr ∧ k ≤ ts.length ∧ Hid ((k < ts.length → Ch (lst s) last (ts.drop k)) ∧ last ≤ s.size)) (fun _ _ vi _ => ts.length - (intOf vi).toNat)
      case atStart => exact ⟨0, 0, rfl, rfl, Below.refl _ _, Nat.zero_le _, fun _ => HCH.out, Nat.zero_le _⟩
      case round =>
        obtain ⟨k, last, rfl, rfl, hb, hk, hh⟩ := hrel
        have TR : Hid (Toks wr a ts.length ts) := T1.out.below hb
        have HB : Hid (Below w2.heap.size w2 wr) := hb
        clear hb
        by_cases hlt : k < ts.length
        · obtain ⟨g, rfl, hc⟩ := TR.out.2 (by omega)
          obtain ⟨p1, p2, p3, p4⟩ := hc k ts[k] (List.getElem?_eq_getElem hlt)
          have hi1 : (k : Int) < (ts.length : Int) := by omega
          rcases ch_at (hh.out.1 hlt) hlt with ⟨he, hk1, hle⟩ | ⟨h2, hg, hch, hk1⟩
          · rw [he] at p1 p2 p3 p4
            rw [HLS.out] at p2 hle
            have p1' : wr.cell? ⟨g, k * 4, none⟩ = some (.int .i64 4) := p1
            have p2' : wr.cell? ⟨g, k * 4 + 1, none⟩ = some (.int .i64 s.size) := p2
            have p3' : wr.cell? ⟨g, k * 4 + 2, none⟩ = some (.string ⟨#[]⟩) := p3
            have p4' : wr.cell? ⟨g, k * 4 + 3, none⟩ = some (.int .u64 0) := p4
            have q1 : ((k : Int) == (ts.length : Int) - 1) = true := by rw [beq_iff_eq]; omega
            have hs9 : (s.size : Int) ≤ 8192 := by have := hs8.out; omega
            have n1 : decide ((s.size : Int) < (last : Int)) = false := by simp; omega
            have n2 : decide (s.size < last) = false := by simp; omega
            have hex : s.extract s.size s.size = ⟨#[]⟩ := by rw [extract_bar, Nat.sub_self]; rfl
            have HH : Hid (Hid ((k + 1 < ts.length → Ch (lst s) (s.size + 0) (ts.drop (k + 1))) ∧ s.size + 0 ≤ s.size)) := ⟨fun h => by omega, Nat.le_refl _⟩
            clear hc he hh p1 p2 p3 p4 hle
            have hB := blk_new wr #[.int .i64 4, .int .i64 s.size, .string ⟨#[]⟩, .int .u64 0] 31
            have x0 : (wr.alloc (Obj.cells #[.int .i64 4, .int .i64 s.size, .string ⟨#[]⟩, .int .u64 0] 31)).cell? ⟨wr.heap.size, 0, none⟩ = some (.int .i64 4) := hB.cell 0
            have x1 : (wr.alloc (Obj.cells #[.int .i64 4, .int .i64 s.size, .string ⟨#[]⟩, .int .u64 0] 31)).cell? ⟨wr.heap.size, 1, none⟩ = some (.int .i64 s.size) := hB.cell 1
            have x2 : (wr.alloc (Obj.cells #[.int .i64 4, .int .i64 s.size, .string ⟨#[]⟩, .int .u64 0] 31)).cell? ⟨wr.heap.size, 2, none⟩ = some (.string ⟨#[]⟩) := hB.cell 2
            have x3 : (wr.alloc (Obj.cells #[.int .i64 4, .int .i64 s.size, .string ⟨#[]⟩, .int .u64 0] 31)).cell? ⟨wr.heap.size, 3, none⟩ = some (.int .u64 0) := hB.cell 3
            have HX : Hid (Below w2.heap.size w2 (wr.alloc (Obj.cells #[.int .i64 4, .int .i64 s.size, .string ⟨#[]⟩, .int .u64 0] 31))) := HB.out.alloc HB.out.size _
            clear hB
            go_wp2
            generalize wr.alloc (Obj.cells #[.int .i64 4, .int .i64 s.size, .string ⟨#[]⟩, .int .u64 0] 31) = X at *
            go_quiet (fail)
            go_wp2
            go_roundw
            case rel => exact ⟨k + 1, s.size + 0, by simp, by go_num, HX.out.trans ((below_drewN _ _).mono HX.out.size), by omega, HH.out⟩
            case measure => simp [intOf]; omega
          · have hxn := hg.n
            have hxk := hg.k
            have hxl := hg.le
            have hxe := hg.eq
            have hx1 := hg.ne
            rw [HLS.out] at hxl
            generalize ts[k] = x at *
            obtain ⟨xk, xa, xt, xn⟩ := x
            dsimp only at *
            have hex : s.extract xa (xa + (bar xt).size) = bar xt := by rw [extract_bar, bar_size, show xa + xt.length - xa = xt.length from by omega, hxe]
            have hex2 : (bar xt).toList.isEmpty = false := by rw [bar_list]; cases xt with | nil => simp at hx1 | cons c r => rfl
            have q1 : ((k : Int) == (ts.length : Int) - 1) = false := by rw [beq_eq_false_iff_ne]; omega
            have q2 : ((xk : Int) == 4) = false := by rw [beq_eq_false_iff_ne]; omega
            have n1 : decide ((xa : Int) < (last : Int)) = false := by simp; omega
            have n2 : decide (xa < last) = false := by simp; omega
            have n3 : decide ((s.size : Int) < (xa : Int)) = false := by simp; omega
            have n4 : decide (s.size < xa) = false := by simp; omega
            have n5 : decide ((s.size : Int) - (xa : Int) < ((bar xt).size : Int)) = false := by simp; rw [bar_size]; omega
            have hle5 : xa + (bar xt).size ≤ s.size := by rw [bar_size]; omega
            have hs9 : (s.size : Int) ≤ 8192 := by have := hs8.out; omega
            have HH : Hid (Hid ((k + 1 < ts.length → Ch (lst s) (xa + (bar xt).size) (ts.drop (k + 1))) ∧ xa + (bar xt).size ≤ s.size)) := ⟨fun h => by rw [bar_size]; exact hch, hle5⟩
            clear hc hh hg hxl hxe hx1 hch h2
            generalize bar xt = bt at *
            rcases (show ((xn : Int) == 0) = false ∧ xk = 2 ∨ xn = 0 from by rw [beq_eq_false_iff_ne]; omega) with ⟨hn0, rfl⟩ | rfl
            · have hn1 : ¬ xn = 0 := by rw [beq_eq_false_iff_ne] at hn0; omega
              have hn2 : ((xn : Int) != 0) = true := by rw [bne_iff_ne]; omega
              clear hxk q2 hxn
              have hB := blk_new wr #[.int .i64 2, .int .i64 xa, .string bt, .int .u64 xn] 31
              have x0 : (wr.alloc (Obj.cells #[.int .i64 2, .int .i64 xa, .string bt, .int .u64 xn] 31)).cell? ⟨wr.heap.size, 0, none⟩ = some (.int .i64 2) := hB.cell 0
              have x1 : (wr.alloc (Obj.cells #[.int .i64 2, .int .i64 xa, .string bt, .int .u64 xn] 31)).cell? ⟨wr.heap.size, 1, none⟩ = some (.int .i64 xa) := hB.cell 1
              have x2 : (wr.alloc (Obj.cells #[.int .i64 2, .int .i64 xa, .string bt, .int .u64 xn] 31)).cell? ⟨wr.heap.size, 2, none⟩ = some (.string bt) := hB.cell 2
              have x3 : (wr.alloc (Obj.cells #[.int .i64 2, .int .i64 xa, .string bt, .int .u64 xn] 31)).cell? ⟨wr.heap.size, 3, none⟩ = some (.int .u64 xn) := hB.cell 3
              have HX : Hid (Below w2.heap.size w2 (wr.alloc (Obj.cells #[.int .i64 2, .int .i64 xa, .string bt, .int .u64 xn] 31))) := HB.out.alloc HB.out.size _
              clear hB
              go_wp2
              generalize wr.alloc (Obj.cells #[.int .i64 2, .int .i64 xa, .string bt, .int .u64 xn] 31) = X at *
              go_quiet (fail)
              go_wp2
              go_roundw
              case rel => exact ⟨k + 1, xa + bt.size, by go_num, by go_num, HX.out.trans ((below_drewN _ _).mono HX.out.size), by omega, HH.out⟩
              case measure => simp [intOf]; omega
            · clear hxk hxn
              have hB := blk_new wr #[.int .i64 xk, .int .i64 xa, .string bt, .int .u64 0] 31
              have x0 : (wr.alloc (Obj.cells #[.int .i64 xk, .int .i64 xa, .string bt, .int .u64 0] 31)).cell? ⟨wr.heap.size, 0, none⟩ = some (.int .i64 xk) := hB.cell 0
              have x1 : (wr.alloc (Obj.cells #[.int .i64 xk, .int .i64 xa, .string bt, .int .u64 0] 31)).cell? ⟨wr.heap.size, 1, none⟩ = some (.int .i64 xa) := hB.cell 1
              have x2 : (wr.alloc (Obj.cells #[.int .i64 xk, .int .i64 xa, .string bt, .int .u64 0] 31)).cell? ⟨wr.heap.size, 2, none⟩ = some (.string bt) := hB.cell 2
              have x3 : (wr.alloc (Obj.cells #[.int .i64 xk, .int .i64 xa, .string bt, .int .u64 0] 31)).cell? ⟨wr.heap.size, 3, none⟩ = some (.int .u64 0) := hB.cell 3
              have HX : Hid (Below w2.heap.size w2 (wr.alloc (Obj.cells #[.int .i64 xk, .int .i64 xa, .string bt, .int .u64 0] 31))) := HB.out.alloc HB.out.size _
              clear hB
              go_wp2
              generalize wr.alloc (Obj.cells #[.int .i64 xk, .int .i64 xa, .string bt, .int .u64 0] 31) = X at *
              go_quiet (fail)
              go_wp2
              go_roundw
              case rel => exact ⟨k + 1, xa + bt.size, by go_num, by go_num, HX.out.trans ((below_drewN _ _).mono HX.out.size), by omega, HH.out⟩
              case measure => simp [intOf]; omega
        · have hge : ¬ (k : Int) < (ts.length : Int) := by omega
          obtain ⟨hl0, hlx⟩ := ch_last HCH.out
          obtain ⟨g, rfl, hc⟩ := TR.out.2 hl0
          have p2 := (hc _ _ hlx).2.1
          rw [HLS.out] at p2
          have p2' : wr.cell? ⟨g, (ts.length - 1) * 4 + 1, none⟩ = some (.int .i64 s.size) := p2
          have hl1 : (0 : Int) < (ts.length : Int) := by omega
          have hl2 : (ts.length : Int) - 1 = ((ts.length - 1 : Nat) : Int) := by omega
          clear hc hlx hh p2
          go_wp2
          go_ret
          exact ⟨rfl, B2.out.trans (HB.out.mono B2.out.size)⟩

end Go.Proofs.YtbdhlbigcepglaaDoor
