/-
  ShowParsed: what is parsed may be shown, and is parsed again as it was.
-/
import Derived.Test.YtcllgpbgikidjaaDoorQMath
import Derived.Test.YtcllgpbgikidjaaDoorSAwake
import Derived.Test.YtcllgpbgikidjaaDoorSSame
namespace Go.Proofs.YtcllgpbgikidjaaDoor
open Go.RowKit

/-- rules that were parsed: what is known of them. -/
structure Pd (d : Ac) (rs : List Rl) (l : List Xr) : Prop where
  eq : l.map Xr.r = rs.map ofR
  right : rulesB d.k d.a (l.map Xr.r) = true
  into : ∀ x ∈ l, x.r.in
  len : l.length ≤ 1000
  few : ∀ x ∈ l, x.r.names.length ≤ 9000000 ∧ x.r.conds.length ≤ 9000000
  sm : SmX (l.map Xr.r)

theorem pd_of {t : List UInt8} {d : Ac} {rs : List Rl} {l : List Xr} (h : prs t = .ok (d, rs)) (he : l.map Xr.r = rs.map ofR) : Pd d rs l := by
  obtain ⟨h1, h2⟩ := prs_right h
  rw [← he] at h1 h2
  have h3 : l.length ≤ 64 ∧ ∀ x ∈ l.map Xr.r, ruleB x = true := by
    unfold rulesB at h1
    simp only [Bool.and_eq_true, decide_eq_true_eq, List.all_eq_true, List.length_map] at h1
    exact ⟨h1.1.2, h1.2⟩
  have h4 : ∀ x ∈ l.map Xr.r, x.names.length ≤ 16 ∧ x.conds.length ≤ 8 := fun x hx => ⟨(ruleB_out (h3.2 x hx)).2.1, (ruleB_out (h3.2 x hx)).2.2.1⟩
  refine ⟨he, h1, fun x hx => h2 x.r (List.mem_map_of_mem hx), by omega, fun x hx => ?_, by rw [List.length_map]; omega, fun r hr => ?_⟩
  · have := h4 x.r (List.mem_map_of_mem hx)
    omega
  · have := h4 r hr
    omega

theorem pd_same {d : Ac} {rs : List Rl} {l l' : List Xr} (h : Pd d rs l) (he : l'.map Xr.r = l.map Xr.r) : Pd d rs l' := by
  have hl : l'.length = l.length := by have := congrArg List.length he; simpa using this
  have hm : ∀ x ∈ l', ∃ y ∈ l, y.r = x.r := fun x hx => by
    have : x.r ∈ l.map Xr.r := by rw [← he]; exact List.mem_map_of_mem hx
    obtain ⟨y, hy, e⟩ := List.mem_map.1 this
    exact ⟨y, hy, e⟩
  refine ⟨he.trans h.eq, by rw [he]; exact h.right, fun x hx => ?_, by rw [hl]; exact h.len, fun x hx => ?_, by rw [he]; exact h.sm⟩
  · obtain ⟨y, hy, e⟩ := hm x hx
    rw [← e]
    exact h.into y hy
  · obtain ⟨y, hy, e⟩ := hm x hx
    rw [← e]
    exact h.few y hy

theorem pd_back (T : List Int) {d : Ac} {rs : List Rl} {l : List Xr} (h : Pd d rs l) (hlen : (textT T d.k d.a (l.map Xr.r)).length ≤ 8192) : prs (textT T d.k d.a (l.map Xr.r)) = .ok (d, rs) := by
  rw [prs_text T h.right (fun x hx c hc => by obtain ⟨y, hy, rfl⟩ := List.mem_map.1 hx; exact (h.into y hy).cd c hc) hlen, h.eq, List.map_map]
  have e : (toR ∘ ofR) = id := by funext r; exact toR_ofR r
  rw [e, List.map_id]
  simp

set_option maxRecDepth 8000 in
set_option maxHeartbeats 8000000 in
theorem showParsed_walk (T : List Int) (s : ByteArray) (w : World) (hv : Vars w) (ht : Tb T w) :
    Calls Tryd.prog 4 #[.string s] w fun e w' => e = .returned (.bool true) ∧ Below w.heap.size w w' := by
  have HA : Hid (Calls Tryd.prog 5 #[] w fun e w' => e = .returned (.bool true) ∧ Below w.heap.size w w') := awake_any T w ht
  have HV : Hid (Vars w) := hv
  have HT : Hid (Tb T w) := ht
  clear hv ht
  rcases hR : prs (lst s) with ⟨c, p⟩ | ⟨d, rs⟩
  · have hc : ¬ c = 0 := by
      intro h0
      subst h0
      unfold prs at hR
      split at hR
      · next e he =>
        cases hR
        exact (all_code he).1 rfl
      · next ts h1 =>
        have := (run_place ts .s0 0 p ⟨⟨4, (lst s).length, [], 0⟩, by obtain ⟨A, hA, _⟩ := ch_init (all_ch h1); rw [hA]; simp, rfl⟩ hR).1
        omega
    have HP : Hid (∀ W, Vars W → Calls Tryd.prog 9 #[.string s] W fun e w' => Below W.heap.size W w' ∧ e = .returned (.tuple #[.agg #[.int .i64 0, .int .i64 0, .slice none 0 0], .int .i64 c, .int .i64 p])) := fun W hW => by
      have := parseX s W hW
      rw [hR] at this
      exact this
    have hc1 : ((c : Int) == 0) = false := by rw [beq_eq_false_iff_ne]; omega
    have hc2 : ((c : Int) != 0) = true := by rw [bne, hc1]; rfl
    clear hR
    go_enter Tryd.func4, Tryd.ntmps4
    go_wp2_with fail
    refine HA.out.mono ?_
    rintro e w1 ⟨rfl, b1⟩
    go_wp2_with fail
    refine (HP.out _ (HV.out.below b1)).mono ?_
    rintro e w2 ⟨b2, rfl⟩
    go_wp2_with fail
    go_ret
    exact ⟨rfl, (b1.trans (b2.mono b1.size)).alloc (Nat.le_trans b1.size b2.size) _⟩
  · have HP : Hid (∀ W, Vars W → Calls Tryd.prog 9 #[.string s] W fun e w' => Below W.heap.size W w' ∧ ∃ v l, l.map Xr.r = rs.map ofR ∧ e = .returned (.tuple #[.agg #[.int .i64 d.k, .int .i64 d.a, v], .int .i64 0, .int .i64 (-1)]) ∧ RlR w' v l) := fun W hW => by
      have := parseX s W hW
      rw [hR] at this
      exact this
    have HPD : Hid (∀ l : List Xr, l.map Xr.r = rs.map ofR → Pd d rs l) := fun l hl => pd_of hR hl
    clear hR
    go_enter Tryd.func4, Tryd.ntmps4
    go_wp2_with fail
    refine HA.out.mono ?_
    rintro e w1 ⟨rfl, b1⟩
    go_wp2_with fail
    refine (HP.out _ (HV.out.below b1)).mono ?_
    rintro e w2 ⟨b2, v, l, hl, rfl, r2⟩
    have HD : Hid (Pd d rs l) := HPD.out l hl
    obtain ⟨p1, c1, rfl⟩ : ∃ p c, v = .slice p l.length c := by obtain ⟨p, c, e, _⟩ := r2; exact ⟨p, c, e⟩
    have B2 := b1.trans (b2.mono b1.size)
    have B3 : Hid (Below w.heap.size w (w2.alloc (Obj.cells #[.int .i64 d.k, .int .i64 d.a, .slice p1 l.length c1] 26))) := B2.alloc B2.size _
    have HK : Hid (Blk (w2.alloc (Obj.cells #[.int .i64 d.k, .int .i64 d.a, .slice p1 l.length c1] 26)) w2.heap.size 26 [.int .i64 d.k, .int .i64 d.a, .slice p1 l.length c1]) := blk_new w2 _ _
    have SN : Hid (RlR (w2.alloc (Obj.cells #[.int .i64 d.k, .int .i64 d.a, .slice p1 l.length c1] 26)) (.slice p1 l.length c1) l) := r2.below ((Below.refl _ _).alloc (Nat.le_refl _) _)
    clear b1 b2 hl r2 HPD B2 HA HP
    have TX : Hid (∀ W u l', RlR W u l' → l'.map Xr.r = l.map Xr.r → Tb T W → Calls Tryd.prog 7 #[.agg #[.int .i64 d.k, .int .i64 d.a, u]] W fun e w' => e = .returned (.tuple #[.string (bar (textT T d.k d.a (l.map Xr.r))), .int .i64 0]) ∧ Below W.heap.size W w') := by
      intro W u l' h1 h2 h3
      have hd := pd_same HD.out h2
      rw [← h2]
      exact text_yes T W d.k d.a u l' h1 hd.len hd.few hd.right hd.into h3
    have HR : Hid (∀ W, RlR W (.slice p1 l.length c1) l → Calls Tryd.prog 8 #[.agg #[.int .i64 d.k, .int .i64 d.a, .slice p1 l.length c1]] W fun e w' => e = .returned (.bool true) ∧ Below W.heap.size W w') := fun W hW => by
      have := right_any W d.k d.a _ l hW HD.out.len HD.out.few
      rw [HD.out.right] at this
      exact this
    have HBK : Hid ((textT T d.k d.a (l.map Xr.r)).length ≤ 8192 → prs (textT T d.k d.a (l.map Xr.r)) = .ok (d, rs)) := pd_back T HD.out
    have HSm : Hid (SmX (l.map Xr.r)) := HD.out.sm
    have HEQ : Hid (l.map Xr.r = rs.map ofR) := HD.out.eq
    generalize textT T d.k d.a (l.map Xr.r) = TT at *
    clear HD
    have t0 : (w2.alloc (Obj.cells #[.int .i64 d.k, .int .i64 d.a, .slice p1 l.length c1] 26)).cell? ⟨w2.heap.size, 0, none⟩ = some (.int .i64 d.k) := HK.out.cell 0
    have t1 : (w2.alloc (Obj.cells #[.int .i64 d.k, .int .i64 d.a, .slice p1 l.length c1] 26)).cell? ⟨w2.heap.size, 1, none⟩ = some (.int .i64 d.a) := HK.out.cell 1
    have t2 : (w2.alloc (Obj.cells #[.int .i64 d.k, .int .i64 d.a, .slice p1 l.length c1] 26)).cell? ⟨w2.heap.size, 2, none⟩ = some (.slice p1 l.length c1) := HK.out.cell 2
    go_wp2_with fail
    generalize (w2.alloc (Obj.cells #[.int .i64 d.k, .int .i64 d.a, .slice p1 l.length c1] 26)) = X at *
    generalize w2.heap.size = B at *
    refine (TX.out _ _ _ SN.out rfl (HT.out.below B3.out)).mono ?_
    rintro e w3 ⟨rfl, b3⟩
    have C3 : Hid (Below X.heap.size X w3) := b3
    clear t0 t1 t2 b3
    have t0 : w3.cell? ⟨B, 0, none⟩ = some (.int .i64 d.k) := (HK.out.over C3.out).cell 0
    have t1 : w3.cell? ⟨B, 1, none⟩ = some (.int .i64 d.a) := (HK.out.over C3.out).cell 1
    have t2 : w3.cell? ⟨B, 2, none⟩ = some (.slice p1 l.length c1) := (HK.out.over C3.out).cell 2
    go_wp2_with fail
    refine (HR.out _ (SN.out.below C3.out)).mono ?_
    rintro e w4 ⟨rfl, b4⟩
    have C4 : Hid (Below X.heap.size X w4) := C3.out.trans (b4.mono C3.out.size)
    clear t0 t1 t2 b4 HR
    by_cases hlen : TT.length ≤ 8192
    · have hsz : decide (8192 < ((bar TT).size : Int)) = false := by rw [bar_size]; exact decide_eq_false (by omega)
      have P4 := parseX (bar TT) w4 ((HV.out.below B3.out).below C4.out)
      rw [lst_bar, HBK.out hlen] at P4
      have HP4 : Hid (Calls Tryd.prog 9 #[.string (bar TT)] w4 fun e w' => Below w4.heap.size w4 w' ∧ ∃ v l, l.map Xr.r = rs.map ofR ∧ e = .returned (.tuple #[.agg #[.int .i64 d.k, .int .i64 d.a, v], .int .i64 0, .int .i64 (-1)]) ∧ RlR w' v l) := P4
      clear P4 HBK
      go_wp2_with fail
      refine HP4.out.mono ?_
      rintro e w5 ⟨b5, vy, ly, hly, rfl, ry⟩
      rw [← HEQ.out] at hly
      obtain ⟨p2, c2, rfl⟩ : ∃ p c, vy = .slice p ly.length c := by obtain ⟨p, c, e, _⟩ := ry; exact ⟨p, c, e⟩
      have HLY : Hid (ly.map Xr.r = l.map Xr.r) := hly
      have C5 : Hid (Below X.heap.size X w5) := C4.out.trans (b5.mono C4.out.size)
      have b6 : Below w5.heap.size w5 (w5.alloc (Obj.cells #[.int .i64 d.k, .int .i64 d.a, .slice p2 ly.length c2] 26)) := (Below.refl _ _).alloc (Nat.le_refl _) _
      have C6 : Hid (Below X.heap.size X (w5.alloc (Obj.cells #[.int .i64 d.k, .int .i64 d.a, .slice p2 ly.length c2] 26))) := C5.out.trans (b6.mono C5.out.size)
      have HY : Hid (RlR (w5.alloc (Obj.cells #[.int .i64 d.k, .int .i64 d.a, .slice p2 ly.length c2] 26)) (.slice p2 ly.length c2) ly) := ry.below b6
      have KY : Hid (Blk (w5.alloc (Obj.cells #[.int .i64 d.k, .int .i64 d.a, .slice p2 ly.length c2] 26)) w5.heap.size 26 [.int .i64 d.k, .int .i64 d.a, .slice p2 ly.length c2]) := blk_new w5 _ _
      have y0 : (w5.alloc (Obj.cells #[.int .i64 d.k, .int .i64 d.a, .slice p2 ly.length c2] 26)).cell? ⟨w5.heap.size, 0, none⟩ = some (.int .i64 d.k) := KY.out.cell 0
      have y1 : (w5.alloc (Obj.cells #[.int .i64 d.k, .int .i64 d.a, .slice p2 ly.length c2] 26)).cell? ⟨w5.heap.size, 1, none⟩ = some (.int .i64 d.a) := KY.out.cell 1
      have y2 : (w5.alloc (Obj.cells #[.int .i64 d.k, .int .i64 d.a, .slice p2 ly.length c2] 26)).cell? ⟨w5.heap.size, 2, none⟩ = some (.slice p2 ly.length c2) := KY.out.cell 2
      clear b5 b6 hly ry C5
      go_wp2_with fail
      generalize (w5.alloc (Obj.cells #[.int .i64 d.k, .int .i64 d.a, .slice p2 ly.length c2] 26)) = Y at *
      generalize w5.heap.size = BY at *
      refine (TX.out _ _ _ HY.out HLY.out ((HT.out.below B3.out).below C6.out)).mono ?_
      rintro e w7 ⟨rfl, b7⟩
      have D7 : Hid (Below Y.heap.size Y w7) := b7
      have C7 : Hid (Below X.heap.size X w7) := C6.out.trans (b7.mono C6.out.size)
      clear y0 y1 y2 b7
      have y0 : w7.cell? ⟨BY, 0, none⟩ = some (.int .i64 d.k) := (KY.out.over D7.out).cell 0
      have y1 : w7.cell? ⟨BY, 1, none⟩ = some (.int .i64 d.a) := (KY.out.over D7.out).cell 1
      have y2 : w7.cell? ⟨BY, 2, none⟩ = some (.slice p2 ly.length c2) := (KY.out.over D7.out).cell 2
      have t0 : w7.cell? ⟨B, 0, none⟩ = some (.int .i64 d.k) := (HK.out.over C7.out).cell 0
      have t1 : w7.cell? ⟨B, 1, none⟩ = some (.int .i64 d.a) := (HK.out.over C7.out).cell 1
      have t2 : w7.cell? ⟨B, 2, none⟩ = some (.slice p1 l.length c1) := (HK.out.over C7.out).cell 2
      have HS7 : Hid (Calls Tryd.prog 10 #[.agg #[.int .i64 d.k, .int .i64 d.a, .slice p1 l.length c1], .agg #[.int .i64 d.k, .int .i64 d.a, .slice p2 ly.length c2]] w7 fun e w' => e = .returned (.bool true) ∧ Below w7.heap.size w7 w') := sameX w7 d.k d.a _ _ l ly (SN.out.below C7.out) (HY.out.below D7.out) HLY.out.symm HSm.out
      go_wp2_with fail
      refine HS7.out.mono ?_
      rintro e w8 ⟨rfl, b8⟩
      clear y0 y1 y2 t0 t1 t2
      go_wp2_with fail
      go_ret
      exact ⟨rfl, B3.out.trans ((C7.out.trans (b8.mono C7.out.size)).mono B3.out.size)⟩
    · have hsz : decide (8192 < ((bar TT).size : Int)) = true := by rw [bar_size]; exact decide_eq_true (by omega)
      go_wp2_with fail
      go_ret
      exact ⟨rfl, B3.out.trans (C4.out.mono B3.out.size)⟩

end Go.Proofs.YtcllgpbgikidjaaDoor
