/-
  StackFork: a stack and its fork have nothing in common.
-/
import Derived.Test.YtamioifoemklfaaStFrk
namespace Go.Proofs.Ytamioifoemklfaa
open Go.ChangeShapes Go.WideShapes Go.ChangeAt Go.RowKit

/-- two filters in an array. -/
structure TwoF where
  v0 : Value
  v1 : Value
  l0 : List V.In
  l1 : List V.In
theorem cellsOfTwo : Try.prog.cellsOf 52 = 2 := by kernel_rfl
theorem underTwo : Try.prog.underlying 52 = some (.array 2 31) := by kernel_rfl
set_option maxRecDepth 20000 in
theorem open_two {H : Type} {enc : TypeId × Value → H} {w : World} {base b0 : Nat} {spare : Nat → Bool} {held : Bool} {r : Reach} {v : Value} {d : DataW H} {p : List MemPlace}
    (hv : Value.okWide Try.prog w r b0 52 v) (h : DataW.Trod enc Try.prog w base spare held 52 v d p) : ∃ y : TwoF, v = .agg #[y.v0, y.v1] ∧ FlV w y.v0 y.l0 ∧ FlV w y.v1 y.l1 := by
  unfold Value.okWide at hv
  rw [underTwo] at hv
  obtain ⟨cs, rfl, hsz, _⟩ := hv
  rw [cellsOfTwo] at hsz
  obtain ⟨cl⟩ := cs
  match cl, hsz with
  | [c0, c1], _ =>
    obtain ⟨fuel, hf⟩ := h
    obtain ⟨xs, m, _, hx, _, hlen, hi⟩ := DataW.trod_array underTwo hf
    have h0 := hi 0 (by omega)
    have h1 := hi 1 (by omega)
    rw [cellsOfIS] at h0 h1
    simp only [Value.cells, Nat.zero_mul, List.drop_zero, Nat.one_mul] at h0 h1
    match xs, hlen with
    | [y0, y1], _ =>
      obtain ⟨l0, q0⟩ := open_filter (by simpa using h0)
      obtain ⟨l1, q1⟩ := open_filter (by simpa using h1)
      exact ⟨⟨c0, c1, l0, l1⟩, rfl, q0, q1⟩

theorem own_empty2 (Z : World) (B : Nat) (hB : B ≤ Z.heap.size) : (Z.alloc (Obj.cells #[] 56)).ownsRow B 56 4 (.slice (some ⟨Z.heap.size, 0, none⟩) 0 0) 0 (V.cellsI []) :=
  ⟨by simp [V.cellsI], .inr ⟨Z.heap.size, 0, #[], rfl, hB, heap_alloc_new _ _, Nat.le_refl _, by unfold maxLen; omega, rfl, rfl⟩⟩
theorem grown_belowO {X Y : World} {B : Nat} {r : Option Nat} (h : X.grownBy Y r) (hr : ∀ k, r = some k → B ≤ k) (hs : B ≤ X.heap.size) : Below B X Y :=
  ⟨h.os, h.tape, h.output, h.size, fun k hk => h.block k (by omega) (fun e => by have := hr k e.symm; omega)⟩
/-- an attached filter lies apart from what was there. -/
theorem AttT.apart {X Y : World} {b : Nat} {vc ve : Value} {ls : List (List V.In)} {l : List V.In} {e : Ending} (h : AttT X b vc ve ls l e Y) : e = .returned (.int .i64 (attE ls l)) ∧ X.grownBy Y (some b) ∧ ∃ vc' ve', StkV Y b vc' ve' (attL ls l) ∧ ∀ g, g < X.heap.size → vc.ownBlock ≠ some g → vc'.ownBlock ≠ some g := by
  obtain ⟨rfl, h2, h3⟩ := h
  refine ⟨rfl, h2, ?_⟩
  unfold attL
  rcases h3 with ⟨h4, h5⟩ | ⟨h4, vc', ve', h5, h6, _⟩
  · rw [if_neg h4]
    exact ⟨_, _, h5, fun g _ hg => hg⟩
  · rw [if_pos h4]
    refine ⟨_, _, h5, fun g hg _ e => ?_⟩
    have := h6 g e
    omega
/-- a filter's own row was turned. -/
theorem StkV.mine {X Y : World} {b B n : Nat} {vc ve v : Value} {xs : List Value} {ls : List (List V.In)} (h : StkV X b vc ve ls) (ho : X.ownsRow B 56 4 v n xs) (hne : vc.ownBlock = none ∨ vc.ownBlock ≠ v.ownBlock) (hg : X.grownBy Y v.ownBlock) : StkV Y b vc ve ls :=
  ⟨blk_grown h.blk hg (blk_row_ne (by decide) ho h.blk), h.code.kept hg hne, h.ends.kept hg (own_ne (by decide) h.ends ho)⟩
theorem FlO.mine {X w w' : World} {B B2 n : Nat} {v u : Value} {xs : List Value} {ls : List (List V.In)} (h : FlO X w B v ls) (ho : w.ownsRow B2 56 4 u n xs) (hg : w.grownBy w' u.ownBlock) : FlO X w' B v ls := by
  obtain ⟨us, h1, hc⟩ := h
  exact ⟨us, h1.kept hg (own_ne (by decide) h1 ho), hc⟩
/-- one instruction of a row is set. -/
theorem row_set {w : World} {B g n cap : Nat} {xs : List Value} (h : w.ownsRow B 56 4 (.slice (some ⟨g, 0, none⟩) n cap) n xs) (i : Nat) (u0 u1 u2 u3 : Value) :
    (∃ ys, ((((w.setCell ⟨g, i * 4, none⟩ u0).setCell ⟨g, i * 4 + 1, none⟩ u1).setCell ⟨g, i * 4 + 2, none⟩ u2).setCell ⟨g, i * 4 + 3, none⟩ u3).ownsRow B 56 4 (.slice (some ⟨g, 0, none⟩) n cap) n ys) ∧
    w.grownBy ((((w.setCell ⟨g, i * 4, none⟩ u0).setCell ⟨g, i * 4 + 1, none⟩ u1).setCell ⟨g, i * 4 + 2, none⟩ u2).setCell ⟨g, i * 4 + 3, none⟩ u3) (some g) := by
  have h1 := (h.stored (i * 4) u0).1
  have h2 := (h1.stored (i * 4 + 1) u1).1
  have h3 := (h2.stored (i * 4 + 2) u2).1
  have h4 := (h3.stored (i * 4 + 3) u3).1
  exact ⟨⟨_, h4⟩, grown_trans (grown_set _ _ _ _) (grown_trans (grown_set _ _ _ _) (grown_trans (grown_set _ _ _ _) (grown_set _ _ _ _)))⟩
theorem row_cells {w : World} {B g n cap : Nat} {xs : List Value} (h : w.ownsRow B 56 4 (.slice (some ⟨g, 0, none⟩) n cap) n xs) (i : Nat) (hi : i < n) : ∃ u0 u1 u2 u3, w.cell? ⟨g, i * 4, none⟩ = some u0 ∧ w.cell? ⟨g, i * 4 + 1, none⟩ = some u1 ∧ w.cell? ⟨g, i * 4 + 2, none⟩ = some u2 ∧ w.cell? ⟨g, i * 4 + 3, none⟩ = some u3 := by
  have hl := h.1
  have key : ∀ c, c < 4 → ∃ u, w.cell? ⟨g, i * 4 + c, none⟩ = some u := by
    intro c hc
    have hlt : i * 4 + c < xs.length := by omega
    have := h.cells (g := g) rfl (i * 4 + c) xs[i * 4 + c] (List.getElem?_eq_getElem hlt)
    rw [Addr.add_lit, Nat.zero_add] at this
    exact ⟨_, this⟩
  obtain ⟨u0, k0⟩ := key 0 (by decide)
  obtain ⟨u1, k1⟩ := key 1 (by decide)
  obtain ⟨u2, k2⟩ := key 2 (by decide)
  obtain ⟨u3, k3⟩ := key 3 (by decide)
  exact ⟨u0, u1, u2, u3, k0, k1, k2, k3⟩

set_option linter.unusedSimpArgs false in
set_option maxRecDepth 8000 in
set_option maxHeartbeats 8000000 in
theorem fork_walk (w : World) (v : Value) (ls : List (List V.In)) (x : TwoF) (d : V.Da) (h : FlR w v ls) (hx : FlV w x.v0 x.l0 ∧ FlV w x.v1 x.l1) (hd : d.ok) :
    Calls Try.prog 6 #[v, .agg #[x.v0, x.v1], .agg d.cells.toArray] w fun e w' => e = .returned (.bool true) ∧ Below w.heap.size w w' := by
  obtain ⟨p1, c1, rfl, hk1, hk2⟩ : ∃ p c, v = .slice p ls.length c ∧ ls.length ≤ c ∧ c ≤ 9223372036854775807 := by obtain ⟨p, c, e, h1, h2, _⟩ := h; exact ⟨p, c, e, h1, h2⟩
  obtain ⟨v0, v1, l0, l1⟩ := x
  obtain ⟨hx0, hx1⟩ := hx
  dsimp only at hx0 hx1 ⊢
  obtain ⟨a0, c0, rfl, hm0⟩ : ∃ a c, v0 = .slice a l0.length c ∧ l0.length ≤ 9223372036854775807 := by obtain ⟨a, c, e, _, h3, _⟩ := hx0; exact ⟨a, c, e, by unfold maxLen at h3; omega⟩
  obtain ⟨a1, cc1, rfl, hm1⟩ : ∃ a c, v1 = .slice a l1.length c ∧ l1.length ≤ 9223372036854775807 := by obtain ⟨a, c, e, _, h3, _⟩ := hx1; exact ⟨a, c, e, by unfold maxLen at h3; omega⟩
  obtain ⟨d1v, d2v, d3v, d4v, d5v, d6v, d7v, d8v, hAA⟩ := nine_of d hd
  have HRu : Hid (∀ W b vc ve ks, StkV W b vc ve ks → OkS ks → Calls Try.prog 15 #[.pointer (some ⟨b, 0, none⟩), .agg d.cells.toArray] W fun e w' => e = .returned (.tuple #[.int .u32 (A.most (ansL ks d)), .int .i64 (plN (ansL ks d))]) ∧ Below W.heap.size W w') := fun W b vc ve ks h1 h2 => run_any W b vc ve ks d h1 h2 hd
  rw [hAA] at HRu ⊢
  have HF : Hid (∀ W, Below w.heap.size w W → FlR W (.slice p1 ls.length c1) ls) := fun W hW => h.below hW
  have HX : Hid (∀ W, Below w.heap.size w W → FlV W (.slice a0 l0.length c0) l0 ∧ FlV W (.slice a1 l1.length cc1) l1) := fun W hW => ⟨hx0.below hW, hx1.below hW⟩
  have HOkA : Hid (OkS (attAll [] ls)) := okS_all [] ls okS_nil (flR_ok h)
  have HO01 : Hid ((∀ x ∈ l0, x.ok) ∧ ∀ x ∈ l1, x.ok) := by obtain ⟨_, _, _, q, _⟩ := hx0; obtain ⟨_, _, _, q', _⟩ := hx1; exact ⟨q.2.1, q'.2.1⟩
  have BE : Hid (Below w.heap.size w ((w.alloc (Obj.cells #[.slice a0 l0.length c0, .slice a1 l1.length cc1] 52)).alloc (Obj.cells #[.int .u32 d.n, d1v, d2v, d3v, d4v, d5v, d6v, d7v, d8v] 27))) := (below_new w _).trans ((below_new _ _).mono (below_new w _).size)
  have KD : Hid (V.Blk ((w.alloc (Obj.cells #[.slice a0 l0.length c0, .slice a1 l1.length cc1] 52)).alloc (Obj.cells #[.int .u32 d.n, d1v, d2v, d3v, d4v, d5v, d6v, d7v, d8v] 27)) (w.heap.size + 1) 27 [.int .u32 d.n, d1v, d2v, d3v, d4v, d5v, d6v, d7v, d8v] ∧ V.Blk ((w.alloc (Obj.cells #[.slice a0 l0.length c0, .slice a1 l1.length cc1] 52)).alloc (Obj.cells #[.int .u32 d.n, d1v, d2v, d3v, d4v, d5v, d6v, d7v, d8v] 27)) w.heap.size 52 [.slice a0 l0.length c0, .slice a1 l1.length cc1]) := ⟨V.blk_new' w _ _ _, (V.blk_new w _ _).alloc _⟩
  clear h hx0 hx1 hAA hd
  generalize hdn : d.n = dn at *
  have h50 : decide ((3000 : Int) < (l0.length : Int)) = true ∨ decide ((3000 : Int) < (l0.length : Int)) = false := by cases decide ((3000 : Int) < (l0.length : Int)) <;> simp
  have h51 : decide ((3000 : Int) < (l1.length : Int)) = true ∨ decide ((3000 : Int) < (l1.length : Int)) = false := by cases decide ((3000 : Int) < (l1.length : Int)) <;> simp
  go_enter Try.func6, Try.ntmps6
  go_upto_region 1 with fail
  generalize ((w.alloc (Obj.cells #[.slice a0 l0.length c0, .slice a1 l1.length cc1] 52)).alloc (Obj.cells #[.int .u32 dn, d1v, d2v, d3v, d4v, d5v, d6v, d7v, d8v] 27)) = X1 at *
  have HKd0 : Hid (∀ W, Below X1.heap.size X1 W → V.Blk W (w.heap.size + 1) 27 [.int .u32 dn, d1v, d2v, d3v, d4v, d5v, d6v, d7v, d8v] ∧ V.Blk W w.heap.size 52 [.slice a0 l0.length c0, .slice a1 l1.length cc1]) := fun W hW => ⟨KD.out.1.over hW, KD.out.2.over hW⟩
  have HT0 : Hid (∀ W, Below X1.heap.size X1 W → Below w.heap.size w W) := fun W hW => BE.out.trans (hW.mono BE.out.size)
  go_upto_region 3 with (first | (go_at_call 8; refine (awake_any _).mono ?_; rintro e w1 ⟨rfl, b1⟩) | (go_at_call 9; refine (few_any _ _ ls (HF.out _ (HT0.out _ b1))).mono ?_; rintro e w2 ⟨bb, rfl, b2, -⟩))
  have bw2 : Hid (Below X1.heap.size X1 w2) := b1.trans (b2.mono b1.size)
  clear b1 b2 BE KD
  have t0 := (HKd0.out w2 bw2.out).2.cell 0
  have t1 := (HKd0.out w2 bw2.out).2.cell 1
  simp only [List.getElem?_cons_zero, List.getElem?_cons_succ] at t0 t1
  cases bb with
  | false =>
    clear h50 h51
    go_wp2_with fail
    go_ret
    exact ⟨rfl, HT0.out _ bw2.out⟩
  | true =>
    rcases h50 with h50 | h50
    · have h52 : (3000 : Int) < (l0.length : Int) := of_decide_eq_true h50
      clear h51
      go_wp2_with fail
      go_ret
      exact ⟨rfl, HT0.out _ bw2.out⟩
    rcases h51 with h51 | h51
    · have h52 : (3000 : Int) < (l1.length : Int) := of_decide_eq_true h51
      go_wp2_with fail
      go_ret
      exact ⟨rfl, HT0.out _ bw2.out⟩
    have HKd : Hid (∀ W, Below w2.heap.size w2 W → V.Blk W (w.heap.size + 1) 27 [.int .u32 dn, d1v, d2v, d3v, d4v, d5v, d6v, d7v, d8v] ∧ V.Blk W w.heap.size 52 [.slice a0 l0.length c0, .slice a1 l1.length cc1]) := fun W hW => HKd0.out W (bw2.out.trans (hW.mono bw2.out.size))
    have HT : Hid (∀ W, Below w2.heap.size w2 W → Below w.heap.size w W) := fun W hW => HT0.out W (bw2.out.trans (hW.mono bw2.out.size))
    have HL0 : Hid (l0.length ≤ 3000 ∧ l1.length ≤ 3000) := by have q1 := of_decide_eq_false h50; have q2 := of_decide_eq_false h51; exact ⟨by omega, by omega⟩
    go_upto_region 6 with (first | (go_at_call 17; refine (built_any _ _ ls (HF.out _ (HT0.out _ bw2.out))).mono ?_; rintro e w3 ⟨b, vc, ve, vi, rfl, s3, hb3, f3, -, b3⟩))
    have bw3 : Hid (Below w2.heap.size w2 w3) := b3
    have HBb : Hid (w2.heap.size ≤ b) := hb3
    obtain ⟨ai, qi, evi⟩ : ∃ a c, vi = .slice a (attAll [] ls).length c := by obtain ⟨us, q, _⟩ := f3; exact own_slice q
    subst evi
    have HS3 : Hid (∀ W, Below w3.heap.size w3 W → StkV W b vc ve (attAll [] ls)) := fun W hW => s3.over hW
    have HF3 : Hid (∀ W, Below w3.heap.size w3 W → FlO w2 W w2.heap.size (.slice ai (attAll [] ls).length qi) (attAll [] ls)) := fun W hW => f3.over hW
    have HKs : Hid (attAll [] (attAll [] ls) = attAll [] ls) := attAll_ok HOkA.out
    clear s3 f3 hb3 b3 HF h50 h51 t0 t1
    generalize attAll [] ls = ks at *
    have h32 := HOkA.out.2.1
    have hcb : ks.flatten.length + 4 * ks.length ≤ 32768 := by have := HOkA.out.2.2; rw [cost_flat] at this; exact this
    have HCb : Hid (ks.flatten.length ≤ 100000 ∧ ks.length ≤ 1000) := ⟨by omega, by omega⟩
    clear hcb
    have HFk : Hid (Calls Try.prog 21 #[.pointer (some ⟨b, 0, none⟩)] w3 fun e Y => FrkT w3 ks e Y) := fork_any w3 b vc ve ks (HS3.out w3 (Below.refl _ _)) HOkA.out
    go_upto_region 7 with (first | (go_at_call 21; refine HFk.out.mono ?_; rintro e w4 ⟨b4, vc4, ve4, rfl, s4, hb4, -, o4⟩))
    have bw4 : Hid (Below w2.heap.size w2 w4) := bw3.out.trans (o4.mono bw3.out.size)
    have HBb4 : Hid (w2.heap.size ≤ b4 ∧ b ≠ b4) := ⟨Nat.le_trans bw3.out.size hb4, by have := (HS3.out w3 (Below.refl _ _)).blk.lt; omega⟩
    have HSf : Hid (∀ W, Below w4.heap.size w4 W → StkV W b4 vc4 ve4 ks) := fun W hW => s4.over hW
    have HSs : Hid (∀ W, Below w4.heap.size w4 W → StkV W b vc ve ks) := fun W hW => (HS3.out w4 o4).over hW
    have HFi : Hid (∀ W, Below w4.heap.size w4 W → FlO w2 W w2.heap.size (.slice ai ks.length qi) ks) := fun W hW => (HF3.out w4 o4).over hW
    clear s4 hb4 o4 HS3 HF3 HFk
    obtain ⟨Hp, hp1, hp4, HPe⟩ : ∃ Hp : Nat → Prop, Hp b ∧ Hp b4 ∧ Hid (∀ q, Hp q → q = b ∨ q = b4) := ⟨fun q => q = b ∨ q = b4, .inl rfl, .inr rfl, fun q h => h⟩
    have HLn : Hid (∀ (W : World) (q : Nat), Below w4.heap.size w4 W → Hp q → Calls Try.prog 12 #[.pointer (some ⟨q, 0, none⟩)] W fun e w' => e = .returned (.int .i64 (ks.length : Nat)) ∧ Below w4.heap.size w4 w') := fun W q hW hq => by
      rcases HPe.out q hq with rfl | rfl
      · exact (len_any W q vc ve ks (HSs.out W hW)).mono (fun e w' ⟨h1, h2⟩ => ⟨h1, h2 ▸ hW⟩)
      · exact (len_any W q vc4 ve4 ks (HSf.out W hW)).mono (fun e w' ⟨h1, h2⟩ => ⟨h1, h2 ▸ hW⟩)
    have HCo : Hid (∀ (W : World) (q : Nat), Below w4.heap.size w4 W → Hp q → Calls Try.prog 13 #[.pointer (some ⟨q, 0, none⟩)] W fun e w' => e = .returned (.int .i64 (costL ks : Nat)) ∧ Below w4.heap.size w4 w') := fun W q hW hq => by
      rcases HPe.out q hq with rfl | rfl
      · exact (cost_any W q vc ve ks (HSs.out W hW) HCb.out.1 HCb.out.2).mono (fun e w' ⟨h1, h2⟩ => ⟨h1, hW.trans (h2.mono hW.size)⟩)
      · exact (cost_any W q vc4 ve4 ks (HSf.out W hW) HCb.out.1 HCb.out.2).mono (fun e w' ⟨h1, h2⟩ => ⟨h1, hW.trans (h2.mono hW.size)⟩)
    have b44 : Below w4.heap.size w4 w4 := Below.refl _ _
    have tne1 : ((ks.length : Int) != (ks.length : Int)) = false := by simp
    have tne2 : ((costL ks : Int) != (costL ks : Int)) = false := by simp
    go_upto_region 9 with (first | (go_at_call 12; refine (HLn.out _ _ (by assumption) (by assumption)).mono ?_; rintro e w5 ⟨rfl, o5⟩) | (go_at_call 13; refine (HCo.out _ _ (by assumption) (by assumption)).mono ?_; rintro e w5 ⟨rfl, o5⟩))
    have bw5 : Hid (Below w2.heap.size w2 w5) := bw4.out.trans (o5.mono bw4.out.size)
    have O5 : Hid (Below w4.heap.size w4 w5) := o5
    clear o5 b44 hp1 hp4 HPe HLn HCo
    have hKd := (HKd.out w5 bw5.out).1
    have n0 := hKd.cell 0
    have n1 := hKd.cell 1
    have n2 := hKd.cell 2
    have n3 := hKd.cell 3
    have n4 := hKd.cell 4
    have n5 := hKd.cell 5
    have n6 := hKd.cell 6
    have n7 := hKd.cell 7
    have n8 := hKd.cell 8
    simp only [List.getElem?_cons_zero, List.getElem?_cons_succ] at n0 n1 n2 n3 n4 n5 n6 n7 n8
    clear hKd
    have HRn : Hid (Calls Try.prog 15 #[.pointer (some ⟨b, 0, none⟩), .agg #[.int .u32 dn, d1v, d2v, d3v, d4v, d5v, d6v, d7v, d8v]] w5 fun e w' => e = .returned (.tuple #[.int .u32 (A.most (ansL ks d)), .int .i64 (plN (ansL ks d))]) ∧ Below w5.heap.size w5 w') := HRu.out w5 b vc ve ks (HSs.out w5 O5.out) HOkA.out
    go_upto_region 10 with (first | (go_at_call 15; refine HRn.out.mono ?_; rintro e w6 ⟨rfl, ow6⟩))
    have bw6 : Hid (Below w2.heap.size w2 w6) := (bw5.out).trans (ow6.mono (bw5.out).size)
    clear n0 n1 n2 n3 n4 n5 n6 n7 n8
    clear HRn
    have O6 : Hid (Below w4.heap.size w4 w6) := O5.out.trans (ow6.mono O5.out.size)
    clear ow6
    have t0 := (HKd.out w6 bw6.out).2.cell 0
    simp only [List.getElem?_cons_zero] at t0
    have bA : Below w6.heap.size w6 (w6.alloc (Obj.cells #[] 56)) := below_new _ _
    have HA6 : Hid (Below w6.heap.size w6 (w6.alloc (Obj.cells #[] 56))) := bA
    have HI6 : Hid (V.Ins (w6.alloc (Obj.cells #[] 56)) a0 l0.length l0 ∧ (a0 = none → c0 = 0)) := by
      obtain ⟨a, c, e, q1, _, _, q2⟩ := (HX.out (w6.alloc (Obj.cells #[] 56)) (HT.out _ (bw6.out.trans (bA.mono bw6.out.size)))).1
      cases e
      exact ⟨q1, q2⟩
    have t0' : (w6.alloc (Obj.cells #[] 56)).cell? ⟨w.heap.size, 0, none⟩ = some (.slice a0 l0.length c0) := cellK t0 bA
    clear bA
    go_upto_region 11 with (first | (at_builtin; refine V.append_ins rfl _ _ rfl w6.heap.size _ 0 [] rfl (own_empty2 w6 w6.heap.size (Nat.le_refl _)) a0 l0.length c0 l0 rfl HI6.out.2 HI6.out.1 (by have := HL0.out.1; omega) (by simp) ?_; intro vm w7 hom hgm; rw [List.nil_append, Nat.zero_add] at hom; obtain ⟨am, qm, rfl⟩ := own_slice hom; go_frame))
    have O7 : Hid (Below w6.heap.size w6 w7) := HA6.out.trans (grown_belowO hgm (fun k hk => by cases hk; exact Nat.le_refl _) HA6.out.size)
    have bw7 : Hid (Below w2.heap.size w2 w7) := bw6.out.trans (O7.out.mono bw6.out.size)
    have O47 : Hid (Below w4.heap.size w4 w7) := O6.out.trans (O7.out.mono O6.out.size)
    have HM7 : Hid (w7.ownsRow w6.heap.size 56 4 (.slice am l0.length qm) l0.length (V.cellsI l0)) := hom
    clear hom hgm HA6 HI6 t0 t0'
    have HA : Hid (Calls Try.prog 10 #[.pointer (some ⟨b4, 0, none⟩), .slice am l0.length qm] w7 fun e Y => AttT w7 b4 vc4 ve4 ks l0 e Y) := attach_any w7 b4 vc4 ve4 _ ks l0 (HSf.out w7 O47.out) HOkA.out (fl_of_own HM7.out HO01.out.1)
    go_upto_region 12 with (first | (go_at_call 10; refine HA.out.mono ?_; rintro e w8 h8; obtain ⟨rfl, g8, vc8, ve8, s8, ap8⟩ := h8.apart))
    have bw8 : Hid (Below w2.heap.size w2 w8) := bw7.out.trans (grown_below g8 HBb4.out.1 bw7.out.size)
    have HSf8 : Hid (StkV w8 b4 vc8 ve8 (attL ks l0)) := s8
    have HSs8 : Hid (StkV w8 b vc ve ks) := (HSs.out w7 O47.out).other (HSf.out w7 O47.out).blk HBb4.out.2 g8
    have HFi8 : Hid (FlO w2 w8 w2.heap.size (.slice ai ks.length qi) ks) := (HFi.out w7 O47.out).kept (HSf.out w7 O47.out).blk g8
    have HM8 : Hid (w8.ownsRow w6.heap.size 56 4 (.slice am l0.length qm) l0.length (V.cellsI l0)) := HM7.out.kept g8 (row_ne (by decide) HM7.out (HSf.out w7 O47.out).blk)
    have HNe : Hid ((vc.ownBlock = none ∨ vc.ownBlock ≠ (Value.slice am l0.length qm).ownBlock) ∧ (vc8.ownBlock = none ∨ vc8.ownBlock ≠ (Value.slice am l0.length qm).ownBlock)) := by
      have key : ∀ (u : Value), StkV w6 b u ve ks ∨ StkV w6 b4 u ve4 ks → ∀ g, (Value.slice am l0.length qm).ownBlock = some g → u.ownBlock ≠ some g := fun u hu g hg e => by
        have h1 := V.owns_block HM7.out g hg
        have h2 : g < w6.heap.size := by
          rcases hu with hu | hu
          · exact (hu.code.lt g e).2
          · exact (hu.code.lt g e).2
        omega
      constructor
      · cases hc : vc.ownBlock with
        | none => exact .inl rfl
        | some g => exact .inr fun e => key vc (.inl (HSs.out w6 O6.out)) g e.symm hc
      · cases hc : vc8.ownBlock with
        | none => exact .inl rfl
        | some g => exact .inr fun e => ap8 g (HM7.out.lt g e.symm).2 (key vc4 (.inr (HSf.out w6 O6.out)) g e.symm) hc
    clear s8 g8 h8 ap8 HA HM7 HSf HSs HFi
    go_wp2_with fail
    go_loopw [16] (fun vi wr => ∃ i : Nat, vi = .int .i64 i ∧ i ≤ l0.length ∧ (∃ xs, wr.ownsRow w6.heap.size 56 4 (.slice am l0.length qm) l0.length xs) ∧ w8.grownBy wr (Value.slice am l0.length qm).ownBlock) (fun vi _ => l0.length - (intOf vi).toNat)
    case atStart => exact ⟨0, rfl, Nat.zero_le _, ⟨_, HM8.out⟩, V.grow_refl _ _⟩
    case round =>
      obtain ⟨i, rfl, hi2, ⟨xs, ho⟩, hg⟩ := hrel
      by_cases hlt : i < l0.length
      · have hi1 : (i : Int) < (l0.length : Int) := by omega
        obtain ⟨g, rfl⟩ : ∃ g, am = some ⟨g, 0, none⟩ := by
          rcases ho.2 with ⟨e, h0⟩ | ⟨g, _, _, e, _⟩
          · omega
          · simp at e
            exact ⟨g, e.1⟩
        obtain ⟨u0, u1, u2, u3, k0, k1, k2, k3⟩ := row_cells ho i hlt
        have f0 := ho.frozenAt (i * 4)
        have f1 := ho.frozenAt (i * 4 + 1)
        have f2 := ho.frozenAt (i * 4 + 2)
        have f3 := ho.frozenAt (i * 4 + 3)
        have hq := row_set ho i (.int .u16 6) (.int .u8 0) (.int .u8 0) (.int .u32 0)
        have HQ : Hid ((∃ ys, _) ∧ World.grownBy _ _ _) := hq
        have HG : Hid (w8.grownBy _ (some g)) := hg
        have hl3 := HL0.out.1
        clear hq hg ho
        go_wp2_with fail
        go_roundw
        case rel => exact ⟨i + 1, by go_num, hlt, HQ.out.1, grown_trans HG.out HQ.out.2⟩
        case measure => simp [intOf]; omega
      · have hi1 : ¬ (i : Int) < (l0.length : Int) := by omega
        obtain ⟨w9, hw9⟩ : ∃ w9, w9 = wr := ⟨_, rfl⟩
        subst hw9
        have bw9 : Hid (Below w2.heap.size w2 w9) := bw8.out.trans (grown_belowO hg (fun k hk => Nat.le_trans bw6.out.size (V.owns_block HM8.out k hk)) bw8.out.size)
        have HSs9 : Hid (StkV w9 b vc ve ks) := HSs8.out.mine HM8.out HNe.out.1 hg
        have HSf9 : Hid (StkV w9 b4 vc8 ve8 (attL ks l0)) := HSf8.out.mine HM8.out HNe.out.2 hg
        have HFi9 : Hid (FlO w2 w9 w2.heap.size (.slice ai ks.length qi) ks) := HFi8.out.mine HM8.out hg
        have HOk0 : Hid (OkS (attL ks l0)) := okS_attL HOkA.out HO01.out.1
        have HOk1 : Hid (OkS (attL ks l1)) := okS_attL HOkA.out HO01.out.2
        clear ho hg HSs8 HSf8 HFi8 HM8 HNe hlt hi2
        go_upto_region 16 with fail
        have hKd := (HKd.out w9 bw9.out).1
        have n0 := hKd.cell 0
        have n1 := hKd.cell 1
        have n2 := hKd.cell 2
        have n3 := hKd.cell 3
        have n4 := hKd.cell 4
        have n5 := hKd.cell 5
        have n6 := hKd.cell 6
        have n7 := hKd.cell 7
        have n8 := hKd.cell 8
        simp only [List.getElem?_cons_zero, List.getElem?_cons_succ] at n0 n1 n2 n3 n4 n5 n6 n7 n8
        clear hKd
        have HRn : Hid (Calls Try.prog 15 #[.pointer (some ⟨b, 0, none⟩), .agg #[.int .u32 dn, d1v, d2v, d3v, d4v, d5v, d6v, d7v, d8v]] w9 fun e w' => e = .returned (.tuple #[.int .u32 (A.most (ansL ks d)), .int .i64 (plN (ansL ks d))]) ∧ Below w9.heap.size w9 w') := HRu.out w9 b vc ve ks HSs9.out HOkA.out
        go_upto_region 17 with (first | (go_at_call 15; refine HRn.out.mono ?_; rintro e w10 ⟨rfl, ow10⟩))
        have bw10 : Hid (Below w2.heap.size w2 w10) := (bw9.out).trans (ow10.mono (bw9.out).size)
        clear n0 n1 n2 n3 n4 n5 n6 n7 n8
        clear HRn
        have HSs10 : Hid (StkV w10 b vc ve ks) := HSs9.out.over ow10
        have HSf10 : Hid (StkV w10 b4 vc8 ve8 (attL ks l0)) := HSf9.out.over ow10
        have HFi10 : Hid (FlO w2 w10 w2.heap.size (.slice ai ks.length qi) ks) := HFi9.out.over ow10
        clear ow10 HSs9 HSf9 HFi9
        have HLn : Hid (Calls Try.prog 12 #[.pointer (some ⟨b, 0, none⟩)] w10 fun e w' => e = .returned (.int .i64 (ks.length : Nat)) ∧ w' = w10) := len_any w10 b vc ve ks HSs10.out
        have tm1 : (A.most (ansL ks d) != A.most (ansL ks d)) = false := by simp
        have tm2 : (plN (ansL ks d) != plN (ansL ks d)) = false := by simp
        go_upto_region 19 with (first | (go_at_call 12; refine HLn.out.mono ?_; rintro e w11 ⟨rfl, hw11⟩; subst w11))
        clear HLn tm1 tm2
        have t0 := (HKd.out w10 bw10.out).2.cell 1
        simp only [List.getElem?_cons_zero, List.getElem?_cons_succ] at t0
        have HA : Hid (Calls Try.prog 10 #[.pointer (some ⟨b, 0, none⟩), .slice a1 l1.length cc1] w10 fun e Y => AttT w10 b vc ve ks l1 e Y) := attach_any w10 b vc ve _ ks l1 HSs10.out HOkA.out (HX.out w10 (HT.out w10 bw10.out)).2
        go_upto_region 20 with (first | (go_at_call 10; refine HA.out.mono ?_; rintro e w12 hw12; obtain ⟨rfl, gw12, vc12, ve12, sw12⟩ := hw12.any))
        have bw12 : Hid (Below w2.heap.size w2 w12) := (bw10.out).trans (grown_below gw12 HBb.out (bw10.out).size)
        clear t0 HA hw12
        have HSs12 : Hid (StkV w12 b vc12 ve12 (attL ks l1)) := sw12
        have HSf12 : Hid (StkV w12 b4 vc8 ve8 (attL ks l0)) := HSf10.out.other HSs10.out.blk (Ne.symm HBb4.out.2) gw12
        have HFi12 : Hid (FlO w2 w12 w2.heap.size (.slice ai ks.length qi) ks) := HFi10.out.kept HSs10.out.blk gw12
        clear sw12 gw12 HSs10 HSf10 HFi10
        go_upto_region 21 with (first | (go_at_call 17; refine (built_any w12 _ ks (HFi12.out.flR bw12.out)).mono ?_; rintro e w13 ⟨bx, vcx, vex, vix, rfl, s13, hb13, -, -, o13⟩))
        rw [HKs.out] at s13
        have bw13 : Hid (Below w2.heap.size w2 w13) := bw12.out.trans (o13.mono bw12.out.size)
        have HSs13 : Hid (StkV w13 b vc12 ve12 (attL ks l1)) := HSs12.out.over o13
        have HSf13 : Hid (StkV w13 b4 vc8 ve8 (attL ks l0)) := HSf12.out.over o13
        have HSx13 : Hid (StkV w13 bx vcx vex ks) := s13
        have HFi13 : Hid (FlO w2 w13 w2.heap.size (.slice ai ks.length qi) ks) := HFi12.out.over o13
        have HBx : Hid (w2.heap.size ≤ bx ∧ b ≠ bx ∧ b4 ≠ bx) := by
          have q1 := HSs12.out.blk.lt
          have q2 := HSf12.out.blk.lt
          have q3 := bw12.out.size
          exact ⟨by omega, by omega, by omega⟩
        clear s13 hb13 o13 HSs12 HSf12 HFi12
        go_upto_region 22 with (first | (go_at_call 17; refine (built_any w13 _ ks (HFi13.out.flR bw13.out)).mono ?_; rintro e w14 ⟨by', vcy, vey, viy, rfl, s14, hb14, -, -, o14⟩))
        rw [HKs.out] at s14
        have bw14 : Hid (Below w2.heap.size w2 w14) := bw13.out.trans (o14.mono bw13.out.size)
        have HSs14 : Hid (StkV w14 b vc12 ve12 (attL ks l1)) := HSs13.out.over o14
        have HSf14 : Hid (StkV w14 b4 vc8 ve8 (attL ks l0)) := HSf13.out.over o14
        have HSx14 : Hid (StkV w14 bx vcx vex ks) := HSx13.out.over o14
        have HSy14 : Hid (StkV w14 by' vcy vey ks) := s14
        have HBy : Hid (w2.heap.size ≤ by' ∧ b ≠ by' ∧ b4 ≠ by' ∧ bx ≠ by') := by
          have q1 := HSs13.out.blk.lt
          have q2 := HSf13.out.blk.lt
          have q4 := HSx13.out.blk.lt
          have q3 := bw13.out.size
          exact ⟨by omega, by omega, by omega, by omega⟩
        clear s14 hb14 o14 HSs13 HSf13 HSx13 HFi13
        have t0 := (HKd.out w14 bw14.out).2.cell 0
        simp only [List.getElem?_cons_zero, List.getElem?_cons_succ] at t0
        have HA : Hid (Calls Try.prog 10 #[.pointer (some ⟨bx, 0, none⟩), .slice a0 l0.length c0] w14 fun e Y => AttT w14 bx vcx vex ks l0 e Y) := attach_any w14 bx vcx vex _ ks l0 HSx14.out HOkA.out (HX.out w14 (HT.out w14 bw14.out)).1
        go_upto_region 23 with (first | (go_at_call 10; refine HA.out.mono ?_; rintro e w15 hw15; obtain ⟨rfl, gw15, vc15, ve15, sw15⟩ := hw15.any))
        have bw15 : Hid (Below w2.heap.size w2 w15) := (bw14.out).trans (grown_below gw15 HBx.out.1 (bw14.out).size)
        clear t0 HA hw15
        have HSs15 : Hid (StkV w15 b vc12 ve12 (attL ks l1)) := HSs14.out.other HSx14.out.blk HBx.out.2.1 gw15
        have HSf15 : Hid (StkV w15 b4 vc8 ve8 (attL ks l0)) := HSf14.out.other HSx14.out.blk HBx.out.2.2 gw15
        have HSx15 : Hid (StkV w15 bx vc15 ve15 (attL ks l0)) := sw15
        have HSy15 : Hid (StkV w15 by' vcy vey ks) := HSy14.out.other HSx14.out.blk (Ne.symm HBy.out.2.2.2) gw15
        clear sw15 gw15 HSs14 HSf14 HSx14 HSy14
        have t0 := (HKd.out w15 bw15.out).2.cell 1
        simp only [List.getElem?_cons_zero, List.getElem?_cons_succ] at t0
        have HA : Hid (Calls Try.prog 10 #[.pointer (some ⟨by', 0, none⟩), .slice a1 l1.length cc1] w15 fun e Y => AttT w15 by' vcy vey ks l1 e Y) := attach_any w15 by' vcy vey _ ks l1 HSy15.out HOkA.out (HX.out w15 (HT.out w15 bw15.out)).2
        go_upto_region 24 with (first | (go_at_call 10; refine HA.out.mono ?_; rintro e w16 hw16; obtain ⟨rfl, gw16, vc16, ve16, sw16⟩ := hw16.any))
        have bw16 : Hid (Below w2.heap.size w2 w16) := (bw15.out).trans (grown_below gw16 HBy.out.1 (bw15.out).size)
        clear t0 HA hw16
        have HSs16 : Hid (StkV w16 b vc12 ve12 (attL ks l1)) := HSs15.out.other HSy15.out.blk HBy.out.2.1 gw16
        have HSf16 : Hid (StkV w16 b4 vc8 ve8 (attL ks l0)) := HSf15.out.other HSy15.out.blk HBy.out.2.2.1 gw16
        have HSx16 : Hid (StkV w16 bx vc15 ve15 (attL ks l0)) := HSx15.out.other HSy15.out.blk HBy.out.2.2.2 gw16
        have HSy16 : Hid (StkV w16 by' vc16 ve16 (attL ks l1)) := sw16
        clear sw16 gw16 HSs15 HSf15 HSx15 HSy15
        have hKd := (HKd.out w16 bw16.out).1
        have n0 := hKd.cell 0
        have n1 := hKd.cell 1
        have n2 := hKd.cell 2
        have n3 := hKd.cell 3
        have n4 := hKd.cell 4
        have n5 := hKd.cell 5
        have n6 := hKd.cell 6
        have n7 := hKd.cell 7
        have n8 := hKd.cell 8
        simp only [List.getElem?_cons_zero, List.getElem?_cons_succ] at n0 n1 n2 n3 n4 n5 n6 n7 n8
        clear hKd
        have HRn : Hid (Calls Try.prog 15 #[.pointer (some ⟨b4, 0, none⟩), .agg #[.int .u32 dn, d1v, d2v, d3v, d4v, d5v, d6v, d7v, d8v]] w16 fun e w' => e = .returned (.tuple #[.int .u32 (A.most (ansL (attL ks l0) d)), .int .i64 (plN (ansL (attL ks l0) d))]) ∧ Below w16.heap.size w16 w') := HRu.out w16 b4 vc8 ve8 (attL ks l0) HSf16.out HOk0.out
        go_upto_region 25 with (first | (go_at_call 15; refine HRn.out.mono ?_; rintro e w17 ⟨rfl, ow17⟩))
        have bw17 : Hid (Below w2.heap.size w2 w17) := (bw16.out).trans (ow17.mono (bw16.out).size)
        clear n0 n1 n2 n3 n4 n5 n6 n7 n8
        clear HRn
        have hKd := (HKd.out w17 bw17.out).1
        have n0 := hKd.cell 0
        have n1 := hKd.cell 1
        have n2 := hKd.cell 2
        have n3 := hKd.cell 3
        have n4 := hKd.cell 4
        have n5 := hKd.cell 5
        have n6 := hKd.cell 6
        have n7 := hKd.cell 7
        have n8 := hKd.cell 8
        simp only [List.getElem?_cons_zero, List.getElem?_cons_succ] at n0 n1 n2 n3 n4 n5 n6 n7 n8
        clear hKd
        have HRn : Hid (Calls Try.prog 15 #[.pointer (some ⟨bx, 0, none⟩), .agg #[.int .u32 dn, d1v, d2v, d3v, d4v, d5v, d6v, d7v, d8v]] w17 fun e w' => e = .returned (.tuple #[.int .u32 (A.most (ansL (attL ks l0) d)), .int .i64 (plN (ansL (attL ks l0) d))]) ∧ Below w17.heap.size w17 w') := HRu.out w17 bx vc15 ve15 (attL ks l0) (HSx16.out.over ow17) HOk0.out
        go_upto_region 26 with (first | (go_at_call 15; refine HRn.out.mono ?_; rintro e w18 ⟨rfl, ow18⟩))
        have bw18 : Hid (Below w2.heap.size w2 w18) := (bw17.out).trans (ow18.mono (bw17.out).size)
        clear n0 n1 n2 n3 n4 n5 n6 n7 n8
        clear HRn
        have o18 := ow17.trans (ow18.mono ow17.size)
        have hKd := (HKd.out w18 bw18.out).1
        have n0 := hKd.cell 0
        have n1 := hKd.cell 1
        have n2 := hKd.cell 2
        have n3 := hKd.cell 3
        have n4 := hKd.cell 4
        have n5 := hKd.cell 5
        have n6 := hKd.cell 6
        have n7 := hKd.cell 7
        have n8 := hKd.cell 8
        simp only [List.getElem?_cons_zero, List.getElem?_cons_succ] at n0 n1 n2 n3 n4 n5 n6 n7 n8
        clear hKd
        have HRn : Hid (Calls Try.prog 15 #[.pointer (some ⟨b, 0, none⟩), .agg #[.int .u32 dn, d1v, d2v, d3v, d4v, d5v, d6v, d7v, d8v]] w18 fun e w' => e = .returned (.tuple #[.int .u32 (A.most (ansL (attL ks l1) d)), .int .i64 (plN (ansL (attL ks l1) d))]) ∧ Below w18.heap.size w18 w') := HRu.out w18 b vc12 ve12 (attL ks l1) (HSs16.out.over o18) HOk1.out
        go_upto_region 27 with (first | (go_at_call 15; refine HRn.out.mono ?_; rintro e w19 ⟨rfl, ow19⟩))
        have bw19 : Hid (Below w2.heap.size w2 w19) := (bw18.out).trans (ow19.mono (bw18.out).size)
        clear n0 n1 n2 n3 n4 n5 n6 n7 n8
        clear HRn
        have o19 := o18.trans (ow19.mono o18.size)
        have hKd := (HKd.out w19 bw19.out).1
        have n0 := hKd.cell 0
        have n1 := hKd.cell 1
        have n2 := hKd.cell 2
        have n3 := hKd.cell 3
        have n4 := hKd.cell 4
        have n5 := hKd.cell 5
        have n6 := hKd.cell 6
        have n7 := hKd.cell 7
        have n8 := hKd.cell 8
        simp only [List.getElem?_cons_zero, List.getElem?_cons_succ] at n0 n1 n2 n3 n4 n5 n6 n7 n8
        clear hKd
        have HRn : Hid (Calls Try.prog 15 #[.pointer (some ⟨by', 0, none⟩), .agg #[.int .u32 dn, d1v, d2v, d3v, d4v, d5v, d6v, d7v, d8v]] w19 fun e w' => e = .returned (.tuple #[.int .u32 (A.most (ansL (attL ks l1) d)), .int .i64 (plN (ansL (attL ks l1) d))]) ∧ Below w19.heap.size w19 w') := HRu.out w19 by' vc16 ve16 (attL ks l1) (HSy16.out.over o19) HOk1.out
        go_upto_region 28 with (first | (go_at_call 15; refine HRn.out.mono ?_; rintro e w20 ⟨rfl, ow20⟩))
        have bw20 : Hid (Below w2.heap.size w2 w20) := (bw19.out).trans (ow20.mono (bw19.out).size)
        clear n0 n1 n2 n3 n4 n5 n6 n7 n8
        clear HRn
        have q1 : (attE ks l0 == attE ks l0) = true := by simp
        have q2 : (attE ks l1 == attE ks l1) = true := by simp
        have q3 : (A.most (ansL (attL ks l0) d) == A.most (ansL (attL ks l0) d)) = true := by simp
        have q4 : (plN (ansL (attL ks l0) d) == plN (ansL (attL ks l0) d)) = true := by simp
        have q5 : (A.most (ansL (attL ks l1) d) == A.most (ansL (attL ks l1) d)) = true := by simp
        have q6 : (plN (ansL (attL ks l1) d) == plN (ansL (attL ks l1) d)) = true := by simp
        clear ow17 ow18 ow19 ow20 o18 o19 HSs16 HSf16 HSx16 HSy16
        go_wp2_with fail
        go_ret
        exact ⟨rfl, HT.out _ bw20.out⟩

end Go.Proofs.Ytamioifoemklfaa
