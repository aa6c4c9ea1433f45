/-
  The program's Find.
-/
import Derived.Test.YtilemgpopjlchaaDoorTBy
import Derived.Test.YtilemgpopjlchaaDoorShelfQ
import Derived.Deep.RegionWith
namespace Go.Proofs.YtilemgpopjlchaaDoor
open Go.RowKit Go.Shelf

/-- which node has a path: the function that is handed on. -/
theorem tpred_any (s : ByteArray) (B : Nat) (w : World) (hB : B < w.heap.size) (hc : w.cell? ⟨B, 0, none⟩ = some (.string s)) :
    PredBelow Tryd.prog 24 #[.pointer (some ⟨B, 0, none⟩)] (fun x : Nd => .agg x.vals.toArray) (fun x => x.p == lst s) w := fun W x hb => by
  have c9 : W.cell? ⟨B, 0, none⟩ = some (.string s) := (hb.cell (p := ⟨B, 0, none⟩) hB).trans hc
  have hBW : B < W.heap.size := Nat.lt_of_lt_of_le hB hb.size
  have hbz := below_new W (.cells #[.string (bar x.p), .int .i64 x.k, .string (bar x.t)] 29)
  have c8 : (W.alloc (.cells #[.string (bar x.p), .int .i64 x.k, .string (bar x.t)] 29)).cell? ⟨B, 0, none⟩ = some (.string s) := (hbz.cell (p := ⟨B, 0, none⟩) hBW).trans c9
  obtain ⟨d0, d1, d2⟩ := nd_cells W (.string (bar x.p)) (.int .i64 x.k) (.string (bar x.t))
  have HB : Hid (Below w.heap.size w (W.alloc (.cells #[.string (bar x.p), .int .i64 x.k, .string (bar x.t)] 29))) := hb.trans (hbz.mono hb.size)
  have e1 : ((bar x.p).toList == s.toList) = (x.p == lst s) := by rw [toList_bar, toList_lst]
  show Calls Tryd.prog 24 #[.agg #[.string (bar x.p), .int .i64 x.k, .string (bar x.t)], .pointer (some ⟨B, 0, none⟩)] W _
  obtain ⟨q, hq⟩ : ∃ q, (x.p == lst s) = q := ⟨_, rfl⟩
  have HQ : Hid ((x.p == lst s) = q) := hq
  rw [hq] at e1
  clear hq
  generalize bar x.p = xp at *
  generalize bar x.t = xt at *
  clear hbz hb hB hc c9
  go_enter Tryd.func24, Tryd.ntmps24
  go_wp2
  go_ret
  exact ⟨by show _ = Ending.returned (.bool (x.p == lst s)); rw [HQ.out]; rfl, HB.out⟩

/-- where it stands. -/
theorem tidx_any (L : List Nd) (s : ByteArray) (B b o c : Nat) (w : World) (hB : B < w.heap.size) (hc : w.cell? ⟨B, 0, none⟩ = some (.string s)) (h : NdR w (.slice (some ⟨b, o, none⟩) L.length c) L) (h0 : 0 < L.length) (hl : L.length ≤ 1000) :
    Calls Tryd.prog 23 #[.slice (some ⟨b, o, none⟩) L.length c, .func (.func 24) #[] #[.pointer (some ⟨B, 0, none⟩)]] w fun e w' =>
      (((∀ x ∈ L, x.p ≠ lst s) ∧ e = .returned (.int .i64 (-1))) ∨ ∃ (i : Nat) (hi : i < L.length), L[i].p = lst s ∧ (∀ x ∈ L.take i, x.p ≠ lst s) ∧ e = .returned (.int .i64 i)) ∧ Below w.heap.size w w' := by
  haveI : Inhabited Nd := ⟨zeroN⟩
  have eg : ∀ args w, (callFunc 24 args).run Tryd.prog w = .ok (.enter 24 args) w := enters_of Tryd.func24 (by kernel_rfl) rfl
  obtain ⟨b', o', e, t0, _, _⟩ := h.at h0
  cases e
  have hcon := AnyQ.slices_IndexFunc (α := Nd) Tryd.laysQ6 3 Tryd.isAgg29 Tryd.sizeOf29 Nd.vals (fun _ => rfl) (fun x => x.p == lst s) 24 #[.pointer (some ⟨B, 0, none⟩)] eg b o L.length c L w
    (tpred_any s B w hB hc) (Nat.le_refl _) (by omega) (World.block_lt_of_cell? w _ t0) (fun j hj i v hv => by
      obtain ⟨b2, o2, e2, d0, d1, d2⟩ := h.at hj
      cases e2
      rw [getElem!_pos L j hj] at hv
      match i, hv with
      | 0, hv => cases hv; exact d0
      | 1, hv => cases hv; exact d1
      | 2, hv => cases hv; exact d2)
  rw [List.take_length] at hcon
  refine Calls.mono hcon fun e w' ⟨he, hb⟩ => ⟨?_, hb⟩
  rcases idxByFrom_spec (fun _ y : Nd => y.p == lst s) default L 0 with ⟨h1, h2⟩ | ⟨k, hk, h1, h2, h3⟩
  · refine .inl ⟨fun x hx => ?_, ?_⟩
    · obtain ⟨j, hj, rfl⟩ := List.getElem_of_mem hx
      have := h2 j hj
      rw [getElem!_pos L j hj] at this
      simpa using this
    · rw [he]
      exact congrArg (fun z => Ending.returned (.int .i64 z)) h1
  · refine .inr ⟨k, hk, ?_, fun x hx => ?_, ?_⟩
    · rw [getElem!_pos L k hk] at h2
      simpa using h2
    · obtain ⟨j, hj, rfl⟩ := List.getElem_of_mem hx
      rw [List.length_take] at hj
      have := h3 j (by omega)
      rw [getElem!_pos L j (by omega)] at this
      rw [List.getElem_take]
      simpa using this
    · rw [he]
      exact congrArg (fun z => Ending.returned (.int .i64 z)) (h1.trans (by simp))
set_option maxHeartbeats 2000000 in
theorem tidx_none (p : Option Addr) (c : Nat) (fv : Value) (w : World) : Calls Tryd.prog 23 #[.slice p 0 c, fv] w fun e w' => e = .returned (.int .i64 (-1)) ∧ w' = w := by
  go_enter Tryd.func23, Tryd.ntmps23
  go_wp2
  go_loopw [8] (fun v wr => v = .int .i64 0 ∧ wr = w) (fun _ _ => 0)
  case atStart => exact ⟨rfl, rfl⟩
  case round =>
    obtain ⟨rfl, hw⟩ := hrel
    subst hw
    go_wp2
    go_ret
    exact ⟨rfl, rfl⟩


/-- what lies as it lay: the path that is asked for, a node, a place for what is told. -/
structure FnS (w X : World) (r : Nat) (b i : Nat) (s : ByteArray) (k : Int) (xt : ByteArray) : Prop where
  bel : Below w.heap.size w X
  p : X.cell? ⟨r, 0, none⟩ = some (.string s)
  k : X.cell? ⟨b, i + 1, none⟩ = some (.int .i64 k)
  t : X.cell? ⟨b, i + 2, none⟩ = some (.string xt)
  z : Blk X (r + 1) 29 [.string ⟨#[]⟩, .int .i64 0, .string ⟨#[]⟩]
  e : r = w.heap.size
theorem FnS.over {w X Y : World} {r b i : Nat} {s xt : ByteArray} {k : Int} (h : FnS w X r b i s k xt) (hb : Below X.heap.size X Y) : FnS w Y r b i s k xt :=
  ⟨h.bel.trans (hb.mono h.bel.size), by rw [hb.cell (p := ⟨r, 0, none⟩) (World.block_lt_of_cell? X _ h.p)]; exact h.p, by rw [hb.cell (p := ⟨b, i + 1, none⟩) (World.block_lt_of_cell? X _ h.k)]; exact h.k, by rw [hb.cell (p := ⟨b, i + 2, none⟩) (World.block_lt_of_cell? X _ h.t)]; exact h.t, h.z.over hb, h.e⟩

set_option maxHeartbeats 16000000 in
theorem tfind_any (v : Value) (L : List Nd) (s : ByteArray) (w : World) (h : NdR w v L) (hX : Lt L) (hs : s.size ≤ 5000) : Calls Tryd.prog 13 #[v, .string s] w (Tells w (tellF (findN L (lst s)))) := by
  obtain ⟨p, c, rfl⟩ := h.form
  obtain ⟨r, hr⟩ : ∃ r, w.heap.size = r := ⟨_, rfl⟩
  have h1 := below_new w (.cells #[.string s] 9)
  have h2 := h1.trans ((below_new (w.alloc (.cells #[.string s] 9)) (.cells #[.string ⟨#[]⟩, .int .i64 0, .string ⟨#[]⟩] 29)).mono h1.size)
  have H0 : Hid (NdR ((w.alloc (.cells #[.string s] 9)).alloc (.cells #[.string ⟨#[]⟩, .int .i64 0, .string ⟨#[]⟩] 29)) (.slice p L.length c) L ∧ Below w.heap.size w ((w.alloc (.cells #[.string s] 9)).alloc (.cells #[.string ⟨#[]⟩, .int .i64 0, .string ⟨#[]⟩] 29))) := ⟨h.over h2, h2⟩
  have HBX : Hid (Boxed ((w.alloc (.cells #[.string s] 9)).alloc (.cells #[.string ⟨#[]⟩, .int .i64 0, .string ⟨#[]⟩] 29)) r 9 (.string s)) := by
    have := (Boxed.new w 9 (.string s)).alloc (.cells #[.string ⟨#[]⟩, .int .i64 0, .string ⟨#[]⟩] 29)
    rw [hr] at this
    exact this
  have HBZ : Hid (Blk ((w.alloc (.cells #[.string s] 9)).alloc (.cells #[.string ⟨#[]⟩, .int .i64 0, .string ⟨#[]⟩] 29)) (r + 1) 29 [.string ⟨#[]⟩, .int .i64 0, .string ⟨#[]⟩]) := by
    have := heap_alloc_new (w.alloc (.cells #[.string s] 9)) (.cells #[.string ⟨#[]⟩, .int .i64 0, .string ⟨#[]⟩] 29)
    rw [World.size_alloc, hr] at this
    exact this
  have HRW : Hid (w.heap.size = r) := hr
  clear h1 h2 h
  by_cases hroot : lst s = [47]
  · have e1 : (s.toList == [47]) = true := by rw [toList_lst, hroot]; rfl
    have HF : Hid (findN L (lst s) = some rootN) := if_pos hroot
    clear hroot
    go_enter Tryd.func13, Tryd.ntmps13
    go_wp2_with fail
    refine (ttop_any _).mono ?_
    rintro e w1 ⟨rfl, hb1⟩
    have H1 : Hid (Below w.heap.size w w1 ∧ Blk w1 (r + 1) 29 [.string ⟨#[]⟩, .int .i64 0, .string ⟨#[]⟩]) := ⟨H0.out.2.trans (hb1.mono H0.out.2.size), HBZ.out.over hb1⟩
    clear hb1
    have hrv : rootN.v = .agg #[.string ⟨#[47]⟩, .int .i64 2, .string ⟨#[]⟩] := rfl
    rw [hrv]
    have z0 := H1.out.2.cell 0
    have z1 := H1.out.2.cell 1
    have z2 := H1.out.2.cell 2
    have y0 := H1.out.2.f 0
    have y1 := H1.out.2.f 1
    have y2 := H1.out.2.f 2
    simp only [List.getElem?_cons_zero, List.getElem?_cons_succ] at z0 z1 z2
    go_wp2_with fail
    refine bodyPost_ret (v := .tuple #[.agg #[.string ⟨#[47]⟩, .int .i64 2, .string ⟨#[]⟩], .bool true]) (by simp [results, Tryd.results13, go_sem, z0, z1, z2]) rfl ⟨by rw [HF.out]; rfl, (((H1.out.1).trans (below_set' (by have := HRW.out; omega))).trans (below_set' (by have := HRW.out; omega))).trans (below_set' (by have := HRW.out; omega))⟩
  · have e1 : (s.toList == [47]) = false := by rw [toList_lst]; exact beq_eq_false_iff_ne.2 hroot
    have HFN : Hid (findN L (lst s) = findL L (lst s)) := if_neg hroot
    clear hroot
    by_cases h0 : L.length = 0
    · have HF : Hid (findN L (lst s) = none) := by
        show _ = _
        rw [HFN.out, List.eq_nil_of_length_eq_zero h0]
        rfl
      rw [h0]
      go_enter Tryd.func13, Tryd.ntmps13
      go_wp2_with fail
      refine (tidx_none _ _ _ _).mono ?_
      rintro e w1 ⟨rfl, hw1⟩
      have hb1 : Below ((w.alloc (.cells #[.string s] 9)).alloc (.cells #[.string ⟨#[]⟩, .int .i64 0, .string ⟨#[]⟩] 29)).heap.size ((w.alloc (.cells #[.string s] 9)).alloc (.cells #[.string ⟨#[]⟩, .int .i64 0, .string ⟨#[]⟩] 29)) w1 := hw1 ▸ Below.refl _ _
      clear hw1
      have H1 : Hid (Below w.heap.size w w1 ∧ Blk w1 (r + 1) 29 [.string ⟨#[]⟩, .int .i64 0, .string ⟨#[]⟩]) := ⟨H0.out.2.trans (hb1.mono H0.out.2.size), HBZ.out.over hb1⟩
      clear hb1
      have z0 := H1.out.2.cell 0
      have z1 := H1.out.2.cell 1
      have z2 := H1.out.2.cell 2
      have y0 := H1.out.2.f 0
      have y1 := H1.out.2.f 1
      have y2 := H1.out.2.f 2
      simp only [List.getElem?_cons_zero, List.getElem?_cons_succ] at z0 z1 z2
      go_wp2_with fail
      refine bodyPost_ret (v := .tuple #[.agg #[.string ⟨#[]⟩, .int .i64 0, .string ⟨#[]⟩], .bool false]) (by simp [results, Tryd.results13, go_sem, z0, z1, z2]) rfl ⟨by rw [HF.out]; rfl, (((H1.out.1).trans (below_set' (by have := HRW.out; omega))).trans (below_set' (by have := HRW.out; omega))).trans (below_set' (by have := HRW.out; omega))⟩
    · obtain ⟨b, o, e2, htri⟩ := H0.out.1.at (i := 0) (by omega)
      clear htri
      subst e2
      have HI : Hid (Calls Tryd.prog 23 #[.slice (some ⟨b, o, none⟩) L.length c, .func (.func 24) #[] #[.pointer (some ⟨r, 0, none⟩)]] ((w.alloc (.cells #[.string s] 9)).alloc (.cells #[.string ⟨#[]⟩, .int .i64 0, .string ⟨#[]⟩] 29)) fun e w' =>
          (((∀ x ∈ L, x.p ≠ lst s) ∧ e = .returned (.int .i64 (-1))) ∨ ∃ (i : Nat) (hi : i < L.length), L[i].p = lst s ∧ (∀ x ∈ L.take i, x.p ≠ lst s) ∧ e = .returned (.int .i64 i)) ∧ Below ((w.alloc (.cells #[.string s] 9)).alloc (.cells #[.string ⟨#[]⟩, .int .i64 0, .string ⟨#[]⟩] 29)).heap.size ((w.alloc (.cells #[.string s] 9)).alloc (.cells #[.string ⟨#[]⟩, .int .i64 0, .string ⟨#[]⟩] 29)) w') := tidx_any L s r b o c _ HBX.out.lt HBX.out.cell H0.out.1 (by omega) (by have := hX.n; omega)
      obtain ⟨n, hn⟩ : ∃ n, L.length = n := ⟨_, rfl⟩
      have HN : Hid (L.length = n ∧ n ≤ 70) := ⟨hn, hn ▸ hX.n⟩
      have HXX : Hid (Lt L) := hX
      rw [hn] at H0 ⊢
      rw [show (Value.slice (some ⟨b, o, none⟩) L.length c) = .slice (some ⟨b, o, none⟩) n c by rw [hn]] at HI
      clear hn h0 hX
      go_enter Tryd.func13, Tryd.ntmps13
      go_wp2_with fail
      refine HI.out.mono ?_
      rintro e w1 ⟨hh, hb1⟩
      rcases hh with ⟨hno, rfl⟩ | ⟨i, hi, hp, hno, rfl⟩
      · have HF : Hid (findN L (lst s) = none) := by
          show _ = _
          rw [HFN.out]
          exact find_no hno
        clear hno
        have H1 : Hid (Below w.heap.size w w1 ∧ Blk w1 (r + 1) 29 [.string ⟨#[]⟩, .int .i64 0, .string ⟨#[]⟩]) := ⟨H0.out.2.trans (hb1.mono H0.out.2.size), HBZ.out.over hb1⟩
        clear hb1
        have z0 := H1.out.2.cell 0
        have z1 := H1.out.2.cell 1
        have z2 := H1.out.2.cell 2
        have y0 := H1.out.2.f 0
        have y1 := H1.out.2.f 1
        have y2 := H1.out.2.f 2
        simp only [List.getElem?_cons_zero, List.getElem?_cons_succ] at z0 z1 z2
        go_wp2_with fail
        refine bodyPost_ret (v := .tuple #[.agg #[.string ⟨#[]⟩, .int .i64 0, .string ⟨#[]⟩], .bool false]) (by simp [results, Tryd.results13, go_sem, z0, z1, z2]) rfl ⟨by rw [HF.out]; rfl, (((H1.out.1).trans (below_set' (by have := HRW.out; omega))).trans (below_set' (by have := HRW.out; omega))).trans (below_set' (by have := HRW.out; omega))⟩
      · have HF : Hid (findN L (lst s) = some L[i]) := by
          show _ = _
          rw [HFN.out]
          exact find_at hi hno hp
        have hin : i < n := by have := HN.out; omega
        have hi70 : i ≤ 70 := by have := HN.out; omega
        have hin1 : (i : Int) < (n : Int) := by omega
        obtain ⟨b2, o2, e3, t0, t1, t2⟩ := (H0.out.1.over hb1).at hi
        cases e3
        obtain ⟨xt, hxt⟩ : ∃ u, bar L[i].t = u := ⟨_, rfl⟩
        have HV : Hid (tellF (some L[i]) = .tuple #[.agg #[.string s, .int .i64 L[i].k, .string xt], .bool true]) := by
          show Value.tuple #[.agg #[.string (bar L[i].p), .int .i64 L[i].k, .string (bar L[i].t)], .bool true] = _
          rw [hp, hxt, bar_lst]
        have hxl : xt.size ≤ 100000 := by
          rw [← hxt, bar_size]
          have := HXX.out.t _ (List.getElem_mem hi)
          omega
        have hsl : s.size ≤ 100000 := by omega
        rw [hxt] at t2
        have HS : Hid (FnS w w1 r b (o + i * 3) s L[i].k xt) := ⟨H0.out.2.trans (hb1.mono H0.out.2.size), (boxed_over HBX.out hb1).cell, t1, t2, HBZ.out.over hb1, HRW.out.symm⟩
        clear hno hp hxt t0 t1 t2 hb1
        generalize L[i].k = xk at *
        have s0 : FnS w w1.drew r b (o + i * 3) s xk xt := HS.out.over ((Below.refl w1.heap.size w1).drew)
        have c1 := HS.out.p
        have c2 := HS.out.k
        have c3 := HS.out.t
        have HC : Hid (∀ (u : ByteArray) (X : World), u.size ≤ 100000 → FnS w X r b (o + i * 3) s xk xt → Calls Tryd.prog 25 #[.string u] X fun e w' => e = .returned (.string u) ∧ FnS w w' r b (o + i * 3) s xk xt) := fun u X hu hX => (tclone_any u X hu).mono fun e w' ⟨h1, h2⟩ => ⟨h1, hX.over h2⟩
        go_wp2_with fail
        refine wp_mono (Q := fun e => match e with
          | .normal => fun a' w' => a'.tmps[4]?.getD undef = .pointer (some ⟨r + 1, 0, none⟩) ∧ a'.tmps[5]?.getD undef = .bool true ∧ a'.defers = [] ∧ (w'.cell? ⟨r + 1, 0, none⟩ = some (.string s) ∧ w'.cell? ⟨r + 1, 1, none⟩ = some (.int .i64 xk) ∧ w'.cell? ⟨r + 1, 2, none⟩ = some (.string xt)) ∧ Below w.heap.size w w'
          | _ => fun _ _ => False) ?reg ?rest
        case reg =>
          go_region_with (go_at_call 25; refine (HC.out _ _ (by assumption) (by assumption)).mono ?_; rintro e w8 ⟨rfl, s8⟩; have q1 := s8.p; have q2 := s8.k; have q3 := s8.t; have z0 := s8.z.cell 0; have z1 := s8.z.cell 1; have z2 := s8.z.cell 2; have y0 := s8.z.f 0; have y1 := s8.z.f 1; have y2 := s8.z.f 2; simp only [List.getElem?_cons_zero, List.getElem?_cons_succ] at z0 z1 z2)
          all_goals
            have k := ((s8.z.set 0 (.string s)).set 1 (.int .i64 xk)).set 2 (.string xt)
            exact ⟨rfl, rfl, rfl, ⟨k.cell 0, k.cell 1, k.cell 2⟩, ((s8.bel.trans (below_set' (by have := s8.e; omega))).trans (below_set' (by have := s8.e; omega))).trans (below_set' (by have := s8.e; omega))⟩
        case rest =>
          intro e a' w' hh
          cases e with
          | normal =>
            obtain ⟨tm, df⟩ := a'
            obtain ⟨h4, h5, hd, ⟨k0, k1, k2⟩, hB⟩ := hh
            simp only at h4 h5 hd
            subst hd
            show Exit.then _ _ Exit.normal _ _
            simp only [Exit.then]
            rename_i hKx
            refine hKx _ _ ?_
            go_wp2
            refine bodyPost_ret (v := .tuple #[.agg #[.string s, .int .i64 xk, .string xt], .bool true]) (by simp [results, Tryd.results13, go_sem, h4, h5, k0, k1, k2]) rfl ⟨by rw [HF.out, HV.out], hB⟩
          | _ => exact hh.elim

end Go.Proofs.YtilemgpopjlchaaDoor
