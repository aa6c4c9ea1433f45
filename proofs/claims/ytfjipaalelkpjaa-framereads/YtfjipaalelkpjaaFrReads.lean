/-
  The walk of FrameReads.
-/
import Derived.Test.YtfjipaalelkpjaaFrCounts
import Derived.Test.YtfjipaalelkpjaaLate
namespace Go.Proofs.Ytfjipaalelkpjaa
open Go.RowKit D

theorem step_append_wt {w : World} {ops : Array Oper} {o : Oper} {a : Act} {K : Act → World → Prop} {Q : Exit → Act → World → Prop} {E : Prop} (hgd : o.guard = none) (s x : Operand)
    (ho : o.op = .call { callee := .builtin .append, args := #[s, x], argTypes := #[22, 22] })
    (v : Value) (l : List Int) (hs : a.eval s = v) (hw : Wt w v l)
    (ao : Option Addr) (m c : Nat) (k : List Int) (hx : a.eval x = .slice ao m c) (hao : ao = none → c = 0) (hb : Bs w ao m k) (hn : l.length + m ≤ 100000)
    (h : ∀ v' w', Wt w' v' (l ++ k) → w.grownBy w' v.ownBlock → (v'.ownBlock = v.ownBlock ∨ v'.ownBlock = some w.heap.size) → K (a.put o.dst v') w') :
    if Region.wanted o (yielded ops a.tmps) = true then Oper.wp Try.prog o a w K Q else E := by
  rw [if_pos (by simp [Region.wanted, hgd])]
  obtain ⟨v', w', hrun, h2, h3, h4⟩ := run_append_wt w o.type v l hw ao m c k hb hao hn
  unfold Oper.wp execOp
  simp only [ho, resolve, invoke, builtin, Sem.run_bind, Sem.run_pure, Result.andThen_ok, List.map_toArray, List.map_cons, List.map_nil, hs, hx, hrun]
  exact h _ _ h2 h3 h4

/-- both readers, with the same bytes. -/
structure Rs (w wr : World) (b c : Nat) (v u : Value) (l : List Int) (n : Nat) : Prop where
  fd : Fd w.heap.size w wr b v l n
  rr : RRd wr c u l n
  lo : w.heap.size ≤ c
  own : Own w.heap.size u
  bc : b ≠ c
  vc : v.ownBlock ≠ some c
  ub : u.ownBlock ≠ some b
  vu : ∀ k, v.ownBlock = some k → u.ownBlock ≠ some k
/-- both are fed. -/
theorem Rs.fed {w wr w4 w5 : World} {b c n : Nat} {v v4 u u5 : Value} {l k : List Int} (h : Rs w wr b c v u l n) (hr : Rdr w4 b v4 (l ++ k) n) (ho : v4.ownBlock = v.ownBlock ∨ v4.ownBlock = some wr.heap.size) (hk : Kp (fun i => i = b ∨ v.ownBlock = some i) wr w4)
    (hw5 : Wt w5 u5 (l ++ k)) (hg5 : w4.drew.grownBy w5 u.ownBlock) (ho5 : u5.ownBlock = u.ownBlock ∨ u5.ownBlock = some w4.drew.heap.size) : Rs w (w5.setCell ⟨c, 0, none⟩ u5) b c v4 u5 (l ++ k) n := by
  have hf4 := h.fd.feed hr ho hk
  have hcl := h.rr.blk.lt
  have hw4 : w4.drew.heap.size = w4.heap.size := rfl
  have hsz : w.heap.size ≤ wr.heap.size := h.fd.bel.size
  have hsz4 : wr.heap.size ≤ w4.heap.size := hk.size
  have hvc4 : v4.ownBlock ≠ some c := fun e => by
    rcases ho with e2 | e2
    · exact h.vc (by rw [← e2]; exact e)
    · rw [e2] at e; cases e; exact absurd hcl (Nat.lt_irrefl _)
  have hvu4 : ∀ q, v4.ownBlock = some q → u.ownBlock ≠ some q := fun q e e3 => by
    rcases ho with e2 | e2
    · exact h.vu q (by rw [← e2]; exact e) e3
    · rw [e2] at e; cases e; exact absurd (h.rr.wt.lt _ e3) (Nat.lt_irrefl _)
  have hk5 : Kp (fun q => u.ownBlock = some q) w4.drew w5 := kp_grown hg5 fun q e => e
  have hk6 : Kp (fun q => u.ownBlock = some q ∨ q = c) w4 (w5.setCell ⟨c, 0, none⟩ u5) := (((kp_below (Below.refl w4.heap.size w4).drew).trans hk5).mono fun _ _ e => .inl e).trans ((kp_set w5 c 0 u5).mono fun _ _ e => .inr e)
  have hr6 : Rdr (w5.setCell ⟨c, 0, none⟩ u5) b v4 (l ++ k) n := hr.kp hk6 (fun e => e.elim h.ub h.bc) fun q e1 e2 => e2.elim (hvu4 q e1) fun e => hvc4 (by rw [← e]; exact e1)
  have hrr4 : RRd w4 c u l n := h.rr.kp hk (fun e => e.elim (fun e => h.bc e.symm) h.vc) fun q e1 e2 => e2.elim (fun e => h.ub (by rw [← e]; exact e1)) fun e => h.vu q e e1
  have hB5 : Blk w5 c 34 [u, .int .i64 n] := blk_kp hrr4.blk.drew hk5 hrr4.ap
  have hap : u5.ownBlock ≠ some c := fun e => by
    rcases ho5 with e2 | e2
    · exact hrr4.ap (by rw [← e2]; exact e)
    · rw [e2, hw4] at e; cases e; exact absurd hrr4.blk.lt (Nat.lt_irrefl _)
  refine ⟨⟨hr6, h.fd.lo, hf4.own, hf4.bel.trans (hk6.below (Nat.le_trans hsz hsz4) fun q hq e => ?_), Nat.le_refl _⟩, ⟨hB5.set 0 u5, ?_, hap⟩, h.lo, h.own.next (by rw [hw4]; omega) ho5, h.bc, hvc4, fun e => ?_, fun q e1 e2 => ?_⟩
  · rcases e with e | e
    · have := h.own q e; omega
    · have := h.lo; omega
  · exact hw5.kp (kp_set w5 c 0 u5) fun q e1 e2 => hap (by rw [← e2]; exact e1)
  · rcases ho5 with e2 | e2
    · exact h.ub (by rw [← e2]; exact e)
    · rw [e2, hw4] at e; cases e; exact absurd hr.blk.lt (Nat.lt_irrefl _)
  · rcases ho5 with e3 | e3
    · exact hvu4 q e1 (by rw [← e3]; exact e2)
    · rw [e3, hw4] at e2; cases e2; exact absurd (hr.wt.lt _ e1) (Nat.lt_irrefl _)
theorem Rs.over {w wr w' : World} {b c n : Nat} {v u : Value} {l : List Int} (h : Rs w wr b c v u l n) (hb : Below wr.heap.size wr w') : Rs w w' b c v u l n :=
  ⟨⟨h.fd.r.over hb, h.fd.lo, h.fd.own, h.fd.bel.trans (hb.mono h.fd.bel.size), Nat.le_refl _⟩, h.rr.over hb, h.lo, h.own, h.bc, h.vc, h.ub, h.vu⟩
/-- both were asked. -/
theorem Rs.asked {w wr w4 w5 : World} {b c n : Nat} {v v4 u u5 : Value} {l r : List Int} {k : Nat} (h : Rs w wr b c v u l n) (hr : Rdr w4 b v4 r (n + k)) (ho : v4.ownBlock = v.ownBlock) (hk : Kp (· = b) wr w4)
    (hr5 : RRd w5 c u5 r (n + k)) (ho5 : Own w4.heap.size u5) (hk5 : Kp (· = c) w4 w5) : Rs w w5 b c v4 u5 r (n + k) := by
  have hsz : w.heap.size ≤ wr.heap.size := h.fd.bel.size
  have hB4 : Below w.heap.size w w4 := h.fd.bel.trans (hk.below hsz fun q hq e => by have := h.fd.lo; omega)
  have hvc4 : v4.ownBlock ≠ some c := by rw [ho]; exact h.vc
  refine ⟨⟨hr.kp hk5 h.bc fun q e1 e2 => hvc4 (by rw [← e2]; exact e1), h.fd.lo, fun q e => h.fd.own q (by rw [← ho]; exact e), hB4.trans (hk5.below hB4.size fun q hq e => by have := h.lo; omega), Nat.le_refl _⟩, hr5, h.lo, ho5.mono hB4.size, h.bc, hvc4, fun e => ?_, fun q e1 e2 => ?_⟩
  · exact absurd (ho5 b e) (Nat.not_le.2 hr.blk.lt)
  · exact absurd (ho5 q e2) (Nat.not_le.2 (hr.wt.lt q e1))
theorem rs_rr {w wr w4 : World} {b c n : Nat} {v u : Value} {l : List Int} (h : Rs w wr b c v u l n) (hk : Kp (fun i => i = b ∨ v.ownBlock = some i) wr w4) : RRd w4 c u l n := h.rr.kp hk (fun e => e.elim (fun e => h.bc e.symm) h.vc) fun q e1 e2 => e2.elim (fun e => h.ub (by rw [← e]; exact e1)) fun e => h.vu q e e1
theorem rrd_new (w : World) : RRd (w.alloc (.cells #[.slice none 0 0, .int .i64 0] 34)) w.heap.size (.slice none 0 0) [] 0 := ⟨blk_new w _ _, wt_nil _, fun e => by cases e⟩
theorem rs_new (w w2 : World) (hb : Below w.heap.size w w2) : Rs w ((w2.alloc (.cells #[.slice none 0 0, .int .i64 0] 32)).alloc (.cells #[.slice none 0 0, .int .i64 0] 34)) w2.heap.size (w2.heap.size + 1) (.slice none 0 0) (.slice none 0 0) [] 0 := by
  have h1 := fd_new w.heap.size w w2 hb (Nat.le_refl _)
  have b2 : Below (w2.alloc (.cells #[.slice none 0 0, .int .i64 0] 32)).heap.size (w2.alloc (.cells #[.slice none 0 0, .int .i64 0] 32)) ((w2.alloc (.cells #[.slice none 0 0, .int .i64 0] 32)).alloc (.cells #[.slice none 0 0, .int .i64 0] 34)) := (Below.refl _ _).alloc (Nat.le_refl _) _
  have h2 := rrd_new (w2.alloc (.cells #[.slice none 0 0, .int .i64 0] 32))
  rw [size_alloc'] at h2
  exact ⟨⟨h1.r.over b2, h1.lo, h1.own, h1.bel.trans (b2.mono h1.bel.size), Nat.le_refl _⟩, h2, Nat.le_succ_of_le hb.size, fun k e => (by cases e), by omega, fun e => (by cases e), fun e => (by cases e), fun k e => by cases e⟩
/-- how often is asked. -/
theorem ask_at {w : World} {a : Option Addr} {len cap i : Nat} {zs : List Int} (h : IsRow .i64 w a len cap zs) (hi : i < len) : ∃ b o, a = some ⟨b, o, none⟩ ∧ w.cell? ⟨b, o + i, none⟩ = some (.int .i64 (zs.getD i 0)) := by
  rcases h with ⟨_, rfl, _⟩ | ⟨x, rfl, hl, hm, hz, hcell, hwz⟩
  · cases hi
  · obtain ⟨b, off, spot⟩ := x
    have hc := hcell i (by omega)
    have hspot : spot = none := by
      have := World.cell?_spot hc
      cases spot with
      | none => rfl
      | some q =>
        by_cases hi0 : i = 0
        · subst hi0
          simp [Addr.add] at this
        · have h0 := World.cell?_spot (hcell 0 (by omega))
          simp [Addr.add] at h0
    subst hspot
    refine ⟨b, off, rfl, ?_⟩
    rw [← Addr.add_mid]
    exact hc

theorem rnext_some {b n k : Nat} {v : Value} {l bd r : List Int} {w : World} (h : RRd w b v l n) (hn : l.length ≤ 100000) (hn2 : n + l.length ≤ 1000000) (hx : nxt sm l = (k, some bd, r)) :
    Calls Try.prog 15 #[.pointer (some ⟨b, 0, none⟩)] w fun e w' => ∃ u v', e = .returned (.tuple #[u, .bool true]) ∧ Wt w' u bd ∧ RRd w' b v' r (n + k) ∧ Own w.heap.size v' ∧ Kp (· = b) w w' := by
  refine (rnext_any b n v l w h hn hn2).mono ?_
  intro e w' ht
  unfold RxT at ht
  rw [hx] at ht
  obtain ⟨⟨u, h1, h2, h3⟩, v', h4, h5, h6⟩ := ht
  exact ⟨u, v', h1, h2, h4, h5, h6⟩
theorem rnext_none {b n k : Nat} {v : Value} {l r : List Int} {w : World} (h : RRd w b v l n) (hn : l.length ≤ 100000) (hn2 : n + l.length ≤ 1000000) (hx : nxt sm l = (k, none, r)) :
    Calls Try.prog 15 #[.pointer (some ⟨b, 0, none⟩)] w fun e w' => ∃ v', e = .returned (.tuple #[.slice none 0 0, .bool false]) ∧ RRd w' b v' r (n + k) ∧ Own w.heap.size v' ∧ Kp (· = b) w w' := by
  refine (rnext_any b n v l w h hn hn2).mono ?_
  intro e w' ht
  unfold RxT at ht
  rw [hx] at ht
  obtain ⟨h1, v', h4, h5, h6⟩ := ht
  exact ⟨v', h1, h4, h5, h6⟩

set_option linter.unusedSimpArgs false in
set_option maxRecDepth 100000 in
set_option maxHeartbeats 16000000 in
theorem reads_walk (w : World) (v : Value) (av : Value) (ls : List (List Int)) (zs : List Int) (h : PcR w v ls) (aa : Option Addr) (al ac : Nat) (hav : av = .slice aa al ac) (hz : IsRow .i64 w aa al ac zs) :
    Calls Try.prog 4 #[v, av] w fun e w' => e = .returned (.bool true) ∧ Below w.heap.size w w' := by
  subst hav
  obtain ⟨p1, c1, rfl⟩ : ∃ p c, v = .slice p ls.length c := by obtain ⟨p, c, e, _⟩ := h; exact ⟨p, c, e⟩
  have HF : Hid (∀ W, Below w.heap.size w W → PcR W (.slice p1 ls.length c1) ls) := fun W hW => h.below hW
  have HZ : Hid (IsRow .i64 w aa al ac zs) := hz
  clear h hz
  go_enter Try.func4, Try.ntmps4
  go_upto_region 3 with (first
    | (go_at_call 9; refine (awake_any _).mono ?_; rintro e w1 ⟨rfl, hb1⟩)
    | (go_at_call 12; refine (light_any _ _ ls (HF.out _ hb1)).mono ?_; rintro e w2 ⟨bb, rfl, hb2, hbb⟩))
  have HB2 : Hid (Below w.heap.size w w2) := hb1.trans (hb2.mono hb1.size)
  clear hb1 hb2
  cases bb with
  | false =>
    clear hbb
    go_wp2
    go_ret
    exact ⟨rfl, HB2.out⟩
  | true =>
    have hbb2 := hbb rfl
    have HL : Hid (ls.length ≤ 100 ∧ tot ls ≤ 3000) := hbb2
    clear hbb hbb2
    have HD0 := rs_new w w2 HB2.out
    have HD0' : Hid (Rs w ((w2.alloc (.cells #[.slice none 0 0, .int .i64 0] 32)).alloc (.cells #[.slice none 0 0, .int .i64 0] 34)) w2.heap.size (w2.heap.size + 1) (.slice none 0 0) (.slice none 0 0) [] 0) := HD0
    clear HD0
    go_upto_region 7 with fail
    generalize (w2.alloc (.cells #[.slice none 0 0, .int .i64 0] 32)).alloc (.cells #[.slice none 0 0, .int .i64 0] 34) = w3 at *
    generalize w2.heap.size + 1 = c at *
    generalize w2.heap.size = b at *
    go_wp2
    go_loopg [9] ls.length (fun g vi wr => ∃ (i : Nat) (v' u' : Value) (l : List Int) (n : Nat), vi = .int .i64 i ∧ i + g = ls.length ∧ Hid (Rs w wr b c v' u' l n ∧ n + l.length ≤ tot (ls.take i)))
    case atStart => exact ⟨0, .slice none 0 0, .slice none 0 0, [], 0, rfl, Nat.zero_add _, HD0'.out, Nat.zero_le _⟩
    case round =>
      obtain ⟨i, v', u', l, n, rfl, hig, hg⟩ := hrel
      rcases Nat.lt_or_ge i ls.length with hlt | hge
      · have hi1 : (i : Int) < (ls.length : Int) := by omega
        have hi100 : (i : Int) ≤ 100 := by have := HL.out.1; omega
        obtain ⟨pb, po, a', c', rfl, x0, y0, y2⟩ := pcR_at (HF.out w (Below.refl _ _)) hlt
        have HPc : Hid (∀ W, Below w.heap.size w W → W.cell? ⟨pb, po + i, none⟩ = some (.slice a' ls[i].length c')) := fun W hW => cellK x0 hW
        have HP0 : Hid (pb < w.heap.size) := World.block_lt_of_cell? w _ x0
        have HBS : Hid (Bs w a' ls[i].length ls[i] ∧ (a' = none → c' = 0)) := ⟨y0, y2⟩
        have hgk : Hid (gk - 1 < gk ∧ i + 1 + (gk - 1) = ls.length) := ⟨by omega, by omega⟩
        have HS : Hid (tot (ls.take (i + 1)) = tot (ls.take i) + ls[i].length ∧ tot (ls.take (i + 1)) ≤ 3000) := ⟨tot_step hlt, Nat.le_trans (tot_le ls (i + 1)) HL.out.2⟩
        have x1 := HPc.out wr hg.out.1.fd.bel
        obtain ⟨ua, uc, rfl, _⟩ := hg.out.1.rr.wt.slice
        have HSm : Hid (l.length + ls[i].length ≤ 100000) := by have := HS.out; have := hg.out.2; unfold Hid; omega
        have HTo : Hid (n + (l ++ ls[i]).length ≤ tot (ls.take (i + 1))) := by have := HS.out; have := hg.out.2; unfold Hid; rw [List.length_append]; omega
        clear hig x0 y0 y2
        generalize hn' : ls[i].length = n' at *
        generalize ls[i] = li at *
        have HLn : Hid (li.length = n') := hn'
        clear hlt hn'
        generalize ls.length = len at *
        go_upto_region 11 with (go_at_call 13; refine (feed_any b n v' l _ hg.out.1.fd.r a' n' c' li (HBS.out.1.below hg.out.1.fd.bel) HBS.out.2 HSm.out).mono ?_; rintro e w4 ⟨rfl, v4, hr4, ho4, hk4⟩)
        have HFd4 : Hid (Rdr w4 b v4 (l ++ li) n ∧ (v4.ownBlock = v'.ownBlock ∨ v4.ownBlock = some wr.heap.size) ∧ Kp (fun k => k = b ∨ v'.ownBlock = some k) wr w4) := ⟨hr4, ho4, hk4⟩
        have HB4 : Hid (Below w.heap.size w w4) := (hg.out.1.fd.feed hr4 ho4 hk4).bel
        have hrr4 := rs_rr hg.out.1 hk4
        have HRR4 : Hid (RRd w4.drew c (.slice ua l.length uc) l n) := hrr4.over (Below.refl _ _).drew
        have HW4 : Hid (Wt w4.drew (.slice ua l.length uc) l) := HRR4.out.wt
        have HPi : Hid (Bs w4.drew a' n' li ∧ (a' = none → c' = 0)) := ⟨HBS.out.1.below HB4.out.drew, HBS.out.2⟩
        have HPx : Hid (w4.drew.cell? ⟨pb, po + i, none⟩ = some (.slice a' n' c')) := HPc.out _ HB4.out.drew
        have HPb : Hid (pb < w4.drew.heap.size ∧ ∀ k, (Value.slice ua l.length uc).ownBlock = some k → w.heap.size ≤ k) := ⟨Nat.lt_of_lt_of_le HP0.out HB4.out.size, hg.out.1.own⟩
        have HPb0 : Hid (pb < w.heap.size) := HP0.out
        have hS4 : (fun X => X.cell? ⟨c, 0, none⟩ = some (.slice ua l.length uc) ∧ X.cell? ⟨pb, po + i, none⟩ = some (.slice a' n' c')) w4.drew := ⟨HRR4.out.blk.cell 0, HPx.out⟩
        have HW4s : Hid (w4.drew.heap.size = w4.heap.size) := rfl
        clear hr4 ho4 hk4 hrr4 x1
        have HEq : Hid (∃ q, q = w4.drew) := ⟨_, rfl⟩
        have HR11 : Hid (∀ w5 u5, Wt w5 u5 (l ++ li) → w4.drew.grownBy w5 (Value.slice ua l.length uc).ownBlock → (u5.ownBlock = (Value.slice ua l.length uc).ownBlock ∨ u5.ownBlock = some w4.drew.heap.size) → Rs w (w5.setCell ⟨c, 0, none⟩ u5) b c v4 u5 (l ++ li) n) := fun w5 u5 h1 h2 h3 => hg.out.1.fed HFd4.out.1 HFd4.out.2.1 HFd4.out.2.2 h1 h2 h3
        refine wp_region_late (E := [8]) (S := (fun X => X.cell? ⟨c, 0, none⟩ = some (.slice ua l.length uc) ∧ X.cell? ⟨pb, po + i, none⟩ = some (.slice a' n' c'))) (by kernel_rfl) (hS4) (fun hHeld => ?_)
        simp only [List.size_toArray, List.length_cons, List.length_nil, Nat.reduceAdd]
        generalize w4.drew = w4d at *
        refine wpAnyL_take [1, 6, 8] (i := 0) (v := ?_) (by kernel_rfl) (by kernel_rfl) (by kernel_rfl) rfl (by kernel_rfl) (by kernel_rfl) (by kernel_rfl) (fun _ _ _ h => h) (Or.inl ⟨by rfl, ?_⟩) hHeld ?_
        rotate_left
        · (intro w hSw; (try dsimp only at hSw); obtain ⟨s0, s1⟩ := hSw; go_simp; try with_reducible rfl)
        try simp only [Act.put, List.setIfInBounds_toArray, List.set_cons_zero, List.set_cons_succ, List.getElem_toArray, List.getElem_cons_zero, List.getElem_cons_succ]
        refine wpAnyL_take [6, 8] (i := 1) (v := ?_) (by kernel_rfl) (by kernel_rfl) (by kernel_rfl) rfl (by kernel_rfl) (by kernel_rfl) (by kernel_rfl) (fun _ _ _ h => h) (Or.inl ⟨by rfl, ?_⟩) hHeld ?_
        rotate_left
        · (intro w hSw; (try dsimp only at hSw); obtain ⟨s0, s1⟩ := hSw; go_simp; try with_reducible rfl)
        try simp only [Act.put, List.setIfInBounds_toArray, List.set_cons_zero, List.set_cons_succ, List.getElem_toArray, List.getElem_cons_zero, List.getElem_cons_succ]
        refine wpAnyL_take [4, 5, 6, 8] (i := 2) (v := ?_) (by kernel_rfl) (by kernel_rfl) (by kernel_rfl) rfl (by kernel_rfl) (by kernel_rfl) (by kernel_rfl) (fun _ _ _ h => h) (Or.inl ⟨by rfl, ?_⟩) hHeld ?_
        rotate_left
        · (intro w hSw; (try dsimp only at hSw); obtain ⟨s0, s1⟩ := hSw; go_simp; try with_reducible rfl)
        try simp only [Act.put, List.setIfInBounds_toArray, List.set_cons_zero, List.set_cons_succ, List.getElem_toArray, List.getElem_cons_zero, List.getElem_cons_succ]
        refine wpAnyL_take [4, 5, 6, 8] (i := 3) (v := ?_) (by kernel_rfl) (by kernel_rfl) (by kernel_rfl) rfl (by kernel_rfl) (by kernel_rfl) (by kernel_rfl) (fun _ _ _ h => h) (Or.inl ⟨by rfl, ?_⟩) hHeld ?_
        rotate_left
        · (intro w hSw; (try dsimp only at hSw); obtain ⟨s0, s1⟩ := hSw; go_simp; try with_reducible rfl)
        try simp only [Act.put, List.setIfInBounds_toArray, List.set_cons_zero, List.set_cons_succ, List.getElem_toArray, List.getElem_cons_zero, List.getElem_cons_succ]
        refine wpAnyL_take [5, 6, 8] (i := 4) (v := ?_) (by kernel_rfl) (by kernel_rfl) (by kernel_rfl) rfl (by kernel_rfl) (by kernel_rfl) (by kernel_rfl) (fun _ _ _ h => h) (Or.inl ⟨by rfl, ?_⟩) hHeld ?_
        rotate_left
        · (intro w hSw; (try dsimp only at hSw); obtain ⟨s0, s1⟩ := hSw; go_simp; try with_reducible rfl)
        try simp only [Act.put, List.setIfInBounds_toArray, List.set_cons_zero, List.set_cons_succ, List.getElem_toArray, List.getElem_cons_zero, List.getElem_cons_succ]
        refine wpAnyL_take [6, 8] (i := 5) (v := ?_) (by kernel_rfl) (by kernel_rfl) (by kernel_rfl) rfl (by kernel_rfl) (by kernel_rfl) (by kernel_rfl) (fun _ _ _ h => h) (Or.inl ⟨by rfl, ?_⟩) hHeld ?_
        rotate_left
        · (intro w hSw; (try dsimp only at hSw); obtain ⟨s0, s1⟩ := hSw; go_simp; try with_reducible rfl)
        try simp only [Act.put, List.setIfInBounds_toArray, List.set_cons_zero, List.set_cons_succ, List.getElem_toArray, List.getElem_cons_zero, List.getElem_cons_succ]
        refine wpAnyL_one (i := 6) (by kernel_rfl) rfl (fun K hK => ?_)
        refine step_append_wt rfl _ _ rfl (.slice ua l.length uc) l rfl HW4.out a' n' c' li rfl HPi.out.2 HPi.out.1 HSm.out (fun u5 w5 hw5 hg5 ho5 => ?_)
        have HU5 : Hid (Wt w5 u5 (l ++ li)) := hw5
        have HG5 : Hid (w4d.grownBy w5 (Value.slice ua l.length uc).ownBlock ∧ (u5.ownBlock = (Value.slice ua l.length uc).ownBlock ∨ u5.ownBlock = some w4d.heap.size)) := ⟨hg5, ho5⟩
        have HC5 : Hid (Blk w5 c 34 [.slice ua l.length uc, .int .i64 n]) := blk_kp HRR4.out.blk (kp_grown (X := fun k => (Value.slice ua l.length uc).ownBlock = some k) hg5 fun k e => e) HRR4.out.ap
        have hs5 : (fun X => X.cell? ⟨c, 0, none⟩ = some (.slice ua l.length uc) ∧ X.cell? ⟨pb, po + i, none⟩ = some (.slice a' n' c')) w5 := ⟨HC5.out.cell 0, (World.cell?_of_block (hg5.block pb HPb.out.1 (fun e => absurd (HPb.out.2 pb e.symm) (Nat.not_le.2 HPb0.out)))).trans HPx.out⟩
        have hf5 : w5.frozen? ⟨c, 0, none⟩ = false := HC5.out.f 0
        obtain ⟨u5a, u5c, rfl, _⟩ := hw5.slice' (l.length + li.length) List.length_append
        clear hw5 hg5 ho5
        refine hK.out _ _ (fun _ => hs5) ?_
        replace hHeld := hs5
        clear hK K
        try simp only [Act.put, List.setIfInBounds_toArray, List.set_cons_zero, List.set_cons_succ, List.getElem_toArray, List.getElem_cons_zero, List.getElem_cons_succ]
        refine wpAnyL_take [8] (i := 7) (v := ?_) (by kernel_rfl) (by kernel_rfl) (by kernel_rfl) rfl (by kernel_rfl) (by kernel_rfl) (by kernel_rfl) (fun _ _ _ h => h) (Or.inl ⟨by rfl, ?_⟩) hHeld ?_
        rotate_left
        · (intro w hSw; (try dsimp only at hSw); go_simp; try with_reducible rfl)
        try simp only [Act.put, List.setIfInBounds_toArray, List.set_cons_zero, List.set_cons_succ, List.getElem_toArray, List.getElem_cons_zero, List.getElem_cons_succ]
        refine wpAnyL_one (i := 8) (by kernel_rfl) rfl (fun K hK => ?_)
        have fz := hf5
        go_simp
        refine hK.out _ _ (fun h => by cases h) ?_
        clear hK K
        try simp only [Act.put, List.setIfInBounds_toArray, List.set_cons_zero, List.set_cons_succ, List.getElem_toArray, List.getElem_cons_zero, List.getElem_cons_succ]
        refine wpAnyL_done (by kernel_rfl) ?_ _
        have HR6 : Hid (Rs w (w5.setCell ⟨c, 0, none⟩ (.slice u5a (l.length + li.length) u5c)) b c v4 (.slice u5a (l.length + li.length) u5c) (l ++ li) n) := HR11.out w5 _ HU5.out HG5.out.1 HG5.out.2
        clear HU5 HG5 HC5 hs5 hf5 hHeld
        generalize w5.setCell ⟨c, 0, none⟩ (.slice u5a (l.length + li.length) u5c) = w6 at *
        generalize hgo : gk - 1 = go at *
        clear hgo
        generalize l.length = ol at *
        generalize li.length = oli at *
        go_wp2
        go_loopg [10] 5 (fun g vk wi => ∃ (k : Nat) (v' u' : Value) (l' : List Int) (n'' : Nat), vk = .int .i64 k ∧ k + g = 5 ∧ Hid (Rs w wi b c v' u' l' n'' ∧ n'' + l'.length ≤ tot (ls.take (i + 1))))
        case atStart => exact ⟨0, v4, _, l ++ li, n, rfl, rfl, HR6.out, HTo.out⟩
        case round =>
          clear hg
          obtain ⟨k, v', u', l', n'', rfl, hkg, hg⟩ := hrel
          have hn3 : n'' + l'.length ≤ 3000 := Nat.le_trans hg.out.2 HS.out.2
          have hgm : Hid (gk - 1 < gk ∨ gk = 0) := by unfold Hid; omega
          by_cases hia : i < al
          case neg =>
            have hia1 : ¬ (i : Int) < (al : Int) := by omega
            clear hkg
            have HR6 : Hid (Rdr wr b v' l' n'' ∧ RRd wr c u' l' n'') := ⟨hg.out.1.fd.r, hg.out.1.rr⟩
            have HGf : Hid (Rs w wr b c v' u' l' n'' ∧ n'' + l'.length ≤ tot (ls.take (i + 1))) := hg.out
            obtain ⟨za, zc, rfl, _⟩ := HR6.out.2.wt.slice
            have r0 := HR6.out.2.cl.c0
            have r1 := HR6.out.2.cl.c1
            have z0 := cellK r0 (below_drewN wr 1)
            have z1 := cellK r1 (below_drewN wr 1)
            clear hg
            generalize hll : l'.length = ll at *
            have HLL : Hid (l'.length = ll) := hll
            clear hll
            have HLf : Hid (∀ W, Below wr.heap.size wr W → Calls Try.prog 16 #[.pointer (some ⟨b, 0, none⟩)] W fun e w' => e = .returned (.int .i64 ll) ∧ (fun X : World => X.cell? ⟨c, 0, none⟩ = some (.slice za ll zc) ∧ X.cell? ⟨c, 1, none⟩ = some (.int .i64 n'')) w' ∧ Below wr.heap.size wr w') := fun W hW => by
              have := left_any b _ v' _ W (HR6.out.1.over hW)
              rw [HLL.out] at this
              exact this.mono fun e w' ⟨e1, e2⟩ => by subst e2; exact ⟨e1, ⟨cellK r0 hW, cellK r1 hW⟩, hW⟩
            have HLo : Hid (∀ W, Below wr.heap.size wr W → Calls Try.prog 17 #[.pointer (some ⟨b, 0, none⟩)] W fun e w' => e = .returned (.int .i64 n'') ∧ (fun X : World => X.cell? ⟨c, 0, none⟩ = some (.slice za ll zc) ∧ X.cell? ⟨c, 1, none⟩ = some (.int .i64 n'')) w' ∧ Below wr.heap.size wr w') := fun W hW =>
              (lost_any b _ v' _ W (HR6.out.1.over hW)).mono fun e w' ⟨e1, e2⟩ => by subst e2; exact ⟨e1, ⟨cellK r0 hW, cellK r1 hW⟩, hW⟩
            have hS6 : (fun X : World => X.cell? ⟨c, 0, none⟩ = some (.slice za ll zc) ∧ X.cell? ⟨c, 1, none⟩ = some (.int .i64 n'')) wr := ⟨r0, r1⟩
            have hS7 : (fun X : World => X.cell? ⟨c, 0, none⟩ = some (.slice za ll zc) ∧ X.cell? ⟨c, 1, none⟩ = some (.int .i64 n'')) wr.drew := ⟨z0, z1⟩
            have hbd : Below wr.heap.size wr wr.drew := (Below.refl _ _).drew
            go_upto_region 19 with fail
            go_region_held3 (fun X => X.cell? ⟨c, 0, none⟩ = some (.slice za ll zc) ∧ X.cell? ⟨c, 1, none⟩ = some (.int .i64 n'')) (first | assumption | go_keep) (first | (go_at_call 16; refine (HLf.out _ (by assumption)).mono ?_; rintro e w7 ⟨rfl, hSa, hba⟩) | (go_at_call 17; refine (HLo.out _ (by assumption)).mono ?_; rintro e w8 ⟨rfl, hSb, hbb⟩))
            all_goals
              have HBe : Hid (Below wr.heap.size wr w8) := by assumption
              go_wp2
              go_roundg go
              case measure => exact hgk.out.1
              case rel => exact ⟨i + 1, v', .slice za ll zc, l', n'', by go_num, hgk.out.2, HGf.out.1.over HBe.out, by rw [HLL.out]; exact HGf.out.2⟩
          have hia1 : (i : Int) < (al : Int) := by omega
          obtain ⟨qb, qo, hqa, hq0⟩ := ask_at HZ.out hia
          subst hqa
          have hq := cellK hq0 hg.out.1.fd.bel
          clear hq0
          generalize zs.getD i 0 = q at *
          by_cases hkq : (k : Int) < q
          case neg =>
            clear hkg
            have HR6 : Hid (Rdr wr b v' l' n'' ∧ RRd wr c u' l' n'') := ⟨hg.out.1.fd.r, hg.out.1.rr⟩
            have HGf : Hid (Rs w wr b c v' u' l' n'' ∧ n'' + l'.length ≤ tot (ls.take (i + 1))) := hg.out
            obtain ⟨za, zc, rfl, _⟩ := HR6.out.2.wt.slice
            have r0 := HR6.out.2.cl.c0
            have r1 := HR6.out.2.cl.c1
            have z0 := cellK r0 (below_drewN wr 1)
            have z1 := cellK r1 (below_drewN wr 1)
            clear hg
            generalize hll : l'.length = ll at *
            have HLL : Hid (l'.length = ll) := hll
            clear hll
            have HLf : Hid (∀ W, Below wr.heap.size wr W → Calls Try.prog 16 #[.pointer (some ⟨b, 0, none⟩)] W fun e w' => e = .returned (.int .i64 ll) ∧ (fun X : World => X.cell? ⟨c, 0, none⟩ = some (.slice za ll zc) ∧ X.cell? ⟨c, 1, none⟩ = some (.int .i64 n'')) w' ∧ Below wr.heap.size wr w') := fun W hW => by
              have := left_any b _ v' _ W (HR6.out.1.over hW)
              rw [HLL.out] at this
              exact this.mono fun e w' ⟨e1, e2⟩ => by subst e2; exact ⟨e1, ⟨cellK r0 hW, cellK r1 hW⟩, hW⟩
            have HLo : Hid (∀ W, Below wr.heap.size wr W → Calls Try.prog 17 #[.pointer (some ⟨b, 0, none⟩)] W fun e w' => e = .returned (.int .i64 n'') ∧ (fun X : World => X.cell? ⟨c, 0, none⟩ = some (.slice za ll zc) ∧ X.cell? ⟨c, 1, none⟩ = some (.int .i64 n'')) w' ∧ Below wr.heap.size wr w') := fun W hW =>
              (lost_any b _ v' _ W (HR6.out.1.over hW)).mono fun e w' ⟨e1, e2⟩ => by subst e2; exact ⟨e1, ⟨cellK r0 hW, cellK r1 hW⟩, hW⟩
            have hS6 : (fun X : World => X.cell? ⟨c, 0, none⟩ = some (.slice za ll zc) ∧ X.cell? ⟨c, 1, none⟩ = some (.int .i64 n'')) wr := ⟨r0, r1⟩
            have hS7 : (fun X : World => X.cell? ⟨c, 0, none⟩ = some (.slice za ll zc) ∧ X.cell? ⟨c, 1, none⟩ = some (.int .i64 n'')) wr.drew := ⟨z0, z1⟩
            have hbd : Below wr.heap.size wr wr.drew := (Below.refl _ _).drew
            go_upto_region 19 with fail
            go_region_held3 (fun X => X.cell? ⟨c, 0, none⟩ = some (.slice za ll zc) ∧ X.cell? ⟨c, 1, none⟩ = some (.int .i64 n'')) (first | assumption | go_keep) (first | (go_at_call 16; refine (HLf.out _ (by assumption)).mono ?_; rintro e w7 ⟨rfl, hSa, hba⟩) | (go_at_call 17; refine (HLo.out _ (by assumption)).mono ?_; rintro e w8 ⟨rfl, hSb, hbb⟩))
            all_goals
              have HBe : Hid (Below wr.heap.size wr w8) := by assumption
              go_wp2
              go_roundg go
              case measure => exact hgk.out.1
              case rel => exact ⟨i + 1, v', .slice za ll zc, l', n'', by go_num, hgk.out.2, HGf.out.1.over HBe.out, by rw [HLL.out]; exact HGf.out.2⟩
          by_cases hk5 : k < 5
          case neg =>
            have hk51 : ¬ (k : Int) < 5 := by omega
            clear hkg
            have HR6 : Hid (Rdr wr b v' l' n'' ∧ RRd wr c u' l' n'') := ⟨hg.out.1.fd.r, hg.out.1.rr⟩
            have HGf : Hid (Rs w wr b c v' u' l' n'' ∧ n'' + l'.length ≤ tot (ls.take (i + 1))) := hg.out
            obtain ⟨za, zc, rfl, _⟩ := HR6.out.2.wt.slice
            have r0 := HR6.out.2.cl.c0
            have r1 := HR6.out.2.cl.c1
            have z0 := cellK r0 (below_drewN wr 1)
            have z1 := cellK r1 (below_drewN wr 1)
            clear hg
            generalize hll : l'.length = ll at *
            have HLL : Hid (l'.length = ll) := hll
            clear hll
            have HLf : Hid (∀ W, Below wr.heap.size wr W → Calls Try.prog 16 #[.pointer (some ⟨b, 0, none⟩)] W fun e w' => e = .returned (.int .i64 ll) ∧ (fun X : World => X.cell? ⟨c, 0, none⟩ = some (.slice za ll zc) ∧ X.cell? ⟨c, 1, none⟩ = some (.int .i64 n'')) w' ∧ Below wr.heap.size wr w') := fun W hW => by
              have := left_any b _ v' _ W (HR6.out.1.over hW)
              rw [HLL.out] at this
              exact this.mono fun e w' ⟨e1, e2⟩ => by subst e2; exact ⟨e1, ⟨cellK r0 hW, cellK r1 hW⟩, hW⟩
            have HLo : Hid (∀ W, Below wr.heap.size wr W → Calls Try.prog 17 #[.pointer (some ⟨b, 0, none⟩)] W fun e w' => e = .returned (.int .i64 n'') ∧ (fun X : World => X.cell? ⟨c, 0, none⟩ = some (.slice za ll zc) ∧ X.cell? ⟨c, 1, none⟩ = some (.int .i64 n'')) w' ∧ Below wr.heap.size wr w') := fun W hW =>
              (lost_any b _ v' _ W (HR6.out.1.over hW)).mono fun e w' ⟨e1, e2⟩ => by subst e2; exact ⟨e1, ⟨cellK r0 hW, cellK r1 hW⟩, hW⟩
            have hS6 : (fun X : World => X.cell? ⟨c, 0, none⟩ = some (.slice za ll zc) ∧ X.cell? ⟨c, 1, none⟩ = some (.int .i64 n'')) wr := ⟨r0, r1⟩
            have hS7 : (fun X : World => X.cell? ⟨c, 0, none⟩ = some (.slice za ll zc) ∧ X.cell? ⟨c, 1, none⟩ = some (.int .i64 n'')) wr.drew := ⟨z0, z1⟩
            have hbd : Below wr.heap.size wr wr.drew := (Below.refl _ _).drew
            go_upto_region 19 with fail
            go_region_held3 (fun X => X.cell? ⟨c, 0, none⟩ = some (.slice za ll zc) ∧ X.cell? ⟨c, 1, none⟩ = some (.int .i64 n'')) (first | assumption | go_keep) (first | (go_at_call 16; refine (HLf.out _ (by assumption)).mono ?_; rintro e w7 ⟨rfl, hSa, hba⟩) | (go_at_call 17; refine (HLo.out _ (by assumption)).mono ?_; rintro e w8 ⟨rfl, hSb, hbb⟩))
            all_goals
              have HBe : Hid (Below wr.heap.size wr w8) := by assumption
              go_wp2
              go_roundg go
              case measure => exact hgk.out.1
              case rel => exact ⟨i + 1, v', .slice za ll zc, l', n'', by go_num, hgk.out.2, HGf.out.1.over HBe.out, by rw [HLL.out]; exact HGf.out.2⟩
          have hk51 : (k : Int) < 5 := by omega
          have hgi : Hid (gk - 1 < gk ∧ k + 1 + (gk - 1) = 5) := ⟨by omega, by omega⟩
          have hn1 : l'.length ≤ 100000 := by omega
          have hn2 : n'' + l'.length ≤ 1000000 := by omega
          have hcnt := nxt_count sm l'
          rcases hnx : nxt sm l' with ⟨kk, _ | bd, r⟩
          · have HN : Hid (nxt sm l' = (kk, none, r)) := hnx
            have HTr : Hid (n'' + kk + r.length ≤ tot (ls.take (i + 1))) := by rw [hnx] at hcnt; simp only [cst] at hcnt; have := hg.out.2; unfold Hid; omega
            have HN1 : Hid (Calls Try.prog 14 #[.pointer (some ⟨b, 0, none⟩)] wr fun e w' => ∃ v2, e = .returned (.tuple #[.slice none 0 0, .bool false]) ∧ Rdr w' b v2 r (n'' + kk) ∧ v2.ownBlock = v'.ownBlock ∧ Kp (· = b) wr w') := next_none hg.out.1.fd.r hn1 hn2 hnx
            have HN2 : Hid (∀ W, Kp (· = b) wr W → Calls Try.prog 15 #[.pointer (some ⟨c, 0, none⟩)] W fun e w' => ∃ v2, e = .returned (.tuple #[.slice none 0 0, .bool false]) ∧ RRd w' c v2 r (n'' + kk) ∧ Own W.heap.size v2 ∧ Kp (· = c) W w') := fun W hW => rnext_none (hg.out.1.rr.kp hW (fun e => hg.out.1.bc e.symm) fun q e1 e2 => hg.out.1.ub (by rw [← e2]; exact e1)) hn1 hn2 hnx
            have hz := D.run_convert_bytes_zero
            clear hkg hcnt hnx hn1 hn2 hn3
            go_upto_region 17 with (first
              | (go_at_call 14; refine HN1.out.mono ?_; rintro e w7 ⟨v7, rfl, hr7, ho7, hk7⟩)
              | (go_at_call 15; refine (HN2.out _ hk7).mono ?_; rintro e w8 ⟨u8, rfl, hr8, ho8, hk8⟩))
            have HR8 : Hid (Rs w w8 b c v7 u8 r (n'' + kk)) := hg.out.1.asked hr7 ho7 hk7 hr8 ho8 hk8
            clear hr7 ho7 hk7 hr8 ho8 hk8
            go_wp2
            go_roundg (gk - 1)
            case measure => exact hgi.out.1
            case rel => exact ⟨k + 1, v7, u8, r, n'' + kk, by go_num, hgi.out.2, HR8.out, HTr.out⟩
          · have HN : Hid (nxt sm l' = (kk, some bd, r)) := hnx
            have HTr : Hid (n'' + kk + r.length ≤ tot (ls.take (i + 1))) := by rw [hnx] at hcnt; simp only [cst] at hcnt; have := hg.out.2; unfold Hid; omega
            have HN1 : Hid (Calls Try.prog 14 #[.pointer (some ⟨b, 0, none⟩)] wr fun e w' => ∃ f v2, e = .returned (.tuple #[f, .bool true]) ∧ Wt w' f bd ∧ Own wr.heap.size f ∧ Rdr w' b v2 r (n'' + kk) ∧ v2.ownBlock = v'.ownBlock ∧ Kp (· = b) wr w') := next_some hg.out.1.fd.r hn1 hn2 hnx
            have HN2 : Hid (∀ W, Kp (· = b) wr W → Calls Try.prog 15 #[.pointer (some ⟨c, 0, none⟩)] W fun e w' => ∃ f v2, e = .returned (.tuple #[f, .bool true]) ∧ Wt w' f bd ∧ RRd w' c v2 r (n'' + kk) ∧ Own W.heap.size v2 ∧ Kp (· = c) W w') := fun W hW => rnext_some (hg.out.1.rr.kp hW (fun e => hg.out.1.bc e.symm) fun q e1 e2 => hg.out.1.ub (by rw [← e2]; exact e1)) hn1 hn2 hnx
            have hcw := hg.out.1.rr.blk.lt
            clear hkg hcnt hnx hn1 hn2 hn3
            go_upto_region 17 with (first
              | (go_at_call 14; refine HN1.out.mono ?_; rintro e w7 ⟨f7, v7, rfl, hf7, hof7, hr7, ho7, hk7⟩)
              | (go_at_call 15; refine (HN2.out _ hk7).mono ?_; rintro e w8 ⟨f8, u8, rfl, hf8, hr8, ho8, hk8⟩))
            have HR8 : Hid (Rs w w8 b c v7 u8 r (n'' + kk)) := hg.out.1.asked hr7 ho7 hk7 hr8 ho8 hk8
            have t1 := text_wt (hf7.kp hk8 fun q e1 e2 => by have := hof7 q e1; omega)
            have t2 := text_wt hf8
            clear hr7 ho7 hk7 hr8 ho8 hk8 hf7 hf8 hof7
            generalize strOfNums bd = st at *
            have hbq : (st.toList == st.toList) = true := beq_self_eq_true _
            go_wp2
            go_roundg (gk - 1)
            case measure => exact hgi.out.1
            case rel => exact ⟨k + 1, v7, u8, r, n'' + kk, by go_num, hgi.out.2, HR8.out, HTr.out⟩
      · have hi1 : ¬ (i : Int) < (ls.length : Int) := by omega
        have HB5 : Hid (Below w.heap.size w wr) := hg.out.1.fd.bel
        go_wp2
        go_ret
        exact ⟨rfl, HB5.out⟩

end Go.Proofs.Ytfjipaalelkpjaa
