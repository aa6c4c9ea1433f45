/-
  The document's Tick.
-/
import Derived.Test.YtifddbfcongepaaRSet
namespace Go.Proofs.Ytifddbfcongepaa
open Go.RowKit Go.Maps

theorem offs_len (T : Tm) : (offs T).length ≤ T.length := by
  have := List.length_filter_le (fun p : Int × Int => decide (p.2 = 0)) (decT T)
  unfold offs offT
  rw [List.length_map]
  unfold decT at this ⊢
  rw [List.length_map] at this
  exact this
theorem offs_u {T : Tm} {v : Int} {n : Nat} (h : Okt T v n) : ∀ z ∈ offs T, U64 z := fun _ hz => (h.rng _ (mem_offs.1 hz)).1
theorem offs_nd {T : Tm} (h : (keys T).Nodup) : (offs T).Nodup := by
  have e : offs T = (keys T).filter fun z => decide ((z, 1) ∈ T) := by
    unfold offs offT decT keys
    rw [List.filter_map, List.map_map, List.filter_map]
    show List.map _ (List.filter _ T) = List.map _ (List.filter _ T)
    have : List.filter ((fun p : Int × Int => decide (p.2 = 0)) ∘ fun p => (p.1, p.2 - 1)) T = List.filter ((fun z => decide ((z, 1) ∈ T)) ∘ fun p => p.1) T := by
      refine List.filter_congr fun p hp => ?_
      show decide (p.2 - 1 = 0) = decide ((p.1, 1) ∈ T)
      rw [Bool.eq_iff_iff, decide_eq_true_iff, decide_eq_true_iff]
      constructor
      · intro h1
        have : p.2 = 1 := by omega
        rw [← this]
        exact hp
      · intro h1
        have := keys_inj h (z := p.1) hp h1
        omega
    rw [this]
    rfl
  rw [e]
  exact h.filter _
/-- what is left in the middle of a tick. -/
def LF (T : Tm) (v : Int) (k : Nat) : List Int := lefts (tickT (T.take k) v ++ T.drop k)
def low (v x : Int) : Int := if x - 1 = 0 then v else x - 1
section
variable {T : Tm} {v y x : Int} {k : Nat}
theorem tmt_more (h : T[k]? = some (y, x)) : T.take (k + 1) = T.take k ++ [(y, x)] := by rw [List.take_add_one, h]; rfl
theorem tick_more (h : T[k]? = some (y, x)) : tickT (T.take (k + 1)) v = tickT (T.take k) v ++ [(y, low v x)] := by
  rw [tmt_more h]
  unfold tickT resT decT low
  rw [List.map_append, List.map_append]
  congr 1
  show [if x - 1 = 0 then (y, v) else (y, x - 1)] = _
  split <;> rfl
theorem off_more (h : T[k]? = some (y, x)) : offs (T.take (k + 1)) = offs (T.take k) ++ (if x - 1 = 0 then [y] else []) := by
  rw [tmt_more h]
  unfold offs offT decT
  rw [List.map_append, List.filter_append, List.map_append]
  congr 1
  show (List.filter _ [(y, x - 1)]).map _ = _
  by_cases hx : x - 1 = 0
  · rw [if_pos hx, List.filter_cons_of_pos (by simp [hx])]
    rfl
  · rw [if_neg hx, List.filter_cons_of_neg (by simp [hx])]
    rfl
theorem drop_more' (h : T[k]? = some (y, x)) : T.drop k = (y, x) :: T.drop (k + 1) := by
  obtain ⟨hk, e⟩ := List.getElem?_eq_some_iff.1 h
  rw [List.drop_eq_getElem_cons hk, e]
theorem lefts_app (A B : Tm) : lefts (A ++ B) = lefts A ++ lefts B := by unfold lefts; rw [List.map_append]
theorem tk_len (T : Tm) (v : Int) (k : Nat) (hk : k ≤ T.length) : (lefts (tickT (T.take k) v)).length = k := by
  rw [lefts_len]
  unfold tickT resT decT
  rw [List.length_map, List.length_map, List.length_take]
  omega
theorem LF_at (h : T[k]? = some (y, x)) : LF T v k = lefts (tickT (T.take k) v) ++ x :: lefts (T.drop (k + 1)) := by
  unfold LF
  rw [lefts_app, drop_more' h]
  rfl
theorem LF_next (h : T[k]? = some (y, x)) : LF T v (k + 1) = (LF T v k).set k (low v x) := by
  have hk : k ≤ T.length := Nat.le_of_lt (List.getElem?_eq_some_iff.1 h).1
  rw [LF_at h, List.set_append_right (s := lefts (tickT (T.take k) v)) k _ (by rw [tk_len T v k hk]; exact Nat.le_refl _), tk_len T v k hk, Nat.sub_self, List.set_cons_zero]
  unfold LF
  rw [tick_more h, List.append_assoc, lefts_app]
  rfl
theorem LF_get (h : T[k]? = some (y, x)) : (LF T v k)[k]? = some x := by
  have hk : k ≤ T.length := Nat.le_of_lt (List.getElem?_eq_some_iff.1 h).1
  rw [LF_at h, List.getElem?_append_right (by rw [tk_len T v k hk]; exact Nat.le_refl _), tk_len T v k hk, Nat.sub_self]
  rfl
theorem LF_len (T : Tm) (v : Int) (k : Nat) : (LF T v k).length = T.length := by
  unfold LF
  rw [lefts_len, List.length_append]
  unfold tickT resT decT
  rw [List.length_map, List.length_map, List.length_take, List.length_drop]
  omega
theorem LF_zero (T : Tm) (v : Int) : LF T v 0 = lefts T := rfl
theorem LF_all (T : Tm) (v : Int) {n : Nat} (h : T.length = n) : LF T v n = lefts (tickT T v) := by
  unfold LF
  rw [← h, List.take_length, List.drop_length, List.append_nil]
end

/-- the document's timers, and those that went off, in the middle of a tick. -/
structure TkL (w : World) (base b n : Nat) (v : Int) (vi vl v3 : Value) (ks ll os : List Int) (wr : World) : Prop where
  bb : base ≤ b
  blk : Blk wr b 42 [.int .i64 v, vi, vl]
  ri : wr.ownsRow base 31 1 vi n (cellsZ ks)
  rl : wr.ownsRow base 3 1 vl n (cellsN ll)
  ro : wr.ownsRow w.heap.size 31 1 v3 os.length (cellsZ os)
  gr : w.grownBy wr vl.ownBlock
  il : ∀ k, vi.ownBlock = some k → k < w.heap.size
  bs : base ≤ w.heap.size
section
variable {w wr : World} {base b n : Nat} {v : Int} {vi vl v3 : Value} {ks ll os : List Int}
theorem row_blk {W : World} {B g m c : Nat} {e : TypeId} {xs : List Value} (h : W.ownsRow B e 1 (.slice (some ⟨g, 0, none⟩) m c) m xs) : ∃ l, Blk W g e l ∧ B ≤ g := by
  rcases h.2 with ⟨h0, _⟩ | ⟨g', cap, cur, e', hg, hh, _⟩
  · cases h0
  · cases e'
    exact ⟨cur.toList, by unfold Blk; rw [hh], hg⟩
theorem TkL.left {gl c k : Nat} {u : Int} (h : TkL w base b n v vi (.slice (some ⟨gl, 0, none⟩) n c) v3 ks (ll.set k u) os wr) (hk : k < n) : wr.cell? ⟨gl, k, none⟩ = some (.int .i64 u) := by
  have hl : (cellsN (ll.set k u)).length = n * 1 := h.rl.1
  rw [cellsN_len, List.length_set] at hl
  rw [h.rl.cellAt k (by omega)]
  unfold cellsN
  rw [List.getElem?_map, List.getElem?_set_self (by omega)]
  rfl
theorem TkL.left0 {gl c k : Nat} {u : Int} (h : TkL w base b n v vi (.slice (some ⟨gl, 0, none⟩) n c) v3 ks ll os wr) (hk : k < n) (hu : ll[k]? = some u) : wr.cell? ⟨gl, k, none⟩ = some (.int .i64 u) := by
  rw [h.rl.cellAt k (by omega)]
  unfold cellsN
  rw [List.getElem?_map, hu]
  rfl
theorem TkL.set {gl c : Nat} {k : Nat} (h : TkL w base b n v vi (.slice (some ⟨gl, 0, none⟩) n c) v3 ks ll os wr) (u : Int) : TkL w base b n v vi (.slice (some ⟨gl, 0, none⟩) n c) v3 ks (ll.set k u) os (wr.setCell ⟨gl, k, none⟩ (.int .i64 u)) := by
  obtain ⟨l, hb, hg⟩ := row_blk h.rl
  have hf : Fr [3] [] base wr (wr.setCell ⟨gl, k, none⟩ (.int .i64 u)) := fr_set hb (by simp) hg
  refine ⟨h.bb, h.blk.fr hf (by simp) (by simp), owns_fr h.ri hf (by simp) (fun _ _ => by simp), ?_, owns_fr h.ro hf (by simp) (fun _ _ => by simp), ?_, h.il, h.bs⟩
  · have := (h.rl.stored k (.int .i64 u)).1
    unfold cellsN at this ⊢
    rw [List.map_set]
    exact this
  · exact ⟨h.gr.os, h.gr.tape, h.gr.output, by simp [h.gr.size], fun i hi hne => by
      rw [heap_setCell_other wr ⟨gl, k, none⟩ i _ (fun e => hne (by rw [e]; rfl))]
      exact h.gr.block i hi hne⟩
theorem TkL.size (h : TkL w base b n v vi vl v3 ks ll os wr) : w.heap.size ≤ wr.heap.size := h.gr.size
theorem TkL.over {w' : World} (h : TkL w base b n v vi vl v3 ks ll os wr) (hb : Below wr.heap.size wr w') : TkL w base b n v vi vl v3 ks ll os w' :=
  ⟨h.bb, h.blk.over hb, owns_below h.ri hb (Nat.le_refl _), owns_below h.rl hb (Nat.le_refl _), owns_below h.ro hb (Nat.le_refl _), ⟨hb.os.trans h.gr.os, hb.tape.trans h.gr.tape, hb.output.trans h.gr.output, Nat.le_trans h.gr.size hb.size, fun i hi hne => (hb.block i (Nat.lt_of_lt_of_le hi h.gr.size)).trans (h.gr.block i hi hne)⟩, h.il, h.bs⟩
theorem TkL.drew (h : TkL w base b n v vi vl v3 ks ll os wr) : TkL w base b n v vi vl v3 ks ll os wr.drew := h.over (Below.refl _ _).drew
theorem TkL.add {w' : World} {v' : Value} {y : Int} (h : TkL w base b n v vi vl v3 ks ll os wr) (ha : App 31 w.heap.size (wr.alloc (.cells #[.int .u64 y] 31)) w' v3 v' (cellsZ os ++ cellsZ [y])) : TkL w base b n v vi vl v' ks ll (os ++ [y]) w' := by
  have h1 := h.over (below_new wr (.cells #[.int .u64 y] 31))
  have hf := app_fr h1.ro ha h1.size
  have h3 : ∀ k, v3.ownBlock = some k → w.heap.size ≤ k := owns_block h1.ro
  refine ⟨h.bb, h1.blk.fr hf (by simp) (by simp), h1.ri.kept ha.grow ?_, owns_fr h1.rl hf (by simp) (fun _ _ => by simp), ?_, ?_, h.il, h.bs⟩
  · cases hv : vi.ownBlock with
    | none => exact .inl rfl
    | some k =>
      refine .inr fun e => ?_
      have q1 := h.il k hv
      have q2 := h3 k e.symm
      omega
  · have := ha.own
    have e : cellsZ os ++ cellsZ [y] = cellsZ (os ++ [y]) := by simp [cellsZ]
    rw [e, cellsZ_len] at this
    exact this
  · exact ⟨ha.grow.os.trans h1.gr.os, ha.grow.tape.trans h1.gr.tape, ha.grow.output.trans h1.gr.output, Nat.le_trans h1.gr.size ha.grow.size, fun i hi hne => (ha.grow.block i (Nat.lt_of_lt_of_le hi h1.gr.size) (fun e => by have := h3 i e.symm; omega)).trans (h1.gr.block i hi hne)⟩
theorem TkL.fr (h : TkL w base b n v vi vl v3 ks ll os wr) (hl : ∃ xs, w.ownsRow base 3 1 vl n xs) : Fr [3] [] base w wr := by
  obtain ⟨xs, hx⟩ := hl
  refine ⟨⟨h.gr.os, h.gr.tape, h.gr.output, h.gr.size, fun k hk => h.gr.block k (Nat.lt_of_lt_of_le hk h.bs) fun e => ?_⟩, fun k o hk ht _ => ?_⟩
  · have := owns_block hx k e.symm
    omega
  · rw [h.gr.block k (Array.getElem?_eq_some_iff.1 hk).1 fun e => ?_]
    · exact hk
    · rcases hx.2 with ⟨rfl, _⟩ | ⟨g, cap, cur, rfl, hg, hh, _⟩
      · cases e
      · cases e
        have hk' : w.heap[g]? = some o := hk
        rw [hh] at hk'
        cases hk'
        exact ht _ _ _ rfl (by simp)
end
theorem num_row {W : World} {base len cap : Nat} {a : Option Addr} {os : List Int} (h : W.ownsRow base 31 1 (.slice a len cap) os.length (cellsZ os)) (hu : ∀ z ∈ os, U64 z) (hl : os.length ≤ 1000) : NumR W a len os := by
  rcases id h.2 with ⟨e, h0⟩ | ⟨g, cap', cur, e, hg, _⟩
  · cases e
    exact ⟨h0, Nat.zero_le _, hu, fun h => absurd h (by omega)⟩
  · cases e
    refine ⟨rfl, by unfold maxLen; omega, hu, fun _ => ⟨g, 0, rfl, fun i z hi => ?_⟩⟩
    have hi2 := (List.getElem?_eq_some_iff.1 hi)
    obtain ⟨hil, hie⟩ := hi2
    obtain ⟨g', e', _, hc⟩ := row_at h hil
    cases e'
    rw [Nat.zero_add, hc, hie]

set_option maxRecDepth 8000 in
set_option maxHeartbeats 16000000 in
theorem rtick_any (w : World) (base b : Nat) (v : Int) (T : Tm) {n0 : Nat} (h : RfT w base b v T) (hT : Okt T v n0) (hlen : T.length ≤ 1000) (hB : base ≤ w.heap.size) :
    Calls Try.prog 17 #[.pointer (some ⟨b, 0, none⟩)] w fun e w' => ∃ v' ts, e = .returned v' ∧ w'.ownsRow w.heap.size 31 1 v' ts.length (cellsZ ts) ∧ Rise ts ∧ (∀ z, z ∈ ts ↔ z ∈ offs T) ∧ RfT w' base b v (tickT T v) ∧ Fr [3] [] base w w' := by
  obtain ⟨vi, vl, hr⟩ := h
  obtain ⟨pi, ci, rfl⟩ := row_slice hr.ri
  obtain ⟨pl, cl, rfl⟩ := row_sliceN hr.rl
  obtain ⟨n, hn⟩ : ∃ n, T.length = n := ⟨_, rfl⟩
  have hki : (keys T).length = n := by rw [keys_len, hn]
  have hkl : (lefts T).length = n := by rw [lefts_len, hn]
  rw [hki, hkl] at hr
  have hil : ∀ k, (Value.slice pi n ci).ownBlock = some k → k < w.heap.size := fun k e => by
    have := hr.ri
    rw [hki] at this
    exact (this.lt k e).2
  have K0 : TkL w base b n v (.slice pi n ci) (.slice pl n cl) (.slice none 0 0) (keys T) (LF T v 0) (offs (T.take 0)) w :=
    ⟨hr.bb, hr.blk, by have := hr.ri; rw [hki] at this; exact this, by have := hr.rl; rw [hkl] at this; exact this, ⟨rfl, .inl ⟨rfl, rfl⟩⟩, ⟨rfl, rfl, rfl, Nat.le_refl _, fun _ _ _ => rfl⟩, hil, hB⟩
  have HRL : Hid (∃ xs, w.ownsRow base 3 1 (.slice pl n cl) n xs) := ⟨_, K0.rl⟩
  have HT : Hid (Okt T v n0) := hT
  have HN : Hid (T.length = n ∧ n ≤ 1000) := ⟨hn, by omega⟩
  have HK0 : Hid (TkL w base b n v (.slice pi n ci) (.slice pl n cl) (.slice none 0 0) (keys T) (LF T v 0) (offs (T.take 0)) w) := K0
  have hv1 : 1 ≤ v := hT.v1
  have hv2 : v ≤ 1000 := hT.v2
  have hn1000 : n ≤ 1000 := by omega
  clear hr hil K0 hT hlen hB hn
  go_enter Try.func17, Try.ntmps17
  go_wp2_with fail
  go_loopw [3, 4] (fun v3 v4 wr => ∃ i : Nat, v4 = .int .i64 i ∧ i ≤ n ∧ TkL w base b n v (.slice pi n ci) (.slice pl n cl) v3 (keys T) (LF T v i) (offs (T.take i)) wr) (fun _ v4 _ => n - (intOf v4).toNat)
  case atStart => exact ⟨0, rfl, Nat.zero_le _, HK0.out⟩
  case round =>
    obtain ⟨i, rfl, hi, hk⟩ := hrel
    have HK : Hid (TkL w base b n v (.slice pi n ci) (.slice pl n cl) u3 (keys T) (LF T v i) (offs (T.take i)) wr) := hk
    have c1 : wr.cell? ⟨b, 1, none⟩ = some (.slice pi n ci) := hk.blk.cell 1
    clear hk HK0
    by_cases hlt : i < n
    · have hi1 : (i : Int) < (n : Int) := by omega
      have hiT : i < T.length := by rw [HN.out.1]; exact hlt
      obtain ⟨y, hy⟩ : ∃ y, T[i].1 = y := ⟨_, rfl⟩
      obtain ⟨x, hx⟩ : ∃ x, T[i].2 = x := ⟨_, rfl⟩
      have HTI : Hid (T[i]? = some (y, x)) := by
        show _ = _
        rw [List.getElem?_eq_getElem hiT, ← hy, ← hx]
      have hxr : 1 ≤ x ∧ x ≤ v := by rw [← hx]; exact (HT.out.rng _ (List.getElem_mem hiT)).2
      obtain ⟨hx1, hx2⟩ := hxr
      obtain ⟨gl, cl', e⟩ : ∃ g c, Value.slice pl n cl = .slice (some ⟨g, 0, none⟩) n c := by
        rcases HK.out.rl.2 with ⟨e, h0⟩ | ⟨g, cap, cur, e, _⟩
        · omega
        · exact ⟨g, cap, e⟩
      cases e
      obtain ⟨gi, e, _, hci⟩ := row_at (p := pi) (ts := keys T) (by have := HK.out.ri; rw [← hki] at this; exact this) (k := i) (by omega)
      subst e
      replace hci : wr.cell? ⟨gi, i, none⟩ = some (.int .u64 y) := by
        rw [hci]
        congr 2
        rw [← hy]
        unfold keys
        rw [List.getElem_map]
      have c2 : wr.cell? ⟨b, 2, none⟩ = some (.slice (some ⟨gl, 0, none⟩) n cl) := HK.out.blk.cell 2
      have ck : wr.cell? ⟨gl, i, none⟩ = some (.int .i64 x) := HK.out.left0 hlt (LF_get HTI.out)
      have fk : wr.frozen? ⟨gl, i, none⟩ = false := HK.out.rl.frozenAt i
      obtain ⟨u, hu⟩ : ∃ u, x - 1 = u := ⟨_, rfl⟩
      have hw : IntKind.i64.wrap (x - 1) = u := by rw [IntKind.wrap_i64]; omega
      have HK1 : Hid (TkL w base b n v (.slice (some ⟨gi, 0, none⟩) n ci) (.slice (some ⟨gl, 0, none⟩) n cl) u3 (keys T) ((LF T v i).set i u) (offs (T.take i)) (wr.setCell ⟨gl, i, none⟩ (.int .i64 u))) := HK.out.set u
      have d2 : (wr.setCell ⟨gl, i, none⟩ (.int .i64 u)).cell? ⟨b, 2, none⟩ = some (.slice (some ⟨gl, 0, none⟩) n cl) := HK1.out.blk.cell 2
      have dk : (wr.setCell ⟨gl, i, none⟩ (.int .i64 u)).cell? ⟨gl, i, none⟩ = some (.int .i64 u) := HK1.out.left hlt
      have HLO : Hid (low v x = if u = 0 then v else u) := by show _ = _; unfold low; rw [hu]
      have HU : Hid (offs (T.take (i + 1)) = offs (T.take i) ++ (if u = 0 then [y] else [])) := by show _ = _; rw [off_more HTI.out, hu]
      clear hy hx hu hiT
      by_cases hu0 : u = 0
      · have hud : (u == 0) = true := by simp [hu0]
        have HUZ : Hid (u = 0) := hu0
        clear hu0
        go_wp2_with fail
        clear c1 c2 ck fk d2 dk hci hw
        have hpi : ∃ p, (some ⟨gi, 0, none⟩ : Option Addr) = p := ⟨_, rfl⟩
        obtain ⟨pi, hpi⟩ := hpi
        rw [hpi] at HK1
        have HPI : Hid ((some ⟨gi, 0, none⟩ : Option Addr) = pi) := hpi
        clear hpi
        generalize wr.setCell ⟨gl, i, none⟩ (.int .i64 u) = W1 at *
        refine wp_region_late (E := [10]) (S := (fun X => Blk X b 42 [.int .i64 v, .slice pi n ci, .slice (some ⟨gl, 0, none⟩) n cl])) (by kernel_rfl) (HK1.out.drew.blk) (fun hHeld => ?_)
        simp only [List.size_toArray, List.length_cons, List.length_nil, Nat.reduceAdd]
        have HK2 : Hid (TkL w base b n v (.slice pi n ci) (.slice (some ⟨gl, 0, none⟩) n cl) u3 (keys T) ((LF T v i).set i u) (offs (T.take i)) W1.drew) := HK1.out.drew
        generalize W1.drew = wd at *
        have fk : wd.frozen? ⟨gl, i, none⟩ = false := HK2.out.rl.frozenAt i
        have ck : wd.cell? ⟨gl, i, none⟩ = some (.int .i64 u) := HK2.out.left hlt
        refine wpAnyL_take [1, 2, 3, 9, 10] (i := 0) (v := ?_) (by kernel_rfl) (by kernel_rfl) (by kernel_rfl) rfl (by kernel_rfl) (by kernel_rfl) (by kernel_rfl) (fun _ _ _ h => h) (Or.inl ⟨by rfl, ?_⟩) hHeld ?_
        rotate_left
        · (intro w hSw; (try dsimp only at hSw); skip; go_simp; try with_reducible rfl)
        try simp only [Act.put, List.setIfInBounds_toArray, List.set_cons_zero, List.set_cons_succ, List.getElem_toArray, List.getElem_cons_zero]
        refine wpAnyL_take [2, 3, 9, 10] (i := 1) (v := ?_) (by kernel_rfl) (by kernel_rfl) (by kernel_rfl) rfl (by kernel_rfl) (by kernel_rfl) (by kernel_rfl) (fun _ _ _ h => h) (Or.inl ⟨by rfl, ?_⟩) hHeld ?_
        rotate_left
        · (intro w hSw; (try dsimp only at hSw); skip; go_simp; try with_reducible rfl)
        try simp only [Act.put, List.setIfInBounds_toArray, List.set_cons_zero, List.set_cons_succ, List.getElem_toArray, List.getElem_cons_zero, List.getElem_cons_succ]
        refine wpAnyL_take [3, 9, 10] (i := 2) (v := ?_) (by kernel_rfl) (by kernel_rfl) (by kernel_rfl) rfl (by kernel_rfl) (by kernel_rfl) (by kernel_rfl) (fun _ _ _ h => h) (Or.inl ⟨by rfl, ?_⟩) hHeld ?_
        rotate_left
        · (intro w hSw; (try dsimp only at hSw); skip; go_simp; try with_reducible rfl)
        try simp only [Act.put, List.setIfInBounds_toArray, List.set_cons_zero, List.set_cons_succ, List.getElem_toArray, List.getElem_cons_zero, List.getElem_cons_succ]
        refine wpAnyL_take [9, 10] (i := 3) (v := ?_) (by kernel_rfl) (by kernel_rfl) (by kernel_rfl) rfl (by kernel_rfl) (by kernel_rfl) (by kernel_rfl) (fun _ _ _ h => h) (Or.inl ⟨by rfl, ?_⟩) hHeld ?_
        rotate_left
        · (intro w hSw; (try dsimp only at hSw); have hc : w.cell? ⟨b, 2, none⟩ = some (.slice (some ⟨gl, 0, none⟩) n cl) := hSw.cell 2; go_simp; try with_reducible rfl)
        try simp only [Act.put, List.setIfInBounds_toArray, List.set_cons_zero, List.set_cons_succ, List.getElem_toArray, List.getElem_cons_zero, List.getElem_cons_succ]
        refine wpAnyL_take [9, 10] (i := 4) (v := ?_) (by kernel_rfl) (by kernel_rfl) (by kernel_rfl) rfl (by kernel_rfl) (by kernel_rfl) (by kernel_rfl) (fun _ _ _ h => h) (Or.inl ⟨by rfl, ?_⟩) hHeld ?_
        rotate_left
        · (intro w hSw; (try dsimp only at hSw); skip; go_simp; try with_reducible rfl)
        try simp only [Act.put, List.setIfInBounds_toArray, List.set_cons_zero, List.set_cons_succ, List.getElem_toArray, List.getElem_cons_zero, List.getElem_cons_succ]
        refine wpAnyL_take [6, 7, 8, 10] (i := 5) (v := ?_) (by kernel_rfl) (by kernel_rfl) (by kernel_rfl) rfl (by kernel_rfl) (by kernel_rfl) (by kernel_rfl) (fun _ _ _ h => h) (Or.inl ⟨by rfl, ?_⟩) hHeld ?_
        rotate_left
        · (intro w hSw; (try dsimp only at hSw); skip; go_simp; try with_reducible rfl)
        try simp only [Act.put, List.setIfInBounds_toArray, List.set_cons_zero, List.set_cons_succ, List.getElem_toArray, List.getElem_cons_zero, List.getElem_cons_succ]
        refine wpAnyL_take [7, 8, 10] (i := 6) (v := ?_) (by kernel_rfl) (by kernel_rfl) (by kernel_rfl) rfl (by kernel_rfl) (by kernel_rfl) (by kernel_rfl) (fun _ _ _ h => h) (Or.inl ⟨by rfl, ?_⟩) hHeld ?_
        rotate_left
        · (intro w hSw; (try dsimp only at hSw); skip; go_simp; try with_reducible rfl)
        try simp only [Act.put, List.setIfInBounds_toArray, List.set_cons_zero, List.set_cons_succ, List.getElem_toArray, List.getElem_cons_zero, List.getElem_cons_succ]
        refine wpAnyL_take [8, 10] (i := 7) (v := ?_) (by kernel_rfl) (by kernel_rfl) (by kernel_rfl) rfl (by kernel_rfl) (by kernel_rfl) (by kernel_rfl) (fun _ _ _ h => h) (Or.inl ⟨by rfl, ?_⟩) hHeld ?_
        rotate_left
        · (intro w hSw; (try dsimp only at hSw); skip; go_simp; try with_reducible rfl)
        try simp only [Act.put, List.setIfInBounds_toArray, List.set_cons_zero, List.set_cons_succ, List.getElem_toArray, List.getElem_cons_zero, List.getElem_cons_succ]
        refine wpAnyL_take [10] (i := 8) (v := ?_) (by kernel_rfl) (by kernel_rfl) (by kernel_rfl) rfl (by kernel_rfl) (by kernel_rfl) (by kernel_rfl) (fun _ _ _ h => h) (Or.inl ⟨by rfl, ?_⟩) hHeld ?_
        rotate_left
        · (intro w hSw; (try dsimp only at hSw); have hc : w.cell? ⟨b, 0, none⟩ = some (.int .i64 v) := hSw.cell 0; go_simp; try with_reducible rfl)
        try simp only [Act.put, List.setIfInBounds_toArray, List.set_cons_zero, List.set_cons_succ, List.getElem_toArray, List.getElem_cons_zero, List.getElem_cons_succ]
        refine wpAnyL_take [10] (i := 9) (v := ?_) (by kernel_rfl) (by kernel_rfl) (by kernel_rfl) rfl (by kernel_rfl) (by kernel_rfl) (by kernel_rfl) (fun _ _ _ h => h) (Or.inl ⟨by rfl, ?_⟩) hHeld ?_
        rotate_left
        · (intro w hSw; (try dsimp only at hSw); skip; go_simp; try with_reducible rfl)
        try simp only [Act.put, List.setIfInBounds_toArray, List.set_cons_zero, List.set_cons_succ, List.getElem_toArray, List.getElem_cons_zero, List.getElem_cons_succ]
        refine wpAnyL_one (i := 10) (by kernel_rfl) rfl (fun K hK => ?_)
        go_simp
        try dsimp only at hHeld
        refine hK.out _ _ (fun h => by cases h) ?_
        clear hK K
        try simp only [Act.put, List.setIfInBounds_toArray, List.set_cons_zero, List.set_cons_succ, List.getElem_toArray, List.getElem_cons_zero, List.getElem_cons_succ]
        refine wpAnyL_done (by kernel_rfl) ?_ _
        have HK3 : Hid (TkL w base b n v (.slice pi n ci) (.slice (some ⟨gl, 0, none⟩) n cl) u3 (keys T) (LF T v (i + 1)) (offs (T.take i)) (wd.setCell ⟨gl, i, none⟩ (.int .i64 v))) := by
          have := HK2.out.set (k := i) v
          rw [List.set_set] at this
          rw [LF_next HTI.out, HLO.out, if_pos HUZ.out]
          exact this
        clear HK2 ck fk hHeld
        generalize (wd.setCell ⟨gl, i, none⟩ (.int .i64 v)) = W3 at *
        have c1 : W3.cell? ⟨b, 1, none⟩ = some (.slice (some ⟨gi, 0, none⟩) n ci) := by rw [HPI.out]; exact HK3.out.blk.cell 1
        have ci' : W3.cell? ⟨gi, i, none⟩ = some (.int .u64 y) := by
          obtain ⟨g', e, _, hc⟩ := row_at (p := pi) (ts := keys T) (by have := HK3.out.ri; rw [← hki] at this; exact this) (k := i) (by omega)
          rw [← HPI.out] at e
          cases e
          rw [hc]
          congr 2
          have := HTI.out
          obtain ⟨q1, q2⟩ := List.getElem?_eq_some_iff.1 this
          unfold keys
          rw [List.getElem_map, q2]
        go_wp2_with (first
          | (at_builtin; refine list_app (ys := cellsZ [y]) ety_u rfl _ _ rfl rfl rfl (HK3.out.over (below_new _ (.cells #[.int .u64 y] 31))).ro (sc_one _ _ _) (one_z _) (by have q1 := HK3.out.ro.1; have q2 := offs_len (T.take i); have q3 := HN.out; rw [List.length_take] at q2; simp [cellsZ]; omega) (Nat.le_trans HK3.out.size (below_new W3 (.cells #[.int .u64 y] 31)).size) ?_; intro v5 w5 ha5; have HK5 : Hid (TkL w base b n v (.slice pi n ci) (.slice (some ⟨gl, 0, none⟩) n cl) v5 (keys T) (LF T v (i + 1)) (offs (T.take i) ++ [y]) w5) := HK3.out.add ha5; obtain ⟨p5, c5, hv5⟩ := (sc_row ha5.own).form; obtain ⟨n5, hn5⟩ : ∃ n, (cellsZ (offs (T.take i)) ++ cellsZ [y]).length = n := ⟨_, rfl⟩; rw [hn5] at hv5; subst hv5; clear ha5 hn5; go_frame)
          | go_in)
        go_roundw
        case rel => exact ⟨i + 1, by go_num, hlt, by rw [HU.out, if_pos HUZ.out, HPI.out]; exact HK5.out⟩
        case measure => simp [intOf]; omega
      · have hud : (u == 0) = false := by simp [hu0]
        have HUZ : Hid (¬ u = 0) := hu0
        go_wp2_with fail
        go_roundw
        case rel => exact ⟨i + 1, by go_num, hlt, by
          have := HK1.out
          rw [HU.out, if_neg HUZ.out, List.append_nil, LF_next HTI.out, HLO.out, if_neg HUZ.out]
          exact this⟩
        case measure => simp [intOf]; omega
    · have hi1 : ¬ (i : Int) < (n : Int) := by omega
      obtain rfl : i = n := by omega
      have HK2 : Hid (TkL w base b i v (.slice pi i ci) (.slice pl i cl) u3 (keys T) (lefts (tickT T v)) (offs T) wr) := by
        have := HK.out
        rw [LF_all T v HN.out.1] at this
        rw [← HN.out.1, List.take_length] at this
        rw [← HN.out.1]
        exact this
      obtain ⟨p3, c3, rfl⟩ := row_slice HK2.out.ro
      have hos := offs_len T
      have HRS := rrising_any wr p3 (offs T).length c3 (offs T) (num_row HK2.out.ro (offs_u HT.out) (by have := HN.out; omega)) (offs_nd HT.out.nd) (by have := HN.out; omega)
      have HRS' : Hid (Calls Try.prog 19 #[.slice p3 (offs T).length c3] wr fun e w' => RsgR wr (offs T) e w') := HRS
      clear HRS hos
      obtain ⟨no, hno⟩ : ∃ m, (offs T).length = m := ⟨_, rfl⟩
      rw [hno] at HRS'
      simp only [hno]
      go_wp2_with fail
      refine HRS'.out.mono ?_
      rintro e w5 ⟨v', ts, rfl, q1, q2, q3, q4⟩
      have HE : Hid (w5.ownsRow w.heap.size 31 1 v' ts.length (cellsZ ts) ∧ Rise ts ∧ (∀ z, z ∈ ts ↔ z ∈ offs T) ∧ RfT w5 base b v (tickT T v) ∧ Fr [3] [] base w w5) := by
        have h5 := HK2.out.over q4
        have hlk : (keys (tickT T v)).length = i := by rw [keys_len, ← HN.out.1]; unfold tickT resT decT; rw [List.length_map, List.length_map]
        have hll : (lefts (tickT T v)).length = i := by rw [lefts_len, ← HN.out.1]; unfold tickT resT decT; rw [List.length_map, List.length_map]
        refine ⟨owns_lower q1 HK2.out.size, q2, q3, ⟨_, _, h5.bb, h5.blk, ?_, ?_⟩, h5.fr HRL.out⟩
        · rw [hlk, keys_tickT]
          exact h5.ri
        · rw [hll]
          exact h5.rl
      clear q1 q2 q3 q4
      go_wp2_with fail
      go_ret
      exact ⟨_, ts, rfl, HE.out⟩

end Go.Proofs.Ytifddbfcongepaa
