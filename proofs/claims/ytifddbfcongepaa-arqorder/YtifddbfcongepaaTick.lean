/-
  A tick; all timers that are set.
-/
import Derived.Test.YtifddbfcongepaaOps
import Derived.Test.YtifddbfcongepaaRsg
namespace Go.Proofs.Ytifddbfcongepaa
open Go.RowKit Go.Maps

/-- at a look-up whose answer is known. -/
theorem wpList_lookup_c {P : Program} (w : World) {ops : Array Oper} {rest : List Oper} {o : Oper} {a : Act} {Q : Exit → Act → World → Prop}
    (hg : o.guard = none) (m x : Operand) (t : TypeId) (hop : o.op = Op.lookup t m x false)
    (k e : TypeId) (q : IntKind) (K : Keyed P k) (ht : P.underlying t = some (.map k e)) (he : P.underlying e = some (.int q)) (hz : (zeroValue e).run P w = .ok (.int q 0) w) (b n : Nat) (D : Dm)
    (hm : a.eval m = .map (some b)) (hown : w.ownsMap P k (plainElem P e) b n D) (key : Value) (kl : Lit) (hx : a.eval x = key) (hkey : keyOf P k key = some kl)
    (c : Int) (hc : ∀ zd, D.atKey kl zd = .lit (.int q c)) (hK : wpList P ops Q rest (a.put o.dst (.int q c)) w) :
    wpList P ops Q (o :: rest) a w :=
  wpList_lookup_own_int w hg m x t hop k e q K ht he hz b n D hm hown key kl hx hkey (fun c' h _ => by rw [hc] at h; cases h; exact hK)

theorem row_slice {w : World} {base : Nat} {v : Value} {ts : List Int} (h : w.ownsRow base 31 1 v ts.length (cellsZ ts)) : ∃ p cap, v = .slice p ts.length cap := by
  rcases h.2 with ⟨rfl, h0⟩ | ⟨g, cap, cur, rfl, _⟩
  · exact ⟨none, 0, by rw [h0]⟩
  · exact ⟨_, cap, rfl⟩
theorem row_at {w : World} {base n cap : Nat} {p : Option Addr} {ts : List Int} (h : w.ownsRow base 31 1 (.slice p n cap) ts.length (cellsZ ts)) {k : Nat} (hk : k < ts.length) : ∃ g, p = some ⟨g, 0, none⟩ ∧ base ≤ g ∧ w.cell? ⟨g, k, none⟩ = some (.int .u64 ts[k]) := by
  rcases id h.2 with ⟨_, h0⟩ | ⟨g, cap', cur, e, hg, _⟩
  · omega
  · cases e
    have hk2 : (cellsZ ts)[k]? = some (.int .u64 ts[k]) := by
      unfold cellsZ
      rw [List.getElem?_map, List.getElem?_eq_getElem hk]
      rfl
    have := h.cells (g := g) rfl k _ hk2
    rw [Addr.add_lit, Nat.zero_add] at this
    exact ⟨g, rfl, hg, this⟩

/-- timers in the middle of a tick. -/
structure Dc (T : Tm) (left : Lit → Bool) (D : Dm) : Prop where
  tidy : Tidy D
  size : Maps.size D = T.length
  has : ∀ z, Maps.has D (litU z) = true ↔ z ∈ keys T
  val : ∀ p ∈ T, ∀ zd, D.atKey (litU p.1) zd = lv (if left (litU p.1) = true then p.2 else p.2 - 1)
theorem Dc.start {D : Dm} {T : Tm} (h : Vw D T) : Dc T (Maps.has D) D := ⟨h.tidy, h.size, h.has, fun p hp zd => by
  rw [h.val p hp, if_pos ((h.has p.1).2 (mem_keys.2 ⟨p.2, hp⟩))]⟩
theorem Dc.at {D : Dm} {T : Tm} {left : Lit → Bool} {z c : Int} (h : Dc T left D) (hl : left (litU z) = true) (hat : ∀ zd, D.atKey (litU z) zd = lv c) : (z, c) ∈ T := by
  have h1 : z ∈ keys T := (h.has z).1 (has_true_of_atKey hat)
  obtain ⟨c', hc'⟩ := mem_keys.1 h1
  have h2 := (h.val _ hc' (lv 0)).symm.trans (hat (lv 0))
  rw [if_pos hl] at h2
  unfold lv at h2
  cases h2
  exact hc'
theorem Dc.step {D : Dm} {T : Tm} {left : Lit → Bool} {z c : Int} (h : Dc T left D) (hn : (keys T).Nodup) (hx : (z, c) ∈ T) : Dc T (fun k => left k && !k.sameKey (litU z)) (D.put (litU z) (lv (c - 1))) := by
  refine ⟨h.tidy.put (isKey z) _, ?_, fun y => ?_, fun p hp zd => ?_⟩
  · rw [size_put h.tidy, if_pos ((h.has z).2 (mem_keys.2 ⟨c, hx⟩)), h.size]
  · rw [has_put D h.tidy.isMap, h.has]
    exact ⟨fun h => by rcases h with h | rfl; exact h; exact mem_keys.2 ⟨c, hx⟩, .inl⟩
  · rw [same_litU]
    by_cases e : p.1 = z
    · have e2 : p.2 = c := keys_inj hn (z := z) (by rw [← e]; exact hp) hx
      rw [e, e2, atKey_put_same h.tidy.isMap (isKey z)]
      simp
    · rw [atKey_put_other (litU_ne e), h.val p hp]
      simp [e]
theorem Dc.done {D : Dm} {T : Tm} {left : Lit → Bool} (h : Dc T left D) (hl : ∀ k, left k = false) : Vw D (decT T) := by
  refine ⟨h.tidy, by rw [h.size]; unfold decT; rw [List.length_map], fun z => by rw [h.has, keys_decT], fun p hp zd => ?_⟩
  unfold decT at hp
  obtain ⟨q, hq, rfl⟩ := List.mem_map.1 hp
  rw [h.val q hq, hl, if_neg (by decide)]

/-- the timers that went off, begun anew, one by one. -/
def setA (T : Tm) (ts : List Int) (v : Int) : Tm := ts.foldl (fun T z => setT T z v) T
theorem setA_snoc (T : Tm) (ts : List Int) (z v : Int) : setA T (ts ++ [z]) v = setT (setA T ts v) z v := by
  unfold setA
  rw [List.foldl_append]
  rfl
theorem setA_ok (v : Int) : ∀ (ts : List Int) (T : Tm), (keys T).Nodup → (∀ z ∈ ts, z ∈ keys T) → (keys (setA T ts v)).Nodup ∧ (setA T ts v).length = T.length ∧ (∀ z, z ∈ keys (setA T ts v) ↔ z ∈ keys T) ∧ ∀ p, p ∈ setA T ts v ↔ (p ∈ T ∧ p.1 ∉ ts) ∨ (p.1 ∈ ts ∧ p.2 = v)
  | [], T, hn, _ => ⟨hn, rfl, fun _ => Iff.rfl, fun p => by simp [setA]⟩
  | z :: ts, T, hn, hs => by
    have hz : z ∈ keys T := hs z (List.mem_cons_self ..)
    have hk : ∀ y, y ∈ keys (setT T z v) ↔ y ∈ keys T := fun y => by
      rw [mem_keys_setT]
      exact ⟨fun h => by rcases h with h | rfl; exact h; exact hz, .inl⟩
    obtain ⟨h1, h2, h3, h4⟩ := setA_ok v ts (setT T z v) (nodup_setT hn z v) fun y hy => (hk y).2 (hs y (List.mem_cons_of_mem _ hy))
    refine ⟨h1, h2.trans (len_setT_in hn hz), fun y => (h3 y).trans (hk y), fun p => ?_⟩
    show p ∈ setA (setT T z v) ts v ↔ _
    rw [h4 p, mem_setT, List.mem_cons]
    constructor
    · rintro (⟨h5 | rfl, h6⟩ | ⟨h5, h6⟩)
      · exact .inl ⟨h5.1, fun h => by rcases h with h | h; exact h5.2 h; exact h6 h⟩
      · exact .inr ⟨.inl rfl, rfl⟩
      · exact .inr ⟨.inr h5, h6⟩
    · rintro (⟨h5, h6⟩ | ⟨h5, h6⟩)
      · exact .inl ⟨.inl ⟨h5, fun e => h6 (.inl e)⟩, fun e => h6 (.inr e)⟩
      · by_cases h7 : p.1 ∈ ts
        · exact .inr ⟨h7, h6⟩
        · rcases h5 with h5 | h5
          · refine .inl ⟨.inr ?_, h7⟩
            obtain ⟨p1, p2⟩ := p
            simp only at h5 h6
            rw [h5, h6]
          · exact absurd h5 h7
/-- in the end all is as behind a tick. -/
theorem setA_tick {T : Tm} {ts : List Int} {v : Int} (hn : (keys T).Nodup) (hs : ∀ z, z ∈ ts ↔ z ∈ offs T) : (tickT T v).length = (setA (decT T) ts v).length ∧ ∀ p, p ∈ tickT T v ↔ p ∈ setA (decT T) ts v := by
  have hk : ∀ z ∈ ts, z ∈ keys (decT T) := fun z hz => by
    rw [keys_decT]
    exact mem_keys.2 ⟨1, mem_offs.1 ((hs z).1 hz)⟩
  obtain ⟨h1, h2, h3, h4⟩ := setA_ok v ts (decT T) (by rw [keys_decT]; exact hn) hk
  refine ⟨by rw [h2]; unfold tickT resT; rw [List.length_map], fun p => ?_⟩
  rw [h4 p]
  unfold tickT resT
  rw [List.mem_map]
  have hin : ∀ {z x}, (z, x) ∈ decT T → (z ∈ ts ↔ x = 0) := fun {z x} hx => by
    have hx1 : (z, x + 1) ∈ T := by
      obtain ⟨q, hq, e⟩ := List.mem_map.1 hx
      cases e
      rw [show q.2 - 1 + 1 = q.2 by omega]
      exact hq
    rw [hs z, mem_offs]
    constructor
    · intro h
      have := keys_inj hn hx1 h
      omega
    · intro h
      rw [h] at hx1
      exact hx1
  constructor
  · rintro ⟨q, hq, rfl⟩
    split
    · rename_i h0
      exact .inr ⟨(hin (x := q.2) hq).2 h0, rfl⟩
    · rename_i h0
      exact .inl ⟨hq, fun h => h0 ((hin (x := q.2) hq).1 h)⟩
  · rintro (⟨h5, h6⟩ | ⟨h5, h6⟩)
    · exact ⟨p, h5, by rw [if_neg fun e => h6 ((hin (x := p.2) h5).2 e)]⟩
    · have h7 := mem_offs.1 ((hs p.1).1 h5)
      refine ⟨(p.1, 0), List.mem_map.2 ⟨(p.1, 1), h7, rfl⟩, ?_⟩
      rw [if_pos rfl]
      obtain ⟨p1, p2⟩ := p
      simp only at h6
      rw [h6]

/-- what a tick tells, and leaves. -/
def TickE (w : World) (b B : Nat) (v : Int) (T : Tm) (e : Ending) (w' : World) : Prop :=
  ∃ v' ts, e = .returned v' ∧ w'.ownsRow w.heap.size 31 1 v' ts.length (cellsZ ts) ∧ Rise ts ∧ (∀ z, z ∈ ts ↔ z ∈ offs T) ∧ TmV w' b B v (tickT T v) ∧ w.grownBy w' (some B)

theorem ranges_fr {L X : List Nat} {C : Nat} {w w' : World} {B r n cnt : Nat} {D : Dm} {left : Lit → Bool} (h : w.ranges Try.prog 31 (plainElem Try.prog 3) B r n D left cnt) (hs : Fr L X C w w') (hB : B ∉ X) (hr : r ∉ X) : w'.ranges Try.prog 31 (plainElem Try.prog 3) B r n D left cnt := by
  obtain ⟨es, clock, since, seen, c0, h1, h2, h3, h4, h5, h6⟩ := h
  exact ⟨es, clock, since, seen, c0, hs.blk B _ h1 (fun _ _ _ e => by cases e) hB, h2, h3, h4, hs.blk r _ h5 (fun _ _ _ e => by cases e) hr, h6⟩

/-- nothing that stood has turned but one block. -/
theorem grown_trans {a b c : World} {B : Nat} (h : a.grownBy b (some B)) (k : b.grownBy c (some B)) : a.grownBy c (some B) :=
  ⟨k.os.trans h.os, k.tape.trans h.tape, k.output.trans h.output, Nat.le_trans h.size k.size, fun i hi hn => (k.block i (Nat.lt_of_lt_of_le hi h.size) hn).trans (h.block i hi hn)⟩
theorem grown_new {a b c : World} {B r : Nat} (h : a.grownBy b (some B)) (k : b.grownBy c (some r)) (hr : a.heap.size ≤ r) : a.grownBy c (some B) :=
  ⟨k.os.trans h.os, k.tape.trans h.tape, k.output.trans h.output, Nat.le_trans h.size k.size, fun i hi hn => (k.block i (Nat.lt_of_lt_of_le hi h.size) (fun e => by cases e; omega)).trans (h.block i hi hn)⟩
theorem grown_below {a b c : World} {B : Nat} (h : a.grownBy b (some B)) (k : Below b.heap.size b c) : a.grownBy c (some B) :=
  ⟨k.os.trans h.os, k.tape.trans h.tape, k.output.trans h.output, Nat.le_trans h.size k.size, fun i hi hn => (k.block i (Nat.lt_of_lt_of_le hi h.size)).trans (h.block i hi hn)⟩
theorem grown_refl (a : World) (B : Nat) : a.grownBy a (some B) := ⟨rfl, rfl, rfl, Nat.le_refl _, fun _ _ _ => rfl⟩

set_option maxRecDepth 8000 in
set_option maxHeartbeats 4000000 in
theorem tick_any (b B : Nat) (v : Int) (T : Tm) (w : World) {n : Nat} (h : TmV w b B v T) (hT : Okt T v n) (hn : n ≤ 1000) : Calls Try.prog 16 #[.pointer (some ⟨b, 0, none⟩)] w fun e w' => TickE w b B v T e w' := by
  obtain ⟨hb, ⟨D, ho, hv⟩, hne⟩ := h
  have HT : Hid (Okt T v n) := hT
  have HB : Hid (Blk w b 54 [.int .i64 v, .map (some B)]) := hb
  have HNE : Hid (b ≠ B ∧ B < w.heap.size) := ⟨hne, ho.lt⟩
  have hlen : T.length ≤ 1000 := Nat.le_trans hT.len hn
  have c1 : w.cell? ⟨b, 1, none⟩ = some (.map (some B)) := hb.cell 1
  have D0 : Hid (Dc T (Maps.has D) D) := Dc.start hv
  have ZE : Hid (∀ w, (zeroValue 3).run Try.prog w = .ok (.int .i64 0) w) := Try.zeroValue3
  clear hb hv hT hn hne
  go_enter Try.func16, Try.ntmps16
  go_wp2_with (first | (at_range; refine wpList_range_own _ rfl _ 52 rfl 31 3 lawU Try.underlying52 _ B _ _ rfl ho ?_; intro w2 hrg0 hg0 hs0) | go_in)
  go_frame
  clear c1
  have G0 : Hid (w.grownBy w2 (some B) ∧ w2.heap.size = w.heap.size + 1) := ⟨hg0.but _, hs0⟩
  clear hg0 hs0
  go_loopw [3] (fun _ wr => ∃ left cnt D', wr.ranges Try.prog 31 (plainElem Try.prog 3) B w.heap.size T.length D' left cnt ∧ Dc T left D' ∧ w.grownBy wr (some B)) (fun _ wr => wr.rangeLeft B w.heap.size)
  case atStart => exact ⟨_, _, _, hrg0, D0.out, G0.out.1⟩
  case round =>
    obtain ⟨left, cnt, D', hrg, hD, hg⟩ := hrel
    have HD : Hid (Dc T left D') := hD
    have HG : Hid (w.grownBy wr (some B)) := hg
    clear hD hg hrg0
    go_wp2_with (first
      | (at_next; refine wpList_next_ranges_ii _ rfl _ rfl 31 3 .u64 .i64 lawU Try.underlying31 Try.underlying3 B w.heap.size T.length _ _ _ rfl hrg ?_ ?_)
      | go_in)
    · intro hc0 hl0
      have hvw : Vw D' (decT T) := HD.out.done hl0
      have hown := hrg.owns
      have HNT : Hid ((keys (decT T)).Nodup) := by
        show (keys (decT T)).Nodup
        rw [keys_decT]
        exact HT.out.nd
      have HTM : Hid (TmV wr b B v (decT T)) := ⟨blk_grown HB.out HG.out HNE.out.1, mpT_of hown hvw, HNE.out.1⟩
      have HR : Hid (Calls Try.prog 22 #[.map (some B), .func (.func 23) #[] #[]] wr fun e w' => RsgR wr (selT (fun x => x == 0) (decT T)) e w') := rising_off wr B T.length D' (decT T) hown hvw HNT.out (by unfold decT; rw [List.length_map]; exact hlen)
      have c1 : wr.cell? ⟨b, 1, none⟩ = some (.map (some B)) := HTM.out.1.cell 1
      clear hc0 hl0 hvw hown hrg HD
      go_wp2_with fail
      refine HR.out.mono ?_
      rintro e w3 ⟨v', ts, rfl, hrow, hrise, hts, hbw⟩
      have hbase0 := HG.out.size
      obtain ⟨base, hbase⟩ : ∃ x, wr.heap.size = x := ⟨_, rfl⟩
      rw [hbase] at hrow hbase0
      have HROW : Hid (w3.ownsRow base 31 1 v' ts.length (cellsZ ts) ∧ Rise ts) := ⟨hrow, hrise⟩
      have HTS : Hid (∀ z, z ∈ ts ↔ z ∈ offs T) := fun z => by rw [hts z, selT_off]; rfl
      have HKS : Hid (∀ z ∈ ts, z ∈ keys (decT T)) := fun z hz => by
        rw [keys_decT]
        exact mem_keys.2 ⟨1, mem_offs.1 ((HTS.out z).1 hz)⟩
      have HTM3 : Hid (TmV w3 b B v (decT T)) := HTM.out.over hbw
      have HG3 : Hid (w.grownBy w3 (some B) ∧ w.heap.size ≤ base) := ⟨grown_below HG.out hbw, hbase0⟩
      have htl : ts.length ≤ 1000 := Nat.le_trans (nodup_le ts (keys (decT T)) hrise.nodup HKS.out) (by rw [keys_decT]; unfold keys; rw [List.length_map]; exact hlen)
      obtain ⟨p, cap, rfl⟩ := row_slice hrow
      have HSET : Hid (∀ (z : Int) (T : Tm) (w : World), TmV w b B v T → (keys T).Nodup → T.length ≤ 1000000 → U64 z → Calls Try.prog 11 #[.pointer (some ⟨b, 0, none⟩), .int .u64 z] w fun e w' => SetE w b B v (setT T z v) e w') := fun z T w h1 h2 h3 h4 => set_any b B v z T w h1 h2 h3 HT.out.v1 HT.out.v2 h4
      clear hrow hrise hts hbw HR HTM HG c1 hbase hbase0
      go_wp2_with fail
      go_loopw [30] (fun vi wz => ∃ k : Nat, vi = .int .i64 k ∧ k ≤ ts.length ∧ TmV wz b B v (setA (decT T) (ts.take k) v) ∧ wz.ownsRow base 31 1 (.slice p ts.length cap) ts.length (cellsZ ts) ∧ w.grownBy wz (some B)) (fun vi _ => ts.length - (intOf vi).toNat)
      case atStart => exact ⟨0, rfl, Nat.zero_le _, HTM3.out, HROW.out.1, HG3.out.1⟩
      case round =>
        obtain ⟨k, rfl, hk, htm, hrw, hgz⟩ := hrel
        have HZ : Hid (TmV wr b B v (setA (decT T) (ts.take k) v) ∧ wr.ownsRow base 31 1 (.slice p ts.length cap) ts.length (cellsZ ts) ∧ w.grownBy wr (some B)) := ⟨htm, hrw, hgz⟩
        have hsa := setA_ok v (ts.take k) (decT T) HNT.out fun z hz => HKS.out z (List.mem_of_mem_take hz)
        have HSA : Hid ((keys (setA (decT T) (ts.take k) v)).Nodup ∧ (setA (decT T) (ts.take k) v).length ≤ 1000000) := ⟨hsa.1, by rw [hsa.2.1]; unfold decT; rw [List.length_map]; omega⟩
        clear hsa hgz
        by_cases hlt : k < ts.length
        · have hk1 : (k : Int) < (ts.length : Int) := by omega
          obtain ⟨g, rfl, hg, hcell⟩ := row_at hrw hlt
          have HU : Hid (U64 ts[k]) := by
            obtain ⟨x, hx⟩ := mem_keys.1 (show ts[k] ∈ keys T from by rw [← keys_decT]; exact HKS.out _ (List.getElem_mem hlt))
            exact (HT.out.rng _ hx).1
          have HST : Hid (setA (decT T) (ts.take (k + 1)) v = setT (setA (decT T) (ts.take k) v) ts[k] v) := by
            show _ = _
            rw [List.take_succ_eq_append_getElem hlt, setA_snoc]
          have HC : Hid (Calls Try.prog 11 #[.pointer (some ⟨b, 0, none⟩), .int .u64 ts[k]] wr fun e w' => SetE wr b B v (setT (setA (decT T) (ts.take k) v) ts[k] v) e w') := HSET.out _ _ wr htm HSA.out.1 HSA.out.2 HU.out
          clear htm hrw
          generalize ts[k] = z at *
          go_wp2_with fail
          refine HC.out.mono ?_
          rintro e w4 ⟨rfl, h1, h2⟩
          have H4 : Hid (TmV w4 b B v (setA (decT T) (ts.take (k + 1)) v) ∧ w4.ownsRow base 31 1 (.slice (some ⟨g, 0, none⟩) ts.length cap) ts.length (cellsZ ts) ∧ w.grownBy w4 (some B)) := ⟨by rw [HST.out]; exact h1, HZ.out.2.1.kept h2 (.inr fun e => by have e2 : g = B := Option.some.inj e; have := HG3.out.2; have := HNE.out.2; omega), grown_trans HZ.out.2.2 h2⟩
          clear h1 h2
          go_wp2_with fail
          go_roundw
          case rel => exact ⟨k + 1, by go_num, hlt, H4.out⟩
          case measure => simp [intOf]; omega
        · have hk1 : ¬ (k : Int) < (ts.length : Int) := by omega
          obtain rfl : k = ts.length := by omega
          clear htm hrw
          go_wp2_with fail
          go_ret
          obtain ⟨t1, t2⟩ := setA_tick (v := v) HT.out.nd HTS.out
          refine ⟨_, ts, rfl, owns_lower HZ.out.2.1 HG3.out.2, HROW.out.2, HTS.out, ⟨HZ.out.1.1, HZ.out.1.2.1.congr ?_ fun p => ?_, HZ.out.1.2.2⟩, HZ.out.2.2⟩
          · rw [List.take_length]; exact t1
          · rw [List.take_length]; exact t2 p
    · intro x c w3 cnt3 hwx hwc hlk hat hrg3 hlt hg3 hs3 hen
      have hmem : (x, c) ∈ T := HD.out.at hlk hat
      have hr := HT.out.rng _ hmem
      have hr1 : 1 ≤ c := hr.2.1
      have hr2 : c ≤ 1000 := Int.le_trans hr.2.2 HT.out.v2
      have HKEY : keyOf Try.prog 31 (.int .u64 x) = some (litU x) := key_u (u64_wf hwx)
      have HHAS : Hid (Maps.has D' (litU x) = true) := has_true_of_atKey hat
      have HAT : Hid (∀ zd, D'.atKey (litU x) zd = .lit (.int .i64 c)) := hat
      have HVAL : Hid (plainElem (H := Unit) Try.prog 3 (.int .i64 (c - 1)) = some (lv (c - 1), [])) := plainElem_int (H := Unit) Try.underlying3 (litI_wf (by omega) (by omega))
      have G3 : Hid (w.grownBy w3 (some B)) := grown_new HG.out hg3 (Nat.le_refl _)
      have c1 : w3.cell? ⟨b, 1, none⟩ = some (.map (some B)) := (blk_grown HB.out G3.out HNE.out.1).cell 1
      have HN3 : Hid (wr.rangeLeft B w.heap.size = cnt) := hrg.left_eq
      have HD3 : Hid (Dc T (fun k => left k && !k.sameKey (litU x)) (D'.put (litU x) (lv (c - 1)))) := HD.out.step HT.out.nd hmem
      have HL : Hid (T.length < maxLen) := by show T.length < maxLen; unfold maxLen; omega
      clear hs3 hlk hat hwx hwc hmem hr hg3 HD
      go_wp2_with (first
        | (at_lookup; refine wpList_lookup_c _ rfl _ _ 52 rfl 31 3 .i64 lawU Try.underlying52 Try.underlying3 (ZE.out _) B T.length D' rfl hrg3.owns _ (litU x) rfl HKEY c HAT.out ?_)
        | (at_mapUpdate; refine wpList_mapUpdate_ranges rfl _ _ _ 52 rfl 3 lawU Try.underlying52 rfl hrg3 HL.out _ _ (litU x) rfl rfl HKEY HHAS.out (lv (c - 1)) [] HVAL.out ?_; intro w4 hrg4 ht4; go_frame)
        | go_in)
      go_roundw
      case rel => exact ⟨_, _, _, hrg4, HD3.out, grown_trans G3.out ht4.grown⟩
      case measure => rw [hrg4.left_eq, HN3.out]; exact hlt

/-- all that are set, rising. -/
def IdsE (w : World) (T : Tm) (e : Ending) (w' : World) : Prop := RsgR w (keys T) e w'
set_option maxHeartbeats 2000000 in
theorem ids_any (b B : Nat) (v : Int) (T : Tm) (w : World) {n : Nat} (h : TmV w b B v T) (hT : Okt T v n) (hn : n ≤ 1000) : Calls Try.prog 18 #[.pointer (some ⟨b, 0, none⟩)] w fun e w' => IdsE w T e w' := by
  obtain ⟨hb, ⟨D, ho, hv⟩, hne⟩ := h
  have c1 : w.cell? ⟨b, 1, none⟩ = some (.map (some B)) := hb.cell 1
  have HR : Hid (Calls Try.prog 22 #[.map (some B), .func (.func 24) #[] #[]] w fun e w' => RsgR w (selT (fun _ => true) T) e w') := rising_all w B T.length D T ho hv hT.nd (Nat.le_trans hT.len hn)
  clear hb ho hv hT
  go_enter Try.func18, Try.ntmps18
  go_wp2_with fail
  refine HR.out.mono ?_
  rintro e w1 ⟨v', ts, rfl, h1, h2, h3, h4⟩
  have HE : Hid (w1.ownsRow w.heap.size 31 1 v' ts.length (cellsZ ts) ∧ Rise ts ∧ (∀ z, z ∈ ts ↔ z ∈ keys T) ∧ Below w.heap.size w w1) := ⟨h1, h2, fun z => by rw [h3 z, selT_all], h4⟩
  clear h1 h2 h3 h4
  go_wp2_with fail
  go_ret
  exact ⟨_, ts, rfl, HE.out⟩

end Go.Proofs.Ytifddbfcongepaa
