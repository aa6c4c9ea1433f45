/-
  The walk of FrameCounts.
-/
import Derived.Test.YtfjipaalelkpjaaFrDrain
namespace Go.Proofs.Ytfjipaalelkpjaa
open Go.RowKit D

/-- a reader of the law's own, with what it was fed. -/
structure Fd (B : Nat) (w wr : World) (b : Nat) (v : Value) (l : List Int) (n : Nat) : Prop where
  r : Rdr wr b v l n
  lo : B ≤ b
  own : Own B v
  bel : Below B w wr
  B : B ≤ w.heap.size
theorem Fd.feed {B : Nat} {w wr w' : World} {b n : Nat} {v v' : Value} {l k : List Int} (h : Fd B w wr b v l n) (hr : Rdr w' b v' (l ++ k) n) (ho : v'.ownBlock = v.ownBlock ∨ v'.ownBlock = some wr.heap.size) (hk : Kp (fun i => i = b ∨ v.ownBlock = some i) wr w') : Fd B w w' b v' (l ++ k) n := by
  have hsz : B ≤ wr.heap.size := Nat.le_trans h.B h.bel.size
  refine ⟨hr, h.lo, h.own.next hsz ho, h.bel.trans (hk.below hsz fun k hk e => ?_), h.B⟩
  rcases e with rfl | e
  · have := h.lo; omega
  · have := h.own k e; omega
theorem Fd.drain {B : Nat} {w wr w' : World} {b n : Nat} {v u v' : Value} {l : List Int} {vs : List Value} (h : Fd B w wr b v l n) (ht : DrT b n v l wr u vs v' w') : Fd B w w' b v' (all sm l).2.2 (n + (all sm l).2.1) := by
  have hsz : B ≤ wr.heap.size := Nat.le_trans h.B h.bel.size
  exact ⟨ht.r, h.lo, fun k hk => h.own k (by rw [← ht.o]; exact hk), h.bel.trans (ht.k.below hsz fun k hk e => by have := h.lo; omega), h.B⟩
theorem fd_new (B : Nat) (w wr : World) (hb : Below B w wr) (hB : B ≤ w.heap.size) : Fd B w (wr.alloc (.cells #[.slice none 0 0, .int .i64 0] 32)) wr.heap.size (.slice none 0 0) [] 0 :=
  ⟨rdr_new wr, Nat.le_trans hB hb.size, fun k e => (by cases e), hb.alloc (Nat.le_trans hB hb.size) _, hB⟩

/-- how many bytes bodies and their heads have. -/
def sz (ds : List (List Int)) : Nat := (ds.map fun b => b.length + 8).sum
theorem sz_step {ds : List (List Int)} {i : Nat} (h : i < ds.length) : sz (ds.take (i + 1)) = sz (ds.take i) + (ds[i].length + 8) := by
  unfold sz
  rw [List.take_succ_eq_append_getElem h, List.map_append, List.sum_append]
  simp
theorem sz_le (ds : List (List Int)) (i : Nat) : sz (ds.take i) ≤ sz ds := by
  have := congrArg sz (List.take_append_drop i ds)
  unfold sz at this ⊢
  rw [List.map_append, List.sum_append] at this
  omega
theorem sz_len (ds : List (List Int)) : 8 * ds.length ≤ sz ds := by
  unfold sz
  induction ds with
  | nil => exact Nat.le_refl _
  | cons d ds ih => rw [List.map_cons, List.sum_cons, List.length_cons]; omega

set_option maxRecDepth 100000 in
set_option maxHeartbeats 8000000 in
theorem counts_walk (w : World) (v : Value) (ls : List (List Int)) (h : PcR w v ls) :
    Calls Try.prog 8 #[v] w fun e w' => e = .returned (.bool true) ∧ Below w.heap.size w w' := by
  obtain ⟨p1, c1, rfl⟩ : ∃ p c, v = .slice p ls.length c := by obtain ⟨p, c, e, _⟩ := h; exact ⟨p, c, e⟩
  have HF : Hid (∀ W, Below w.heap.size w W → PcR W (.slice p1 ls.length c1) ls) := fun W hW => h.below hW
  clear h
  go_enter Try.func8, Try.ntmps8
  go_upto_region 3 with (first
    | (go_at_call 9; refine (awake_any _).mono ?_; rintro e w1 ⟨rfl, hb1⟩)
    | (go_at_call 12; refine (light_any _ _ ls (HF.out _ hb1)).mono ?_; rintro e w2 ⟨bb, rfl, hb2, hbb⟩))
  have HB2 : Hid (Below w.heap.size w w2) := hb1.trans (hb2.mono hb1.size)
  clear hb1 hb2
  cases bb with
  | false =>
    clear hbb
    go_wp2
    go_ret
    exact ⟨rfl, HB2.out⟩
  | true =>
    have hbb2 := hbb rfl
    have HL : Hid (ls.length ≤ 100 ∧ tot ls ≤ 3000) := hbb2
    clear hbb hbb2
    have HD0 : Hid (Fd w.heap.size w (w2.alloc (.cells #[.slice none 0 0, .int .i64 0] 32)) w2.heap.size (.slice none 0 0) [] 0) := fd_new _ _ _ HB2.out (Nat.le_refl _)
    go_upto_region 6 with fail
    generalize w2.alloc (.cells #[.slice none 0 0, .int .i64 0] 32) = w3 at *
    generalize w2.heap.size = b at *
    go_wp2
    go_loopg [6, 7] ls.length (fun g vm vi wr => ∃ (i m : Nat) (v' : Value), vi = .int .i64 i ∧ vm = .int .i64 m ∧ i + g = ls.length ∧ m ≤ 3000 ∧ Hid (m = tot (ls.take i) ∧ Fd w.heap.size w wr b v' (ls.take i).flatten 0))
    case atStart => exact ⟨0, 0, .slice none 0 0, rfl, rfl, Nat.zero_add _, by decide, rfl, HD0.out⟩
    case round =>
      obtain ⟨i, m, v', rfl, rfl, hig, hm3, hg⟩ := hrel
      rcases Nat.lt_or_ge i ls.length with hlt | hge
      · have hi1 : (i : Int) < (ls.length : Int) := by omega
        obtain ⟨pb, po, a', c', rfl, x0, y0, y2⟩ := pcR_at (HF.out w (Below.refl _ _)) hlt
        have HPc : Hid (∀ W, Below w.heap.size w W → W.cell? ⟨pb, po + i, none⟩ = some (.slice a' ls[i].length c')) := fun W hW => cellK x0 hW
        have y1 := y0.below hg.out.2.bel
        have x1 := HPc.out wr hg.out.2.bel
        have HS : Hid (tot (ls.take (i + 1)) = tot (ls.take i) + ls[i].length ∧ (ls.take (i + 1)).flatten = (ls.take i).flatten ++ ls[i]) := ⟨tot_step hlt, flat_step hlt⟩
        have HT : Hid (tot (ls.take (i + 1)) ≤ 3000) := Nat.le_trans (tot_le ls (i + 1)) HL.out.2
        have hfl : (ls.take i).flatten.length + ls[i].length ≤ 100000 := by rw [tot_flat]; have := HS.out.1; have := HT.out; omega
        have HFe : Hid (Calls Try.prog 13 #[.pointer (some ⟨b, 0, none⟩), .slice a' ls[i].length c'] wr fun e w' => e = .returned (.tuple #[]) ∧ ∃ v2, Rdr w' b v2 ((ls.take i).flatten ++ ls[i]) 0 ∧ (v2.ownBlock = v'.ownBlock ∨ v2.ownBlock = some wr.heap.size) ∧ Kp (fun k => k = b ∨ v'.ownBlock = some k) wr w') := feed_any b 0 v' _ wr hg.out.2.r a' _ c' ls[i] y1 y2 hfl
        have hgk : Hid (gk - 1 < gk ∧ i + 1 + (gk - 1) = ls.length) := ⟨by omega, by omega⟩
        have hi100 : (i : Int) ≤ 100 := by have := HL.out.1; omega
        have hmn : (m : Int) + (ls[i].length : Int) ≤ 3000 := by have := HS.out.1; have := HT.out; have := hg.out.1; omega
        have HM : Hid (m + ls[i].length = tot (ls.take (i + 1)) ∧ m + ls[i].length ≤ 3000) := ⟨by rw [hg.out.1]; exact HS.out.1.symm, by omega⟩
        have HFl : Hid ((ls.take (i + 1)).flatten = (ls.take i).flatten ++ ls[i]) := HS.out.2
        clear hfl hig x0 y0 y1 HS HT
        generalize ls[i].length = n at *
        generalize ls[i] = li at *
        clear hlt
        generalize ls.length = len at *
        go_upto_region 11 with (go_at_call 13; refine HFe.out.mono ?_; rintro e w4 ⟨rfl, v4, hr4, ho4, hk4⟩)
        have HD4 : Hid (Fd w.heap.size w w4 b v4 ((ls.take i).flatten ++ li) 0) := hg.out.2.feed hr4 ho4 hk4
        have x4 := HPc.out w4 HD4.out.bel
        clear hr4 ho4 hk4 x1
        go_wp2
        go_roundg (gk - 1)
        case measure => exact hgk.out.1
        case rel => exact ⟨i + 1, m + n, v4, by go_num, by go_num, hgk.out.2, HM.out.2, HM.out.1, by rw [HFl.out]; exact HD4.out⟩
      · have hi1 : ¬ (i : Int) < (ls.length : Int) := by omega
        obtain rfl : i = ls.length := by omega
        have hD := hg.out.2
        rw [List.take_length] at hD
        have hm := hg.out.1
        rw [List.take_length, ← tot_flat] at hm
        have HD : Hid (Fd w.heap.size w wr b v' ls.flatten 0) := hD
        have hlen : ls.flatten.length ≤ 4000 := by rw [← hm]; omega
        have HDr : Hid (Calls Try.prog 18 #[.pointer (some ⟨b, 0, none⟩)] wr fun e w' => ∃ u vs v2, e = .returned u ∧ DrT b 0 v' ls.flatten wr u vs v2 w') := drained_any b 0 v' _ wr hD.r hlen (by omega)
        have HLf : Hid (∀ W (h : W = wr), Calls Try.prog 16 #[.pointer (some ⟨b, 0, none⟩)] W fun e w' => e = .returned (.int .i64 m) ∧ w' = wr) := fun W h => by
          subst h
          have := left_any b 0 v' _ W hD.r
          rw [← hm] at this
          exact this
        have HLo : Hid (∀ W (h : W = wr), Calls Try.prog 17 #[.pointer (some ⟨b, 0, none⟩)] W fun e w' => e = .returned (.int .i64 0) ∧ w' = wr) := fun W h => by
          subst h
          exact lost_any b 0 v' _ W hD.r
        have HC : Hid (m = sz (all sm ls.flatten).1 + (all sm ls.flatten).2.1 + (all sm ls.flatten).2.2.length) := hm.trans (all_count sm _ ls.flatten (Nat.le_refl _))
        clear hig hlen hD hm
        go_upto_region 14 with (first
          | (go_at_call 16; refine (HLf.out _ rfl).mono ?_; rintro e w4 ⟨rfl, rfl⟩)
          | (go_at_call 17; refine (HLo.out _ rfl).mono ?_; rintro e w5 ⟨rfl, rfl⟩))
        go_upto_region 15 with (go_at_call 18; refine HDr.out.mono ?_; rintro e w6 ⟨u, vs, v6, rfl, ht6⟩)
        have HD6 : Hid (Fd w.heap.size w w6 b v6 (all sm ls.flatten).2.2 (0 + (all sm ls.flatten).2.1)) := HD.out.drain ht6
        have HPc : Hid (PcR w6 u (all sm ls.flatten).1) := ht6.rw.pcR
        have HLf6 : Hid (∀ W, W = w6 → Calls Try.prog 16 #[.pointer (some ⟨b, 0, none⟩)] W fun e w' => e = .returned (.int .i64 ((all sm ls.flatten).2.2.length : Nat)) ∧ w' = w6) := fun W h => by
          subst h
          exact left_any b _ v6 _ W HD6.out.r
        have HLo6 : Hid (∀ W, W = w6 → Calls Try.prog 17 #[.pointer (some ⟨b, 0, none⟩)] W fun e w' => e = .returned (.int .i64 ((all sm ls.flatten).2.1 : Nat)) ∧ w' = w6) := fun W h => by
          subst h
          have := lost_any b _ v6 _ W HD6.out.r
          rw [Nat.zero_add] at this
          exact this
        have HB6 : Hid (Below w.heap.size w w6) := HD6.out.bel
        clear ht6 HD6 HDr HLf HLo HD hg
        generalize (all sm ls.flatten).1 = ds at *
        generalize (all sm ls.flatten).2.2.length = left at *
        generalize (all sm ls.flatten).2.1 = lost at *
        have hsum := HC.out
        have hll : (lost : Int) + (left : Int) ≤ 3000 := by omega
        have HM : Hid (m = sz ds + lost + left ∧ m ≤ 3000) := ⟨hsum, hm3⟩
        clear hsum HC
        obtain ⟨up, uc, rfl⟩ : ∃ p c, u = .slice p ds.length c := by obtain ⟨p, c, e, _⟩ := HPc.out; exact ⟨p, c, e⟩
        go_wp2
        go_loopg [6, 9] ds.length (fun g vm vi wr => ∃ (i q : Nat), vi = .int .i64 i ∧ vm = .int .i64 q ∧ i + g = ds.length ∧ wr = w6 ∧ Hid (m = sz (ds.take i) + q))
        case atStart => exact ⟨0, m, rfl, rfl, Nat.zero_add _, rfl, by unfold Hid; simp [sz]⟩
        case round =>
          obtain ⟨i, q, rfl, rfl, hig, rfl, hq⟩ := hrel
          rcases Nat.lt_or_ge i ds.length with hlt | hge
          · have hi2 : (i : Int) < (ds.length : Int) := by omega
            obtain ⟨pb, po, a', c', rfl, x0, y0, y1⟩ := pcR_at HPc.out hlt
            clear y0 y1
            have HS : Hid (sz (ds.take (i + 1)) = sz (ds.take i) + (ds[i].length + 8)) := sz_step hlt
            have hgk : Hid (gk - 1 < gk ∧ i + 1 + (gk - 1) = ds.length) := ⟨by omega, by omega⟩
            have hle := sz_le ds (i + 1)
            have hq1 := hq.out
            have hm1 := HM.out
            have hs1 := HS.out
            have hdl := sz_len ds
            have hqn : (8 : Int) + (ds[i].length : Int) ≤ (q : Int) := by omega
            have hqm : (q : Int) ≤ 3000 := by omega
            have hi3 : (i : Int) ≤ 3000 := by omega
            have HQ : Hid (m = sz (ds.take (i + 1)) + (q - 8 - ds[i].length) ∧ ((q - 8 - ds[i].length : Nat) : Int) = (q : Int) - 8 - (ds[i].length : Int)) := ⟨by omega, by omega⟩
            clear hle hq1 hm1 hs1 hdl hig HS
            generalize ds[i].length = n at *
            clear hlt
            generalize ds.length = dn at *
            go_wp2
            go_roundg (gk - 1)
            case measure => exact hgk.out.1
            case rel => exact ⟨i + 1, q - 8 - n, by go_num, by rw [HQ.out.2], hgk.out.2, rfl, HQ.out.1⟩
          · have hi2 : ¬ (i : Int) < (ds.length : Int) := by omega
            have hqe : q = lost + left := by
              have h1 := hq.out
              have h2 := HM.out
              obtain rfl : i = ds.length := by omega
              rw [List.take_length] at h1
              omega
            have HQ : Hid ((q : Int) = (lost : Int) + (left : Int)) := by unfold Hid; omega
            clear hqe hig
            go_upto_region 19 with fail
            rw [HQ.out]
            go_wp2_with (first
              | (go_at_call 16; refine (HLf6.out _ rfl).mono ?_; rintro e w8 ⟨rfl, rfl⟩)
              | (go_at_call 17; refine (HLo6.out _ rfl).mono ?_; rintro e w9 ⟨rfl, rfl⟩))
            go_ret
            exact ⟨by simp, HB6.out⟩

end Go.Proofs.Ytfjipaalelkpjaa
