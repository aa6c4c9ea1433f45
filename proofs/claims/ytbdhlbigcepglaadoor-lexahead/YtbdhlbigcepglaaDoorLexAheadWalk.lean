/-
  The law LexAhead, walked: true for every text and number.
-/
import Derived.Test.YtbdhlbigcepglaaDoorLexJoinsWalk
namespace Go.Proofs.YtbdhlbigcepglaaDoor
open Go.RowKit

/-- tokens in a block. -/
def Rowg (w : World) (g : Nat) (l : List Tok) : Prop := ∃ cur, w.heap[g]? = some (.cells cur 31 (0, 0)) ∧ cur.toList.take (l.length * 4) = cellsT l

theorem Rowg.cell {w : World} {g : Nat} {l : List Tok} (h : Rowg w g l) (j : Nat) (u : Value) (hj : (cellsT l)[j]? = some u) : w.cell? ⟨g, j, none⟩ = some u := by
  obtain ⟨cur, hg, ht⟩ := h
  rw [← ht, List.getElem?_take] at hj
  split at hj
  · rw [cell_of_row w g j _ _ _ hg]
    simpa using hj
  · cases hj
theorem Rowg.f {w : World} {g : Nat} {l : List Tok} (h : Rowg w g l) (j : Nat) : w.frozen? ⟨g, j, none⟩ = false := by
  obtain ⟨cur, hg, _⟩ := h
  exact frozen_of_row w g j _ _ hg
theorem Rowg.below {w w' : World} {B g : Nat} {l : List Tok} (h : Rowg w g l) (hb : Below B w w') (hB : g < B) : Rowg w' g l := by
  obtain ⟨cur, hg, ht⟩ := h
  exact ⟨cur, by rw [hb.block g hB]; exact hg, ht⟩
theorem Rowg.lt {w : World} {g : Nat} {l : List Tok} (h : Rowg w g l) : g < w.heap.size := by
  obtain ⟨cur, hg, _⟩ := h
  exact lt_of_block hg
theorem Rowg.toks {w : World} {g : Nat} {l : List Tok} (h : Rowg w g l) : Toks w (some ⟨g, 0, none⟩) l.length l := by
  refine ⟨rfl, fun _ => ⟨g, rfl, fun i x hx => ?_⟩⟩
  have key : ∀ c u, c < 4 → x.cells[c]? = some u → w.cell? ⟨g, i * 4 + c, none⟩ = some u := by
    intro c u hc hu
    exact h.cell _ _ (by rw [cellsT_get l i x c hx hc]; exact hu)
  exact ⟨key 0 _ (by decide) rfl, key 1 _ (by decide) rfl, key 2 _ (by decide) rfl, key 3 _ (by decide) rfl⟩
theorem Rowg.other {w : World} {g g2 : Nat} {l : List Tok} (h : Rowg w g2 l) (hne : g2 ≠ g) (j : Nat) (u : Value) : Rowg (w.setCell ⟨g, j, none⟩ u) g2 l := by
  obtain ⟨cur, hg, ht⟩ := h
  exact ⟨cur, by rw [heap_setCell_other w ⟨g, j, none⟩ g2 u hne]; exact hg, ht⟩

theorem cellsT_set (l : List Tok) : ∀ (i : Nat) (q : Nat) (hi : i < l.length), (cellsT l).set (i * 4 + 1) (.int .i64 q) = cellsT (l.set i ⟨l[i].k, q, l[i].t, l[i].n⟩) := by
  induction l with
  | nil => intro i q hi; simp at hi
  | cons x l ih =>
    intro i q hi
    cases i with
    | zero => rfl
    | succ i =>
      have hi' : i < l.length := by simpa using hi
      show (x.cells ++ cellsT l).set ((i + 1) * 4 + 1) _ = x.cells ++ cellsT (l.set i ⟨l[i].k, q, l[i].t, l[i].n⟩)
      rw [← ih i q hi', List.set_append_right _ _ (by show 4 ≤ _; omega)]
      congr 2
      show (i + 1) * 4 + 1 - 4 = _
      omega

theorem Rowg.set {w : World} {g : Nat} {l : List Tok} (h : Rowg w g l) (i q : Nat) (hi : i < l.length) : Rowg (w.setCell ⟨g, i * 4 + 1, none⟩ (.int .i64 q)) g (l.set i ⟨l[i].k, q, l[i].t, l[i].n⟩) := by
  obtain ⟨cur, hg, ht⟩ := h
  refine ⟨cur.setIfInBounds (i * 4 + 1) (.int .i64 q), ?_, ?_⟩
  · have := heap_setCell_same w g (i * 4 + 1) _ _ (.int .i64 q) hg
    rw [this]
  · rw [List.length_set, ← cellsT_set l i q hi, ← ht, Array.toList_setIfInBounds, List.take_set]

theorem owns_rowg {w : World} {base n : Nat} {v : Value} {l : List Tok} (h : w.ownsRow base 31 4 v n (cellsT l)) (hn : 0 < n) : ∃ g cap, v = .slice (some ⟨g, 0, none⟩) n cap ∧ Rowg w g l ∧ base ≤ g ∧ l.length = n := by
  have hlen : l.length = n := by have := h.1; rw [cellsT_length] at this; omega
  rcases h.2 with ⟨rfl, rfl⟩ | ⟨g, cap, cur, rfl, hb, hg, hnc, hcm, hcs, htake⟩
  · omega
  · exact ⟨g, cap, rfl, ⟨cur, hg, by rw [hlen]; exact htake⟩, hb, hlen⟩

theorem ch_le {l : List UInt8} {last : Nat} {ts : List Tok} (h : Ch l last ts) : ∀ x ∈ ts, x.at' ≤ l.length := by
  induction h using Ch.ind with
  | fin h => intro x hx; simp at hx; subst hx; exact Nat.le_refl _
  | @tok last x y r h hx hr ih =>
    intro z hz
    rcases List.mem_cons.1 hz with rfl | hz
    · have := hx.le; omega
    · exact ih z hz

/-- the first so many moved on. -/
def upd (d : Nat) (ts : List Tok) (k : Nat) : List Tok := (ts.take k).map (sh d) ++ ts.drop k

theorem upd_length (d : Nat) (ts : List Tok) (k : Nat) : (upd d ts k).length = ts.length := by simp [upd]; omega
theorem upd_at (d : Nat) (ts : List Tok) (k : Nat) (hk : k < ts.length) : (upd d ts k)[k]? = some ts[k] := by
  unfold upd
  rw [List.getElem?_append_right (by simp; omega)]
  simp [Nat.min_eq_left (Nat.le_of_lt hk), List.getElem?_eq_getElem hk]
theorem upd_step (d : Nat) (ts : List Tok) (k : Nat) (hk : k < ts.length) : (upd d ts k).set k (sh d ts[k]) = upd d ts (k + 1) := by
  unfold upd
  rw [List.set_append_right _ _ (by simp; omega)]
  rw [List.take_succ_eq_append_getElem hk, List.map_append, List.append_assoc]
  congr 1
  have h0 : k - ((ts.take k).map (sh d)).length = 0 := by simp; omega
  rw [h0, List.drop_eq_getElem_cons hk]
  rfl

theorem all_ne {l : List UInt8} {ts : List Tok} (h : all l = .ok ts) : 0 < ts.length := (ch_last (all_ch h)).1

theorem rep_snoc (k : Nat) : bar (List.replicate k 10) ++ ⟨#[10]⟩ = bar (List.replicate (k + 1) 10) := by
  have : (⟨#[10]⟩ : ByteArray) = bar [10] := rfl
  rw [this, bar_app, ← List.replicate_succ']

set_option maxRecDepth 4000 in
set_option maxHeartbeats 4000000 in
theorem lexAhead_walk (s : ByteArray) (n : Int) (w : World) (hv : Vars w) :
    Calls Tryd.prog 7 #[.string s, .int .i64 n] w fun e w' => e = .returned (.bool true) ∧ Below w.heap.size w w' := by
  have HV : Hid (Vars w) := hv
  clear hv
  by_cases hlong : 4000 < s.size
  · have h1 : decide ((4000 : Int) < s.size) = true := by simp; omega
    clear hlong
    go_enter Tryd.func7, Tryd.ntmps7
    go_wp2_with (go_at_call 9; refine (awake_any _ HV.out).mono ?_; rintro e w1 ⟨rfl, b1⟩)
    go_ret
    exact ⟨rfl, b1⟩
  · have h1 : decide ((4000 : Int) < s.size) = false := by simp; omega
    by_cases hn : n < 0
    · go_enter Tryd.func7, Tryd.ntmps7
      go_wp2_with (go_at_call 9; refine (awake_any _ HV.out).mono ?_; rintro e w1 ⟨rfl, b1⟩)
      go_ret
      exact ⟨rfl, b1⟩
    · obtain ⟨m, rfl⟩ := Int.eq_ofNat_of_zero_le (show 0 ≤ n by omega)
      have hn0 : ¬ (m : Int) < 0 := hn
      have hm30 : Hid (m % 30 < 30) := Nat.mod_lt _ (by decide)
      have HA : Hid (∀ W, Vars W → Calls Tryd.prog 10 #[.string s] W fun e w' => Below W.heap.size W w' ∧ Told W.heap.size (all (lst s)) e w') := fun W h => all_any s W h
      have HA2 : Hid (∀ W, Vars W → Calls Tryd.prog 10 #[.string (bar (ahd (m % 30)) ++ s)] W fun e w' => Below W.heap.size W w' ∧ Told W.heap.size (shR (m % 30 + 4) (all (lst s))) e w') := by
        intro W hW
        have := all_any (bar (ahd (m % 30)) ++ s) W hW
        rw [show bar (ahd (m % 30)) ++ s = bar (ahd (m % 30) ++ lst s) from by rw [← bar_app, bar_lst]] at this ⊢
        rw [lst_bar, all_ahd _ _ (by rw [lst_length]; omega) (by have := hm30.out; omega)] at this
        exact this
      clear hn
      go_enter Tryd.func7, Tryd.ntmps7
      go_wp2_with (go_at_call 9; refine (awake_any _ HV.out).mono ?_; rintro e w1 ⟨rfl, b1⟩; have V1 : Hid (Vars w1) := HV.out.below b1; have B1 : Hid (Below w.heap.size w w1) := b1; clear b1)
      go_loop [6, 7] (fun va vi => ∃ k : Nat, va = .string (bar (List.replicate k 10)) ∧ vi = .int .i64 k ∧ k ≤ m % 30) (fun _ vi => m % 30 - (intOf vi).toNat)
      case atStart => exact ⟨0, rfl, rfl, Nat.zero_le _⟩
      case round =>
        obtain ⟨k, rfl, rfl, hk⟩ := hrel
        by_cases hlt : k < m % 30
        · have hz1 : (bar (List.replicate k 10)).size ≤ 30 := by rw [bar_size]; simp; have := hm30.out; omega
          have HJ : Hid (bar (List.replicate k 10) ++ ⟨#[10]⟩ = bar (List.replicate (k + 1) 10)) := rep_snoc k
          have hi1 : (k : Int) < (m : Int) % 30 := by omega
          generalize bar (List.replicate k 10) = A at *
          go_wp2
          go_round
          case rel => exact ⟨k + 1, by rw [HJ.out], by go_num, hlt⟩
          case measure => simp [intOf]; omega
        · obtain rfl : k = m % 30 := by omega
          have hge : ¬ ((m % 30 : Nat) : Int) < (m : Int) % 30 := by omega
          have hz1 : (bar (List.replicate (m % 30) 10)).size ≤ 30 := by rw [bar_size]; simp; have := hm30.out; omega
          have hx : bar (List.replicate (m % 30) 10) ++ ⟨#[35, 32, 97, 10]⟩ = bar (ahd (m % 30)) := bar_app _ _
          have hz2 : (bar (ahd (m % 30))).size = m % 30 + 4 := by rw [bar_size, ahd_len]
          have hz3 : (bar (ahd (m % 30))).size ≤ 40 := by have := hm30.out; omega
          have HE := fun c q => @all_err (lst s) c q
          have HC := fun ts => @all_ch (lst s) ts
          have HL := fun ts => @all_len (lst s) ts
          have HN := fun ts => @all_ne (lst s) ts
          have HLE := fun ts (h : all (lst s) = .ok ts) => ch_le (all_ch h)
          rw [lst_length] at HLE
          rw [← hz2] at HA2
          have hll : ¬ 8192 < (lst s).length := by rw [lst_length]; omega
          have hs4 : s.size ≤ 4000 := by omega
          clear hz2
          generalize bar (List.replicate (m % 30) 10) = A0 at *
          generalize bar (ahd (m % 30)) = A at *
          generalize all (lst s) = R at *
          obtain ⟨c, q⟩ | ts := R
          · obtain ⟨hc, hq⟩ := HE c q rfl hll
            rw [lst_length] at hq
            have hc0 : ((c : Int) == 0) = false := by rw [beq_eq_false_iff_ne]; omega
            have hq1 : (q : Int) ≤ 4000 := by omega
            have hA1 : (A.size : Int) ≤ 40 := by omega
            have HA3 : Hid (∀ W, Vars W → Calls Tryd.prog 10 #[.string (A ++ s)] W fun e w' => Below W.heap.size W w' ∧ e = .returned (.tuple #[.slice none 0 0, .int .i64 c, .int .i64 ((q : Int) + A.size)])) := by
              intro W hW
              have := HA2.out W hW
              unfold Told shR at this
              simp only [Int.natCast_add] at this
              exact this
            have HSM : Hid (∀ W : World, Calls Tryd.prog 12 #[.slice none 0 0, .slice none 0 0] W fun e w' => e = .returned (.bool true) ∧ Below W.heap.size W w') := fun W => same_any none none 0 0 0 [] W ⟨rfl, fun h => absurd h (by omega)⟩ ⟨rfl, fun h => absurd h (by omega)⟩ (by omega)
            clear HE HC HL HN HLE HA2 hc hq hll hlong
            go_wp2_with fail
            refine (HA.out _ V1.out).mono ?_
            rintro e w2 ⟨b2, rfl⟩
            have V2 : Hid (Vars w2) := V1.out.below b2
            go_wp2_with fail
            refine (HA3.out _ V2.out).mono ?_
            rintro e w3 ⟨b3, rfl⟩
            have B3 : Hid (Below w.heap.size w w3) := by
              have h2 := B1.out.trans (b2.mono B1.out.size)
              exact h2.trans (b3.mono h2.size)
            clear b2 b3
            go_wp2
            go_loop [14] (fun vi => vi = .int .i64 0) (fun vi => 0)
            case atStart => rfl
            case round =>
              subst hrel
              go_wp2_with (go_at_call 12; refine (HSM.out _).mono ?_; rintro e w4 ⟨rfl, b4⟩)
              go_ret
              exact ⟨rfl, B3.out.trans (b4.mono B3.out.size)⟩
          · have hl0 := HN ts rfl
            have hlen := HL ts rfl
            have HLE2 : Hid (∀ x ∈ ts, x.at' ≤ s.size) := HLE ts rfl
            have hA1 : (A.size : Int) ≤ 40 := by omega
            have hul : (ts.map (sh A.size)).length = ts.length := by simp
            have HA3 : Hid (∀ W, Vars W → Calls Tryd.prog 10 #[.string (A ++ s)] W fun e w' => Below W.heap.size W w' ∧ ∃ v, e = .returned (.tuple #[v, .int .i64 0, .int .i64 (-1)]) ∧ w'.ownsRow W.heap.size 31 4 v ts.length (cellsT (ts.map (sh A.size)))) := by
              intro W hW
              have := HA2.out W hW
              rw [← hul]
              exact this
            have HA4 : Hid (∀ W, Vars W → Calls Tryd.prog 10 #[.string s] W fun e w' => Below W.heap.size W w' ∧ ∃ v, e = .returned (.tuple #[v, .int .i64 0, .int .i64 (-1)]) ∧ w'.ownsRow W.heap.size 31 4 v ts.length (cellsT ts)) := HA.out
            clear HE HC HL HN HLE HA2 HA hll hlong
            go_wp2_with fail
            refine (HA4.out _ V1.out).mono ?_
            rintro e w2 ⟨b2, v, rfl, ho⟩
            have V2 : Hid (Vars w2) := V1.out.below b2
            obtain ⟨g1, c1, rfl, R1, hg1, -⟩ := owns_rowg ho hl0
            have hlt1 := R1.lt
            have hbs := B1.out.size
            have hbs2 := b2.size
            clear ho
            go_wp2_with fail
            refine (HA3.out _ V2.out).mono ?_
            rintro e w3 ⟨b3, v, rfl, ho⟩
            obtain ⟨g2, c2, rfl, R2, hg2, -⟩ := owns_rowg ho hl0
            have hne : Hid (g2 ≠ g1) := by show g2 ≠ g1; omega
            have hbg : Hid (w.heap.size ≤ g1) := by show _ ≤ _; omega
            have R13 : Hid (Rowg w3 g1 ts) := R1.below b3 hlt1
            have R23 : Hid (Rowg w3 g2 (ts.map (sh A.size))) := R2
            have B3 : Hid (Below w.heap.size w w3) := by
              have h2 := B1.out.trans (b2.mono B1.out.size)
              exact h2.trans (b3.mono h2.size)
            clear ho b2 b3 R1 R2 hg1 hg2 hlt1 hbs hbs2
            go_wp2
            go_loopw [14] (fun vi wr => ∃ k : Nat, vi = .int .i64 k ∧ k ≤ ts.length ∧ Below w.heap.size w wr ∧ Rowg wr g1 (upd A.size ts k) ∧ Rowg wr g2 (ts.map (sh A.size))) (fun vi _ => ts.length - (intOf vi).toNat)
            case atStart => exact ⟨0, rfl, Nat.zero_le _, B3.out, R13.out, R23.out⟩
            case round =>
              obtain ⟨k, rfl, hk, hb, r1, r2⟩ := hrel
              have BK : Hid (Below w.heap.size w wr) := hb
              have RK : Hid (Rowg wr g1 (upd A.size ts k)) := r1
              have QK : Hid (Rowg wr g2 (ts.map (sh A.size))) := r2
              clear hb r1 r2
              by_cases hlt : k < ts.length
              · have hi1 : (k : Int) < (ts.length : Int) := by omega
                have hcell := RK.out.cell (k * 4 + 1) (.int .i64 ts[k].at') (by rw [cellsT_get _ k ts[k] 1 (upd_at _ _ _ hlt) (by decide)]; rfl)
                have hf := RK.out.f (k * 4 + 1)
                have hxa : (ts[k].at' : Int) ≤ 4000 := by have := HLE2.out ts[k] (List.getElem_mem hlt); omega
                have HS : Hid (Rowg (wr.setCell ⟨g1, k * 4 + 1, none⟩ (.int .i64 ((ts[k].at' : Int) + A.size))) g1 (upd A.size ts (k + 1))) := by
                  have h1 := RK.out.set k (ts[k].at' + A.size) (by rw [upd_length]; exact hlt)
                  rw [Int.natCast_add] at h1
                  have h2 : (upd A.size ts k)[k]'(by rw [upd_length]; exact hlt) = ts[k] := by
                    have := upd_at A.size ts k hlt
                    rw [List.getElem?_eq_getElem (by rw [upd_length]; exact hlt)] at this
                    exact Option.some.inj this
                  rw [h2] at h1
                  have h3 := upd_step A.size ts k hlt
                  unfold sh at h3
                  rw [h3] at h1
                  exact h1
                have HQ : Hid (Rowg (wr.setCell ⟨g1, k * 4 + 1, none⟩ (.int .i64 ((ts[k].at' : Int) + A.size))) g2 (ts.map (sh A.size))) := QK.out.other hne.out _ _
                have HB : Hid (Below w.heap.size w (wr.setCell ⟨g1, k * 4 + 1, none⟩ (.int .i64 ((ts[k].at' : Int) + A.size)))) := BK.out.setCell (p := ⟨g1, k * 4 + 1, none⟩) hbg.out _
                generalize ts[k].at' = xa at *
                go_wp2
                go_roundw
                case rel => exact ⟨k + 1, by go_num, hlt, HB.out, HS.out, HQ.out⟩
                case measure => simp [intOf]; omega
              · obtain rfl : k = ts.length := by omega
                have hge2 : ¬ (ts.length : Int) < (ts.length : Int) := by omega
                have T1 : Hid (Toks wr (some ⟨g1, 0, none⟩) ts.length (ts.map (sh A.size))) := by
                  have h1 := RK.out.toks
                  rw [upd_length] at h1
                  unfold upd at h1
                  rw [List.take_length, List.drop_length, List.append_nil] at h1
                  exact h1
                have T2 : Hid (Toks wr (some ⟨g2, 0, none⟩) ts.length (ts.map (sh A.size))) := by
                  have h1 := QK.out.toks
                  rw [hul] at h1
                  exact h1
                have HLN : Hid (ts.length ≤ 100000000) := by show _ ≤ _; omega
                go_wp2_with (go_at_call 12; refine (same_any _ _ ts.length c1 c2 _ _ T1.out T2.out HLN.out).mono ?_; rintro e w4 ⟨rfl, b4⟩)
                go_ret
                exact ⟨rfl, BK.out.trans (b4.mono BK.out.size)⟩

end Go.Proofs.YtbdhlbigcepglaaDoor
