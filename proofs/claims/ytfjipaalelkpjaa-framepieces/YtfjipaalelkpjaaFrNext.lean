/-
  Next, by package frame.
-/
import Derived.Test.YtfjipaalelkpjaaFrRdr
import Derived.Deep.LoopGhost
namespace Go.Proofs.Ytfjipaalelkpjaa
open Go.RowKit D

/-- what Next tells. -/
def NxR (B : Nat) (e : Ending) (w' : World) : Option (List Int) → Prop
  | none => e = .returned (.tuple #[.slice none 0 0, .bool false])
  | some bd => ∃ u, e = .returned (.tuple #[u, .bool true]) ∧ Wt w' u bd ∧ Own B u

/-- while bytes are passed. -/
structure Ng (w : World) (b n : Nat) (v : Value) (l : List Int) (wr : World) (v' : Value) (l' : List Int) (j : Nat) : Prop where
  r : Rdr wr b v' l' (n + j)
  o : v'.ownBlock = v.ownBlock
  k : Kp (· = b) w wr
  e : nxt sm l = ((nxt sm l').1 + j, (nxt sm l').2)
  s : j + l'.length = l.length
/-- what is told at the end. -/
def NxT (b n : Nat) (v : Value) (l : List Int) (w : World) (e : Ending) (w' : World) : Prop :=
  NxR w.heap.size e w' (nxt sm l).2.1 ∧ ∃ v', Rdr w' b v' (nxt sm l).2.2 (n + (nxt sm l).1) ∧ v'.ownBlock = v.ownBlock ∧ Kp (· = b) w w'
theorem ng_none {w wr : World} {b n j : Nat} {v v' : Value} {l l' : List Int} (h : Ng w b n v l wr v' l' j) (hl : nxt sm l' = (0, none, l')) : NxT b n v l w (.returned (.tuple #[.slice none 0 0, .bool false])) wr := by
  have e := h.e
  rw [hl] at e
  unfold NxT
  rw [e]
  exact ⟨rfl, v', by rw [Nat.zero_add]; exact h.r, h.o, h.k⟩
theorem Ng.over {w wr w' : World} {b n j : Nat} {v v' : Value} {l l' : List Int} (h : Ng w b n v l wr v' l' j) (hb : Below wr.heap.size wr w') : Ng w b n v l w' v' l' j := ⟨h.r.over hb, h.o, h.k.trans (kp_below hb), h.e, h.s⟩
theorem Ng.pass {w wr : World} {b n j : Nat} {v v' v2 : Value} {x : Int} {r : List Int} {l : List Int} (h : Ng w b n v l wr v' (x :: r) j) (h1 : ¬ Std sm (x :: r)) (h2 : ¬ Mgt (x :: r)) (hw : Wt wr v2 r) (ho : v2.ownBlock = v'.ownBlock) :
    Ng w b n v l ((wr.setCell ⟨b, 0, none⟩ v2).setCell ⟨b, 1, none⟩ (.int .i64 (n + j + 1 : Nat))) v2 r (j + 1) := by
  have hk : Kp (· = b) wr ((wr.setCell ⟨b, 0, none⟩ v2).setCell ⟨b, 1, none⟩ (.int .i64 (n + j + 1 : Nat))) := (kp_set wr b 0 _).trans (kp_set _ b 1 _)
  have hap : v2.ownBlock ≠ some b := by rw [ho]; exact h.r.ap
  refine ⟨⟨(h.r.blk.set 0 v2).set 1 _, hw.kp hk fun k e1 e2 => hap (by rw [← e2]; exact e1), hap⟩, ho.trans h.o, h.k.trans hk, ?_, ?_⟩
  · have e := h.e
    rw [nxt_lose h1 h2] at e
    rw [e]
    dsimp only
    rw [Nat.add_assoc, Nat.add_comm 1 j]
  · have := h.s
    rw [List.length_cons] at this
    omega

set_option maxHeartbeats 4000000 in
theorem next_any (b n : Nat) (v : Value) (l : List Int) (w : World) (h : Rdr w b v l n) (hn : l.length ≤ 100000) (hn2 : n + l.length ≤ 1000000) :
    Calls Try.prog 14 #[.pointer (some ⟨b, 0, none⟩)] w (NxT b n v l w) := by
  have H0 : Hid (Ng w b n v l w v l 0) := ⟨h, rfl, Kp.refl _ _, rfl, Nat.zero_add _⟩
  clear h
  go_enter Try.func14, Try.ntmps14
  go_wp2
  go_step3
  go_wp2
  go_step3
  go_wp2
  go_loopg [] l.length (fun k wr => ∃ v' l' j, l'.length = k ∧ Hid (Ng w b n v l wr v' l' j))
  case atStart => exact ⟨v, l, 0, rfl, H0⟩
  case round =>
    obtain ⟨v', l', j, rfl, hg⟩ := hrel
    clear H0
    have hs := hg.out.s
    have hrd := hg.out.r
    obtain ⟨c0, c1, f0, f1⟩ := hrd.cl
    obtain ⟨a, cap, rfl, hbs, h1, h2, h3⟩ := hrd.wt.slice
    cases l' with
    | nil =>
      clear hrd hbs h1 h2 h3 hs
      go_wp2
      rw [Exit.noGoto_ret]
      go_ret2
      exact ng_none hg.out rfl
    | cons x r =>
      have HF : Hid (Calls Try.prog 24 #[.slice a (x :: r).length cap] wr fun e w' => e = .returned (.int .i64 (fr (x :: r))) ∧ Below wr.heap.size wr w') := frontOf_any a _ cap (x :: r) wr (by simp) h1 hbs
      by_cases e1 : Std sm (x :: r)
      · rw [fr_std e1] at HF
        have HS : Hid (Std sm (x :: r)) := e1
        have hlen : (x :: r).length ≤ 100000 := by omega
        clear hrd hbs h2 h3 h1 e1
        generalize hll : (x :: r).length = len at *
        have hlp : 0 < len := by rw [← hll]; simp
        have HLL : Hid ((x :: r).length = len) := hll
        clear hll
        go_wp2_with (first
          | (go_at_call 24; refine HF.out.mono ?_; rintro e w1 ⟨rfl, hb1⟩)
          | (go_at_call 25; refine (take_any b (n + j) (.slice a len cap) (x :: r) _ (hg.out.over hb1).r HS.out (by rw [HLL.out]; exact hlen)).mono ?_; rintro e w2 ⟨u, v2, rfl, hu, hou, hr2, ho2, hk2⟩))
        rw [Exit.noGoto_ret]
        go_ret2
        have he := hg.out.e
        rw [nxt_std HS.out] at he
        unfold NxT
        rw [he]
        refine ⟨⟨u, rfl, hu, hou.mono (Nat.le_trans hg.out.k.size hb1.size)⟩, v2, ?_, ho2.trans hg.out.o, (hg.out.over hb1).k.trans hk2⟩
        rw [Nat.zero_add]
        exact hr2
      · by_cases e2 : Mgt (x :: r)
        · rw [fr_mgt e1 e2] at HF
          have HS : Hid (nxt sm (x :: r) = (0, none, x :: r)) := nxt_mgt e1 e2
          clear hrd hbs h2 h3 h1 e1 e2
          generalize hll : (x :: r).length = len at *
          have hlp : 0 < len := by rw [← hll]; simp
          clear hll
          go_wp2_with (go_at_call 24; refine HF.out.mono ?_; rintro e w1 ⟨rfl, hb1⟩)
          rw [Exit.noGoto_ret]
          go_ret2
          exact ng_none (hg.out.over hb1) HS.out
        · rw [fr_no e1 e2] at HF
          have HS : Hid (¬ Std sm (x :: r) ∧ ¬ Mgt (x :: r)) := ⟨e1, e2⟩
          obtain ⟨v2, hw2, ho2, hcut⟩ := cut_wt hrd.wt 1 (by simp) (by simp)
          replace hw2 : Wt wr v2 r := hw2
          have HW : Hid (Wt wr v2 r) := hw2
          have HO : Hid (v2.ownBlock = (Value.slice a (x :: r).length cap).ownBlock) := ho2
          obtain ⟨va, vc, rfl, _⟩ := hw2.slice
          have hq : (n : Int) + (j : Int) + 1 ≤ 1000001 := by omega
          clear hrd hbs h2 h3 h1 e1 e2 hw2 ho2 hs
          have hcut2 : ∀ W, (Instr.sliceAt 22 (.slice a (x :: r).length cap) (some (.int .i64 1)) none none).run Try.prog W = .ok (.slice va r.length vc) W := hcut
          clear hcut
          have hlp : 0 < (x :: r).length := by simp
          have HLL : Hid (r.length < (x :: r).length) := Nat.lt_succ_self _
          generalize (x :: r).length = len at *
          generalize hrn : r.length = rn at *
          have HRN : Hid (r.length = rn) := hrn
          clear hrn
          go_upto_region 3 with (go_at_call 24; refine HF.out.mono ?_; rintro e w1 ⟨rfl, hb1⟩)
          have HG : Hid (Ng w b n v l w1 (.slice a len cap) (x :: r) j) := hg.out.over hb1
          have HW1 : Hid (Wt w1 (.slice va rn vc) r) := HW.out.over hb1
          obtain ⟨d0, d1, g0, g1⟩ := HG.out.r.cl
          clear c0 c1 f0 f1
          go_wp2
          go_roundg rn
          case measure => exact HLL.out
          case rel =>
            refine ⟨.slice va rn vc, r, j + 1, HRN.out, ?_⟩
            exact HG.out.pass HS.out.1 HS.out.2 HW1.out HO.out

end Go.Proofs.Ytfjipaalelkpjaa
