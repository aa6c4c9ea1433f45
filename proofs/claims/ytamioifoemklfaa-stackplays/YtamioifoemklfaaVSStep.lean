/-
  One instruction by the document's own words: proved of every instruction with which nothing is wrong.
-/
import Derived.Test.YtamioifoemklfaaVSMath
import Derived.Test.YtamioifoemklfaaVSPlain
import Derived.Test.YtamioifoemklfaaVSCells
import Derived.Test.YtamioifoemklfaaVSEnds
import Derived.Test.YtamioifoemklfaaVSByK1
import Derived.Test.YtamioifoemklfaaVSByK2
import Derived.Test.YtamioifoemklfaaVSByX1
import Derived.Test.YtamioifoemklfaaVSByX2
import Derived.Test.YtamioifoemklfaaVSJump1
import Derived.Test.YtamioifoemklfaaVSJump2
namespace Go.Proofs.Ytamioifoemklfaa.V
open Go.RowKit

/-- where the document's run is behind an instruction, what it comes to, and whether it is over. -/
def stepP (d : Da) (x : In) (p : Int) (s : St) : Int × St × Bool :=
  if endV x s = true then (p + 1, { s with ans := tellV x s }, true) else (p + 1 + skipV x (doV d x s), doV d x s, false)

theorem stepP_on {d : Da} {x : In} {p : Int} {s s' : St} {k : Int} (he : endV x s = false) (hd : doV d x s = s') (hk : skipV x s' = k) : stepP d x p s = (p + 1 + k, s', false) := by
  unfold stepP
  rw [if_neg (by rw [he]; decide), hd, hk]
theorem stepP_on0 {d : Da} {x : In} {p : Int} {s s' : St} (he : endV x s = false) (hd : doV d x s = s') (hk : skipV x s' = 0) : stepP d x p s = (p + 1, s', false) := by
  rw [stepP_on he hd hk, Int.add_zero]
theorem stepP_end {d : Da} {x : In} {p : Int} {s : St} {v : Int} (he : endV x s = true) (ht : tellV x s = v) : stepP d x p s = (p + 1, { s with ans := v }, true) := by
  unfold stepP
  rw [if_pos he, ht]

/-- what Step tells. -/
def StepTold (w w' : World) (e : Ending) (st : Int) (r : Int × St × Bool) : Prop := e = .returned (.agg (rcells r.1 (st + 1) r.2.1 r.2.2).toArray) ∧ Below w.heap.size w w'

theorem refStep_any (x : In) (p st len cap ib off n : Nat) (s : St) (d : Da) (w : World) (hd : d.ok) (hp : p < len) (hlen : len ≤ 4096) (hst : st ≤ 4096) (hx : x.ok) (hs : s.ok) (h0 : s.ans = 0) (hf : fault x n = 0) (hat : In.at x w ib (off + p * 4)) :
    Calls Try.prog 38 #[.slice (some ⟨ib, off, none⟩) len cap, d.val, .agg (rcells p st s false).toArray] w fun e w' => StepTold w w' e st (stepP d x p s) := by
  obtain ⟨hk, hl, hr, -, -⟩ := fault_parts x n hf
  obtain ⟨hc, ht, hff, hkb⟩ := hx
  have hcs := known_cases x.c hc.1 hc.2 hk
  obtain ⟨c, t, f, k⟩ := x
  dsimp only at *
  have hu : U32 k := hkb
  clear hk hkb hf hc
  have hcs2 : c = 32 ∨ c = 0 ∨ c = 1 ∨ c = 96 ∨ c = 97 ∨ c = 2 ∨ c = 3 ∨ c = 4 ∨ c = 20 ∨ c = 36 ∨ c = 52 ∨ c = 68 ∨ c = 84 ∨ c = 100 ∨ c = 116 ∨ c = 132 ∨ c = 164 ∨ c = 5 ∨ c = 21 ∨ c = 37 ∨ c = 53 ∨ c = 69 ∨ c = 6 ∨ c = 22 ∨ c = 7 ∨ c = 135 ∨ c = 12 ∨ c = 28 ∨ c = 44 ∨ c = 60 ∨ c = 76 ∨ c = 92 ∨ c = 108 ∨ c = 124 ∨ c = 172 ∨ c = 29 ∨ c = 45 ∨ c = 61 ∨ c = 77 := by
    simp only [plainL, withL, List.mem_cons, List.not_mem_nil, or_false] at hcs
    omega
  clear hcs
  have key : ∀ (r : Int × St × Bool), stepP d ⟨c, t, f, k⟩ p s = r → Calls Try.prog 38 #[.slice (some ⟨ib, off, none⟩) len cap, d.val, .agg (rcells p st s false).toArray] w (fun e w' => e = .returned (.agg (rcells r.1 (st + 1) r.2.1 r.2.2).toArray) ∧ Below w.heap.size w w') → Calls Try.prog 38 #[.slice (some ⟨ib, off, none⟩) len cap, d.val, .agg (rcells p st s false).toArray] w fun e w' => StepTold w w' e st (stepP d ⟨c, t, f, k⟩ p s) := by
    intro r hr h
    rw [hr]
    exact h
  have hkn : (16 ≤ k → False) → ∃ kk : Nat, kk < 16 ∧ k = (kk : Int) := fun h => ⟨k.toNat, by have h1 : ¬ 16 ≤ k := h; have := hu.1; omega, by have := hu.1; omega⟩
  rcases hcs2 with rfl | rfl | rfl | rfl | rfl | rfl | rfl | rfl | rfl | rfl | rfl | rfl | rfl | rfl | rfl | rfl | rfl | rfl | rfl | rfl | rfl | rfl | rfl | rfl | rfl | rfl | rfl | rfl | rfl | rfl | rfl | rfl | rfl | rfl | rfl | rfl | rfl | rfl | rfl
  · exact key _ (stepP_on0 (by kernel_rfl) (by kernel_rfl) (by kernel_rfl)) (step_32 t f k p st len cap ib off s d w hd hp hlen hst hu hat)
  · exact key _ (stepP_on0 (by kernel_rfl) (by kernel_rfl) (by kernel_rfl)) (step_0 t f k p st len cap ib off s d w hd hp hlen hst hat)
  · exact key _ (stepP_on0 (by kernel_rfl) (by kernel_rfl) (by kernel_rfl)) (step_1 t f k p st len cap ib off s d w hd hp hlen hst hat)
  · obtain ⟨kk, h16, rfl⟩ := hkn (fun h => by have e : loadsB 96 k = decide (16 ≤ k) := by kernel_rfl
                                              rw [e, decide_eq_false_iff_not] at hl; exact hl h)
    exact key _ (stepP_on0 (by kernel_rfl) (by kernel_rfl) (by kernel_rfl)) (step_96 t f 0 p st len cap ib off s d w hd hp hlen hst kk h16 hat)
  · obtain ⟨kk, h16, rfl⟩ := hkn (fun h => by have e : loadsB 97 k = decide (16 ≤ k) := by kernel_rfl
                                              rw [e, decide_eq_false_iff_not] at hl; exact hl h)
    exact key _ (stepP_on0 (by kernel_rfl) (by kernel_rfl) (by kernel_rfl)) (step_97 t f 0 p st len cap ib off s d w hd hp hlen hst kk h16 hat)
  · obtain ⟨kk, h16, rfl⟩ := hkn (fun h => by have e : loadsB 2 k = decide (16 ≤ k) := by kernel_rfl
                                              rw [e, decide_eq_false_iff_not] at hl; exact hl h)
    exact key _ (stepP_on0 (by kernel_rfl) (by kernel_rfl) (by kernel_rfl)) (step_2 t f 0 p st len cap ib off s d w hd hp hlen hst kk h16 hat)
  · obtain ⟨kk, h16, rfl⟩ := hkn (fun h => by have e : loadsB 3 k = decide (16 ≤ k) := by kernel_rfl
                                              rw [e, decide_eq_false_iff_not] at hl; exact hl h)
    exact key _ (stepP_on0 (by kernel_rfl) (by kernel_rfl) (by kernel_rfl)) (step_3 t f 0 p st len cap ib off s d w hd hp hlen hst kk h16 hat)
  · exact key _ (stepP_on0 (by kernel_rfl) (by kernel_rfl) (by kernel_rfl)) (step_4 t f k p st len cap ib off s d w hd hp hlen hst hs hu hat)
  · exact key _ (stepP_on0 (by kernel_rfl) (by kernel_rfl) (by kernel_rfl)) (step_20 t f k p st len cap ib off s d w hd hp hlen hst hs hu hat)
  · exact key _ (stepP_on0 (by kernel_rfl) (by kernel_rfl) (by kernel_rfl)) (step_36 t f k p st len cap ib off s d w hd hp hlen hst hs hu hat)
  · have hz : ¬ k = 0 := by
      have e : reckB 52 k = (k == 0) := by unfold reckB; simp
      rw [e] at hr
      simpa using hr
    exact key _ (stepP_on0 (by kernel_rfl) (by kernel_rfl) (by kernel_rfl)) (step_52 t f k p st len cap ib off s d w hd hp hlen hst hs hu hz hat)
  · exact key _ (stepP_on0 (by kernel_rfl) (by kernel_rfl) (by kernel_rfl)) (step_68 t f k p st len cap ib off s d w hd hp hlen hst hs hu hat)
  · exact key _ (stepP_on0 (by kernel_rfl) (by kernel_rfl) (by kernel_rfl)) (step_84 t f k p st len cap ib off s d w hd hp hlen hst hs hu hat)
  · exact key _ (stepP_on0 (by kernel_rfl) (by kernel_rfl) (by kernel_rfl)) (step_100 t f k p st len cap ib off s d w hd hp hlen hst hs hu hat)
  · exact key _ (stepP_on0 (by kernel_rfl) (by kernel_rfl) (by kernel_rfl)) (step_116 t f k p st len cap ib off s d w hd hp hlen hst hs hu hat)
  · exact key _ (stepP_on0 (by kernel_rfl) (by kernel_rfl) (by kernel_rfl)) (step_132 t f k p st len cap ib off s d w hd hp hlen hst hat)
  · exact key _ (stepP_on0 (by kernel_rfl) (by kernel_rfl) (by kernel_rfl)) (step_164 t f k p st len cap ib off s d w hd hp hlen hst hs hu hat)
  · exact key _ (stepP_on (by kernel_rfl) (by kernel_rfl) (by kernel_rfl)) (step_5 t f k p st len cap ib off s d w hd hp hlen hst hu hat)
  · have e : skipV ⟨21, t, f, k⟩ s = if holdsV 21 s.a k = true then t else f := by kernel_rfl
    cases hb : holdsV 21 s.a k with
    | true => exact key _ (stepP_on (s' := s) (k := t) (by kernel_rfl) (by kernel_rfl) (by rw [e, hb]; rfl)) (step_21_true t f k p st len cap ib off s d w hd hp hlen hst ht hb hat)
    | false => exact key _ (stepP_on (s' := s) (k := f) (by kernel_rfl) (by kernel_rfl) (by rw [e, hb]; rfl)) (step_21_false t f k p st len cap ib off s d w hd hp hlen hst hff hb hat)
  · have e : skipV ⟨37, t, f, k⟩ s = if holdsV 37 s.a k = true then t else f := by kernel_rfl
    cases hb : holdsV 37 s.a k with
    | true => exact key _ (stepP_on (s' := s) (k := t) (by kernel_rfl) (by kernel_rfl) (by rw [e, hb]; rfl)) (step_37_true t f k p st len cap ib off s d w hd hp hlen hst ht hb hat)
    | false => exact key _ (stepP_on (s' := s) (k := f) (by kernel_rfl) (by kernel_rfl) (by rw [e, hb]; rfl)) (step_37_false t f k p st len cap ib off s d w hd hp hlen hst hff hb hat)
  · have e : skipV ⟨53, t, f, k⟩ s = if holdsV 53 s.a k = true then t else f := by kernel_rfl
    cases hb : holdsV 53 s.a k with
    | true => exact key _ (stepP_on (s' := s) (k := t) (by kernel_rfl) (by kernel_rfl) (by rw [e, hb]; rfl)) (step_53_true t f k p st len cap ib off s d w hd hp hlen hst ht hb hat)
    | false => exact key _ (stepP_on (s' := s) (k := f) (by kernel_rfl) (by kernel_rfl) (by rw [e, hb]; rfl)) (step_53_false t f k p st len cap ib off s d w hd hp hlen hst hff hb hat)
  · have e : skipV ⟨69, t, f, k⟩ s = if holdsV 69 s.a k = true then t else f := by kernel_rfl
    cases hb : holdsV 69 s.a k with
    | true => exact key _ (stepP_on (s' := s) (k := t) (by kernel_rfl) (by kernel_rfl) (by rw [e, hb]; rfl)) (step_69_true t f k p st len cap ib off s d w hd hp hlen hst ht hb hat)
    | false => exact key _ (stepP_on (s' := s) (k := f) (by kernel_rfl) (by kernel_rfl) (by rw [e, hb]; rfl)) (step_69_false t f k p st len cap ib off s d w hd hp hlen hst hff hb hat)
  · exact key _ (stepP_end (by kernel_rfl) (by kernel_rfl)) (step_6 t f k p st len cap ib off s d w hd hp hlen hst hat)
  · exact key _ (stepP_end (by kernel_rfl) (by kernel_rfl)) (step_22 t f k p st len cap ib off s d w hd hp hlen hst hat)
  · exact key _ (stepP_on0 (by kernel_rfl) (by kernel_rfl) (by kernel_rfl)) (step_7 t f k p st len cap ib off s d w hd hp hlen hst hat)
  · exact key _ (stepP_on0 (by kernel_rfl) (by kernel_rfl) (by kernel_rfl)) (step_135 t f k p st len cap ib off s d w hd hp hlen hst hat)
  · exact key _ (stepP_on0 (by kernel_rfl) (by kernel_rfl) (by kernel_rfl)) (step_12 t f k p st len cap ib off s d w hd hp hlen hst hs hat)
  · exact key _ (stepP_on0 (by kernel_rfl) (by kernel_rfl) (by kernel_rfl)) (step_28 t f k p st len cap ib off s d w hd hp hlen hst hs hat)
  · exact key _ (stepP_on0 (by kernel_rfl) (by kernel_rfl) (by kernel_rfl)) (step_44 t f k p st len cap ib off s d w hd hp hlen hst hs hat)
  · by_cases hz : s.x = 0
    · have hs0 : ({ s with ans := 0 } : St) = s := by rw [← h0]
      have e := stepP_end (d := d) (x := ⟨60, t, f, k⟩) (p := p) (s := s) (v := 0) (by unfold endV; simp [hz]) (by kernel_rfl)
      rw [hs0] at e
      exact key _ e (step_60z t f k p st len cap ib off s d w hd hp hlen hst hz hat)
    · exact key _ (stepP_on0 (by unfold endV; simp [hz, endL, isIn_cons, isIn_nil]) (by kernel_rfl) (by kernel_rfl)) (step_60 t f k p st len cap ib off s d w hd hp hlen hst hs hz hat)
  · exact key _ (stepP_on0 (by kernel_rfl) (by kernel_rfl) (by kernel_rfl)) (step_76 t f k p st len cap ib off s d w hd hp hlen hst hs hat)
  · exact key _ (stepP_on0 (by kernel_rfl) (by kernel_rfl) (by kernel_rfl)) (step_92 t f k p st len cap ib off s d w hd hp hlen hst hs hat)
  · exact key _ (stepP_on0 (by kernel_rfl) (by kernel_rfl) (by kernel_rfl)) (step_108 t f k p st len cap ib off s d w hd hp hlen hst hs hat)
  · exact key _ (stepP_on0 (by kernel_rfl) (by kernel_rfl) (by kernel_rfl)) (step_124 t f k p st len cap ib off s d w hd hp hlen hst hs hat)
  · exact key _ (stepP_on0 (by kernel_rfl) (by kernel_rfl) (by kernel_rfl)) (step_172 t f k p st len cap ib off s d w hd hp hlen hst hs hat)
  · have e : skipV ⟨29, t, f, k⟩ s = if holdsV 21 s.a s.x = true then t else f := by kernel_rfl
    cases hb : holdsV 21 s.a s.x with
    | true => exact key _ (stepP_on (s' := s) (k := t) (by kernel_rfl) (by kernel_rfl) (by rw [e, hb]; rfl)) (step_29_true t f k p st len cap ib off s d w hd hp hlen hst ht hb hat)
    | false => exact key _ (stepP_on (s' := s) (k := f) (by kernel_rfl) (by kernel_rfl) (by rw [e, hb]; rfl)) (step_29_false t f k p st len cap ib off s d w hd hp hlen hst hff hb hat)
  · have e : skipV ⟨45, t, f, k⟩ s = if holdsV 37 s.a s.x = true then t else f := by kernel_rfl
    cases hb : holdsV 37 s.a s.x with
    | true => exact key _ (stepP_on (s' := s) (k := t) (by kernel_rfl) (by kernel_rfl) (by rw [e, hb]; rfl)) (step_45_true t f k p st len cap ib off s d w hd hp hlen hst ht hb hat)
    | false => exact key _ (stepP_on (s' := s) (k := f) (by kernel_rfl) (by kernel_rfl) (by rw [e, hb]; rfl)) (step_45_false t f k p st len cap ib off s d w hd hp hlen hst hff hb hat)
  · have e : skipV ⟨61, t, f, k⟩ s = if holdsV 53 s.a s.x = true then t else f := by kernel_rfl
    cases hb : holdsV 53 s.a s.x with
    | true => exact key _ (stepP_on (s' := s) (k := t) (by kernel_rfl) (by kernel_rfl) (by rw [e, hb]; rfl)) (step_61_true t f k p st len cap ib off s d w hd hp hlen hst ht hb hat)
    | false => exact key _ (stepP_on (s' := s) (k := f) (by kernel_rfl) (by kernel_rfl) (by rw [e, hb]; rfl)) (step_61_false t f k p st len cap ib off s d w hd hp hlen hst hff hb hat)
  · have e : skipV ⟨77, t, f, k⟩ s = if holdsV 69 s.a s.x = true then t else f := by kernel_rfl
    cases hb : holdsV 69 s.a s.x with
    | true => exact key _ (stepP_on (s' := s) (k := t) (by kernel_rfl) (by kernel_rfl) (by rw [e, hb]; rfl)) (step_77_true t f k p st len cap ib off s d w hd hp hlen hst ht hb hat)
    | false => exact key _ (stepP_on (s' := s) (k := f) (by kernel_rfl) (by kernel_rfl) (by rw [e, hb]; rfl)) (step_77_false t f k p st len cap ib off s d w hd hp hlen hst hff hb hat)

end Go.Proofs.Ytamioifoemklfaa.V
