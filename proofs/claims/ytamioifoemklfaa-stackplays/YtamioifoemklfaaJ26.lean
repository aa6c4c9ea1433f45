/-
  Texts of this seat, joined: VSStep, VSRun.
-/
import Derived.Test.YtamioifoemklfaaJ16
import Derived.Test.YtamioifoemklfaaJ17
import Derived.Test.YtamioifoemklfaaJ18
import Derived.Test.YtamioifoemklfaaJ19
import Derived.Test.YtamioifoemklfaaJ20
import Derived.Test.YtamioifoemklfaaJ21
import Derived.Test.YtamioifoemklfaaJ22
import Derived.Test.YtamioifoemklfaaJ23
import Derived.Test.YtamioifoemklfaaJ24
import Derived.Test.YtamioifoemklfaaJ25
import Derived.Test.YtamioifoemklfaaJ15
import Derived.Test.YtamioifoemklfaaJ11

namespace Go.Proofs.Ytamioifoemklfaa.V
open Go.RowKit

/-- where the document's run is behind an instruction, what it comes to, and whether it is over. -/
def stepP (d : Da) (x : In) (p : Int) (s : St) : Int × St × Bool :=
  if endV x s = true then (p + 1, { s with ans := tellV x s }, true) else (p + 1 + skipV x (doV d x s), doV d x s, false)

theorem stepP_on {d : Da} {x : In} {p : Int} {s s' : St} {k : Int} (he : endV x s = false) (hd : doV d x s = s') (hk : skipV x s' = k) : stepP d x p s = (p + 1 + k, s', false) := by
  unfold stepP
  rw [if_neg (by rw [he]; decide), hd, hk]
theorem stepP_on0 {d : Da} {x : In} {p : Int} {s s' : St} (he : endV x s = false) (hd : doV d x s = s') (hk : skipV x s' = 0) : stepP d x p s = (p + 1, s', false) := by
  rw [stepP_on he hd hk, Int.add_zero]
theorem stepP_end {d : Da} {x : In} {p : Int} {s : St} {v : Int} (he : endV x s = true) (ht : tellV x s = v) : stepP d x p s = (p + 1, { s with ans := v }, true) := by
  unfold stepP
  rw [if_pos he, ht]

/-- what Step tells. -/
def StepTold (w w' : World) (e : Ending) (st : Int) (r : Int × St × Bool) : Prop := e = .returned (.agg (rcells r.1 (st + 1) r.2.1 r.2.2).toArray) ∧ Below w.heap.size w w'

theorem refStep_any (x : In) (p st len cap ib off n : Nat) (s : St) (d : Da) (w : World) (hd : d.ok) (hp : p < len) (hlen : len ≤ 4096) (hst : st ≤ 4096) (hx : x.ok) (hs : s.ok) (h0 : s.ans = 0) (hf : fault x n = 0) (hat : In.at x w ib (off + p * 4)) :
    Calls Try.prog 38 #[.slice (some ⟨ib, off, none⟩) len cap, d.val, .agg (rcells p st s false).toArray] w fun e w' => StepTold w w' e st (stepP d x p s) := by
  obtain ⟨hk, hl, hr, -, -⟩ := fault_parts x n hf
  obtain ⟨hc, ht, hff, hkb⟩ := hx
  have hcs := known_cases x.c hc.1 hc.2 hk
  obtain ⟨c, t, f, k⟩ := x
  dsimp only at *
  have hu : U32 k := hkb
  clear hk hkb hf hc
  have hcs2 : c = 32 ∨ c = 0 ∨ c = 1 ∨ c = 96 ∨ c = 97 ∨ c = 2 ∨ c = 3 ∨ c = 4 ∨ c = 20 ∨ c = 36 ∨ c = 52 ∨ c = 68 ∨ c = 84 ∨ c = 100 ∨ c = 116 ∨ c = 132 ∨ c = 164 ∨ c = 5 ∨ c = 21 ∨ c = 37 ∨ c = 53 ∨ c = 69 ∨ c = 6 ∨ c = 22 ∨ c = 7 ∨ c = 135 ∨ c = 12 ∨ c = 28 ∨ c = 44 ∨ c = 60 ∨ c = 76 ∨ c = 92 ∨ c = 108 ∨ c = 124 ∨ c = 172 ∨ c = 29 ∨ c = 45 ∨ c = 61 ∨ c = 77 := by
    simp only [plainL, withL, List.mem_cons, List.not_mem_nil, or_false] at hcs
    omega
  clear hcs
  have key : ∀ (r : Int × St × Bool), stepP d ⟨c, t, f, k⟩ p s = r → Calls Try.prog 38 #[.slice (some ⟨ib, off, none⟩) len cap, d.val, .agg (rcells p st s false).toArray] w (fun e w' => e = .returned (.agg (rcells r.1 (st + 1) r.2.1 r.2.2).toArray) ∧ Below w.heap.size w w') → Calls Try.prog 38 #[.slice (some ⟨ib, off, none⟩) len cap, d.val, .agg (rcells p st s false).toArray] w fun e w' => StepTold w w' e st (stepP d ⟨c, t, f, k⟩ p s) := by
    intro r hr h
    rw [hr]
    exact h
  have hkn : (16 ≤ k → False) → ∃ kk : Nat, kk < 16 ∧ k = (kk : Int) := fun h => ⟨k.toNat, by have h1 : ¬ 16 ≤ k := h; have := hu.1; omega, by have := hu.1; omega⟩
  rcases hcs2 with rfl | rfl | rfl | rfl | rfl | rfl | rfl | rfl | rfl | rfl | rfl | rfl | rfl | rfl | rfl | rfl | rfl | rfl | rfl | rfl | rfl | rfl | rfl | rfl | rfl | rfl | rfl | rfl | rfl | rfl | rfl | rfl | rfl | rfl | rfl | rfl | rfl | rfl | rfl
  · exact key _ (stepP_on0 (by kernel_rfl) (by kernel_rfl) (by kernel_rfl)) (step_32 t f k p st len cap ib off s d w hd hp hlen hst hu hat)
  · exact key _ (stepP_on0 (by kernel_rfl) (by kernel_rfl) (by kernel_rfl)) (step_0 t f k p st len cap ib off s d w hd hp hlen hst hat)
  · exact key _ (stepP_on0 (by kernel_rfl) (by kernel_rfl) (by kernel_rfl)) (step_1 t f k p st len cap ib off s d w hd hp hlen hst hat)
  · obtain ⟨kk, h16, rfl⟩ := hkn (fun h => by have e : loadsB 96 k = decide (16 ≤ k) := by kernel_rfl
                                              rw [e, decide_eq_false_iff_not] at hl; exact hl h)
    exact key _ (stepP_on0 (by kernel_rfl) (by kernel_rfl) (by kernel_rfl)) (step_96 t f 0 p st len cap ib off s d w hd hp hlen hst kk h16 hat)
  · obtain ⟨kk, h16, rfl⟩ := hkn (fun h => by have e : loadsB 97 k = decide (16 ≤ k) := by kernel_rfl
                                              rw [e, decide_eq_false_iff_not] at hl; exact hl h)
    exact key _ (stepP_on0 (by kernel_rfl) (by kernel_rfl) (by kernel_rfl)) (step_97 t f 0 p st len cap ib off s d w hd hp hlen hst kk h16 hat)
  · obtain ⟨kk, h16, rfl⟩ := hkn (fun h => by have e : loadsB 2 k = decide (16 ≤ k) := by kernel_rfl
                                              rw [e, decide_eq_false_iff_not] at hl; exact hl h)
    exact key _ (stepP_on0 (by kernel_rfl) (by kernel_rfl) (by kernel_rfl)) (step_2 t f 0 p st len cap ib off s d w hd hp hlen hst kk h16 hat)
  · obtain ⟨kk, h16, rfl⟩ := hkn (fun h => by have e : loadsB 3 k = decide (16 ≤ k) := by kernel_rfl
                                              rw [e, decide_eq_false_iff_not] at hl; exact hl h)
    exact key _ (stepP_on0 (by kernel_rfl) (by kernel_rfl) (by kernel_rfl)) (step_3 t f 0 p st len cap ib off s d w hd hp hlen hst kk h16 hat)
  · exact key _ (stepP_on0 (by kernel_rfl) (by kernel_rfl) (by kernel_rfl)) (step_4 t f k p st len cap ib off s d w hd hp hlen hst hs hu hat)
  · exact key _ (stepP_on0 (by kernel_rfl) (by kernel_rfl) (by kernel_rfl)) (step_20 t f k p st len cap ib off s d w hd hp hlen hst hs hu hat)
  · exact key _ (stepP_on0 (by kernel_rfl) (by kernel_rfl) (by kernel_rfl)) (step_36 t f k p st len cap ib off s d w hd hp hlen hst hs hu hat)
  · have hz : ¬ k = 0 := by
      have e : reckB 52 k = (k == 0) := by unfold reckB; simp
      rw [e] at hr
      simpa using hr
    exact key _ (stepP_on0 (by kernel_rfl) (by kernel_rfl) (by kernel_rfl)) (step_52 t f k p st len cap ib off s d w hd hp hlen hst hs hu hz hat)
  · exact key _ (stepP_on0 (by kernel_rfl) (by kernel_rfl) (by kernel_rfl)) (step_68 t f k p st len cap ib off s d w hd hp hlen hst hs hu hat)
  · exact key _ (stepP_on0 (by kernel_rfl) (by kernel_rfl) (by kernel_rfl)) (step_84 t f k p st len cap ib off s d w hd hp hlen hst hs hu hat)
  · exact key _ (stepP_on0 (by kernel_rfl) (by kernel_rfl) (by kernel_rfl)) (step_100 t f k p st len cap ib off s d w hd hp hlen hst hs hu hat)
  · exact key _ (stepP_on0 (by kernel_rfl) (by kernel_rfl) (by kernel_rfl)) (step_116 t f k p st len cap ib off s d w hd hp hlen hst hs hu hat)
  · exact key _ (stepP_on0 (by kernel_rfl) (by kernel_rfl) (by kernel_rfl)) (step_132 t f k p st len cap ib off s d w hd hp hlen hst hat)
  · exact key _ (stepP_on0 (by kernel_rfl) (by kernel_rfl) (by kernel_rfl)) (step_164 t f k p st len cap ib off s d w hd hp hlen hst hs hu hat)
  · exact key _ (stepP_on (by kernel_rfl) (by kernel_rfl) (by kernel_rfl)) (step_5 t f k p st len cap ib off s d w hd hp hlen hst hu hat)
  · have e : skipV ⟨21, t, f, k⟩ s = if holdsV 21 s.a k = true then t else f := by kernel_rfl
    cases hb : holdsV 21 s.a k with
    | true => exact key _ (stepP_on (s' := s) (k := t) (by kernel_rfl) (by kernel_rfl) (by rw [e, hb]; rfl)) (step_21_true t f k p st len cap ib off s d w hd hp hlen hst ht hb hat)
    | false => exact key _ (stepP_on (s' := s) (k := f) (by kernel_rfl) (by kernel_rfl) (by rw [e, hb]; rfl)) (step_21_false t f k p st len cap ib off s d w hd hp hlen hst hff hb hat)
  · have e : skipV ⟨37, t, f, k⟩ s = if holdsV 37 s.a k = true then t else f := by kernel_rfl
    cases hb : holdsV 37 s.a k with
    | true => exact key _ (stepP_on (s' := s) (k := t) (by kernel_rfl) (by kernel_rfl) (by rw [e, hb]; rfl)) (step_37_true t f k p st len cap ib off s d w hd hp hlen hst ht hb hat)
    | false => exact key _ (stepP_on (s' := s) (k := f) (by kernel_rfl) (by kernel_rfl) (by rw [e, hb]; rfl)) (step_37_false t f k p st len cap ib off s d w hd hp hlen hst hff hb hat)
  · have e : skipV ⟨53, t, f, k⟩ s = if holdsV 53 s.a k = true then t else f := by kernel_rfl
    cases hb : holdsV 53 s.a k with
    | true => exact key _ (stepP_on (s' := s) (k := t) (by kernel_rfl) (by kernel_rfl) (by rw [e, hb]; rfl)) (step_53_true t f k p st len cap ib off s d w hd hp hlen hst ht hb hat)
    | false => exact key _ (stepP_on (s' := s) (k := f) (by kernel_rfl) (by kernel_rfl) (by rw [e, hb]; rfl)) (step_53_false t f k p st len cap ib off s d w hd hp hlen hst hff hb hat)
  · have e : skipV ⟨69, t, f, k⟩ s = if holdsV 69 s.a k = true then t else f := by kernel_rfl
    cases hb : holdsV 69 s.a k with
    | true => exact key _ (stepP_on (s' := s) (k := t) (by kernel_rfl) (by kernel_rfl) (by rw [e, hb]; rfl)) (step_69_true t f k p st len cap ib off s d w hd hp hlen hst ht hb hat)
    | false => exact key _ (stepP_on (s' := s) (k := f) (by kernel_rfl) (by kernel_rfl) (by rw [e, hb]; rfl)) (step_69_false t f k p st len cap ib off s d w hd hp hlen hst hff hb hat)
  · exact key _ (stepP_end (by kernel_rfl) (by kernel_rfl)) (step_6 t f k p st len cap ib off s d w hd hp hlen hst hat)
  · exact key _ (stepP_end (by kernel_rfl) (by kernel_rfl)) (step_22 t f k p st len cap ib off s d w hd hp hlen hst hat)
  · exact key _ (stepP_on0 (by kernel_rfl) (by kernel_rfl) (by kernel_rfl)) (step_7 t f k p st len cap ib off s d w hd hp hlen hst hat)
  · exact key _ (stepP_on0 (by kernel_rfl) (by kernel_rfl) (by kernel_rfl)) (step_135 t f k p st len cap ib off s d w hd hp hlen hst hat)
  · exact key _ (stepP_on0 (by kernel_rfl) (by kernel_rfl) (by kernel_rfl)) (step_12 t f k p st len cap ib off s d w hd hp hlen hst hs hat)
  · exact key _ (stepP_on0 (by kernel_rfl) (by kernel_rfl) (by kernel_rfl)) (step_28 t f k p st len cap ib off s d w hd hp hlen hst hs hat)
  · exact key _ (stepP_on0 (by kernel_rfl) (by kernel_rfl) (by kernel_rfl)) (step_44 t f k p st len cap ib off s d w hd hp hlen hst hs hat)
  · by_cases hz : s.x = 0
    · have hs0 : ({ s with ans := 0 } : St) = s := by rw [← h0]
      have e := stepP_end (d := d) (x := ⟨60, t, f, k⟩) (p := p) (s := s) (v := 0) (by unfold endV; simp [hz]) (by kernel_rfl)
      rw [hs0] at e
      exact key _ e (step_60z t f k p st len cap ib off s d w hd hp hlen hst hz hat)
    · exact key _ (stepP_on0 (by unfold endV; simp [hz, endL, isIn_cons, isIn_nil]) (by kernel_rfl) (by kernel_rfl)) (step_60 t f k p st len cap ib off s d w hd hp hlen hst hs hz hat)
  · exact key _ (stepP_on0 (by kernel_rfl) (by kernel_rfl) (by kernel_rfl)) (step_76 t f k p st len cap ib off s d w hd hp hlen hst hs hat)
  · exact key _ (stepP_on0 (by kernel_rfl) (by kernel_rfl) (by kernel_rfl)) (step_92 t f k p st len cap ib off s d w hd hp hlen hst hs hat)
  · exact key _ (stepP_on0 (by kernel_rfl) (by kernel_rfl) (by kernel_rfl)) (step_108 t f k p st len cap ib off s d w hd hp hlen hst hs hat)
  · exact key _ (stepP_on0 (by kernel_rfl) (by kernel_rfl) (by kernel_rfl)) (step_124 t f k p st len cap ib off s d w hd hp hlen hst hs hat)
  · exact key _ (stepP_on0 (by kernel_rfl) (by kernel_rfl) (by kernel_rfl)) (step_172 t f k p st len cap ib off s d w hd hp hlen hst hs hat)
  · have e : skipV ⟨29, t, f, k⟩ s = if holdsV 21 s.a s.x = true then t else f := by kernel_rfl
    cases hb : holdsV 21 s.a s.x with
    | true => exact key _ (stepP_on (s' := s) (k := t) (by kernel_rfl) (by kernel_rfl) (by rw [e, hb]; rfl)) (step_29_true t f k p st len cap ib off s d w hd hp hlen hst ht hb hat)
    | false => exact key _ (stepP_on (s' := s) (k := f) (by kernel_rfl) (by kernel_rfl) (by rw [e, hb]; rfl)) (step_29_false t f k p st len cap ib off s d w hd hp hlen hst hff hb hat)
  · have e : skipV ⟨45, t, f, k⟩ s = if holdsV 37 s.a s.x = true then t else f := by kernel_rfl
    cases hb : holdsV 37 s.a s.x with
    | true => exact key _ (stepP_on (s' := s) (k := t) (by kernel_rfl) (by kernel_rfl) (by rw [e, hb]; rfl)) (step_45_true t f k p st len cap ib off s d w hd hp hlen hst ht hb hat)
    | false => exact key _ (stepP_on (s' := s) (k := f) (by kernel_rfl) (by kernel_rfl) (by rw [e, hb]; rfl)) (step_45_false t f k p st len cap ib off s d w hd hp hlen hst hff hb hat)
  · have e : skipV ⟨61, t, f, k⟩ s = if holdsV 53 s.a s.x = true then t else f := by kernel_rfl
    cases hb : holdsV 53 s.a s.x with
    | true => exact key _ (stepP_on (s' := s) (k := t) (by kernel_rfl) (by kernel_rfl) (by rw [e, hb]; rfl)) (step_61_true t f k p st len cap ib off s d w hd hp hlen hst ht hb hat)
    | false => exact key _ (stepP_on (s' := s) (k := f) (by kernel_rfl) (by kernel_rfl) (by rw [e, hb]; rfl)) (step_61_false t f k p st len cap ib off s d w hd hp hlen hst hff hb hat)
  · have e : skipV ⟨77, t, f, k⟩ s = if holdsV 69 s.a s.x = true then t else f := by kernel_rfl
    cases hb : holdsV 69 s.a s.x with
    | true => exact key _ (stepP_on (s' := s) (k := t) (by kernel_rfl) (by kernel_rfl) (by rw [e, hb]; rfl)) (step_77_true t f k p st len cap ib off s d w hd hp hlen hst ht hb hat)
    | false => exact key _ (stepP_on (s' := s) (k := f) (by kernel_rfl) (by kernel_rfl) (by rw [e, hb]; rfl)) (step_77_false t f k p st len cap ib off s d w hd hp hlen hst hff hb hat)

end Go.Proofs.Ytamioifoemklfaa.V

namespace Go.Proofs.Ytamioifoemklfaa.V
open Go.RowKit

theorem doV_ans (d : Da) (x : In) (s : St) : (doV d x s).ans = s.ans := by
  unfold doV
  repeat' split
  all_goals rfl

/-- a run under way, by the document's words. -/
structure Rr (ins : List In) (d : Da) (Z : List Int × St) (i : Nat) (ps : List Int) (p : Nat) (s : St) (ov : Bool) : Prop where
  pl : ps.length = i
  il : i ≤ ins.length
  on : ov = false → p < ins.length ∧ i ≤ p ∧ s.ok ∧ s.ans = 0 ∧ (ps ++ (runV ins d (ins.length - p) p s).1.map (fun q : Nat => (q : Int)), (runV ins d (ins.length - p) p s).2) = Z
  over : ov = true → ps = Z.1 ∧ s.ans = Z.2.ans

/-- a program that may be run. -/
structure Fit (ins : List In) : Prop where
  ok : ∀ x ∈ ins, x.ok
  pos : 0 < ins.length
  le : ins.length ≤ 4096
  ff : ∀ (p : Nat) (x : In), ins[p]? = some x → fault x (ins.length - 1 - p) = 0

theorem fit_of (ins : List In) (h : errV ins = 0) (ho : ∀ x ∈ ins, x.ok) : Fit ins := by
  obtain ⟨h1, h2, h3, _⟩ := chk_ok ins h
  refine ⟨ho, h1, h2, fun p x hx => ?_⟩
  have hp : p < ins.length := (List.getElem?_eq_some_iff.1 hx).1
  have := ff_all ins 0 h3 p hp
  rw [List.getElem?_eq_getElem hp] at hx
  cases hx
  exact this

theorem Rr.step {ins : List In} {d : Da} {Z : List Int × St} {i : Nat} {ps : List Int} {p : Nat} {s : St} (hF : Fit ins) (hd : d.ok) (h : Rr ins d Z i ps p s false) (x : In) (hx : ins[p]? = some x) :
    ∃ p2 : Nat, (stepP d x p s).1 = p2 ∧ Rr ins d Z (i + 1) (ps ++ [(p : Int)]) p2 (stepP d x p s).2.1 (stepP d x p s).2.2 := by
  obtain ⟨hp, hip, hs, h0, heq⟩ := h.on rfl
  have hxo := hF.ok x (List.mem_of_getElem? hx)
  have hstep := runV_step ins d hF.ok p s x hx
  have hl : (ps ++ [(p : Int)]).length = i + 1 := by rw [List.length_append, h.pl]; rfl
  cases he : endV x s with
  | true =>
    have e1 : stepP d x p s = ((p : Int) + 1, { s with ans := tellV x s }, true) := stepP_end he rfl
    have e2 : nextV ins.length d x p s = ((ins.length : Int), { s with ans := tellV x s }) := by unfold nextV; rw [if_pos he]
    rw [e1]
    refine ⟨p + 1, by simp, hl, by omega, fun h => (by have h' : true = false := h; cases h'), fun _ => ?_⟩
    rw [e2] at hstep
    dsimp only at hstep
    rw [runV_none ins d (ins.length - ((ins.length : Nat) : Int).toNat) ((ins.length : Nat) : Int).toNat _ (by omega)] at hstep
    rw [hstep] at heq
    subst heq
    exact ⟨by simp, rfl⟩
  | false =>
    obtain ⟨q, hq, hpq, hql, _⟩ := next_goes ins d p s x hx hxo (hF.ff p x hx) he
    have e2 : nextV ins.length d x p s = ((p : Int) + 1 + skipV x (doV d x s), doV d x s) := by unfold nextV; rw [if_neg (by rw [he]; decide)]
    have e1 : stepP d x p s = ((p : Int) + 1 + skipV x (doV d x s), doV d x s, false) := stepP_on he rfl rfl
    rw [e1]
    rw [e2] at hq hstep
    dsimp only at hq hstep ⊢
    refine ⟨q, hq, hl, by omega, fun _ => ⟨hql, by omega, doV_ok d x s hd hxo hs, by rw [doV_ans]; exact h0, ?_⟩, fun h => by cases h⟩
    rw [hq] at hstep
    rw [show ((q : Int)).toNat = q from by omega] at hstep
    rw [← heq, hstep]
    simp

theorem Rr.start (ins : List In) (d : Da) (hF : Fit ins) : Rr ins d ((allV ins d).1.map (fun q : Nat => (q : Int)), (allV ins d).2) 0 [] 0 St.zero false :=
  ⟨rfl, Nat.zero_le _, fun _ => ⟨hF.pos, Nat.le_refl _, zero_st, rfl, rfl⟩, fun h => by cases h⟩

theorem srun_open (w1 : World) : ∃ X, Hid (((w1.alloc (Obj.cells #[.int .i64 0, .int .i64 0, .int .u32 0, .int .u32 0, .int .u32 0, .int .u32 0, .int .u32 0, .int .u32 0, .int .u32 0, .int .u32 0, .int .u32 0, .int .u32 0, .int .u32 0, .int .u32 0, .int .u32 0, .int .u32 0, .int .u32 0, .int .u32 0, .int .u32 0, .int .u32 0, .bool false, .int .u32 0] 77)).setRow w1.heap.size (rcells 0 0 St.zero false).toArray) = X) ∧ RB X w1.heap.size 0 0 St.zero false ∧ Below w1.heap.size w1 X := by
  refine ⟨_, rfl, Blk.row (blk_new w1 #[.int .i64 0, .int .i64 0, .int .u32 0, .int .u32 0, .int .u32 0, .int .u32 0, .int .u32 0, .int .u32 0, .int .u32 0, .int .u32 0, .int .u32 0, .int .u32 0, .int .u32 0, .int .u32 0, .int .u32 0, .int .u32 0, .int .u32 0, .int .u32 0, .int .u32 0, .int .u32 0, .bool false, .int .u32 0] 77) _, below_setRow (below_new w1 _) (Nat.le_refl _) _⟩

set_option maxHeartbeats 4000000 in
theorem refRun_any (a : Option Addr) (len cap : Nat) (ins : List In) (d : Da) (w : World) (hlen : len ≤ maxLen) (h : Ins w a len ins) (hd : d.ok) :
    Calls Try.prog 26 #[.slice a len cap, d.val] w fun e w' => RunTold w w' e ins d := by
  have hll := h.1
  have HI : Hid (Ins w a len ins) := h
  have HC : Hid (∀ X, Below w.heap.size w X → Calls Try.prog 23 #[.slice a len cap] X fun e w' => Told X w' e (chk ins)) := fun X hX => refCheck_any a len cap ins X hlen (h.below hX)
  have HD : Hid d.ok := hd
  by_cases he : errV ins = 0
  · have hF : Fit ins := fit_of ins he h.2.1
    have HF : Hid (Fit ins) := hF
    have h4 : len ≤ 4096 := by have := hF.le; omega
    have hpos : 0 < len := by have := hF.pos; omega
    have HA : Hid (ansV ins d = ((allV ins d).1.map (fun q : Nat => (q : Int)), (allV ins d).2).2.ans) := by unfold Hid ansV; rw [if_pos he]
    have HP : Hid ((plV ins d).length = ((allV ins d).1.map (fun q : Nat => (q : Int)), (allV ins d).2).1.length) := by unfold Hid plV; rw [if_pos he]
    have HE : Hid (errV ins = 0) := he
    have hc0 : (chk ins).1 = 0 := he
    have HS : Hid (Rr ins d ((allV ins d).1.map (fun q : Nat => (q : Int)), (allV ins d).2) 0 [] 0 St.zero false) := Rr.start ins d hF
    have HSD : Hid ((Try.prog.info? 27).map (·.size) = some d.cells.toArray.size) := by unfold Hid; rw [Try.size27]; simp [d.cells_len hd]
    clear he hd h hF
    generalize ((allV ins d).1.map (fun q : Nat => (q : Int)), (allV ins d).2) = Z at *
    generalize chk ins = ck at *
    obtain ⟨c1, c2⟩ := ck
    dsimp only at hc0
    subst hc0
    unfold Da.val
    have HBn : Hid (∀ X, Below (w.alloc (Obj.cells d.cells.toArray 27)).heap.size (w.alloc (Obj.cells d.cells.toArray 27)) X → Blk X w.heap.size 27 d.cells ∧ Below w.heap.size w X) := fun X hX => ⟨(blk_new w d.cells.toArray 27).over hX, (below_new w _).trans (hX.mono (below_new w _).size)⟩
    go_enter Try.func26, Try.ntmps26
    go_wp2_with (first | (go_at_call 23; refine (HC.out _ (below_new _ _)).mono ?_; rintro e w1 ⟨rfl, b1⟩; obtain ⟨X, HX, hX, bX⟩ := srun_open w1; have HXX : Hid (RB X w1.heap.size 0 0 St.zero false ∧ Below w1.heap.size w1 X) := ⟨hX, bX⟩; clear hX bX) | (refine at_op (.store 77 (.tmp 9) (.tmp 19)) rfl ?_; refine wpList_store_row rfl 77 (.tmp 9) (.tmp 19) rfl w1.heap.size (rcells 0 0 St.zero false).toArray rfl rfl 77 _ (blk_new w1 #[.int .i64 0, .int .i64 0, .int .u32 0, .int .u32 0, .int .u32 0, .int .u32 0, .int .u32 0, .int .u32 0, .int .u32 0, .int .u32 0, .int .u32 0, .int .u32 0, .int .u32 0, .int .u32 0, .int .u32 0, .int .u32 0, .int .u32 0, .int .u32 0, .int .u32 0, .int .u32 0, .bool false, .int .u32 0] 77) r55 rfl (rcells_one _ _ _ _) ?_))
    have HB1 := HBn.out w1 b1
    have hg : w.heap.size < w1.heap.size := HB1.1.lt
    go_loopw [10] (fun v wr => ∃ (i : Nat) (ps : List Int) (p : Nat) (s : St) (ov : Bool), v = .int .i64 i ∧ Rr ins d Z i ps p s ov ∧ RB wr w1.heap.size p i s ov ∧ Blk wr w.heap.size 27 d.cells ∧ Below w.heap.size w wr) (fun v _ => len + 1 - (intOf v).toNat)
    case atStart =>
      have hX2 := HX.out
      subst hX2
      exact ⟨0, [], 0, St.zero, false, rfl, HS.out, HXX.out.1, HB1.1.over HXX.out.2, HB1.2.trans (HXX.out.2.mono (by omega))⟩
    case round =>
      obtain ⟨i, ps, p, s, ov, rfl, hR, hB, hDd, hbr⟩ := hrel
      have c20 : wr.cell? ⟨w1.heap.size, 20, none⟩ = some (.bool ov) := Blk.cell hB 20
      have hil : (i : Int) ≤ (len : Int) := by have := hR.il; omega
      cases ov with
      | false =>
        obtain ⟨hp, hip, hs, h0, -⟩ := hR.on rfl
        obtain ⟨x, hx⟩ : ∃ x, ins[p]? = some x := ⟨ins[p], List.getElem?_eq_getElem hp⟩
        obtain ⟨ib, off, ha, hc⟩ := (HI.out.below hbr).2.2 (by omega)
        subst ha
        have HQ : Hid (Calls Try.prog 38 #[.slice (some ⟨ib, off, none⟩) len cap, .agg d.cells.toArray, .agg (rcells p i s false).toArray] wr fun e w' => StepTold wr w' e i (stepP d x p s)) := refStep_any x p i len cap ib off _ s d wr HD.out (by omega) h4 (by omega) (HF.out.ok x (List.mem_of_getElem? hx)) hs h0 (HF.out.ff p x hx) (hc p x hx)
        obtain ⟨p2, hp2, hR2⟩ := hR.step HF.out HD.out x hx
        have HR2 : Hid (Rr ins d Z (i + 1) (ps ++ [(p : Int)]) p2 (stepP d x p s).2.1 (stepP d x p s).2.2) := hR2
        have HDd : Hid (Blk wr w.heap.size 27 d.cells) := hDd
        have HB : Hid (RB wr w1.heap.size p i s false) := hB
        unfold StepTold at HQ
        clear hR hR2 hx hc hs h0 hDd hB
        generalize stepP d x p s = r at *
        obtain ⟨r1, r2, r3⟩ := r
        dsimp only at *
        subst hp2
        go_wp2_with (first | (refine at_op (.load 27 (.tmp 3)) rfl ?_; refine wpList_load_row rfl 27 (.tmp 3) rfl w.heap.size rfl 27 d.cells.toArray (0, 0) _ HDd.out Try.underlying27 rfl HSD.out ?_) | (refine at_op (.load 77 (.tmp 9)) rfl ?_; refine wpList_load_row rfl 77 (.tmp 9) rfl w1.heap.size rfl 77 (rcells p i s false).toArray (0, 0) _ HB.out Try.underlying77 rfl r55 ?_) | (go_at_call 38; refine HQ.out.mono ?_; rintro e w2 ⟨rfl, b2⟩; have HB2 : Hid (RB w2 w1.heap.size p i s false) := Blk.over HB.out b2; have HD2 : Hid (Blk w2 w.heap.size 27 d.cells) := HDd.out.over b2; have HW2 : Hid (Below w.heap.size w w2) := hbr.trans (b2.mono hbr.size)) | (refine at_op (.store 77 (.tmp 9) (.tmp 34)) rfl ?_; refine wpList_store_row rfl 77 (.tmp 9) (.tmp 34) rfl w1.heap.size (rcells p2 (i + 1) r2 r3).toArray rfl rfl 77 _ HB2.out r55 rfl (rcells_one _ _ _ _) ?_; generalize hX2 : w2.setRow w1.heap.size (rcells p2 (i + 1) r2 r3).toArray = X2))
        go_roundw
        case rel =>
          subst hX2
          exact ⟨i + 1, ps ++ [(p : Int)], p2, r2, r3, by go_num, HR2.out, Blk.row HB2.out _, HD2.out.row_other _ _ (by omega), below_setRow HW2.out (by omega) _⟩
        case measure =>
          have := HR2.out.il
          simp [intOf]
          omega
      | true =>
        obtain ⟨hz1, hz2⟩ := hR.over rfl
        have c21 : wr.cell? ⟨w1.heap.size, 21, none⟩ = some (.int .u32 s.ans) := Blk.cell hB 21
        have c1 : wr.cell? ⟨w1.heap.size, 1, none⟩ = some (.int .i64 i) := Blk.cell hB 1
        have hz3 := hR.pl
        have HZ1 : Hid (Z.1.length = i) := by unfold Hid; rw [← hz1]; exact hz3
        have HZ2 : Hid (s.ans = Z.2.ans) := hz2
        clear hR hB hDd hz1 hz2 hz3
        go_wp2
        go_region
        all_goals
          go_wp2
          go_ret3
          unfold RunTold
          rw [HA.out, HP.out, HE.out, HZ1.out, ← HZ2.out]
          exact ⟨rfl, hbr.drew⟩
  · have HA : Hid (ansV ins d = 0) := by unfold Hid ansV; rw [if_neg he]
    have HP : Hid (plV ins d = []) := by unfold Hid plV; rw [if_neg he]
    have HE : Hid (errV ins = (chk ins).1) := rfl
    have hc0 : ¬ (chk ins).1 = 0 := he
    clear he hd h HI
    unfold Da.val
    generalize chk ins = ck at *
    obtain ⟨c1, c2⟩ := ck
    dsimp only at hc0
    generalize d.cells.toArray = A at *
    have hb : ∀ o, Below w.heap.size w (w.alloc o) := fun o => below_new w o
    go_enter Try.func26, Try.ntmps26
    go_wp2_with (first | (go_at_call 23; refine (HC.out _ (hb _)).mono ?_; rintro e w1 ⟨rfl, b1⟩))
    go_ret3
    unfold RunTold
    rw [HA.out, HE.out, HP.out]
    exact ⟨rfl, (below_new w _).trans (b1.mono (by rw [size_alloc']; omega))⟩

end Go.Proofs.Ytamioifoemklfaa.V
