/-
  The program's Send.
-/
import Derived.Test.YtlckconhhhllkaaTAdd
namespace Go.Proofs.Ytlckconhhhllkaa
open Go.RowKit Go.Maps

theorem below_set {C : Nat} {w : World} {b i : Nat} {v : Value} (h : C ≤ b) : Below C w (w.setCell ⟨b, i, none⟩ v) :=
  ⟨by simp [World.setCell], by simp [World.setCell], by simp [World.setCell], by simp, fun k hk => heap_setCell_other w ⟨b, i, none⟩ k v (fun e => by have : k = b := e; omega)⟩
theorem grown_set (w : World) (b i : Nat) (v : Value) : w.grownBy (w.setCell ⟨b, i, none⟩ v) (some b) :=
  ⟨by simp [World.setCell], by simp [World.setCell], by simp [World.setCell], by simp, fun k _ hn => heap_setCell_other w ⟨b, i, none⟩ k v (fun e => hn (by have : k = b := e; rw [this]))⟩
theorem put6_grown {w : World} {be : Nat} {x : En} : w.grownBy (put6 w be x) (some be) :=
  (grown_set w be 0 _).trans ((grown_set _ be 1 _).trans ((grown_set _ be 2 _).trans ((grown_set _ be 3 _).trans ((grown_set _ be 4 _).trans (grown_set _ be 5 _)))))

theorem left_or {L : List En} (hu : L.Pairwise fun x y => x.id < y.id) {left : Lit → Bool} {x y : En} (hx : x ∈ L) (hy : y ∈ L) (h : (left (litU y.id) && !(litU y.id).sameKey (litU x.id)) = false) : y = x ∨ left (litU y.id) = false := by
  rw [same_litU] at h
  by_cases e : y.id = x.id
  · have e3 := findI_of hu hy
    have e4 := findI_of hu hx
    rw [e, e4] at e3
    cases e3
    exact .inl rfl
  · simp [e] at h
    exact .inr h
/-- the least so far that was not sent. -/
def Best (L : List En) (left : Lit → Bool) (q : Bool) (y : En) : Prop := (q = false ∧ ∀ x ∈ L, left (litU x.id) = false → x.st ≠ 1) ∨ (q = true ∧ y ∈ L ∧ y.st = 1 ∧ ∀ x ∈ L, left (litU x.id) = false → x.st = 1 → y.id ≤ x.id)
section
variable {L : List En} {left : Lit → Bool} {q : Bool} {x y : En}
theorem Best.skip (h : Best L left q y) (hu : L.Pairwise fun x y => x.id < y.id) (hx : x ∈ L) (h1 : x.st ≠ 1) : Best L (fun z => left z && !z.sameKey (litU x.id)) q y := by
  rcases h with ⟨e, h⟩ | ⟨e, h2, h3, h⟩
  · refine .inl ⟨e, fun z hz hl => ?_⟩
    rcases left_or hu hx hz hl with rfl | hl
    · exact h1
    · exact h z hz hl
  · refine .inr ⟨e, h2, h3, fun z hz hl hs => ?_⟩
    rcases left_or hu hx hz hl with rfl | hl
    · exact absurd hs h1
    · exact h z hz hl hs
theorem Best.first (h : Best L left false y) (hu : L.Pairwise fun x y => x.id < y.id) (hx : x ∈ L) (h1 : x.st = 1) : Best L (fun z => left z && !z.sameKey (litU x.id)) true x := by
  rcases h with ⟨_, h⟩ | ⟨e, _⟩
  · refine .inr ⟨rfl, hx, h1, fun z hz hl hs => ?_⟩
    rcases left_or hu hx hz hl with rfl | hl
    · exact Int.le_refl _
    · exact absurd hs (h z hz hl)
  · cases e
theorem Best.less (h : Best L left true y) (hu : L.Pairwise fun x y => x.id < y.id) (hx : x ∈ L) (h1 : x.st = 1) (hl : x.id < y.id) : Best L (fun z => left z && !z.sameKey (litU x.id)) true x := by
  rcases h with ⟨e, _⟩ | ⟨_, h2, h3, h⟩
  · cases e
  · refine .inr ⟨rfl, hx, h1, fun z hz hl2 hs => ?_⟩
    rcases left_or hu hx hz hl2 with rfl | hl2
    · exact Int.le_refl _
    · have := h z hz hl2 hs
      omega
theorem Best.more (h : Best L left true y) (hu : L.Pairwise fun x y => x.id < y.id) (hx : x ∈ L) (hl : ¬ x.id < y.id) : Best L (fun z => left z && !z.sameKey (litU x.id)) true y := by
  rcases h with ⟨e, _⟩ | ⟨_, h2, h3, h⟩
  · cases e
  · refine .inr ⟨rfl, h2, h3, fun z hz hl2 hs => ?_⟩
    rcases left_or hu hx hz hl2 with rfl | hl2
    · omega
    · exact h z hz hl2 hs
end

set_option maxHeartbeats 16000000 in
set_option maxRecDepth 8000 in
theorem send_any (w : World) (b B : Nat) (s : Nt) (h : TaV w b B s) (ho : Ok s) :
    Calls Try.prog 22 #[.pointer (some ⟨b, 0, none⟩)] w fun e w' => e = .returned (optV (sendO s.L)) ∧ Rs w w' b B (sendS s) := by
  have HT : Hid (TaV w b B s ∧ Ok s) := ⟨h, ho⟩
  have HZ : Hid (Blk ((w.alloc (.cells #[.int .u64 0, .int .i64 0, .int .i64 0, .int .i64 0, .int .i64 0, .int .i64 0] 44)).alloc (.cells #[.int .u64 0, .int .i64 0, .int .i64 0, .int .i64 0, .int .i64 0, .int .i64 0] 44)) w.heap.size 44 [.int .u64 0, .int .i64 0, .int .i64 0, .int .i64 0, .int .i64 0, .int .i64 0] ∧ Blk ((w.alloc (.cells #[.int .u64 0, .int .i64 0, .int .i64 0, .int .i64 0, .int .i64 0, .int .i64 0] 44)).alloc (.cells #[.int .u64 0, .int .i64 0, .int .i64 0, .int .i64 0, .int .i64 0, .int .i64 0] 44)) (w.heap.size + 1) 44 [.int .u64 0, .int .i64 0, .int .i64 0, .int .i64 0, .int .i64 0, .int .i64 0] ∧ Below w.heap.size w ((w.alloc (.cells #[.int .u64 0, .int .i64 0, .int .i64 0, .int .i64 0, .int .i64 0, .int .i64 0] 44)).alloc (.cells #[.int .u64 0, .int .i64 0, .int .i64 0, .int .i64 0, .int .i64 0, .int .i64 0] 44)) ∧ ((w.alloc (.cells #[.int .u64 0, .int .i64 0, .int .i64 0, .int .i64 0, .int .i64 0, .int .i64 0] 44)).alloc (.cells #[.int .u64 0, .int .i64 0, .int .i64 0, .int .i64 0, .int .i64 0, .int .i64 0] 44)).heap.size = w.heap.size + 2) := ⟨(blk_new w _ _).over (below_new _ _), blk_new' w _ _ _, (below_new w _).alloc (below_new w _).size _, by rw [size_alloc', size_alloc']⟩
  clear h ho
  go_enter Try.func22, Try.ntmps22
  go_upto_region 2 with fail
  obtain ⟨rb, hrb⟩ : ∃ k, w.heap.size = k := ⟨_, rfl⟩
  obtain ⟨lb, hlb⟩ : ∃ k, w.heap.size + 1 = k := ⟨_, rfl⟩
  have HE : Hid (w.heap.size = rb ∧ w.heap.size + 1 = lb) := ⟨hrb, hlb⟩
  rw [hlb, hrb] at HZ
  rw [hlb, hrb]
  clear hrb hlb
  generalize ((w.alloc (.cells #[.int .u64 0, .int .i64 0, .int .i64 0, .int .i64 0, .int .i64 0, .int .i64 0] 44)).alloc (.cells #[.int .u64 0, .int .i64 0, .int .i64 0, .int .i64 0, .int .i64 0, .int .i64 0] 44)) = w1 at *
  have HB1 : Hid (Below w.heap.size w w1) := by rw [HE.out.1]; exact HZ.out.2.2.1
  have HR1 : Hid (TaV w1 b B s) := HT.out.1.over HB1.out
  have c4 := HR1.out.blk.cell 4
  go_wp2_with (first | (at_range; refine list_rangeE rfl _ rfl rfl HR1.out.m ?_; intro D w2 hv0 hrg0 hg0 hs0) | go_in)
  go_frame
  clear c4
  obtain ⟨r, hr⟩ : ∃ k, w1.heap.size = k := ⟨_, rfl⟩
  rw [hr] at hrg0 hs0 ⊢
  have HV : Hid (VwE D s.L) := hv0
  have HW2 : Hid (Below w.heap.size w w2 ∧ Blk w2 rb 44 [.int .u64 0, .int .i64 0, .int .i64 0, .int .i64 0, .int .i64 0, .int .i64 0] ∧ Blk w2 lb 44 [.int .u64 0, .int .i64 0, .int .i64 0, .int .i64 0, .int .i64 0, .int .i64 0]) := by
    have h1 : Below w1.heap.size w1 w2 := (Below.refl _ _).grown hg0 (Nat.le_refl _) (fun _ e => by cases e)
    exact ⟨HB1.out.trans (h1.mono HB1.out.size), HZ.out.1.over h1, HZ.out.2.1.over h1⟩
  have HNE : Hid (rb ≠ lb ∧ w.heap.size ≤ lb ∧ B ≠ lb ∧ r ≠ lb) := by
    have h1 := HE.out
    have h2 := HT.out.1.m.lt
    have h3 := HZ.out.2.2.2
    exact ⟨by omega, by omega, by omega, by omega⟩
  have HRB : Hid (w.heap.size ≤ r ∧ w.heap.size ≤ rb) := ⟨by rw [← hr]; exact HB1.out.size, by have := HE.out; omega⟩
  clear hv0 hr hg0 hs0 HZ HR1 HB1
  go_loopw [5] (fun v5 wr => ∃ (left : Lit → Bool) (cnt : Nat) (q : Bool) (y : En), v5 = .bool q ∧ wr.ranges Try.prog 23 readE B r s.L.length D left cnt ∧ Blk wr lb 44 y.cells ∧ Blk wr rb 44 [.int .u64 0, .int .i64 0, .int .i64 0, .int .i64 0, .int .i64 0, .int .i64 0] ∧ Below w.heap.size w wr ∧ Best s.L left q y) (fun _ wr => wr.rangeLeft B r)
  case atStart => exact ⟨_, _, false, En.zero, rfl, hrg0, HW2.out.2.2, HW2.out.2.1, HW2.out.1, .inl ⟨rfl, fun x hx e => (by rw [(HV.out.has x.id).2 ⟨x, hx, rfl⟩] at e; cases e)⟩⟩
  case round =>
    obtain ⟨left, cnt, q, ⟨p1, p2, p3, p4, p5, p6⟩, rfl, hrg, hlb, hrb, hbw, hbst⟩ := hrel
    replace hlb : Blk wr lb 44 [.int .u64 p1, .int .i64 p2, .int .i64 p3, .int .i64 p4, .int .i64 p5, .int .i64 p6] := hlb
    have HBST : Hid (Best s.L left q ⟨p1, p2, p3, p4, p5, p6⟩) := hbst
    have HM : Hid (wr.rangeLeft B r = cnt) := hrg.left_eq
    have HR : Hid (Blk wr lb 44 [.int .u64 p1, .int .i64 p2, .int .i64 p3, .int .i64 p4, .int .i64 p5, .int .i64 p6] ∧ Blk wr rb 44 [.int .u64 0, .int .i64 0, .int .i64 0, .int .i64 0, .int .i64 0, .int .i64 0] ∧ Below w.heap.size w wr) := ⟨hlb, hrb, hbw⟩
    clear hlb hrb hbw hbst hrg0
    go_wp2_with (first | (at_next; refine list_nextE rfl _ rfl rfl hrg HV.out ?_ ?_) | go_in)
    · intro hc0 hl0
      clear hrg
      have HTW : Hid (TaV wr b B s) := HT.out.1.over HR.out.2.2
      cases q with
      | false =>
        have HN : Hid (sendS s = s ∧ sendO s.L = none) := by
          rcases HBST.out with ⟨_, h⟩ | ⟨e, _⟩
          · have hK := send_none (L := s.L) fun k hk => h _ (List.getElem_mem hk) (hl0 _)
            refine ⟨?_, hK.2⟩
            unfold sendS
            rw [hK.1]
          · cases e
        clear hc0 hl0 HBST
        have k0 := HR.out.2.1.cell 0
        have k1 := HR.out.2.1.cell 1
        have k2 := HR.out.2.1.cell 2
        have k3 := HR.out.2.1.cell 3
        have k4 := HR.out.2.1.cell 4
        have k5 := HR.out.2.1.cell 5
        have f0 := HR.out.2.1.f 0
        have f1 := HR.out.2.1.f 1
        have f2 := HR.out.2.1.f 2
        have f3 := HR.out.2.1.f 3
        have f4 := HR.out.2.1.f 4
        have f5 := HR.out.2.1.f 5
        go_wp2_with fail
        have HP : Blk (put6 wr rb En.zero) rb 44 En.zero.cells := put6_blk (y := En.zero) HR.out.2.1
        refine bodyPost_ret (v := optV none) (res_en Try.results22 _ _ rb En.zero false rfl HP rfl) rfl ?_
        refine ⟨by rw [HN.out.2], ?_⟩
        rw [HN.out.1]
        have h1 : Below w.heap.size w (put6 wr rb En.zero) := HR.out.2.2.grown (put6_grown (w := wr) (be := rb) (x := En.zero)) HR.out.2.2.size (fun j hj => by cases hj; exact HRB.out.2)
        exact Rs.below HT.out.1 h1
      | true =>
        have HX : Hid ((⟨p1, p2, p3, p4, p5, p6⟩ : En) ∈ s.L ∧ p3 = 1 ∧ sendL s.L = putL s.L ⟨p1, p2, 2, p4, p5, p6⟩ ∧ sendO s.L = some ⟨p1, p2, 2, p4, p5, p6⟩) := by
          rcases HBST.out with ⟨e, _⟩ | ⟨_, h2, h3, h⟩
          · cases e
          · obtain ⟨e1, e2⟩ := send_put HT.out.2.up h2 h3 fun y hy hs => h y hy (hl0 _) hs
            exact ⟨h2, h3, e1, e2⟩
        clear hc0 hl0 HBST
        have HU : Hid (U64 p1) := by
          have h1 := HT.out.2.all _ HX.out.1
          have h2 := HT.out.2.n1
          exact ⟨h1.i0, by have h3 := h1.i1; simp only at h3; omega⟩
        have k2 := HR.out.1.cell 2
        have f2 := HR.out.1.f 2
        have H2 : Hid (Blk (wr.setCell ⟨lb, 2, none⟩ (.int .i64 2)) lb 44 [.int .u64 p1, .int .i64 p2, .int .i64 2, .int .i64 p4, .int .i64 p5, .int .i64 p6] ∧ Blk (wr.setCell ⟨lb, 2, none⟩ (.int .i64 2)) rb 44 [.int .u64 0, .int .i64 0, .int .i64 0, .int .i64 0, .int .i64 0, .int .i64 0] ∧ Below w.heap.size w (wr.setCell ⟨lb, 2, none⟩ (.int .i64 2)) ∧ TaV (wr.setCell ⟨lb, 2, none⟩ (.int .i64 2)) b B s) := by
          have hb : Below w.heap.size w (wr.setCell ⟨lb, 2, none⟩ (.int .i64 2)) := HR.out.2.2.trans (below_set HNE.out.2.1)
          exact ⟨HR.out.1.set 2 _, HR.out.2.1.other _ _ HNE.out.1, hb, HT.out.1.over hb⟩
        go_upto_region 11 with fail
        generalize (wr.setCell ⟨lb, 2, none⟩ (.int .i64 2)) = W2 at *
        clear k2 f2
        obtain ⟨w5, hrun, h6, _, h8⟩ := run_putE (x := ⟨p1, p2, 2, p4, p5, p6⟩) (w := W2.drew) (H2.out.2.2.2.m.over (Below.refl _ _).drew) HU.out (by have h1 := HT.out.2.len; have h2 := HT.out.2.z1; omega)
        dsimp only [En.v] at hrun
        have H6 : Hid (Blk w5 lb 44 [.int .u64 p1, .int .i64 p2, .int .i64 2, .int .i64 p4, .int .i64 p5, .int .i64 p6] ∧ Blk w5 rb 44 [.int .u64 0, .int .i64 0, .int .i64 0, .int .i64 0, .int .i64 0, .int .i64 0] ∧ TaV w5 b B (sendS s) ∧ Fr [] [b, B] 0 w w5) := by
          have hf : Fr [] [B] 0 W2.drew w5 := fr_turn h8.grown (by simp)
          have hd : Below W2.heap.size W2 W2.drew := (Below.refl _ _).drew
          have hrB : rb ≠ B := by have h1 := HRB.out.2; have h2 := HT.out.1.m.lt; omega
          refine ⟨(H2.out.1.over hd).fr hf (by simp) (by simpa using fun e : lb = B => HNE.out.2.2.1 e.symm), (H2.out.2.1.over hd).fr hf (by simp) (by simpa using hrB), ⟨(H2.out.2.2.2.blk.over hd).fr hf (by simp) (by simpa using HT.out.1.ne), ?_, HT.out.1.ne⟩, (fr_below H2.out.2.2.1 (Nat.zero_le _)).trans ((fr_below hd (Nat.zero_le _)).trans (hf.mono (by simp) (by simp)))⟩
          have h9 := h6 ⟨_, HX.out.1, rfl⟩
          rw [← HX.out.2.2.1] at h9
          exact h9
        clear h6 h8
        have c4 := H2.out.2.2.2.blk.cell 4
        have m0 := H2.out.1.cell 0
        have m1 := H2.out.1.cell 1
        have m2 := H2.out.1.cell 2
        have m3 := H2.out.1.cell 3
        have m4 := H2.out.1.cell 4
        have m5 := H2.out.1.cell 5
        go_big_region
        clear m0 m1 m2 m3 m4 m5 c4 hrun
        have m0 := H6.out.1.cell 0
        have m1 := H6.out.1.cell 1
        have m2 := H6.out.1.cell 2
        have m3 := H6.out.1.cell 3
        have m4 := H6.out.1.cell 4
        have m5 := H6.out.1.cell 5
        have k0 := H6.out.2.1.cell 0
        have k1 := H6.out.2.1.cell 1
        have k2 := H6.out.2.1.cell 2
        have k3 := H6.out.2.1.cell 3
        have k4 := H6.out.2.1.cell 4
        have k5 := H6.out.2.1.cell 5
        have f0 := H6.out.2.1.f 0
        have f1 := H6.out.2.1.f 1
        have f2 := H6.out.2.1.f 2
        have f3 := H6.out.2.1.f 3
        have f4 := H6.out.2.1.f 4
        have f5 := H6.out.2.1.f 5
        go_wp2_with fail
        have HP : Blk (put6 w5 rb ⟨p1, p2, 2, p4, p5, p6⟩) rb 44 (⟨p1, p2, 2, p4, p5, p6⟩ : En).cells := put6_blk (y := En.zero) H6.out.2.1
        refine bodyPost_ret (v := optV (some ⟨p1, p2, 2, p4, p5, p6⟩)) (res_en Try.results22 _ _ rb ⟨p1, p2, 2, p4, p5, p6⟩ true rfl HP rfl) rfl ?_
        refine ⟨by rw [HX.out.2.2.2], ?_⟩
        have h1 : Fr [44] [] rb w5 (put6 w5 rb ⟨p1, p2, 2, p4, p5, p6⟩) := put6_fr (y := En.zero) H6.out.2.1 (Nat.le_refl rb)
        exact ⟨H6.out.2.2.1.fr h1 (by simp) (by simp) (by simp), H6.out.2.2.2.below (h1.bel.mono HRB.out.2)⟩
    · intro x w3 cnt3 hxL hlx hrg3 hlt hg3 hs3 hen
      have hb3 : Below w.heap.size w w3 := HR.out.2.2.grown hg3 HR.out.2.2.size (fun j hj => by cases hj; exact HRB.out.1)
      have hrl : r ≠ lb := HNE.out.2.2.2
      have hrr : r ≠ rb := fun e => by have h1 := hrg.lt; have h2 := HR.out.2.1; obtain ⟨es, clock, since, seen, c0, _, _, _, _, h5, _⟩ := hrg; rw [e] at h5; unfold Blk at h2; rw [h2] at h5; cases h5
      obtain ⟨q1, q2, q3, q4, q5, q6⟩ := x
      dsimp only [En.v] at hen ⊢
      have H4 : Hid (True ∧ Blk (w3.alloc (.cells #[.int .u64 q1, .int .i64 q2, .int .i64 q3, .int .i64 q4, .int .i64 q5, .int .i64 q6] 44)) lb 44 [.int .u64 p1, .int .i64 p2, .int .i64 p3, .int .i64 p4, .int .i64 p5, .int .i64 p6] ∧ Blk (w3.alloc (.cells #[.int .u64 q1, .int .i64 q2, .int .i64 q3, .int .i64 q4, .int .i64 q5, .int .i64 q6] 44)) w3.heap.size 44 [.int .u64 q1, .int .i64 q2, .int .i64 q3, .int .i64 q4, .int .i64 q5, .int .i64 q6] ∧ Blk (w3.alloc (.cells #[.int .u64 q1, .int .i64 q2, .int .i64 q3, .int .i64 q4, .int .i64 q5, .int .i64 q6] 44)) rb 44 [.int .u64 0, .int .i64 0, .int .i64 0, .int .i64 0, .int .i64 0, .int .i64 0] ∧ (w3.alloc (.cells #[.int .u64 q1, .int .i64 q2, .int .i64 q3, .int .i64 q4, .int .i64 q5, .int .i64 q6] 44)).ranges Try.prog 23 readE B r s.L.length D (fun z => left z && !z.sameKey (litU q1)) cnt3 ∧ Below w.heap.size w (w3.alloc (.cells #[.int .u64 q1, .int .i64 q2, .int .i64 q3, .int .i64 q4, .int .i64 q5, .int .i64 q6] 44))) := by
        have hf : Fr [] [r] 0 wr w3 := fr_grown hg3 (Nat.zero_le _) (Nat.zero_le _) (by simp)
        exact ⟨trivial, (HR.out.1.fr hf (by simp) (by simpa using fun e : lb = r => hrl e.symm)).over (below_new _ _), blk_new _ _ _, (HR.out.2.1.fr hf (by simp) (by simpa using fun e : rb = r => hrr e.symm)).over (below_new _ _), hrg3.alloc _, hb3.alloc hb3.size _⟩
      have HX : Hid ((⟨q1, q2, q3, q4, q5, q6⟩ : En) ∈ s.L) := hxL
      have HLT : Hid (cnt3 < cnt) := hlt
      clear hrg hxL hlx hrg3 hlt hg3 hs3 hb3 hrl hrr
      have HPC := H4.out.2.1.cell 0
      by_cases hq3 : q3 = 1
      · have hyd : (q3 == 1) = true := by simp [hq3]
        cases q with
        | false =>
          have HBN : Hid (Best s.L (fun z => left z && !z.sameKey (litU q1)) true ⟨q1, q2, q3, q4, q5, q6⟩) := HBST.out.first HT.out.2.up HX.out hq3
          clear HBST hq3
          go_upto_region 7 with fail
          generalize (w3.alloc (.cells #[.int .u64 q1, .int .i64 q2, .int .i64 q3, .int .i64 q4, .int .i64 q5, .int .i64 q6] 44)) = w4 at *
          generalize w3.heap.size = bx at *
          have m0 := H4.out.2.2.1.cell 0
          have m1 := H4.out.2.2.1.cell 1
          have m2 := H4.out.2.2.1.cell 2
          have m3 := H4.out.2.2.1.cell 3
          have m4 := H4.out.2.2.1.cell 4
          have m5 := H4.out.2.2.1.cell 5
          have k0 := H4.out.2.1.cell 0
          have k1 := H4.out.2.1.cell 1
          have k2 := H4.out.2.1.cell 2
          have k3 := H4.out.2.1.cell 3
          have k4 := H4.out.2.1.cell 4
          have k5 := H4.out.2.1.cell 5
          have f0 := H4.out.2.1.f 0
          have f1 := H4.out.2.1.f 1
          have f2 := H4.out.2.1.f 2
          have f3 := H4.out.2.1.f 3
          have f4 := H4.out.2.1.f 4
          have f5 := H4.out.2.1.f 5
          have H5 : Hid (Blk (put6 w4 lb ⟨q1, q2, q3, q4, q5, q6⟩) lb 44 (⟨q1, q2, q3, q4, q5, q6⟩ : En).cells ∧ Blk (put6 w4 lb ⟨q1, q2, q3, q4, q5, q6⟩) rb 44 [.int .u64 0, .int .i64 0, .int .i64 0, .int .i64 0, .int .i64 0, .int .i64 0] ∧ Below w.heap.size w (put6 w4 lb ⟨q1, q2, q3, q4, q5, q6⟩) ∧ (put6 w4 lb ⟨q1, q2, q3, q4, q5, q6⟩).ranges Try.prog 23 readE B r s.L.length D (fun z => left z && !z.sameKey (litU q1)) cnt3) := by
            have hg := put6_grown (w := w4) (be := lb) (x := ⟨q1, q2, q3, q4, q5, q6⟩)
            exact ⟨put6_blk (y := ⟨p1, p2, p3, p4, p5, p6⟩) H4.out.2.1, put6_keep H4.out.2.2.2.1 HNE.out.1, H4.out.2.2.2.2.2.grown hg H4.out.2.2.2.2.2.size (fun j hj => by cases hj; exact HNE.out.2.1), H4.out.2.2.2.2.1.kept hg (fun e => HNE.out.2.2.1 (by injection e)) (fun e => HNE.out.2.2.2 (by injection e))⟩
          go_wp2_with fail
          go_roundw
          case rel => exact ⟨_, cnt3, true, ⟨q1, q2, q3, q4, q5, q6⟩, rfl, H5.out.2.2.2, H5.out.1, H5.out.2.1, H5.out.2.2.1, HBN.out⟩
          case measure =>
            have e9 : (put6 w4 lb ⟨q1, q2, q3, q4, q5, q6⟩).rangeLeft B r = cnt3 := H5.out.2.2.2.left_eq
            rw [HM.out]
            exact (show (put6 w4 lb ⟨q1, q2, q3, q4, q5, q6⟩).rangeLeft B r < cnt by rw [e9]; exact HLT.out)
        | true =>
          by_cases hlt : q1 < p1
          · have hld : decide (q1 < p1) = true := decide_eq_true hlt
            have HBN : Hid (Best s.L (fun z => left z && !z.sameKey (litU q1)) true ⟨q1, q2, q3, q4, q5, q6⟩) := HBST.out.less HT.out.2.up HX.out hq3 hlt
            clear HBST hq3
            go_upto_region 7 with fail
            generalize (w3.alloc (.cells #[.int .u64 q1, .int .i64 q2, .int .i64 q3, .int .i64 q4, .int .i64 q5, .int .i64 q6] 44)) = w4 at *
            generalize w3.heap.size = bx at *
            have m0 := H4.out.2.2.1.cell 0
            have m1 := H4.out.2.2.1.cell 1
            have m2 := H4.out.2.2.1.cell 2
            have m3 := H4.out.2.2.1.cell 3
            have m4 := H4.out.2.2.1.cell 4
            have m5 := H4.out.2.2.1.cell 5
            have k0 := H4.out.2.1.cell 0
            have k1 := H4.out.2.1.cell 1
            have k2 := H4.out.2.1.cell 2
            have k3 := H4.out.2.1.cell 3
            have k4 := H4.out.2.1.cell 4
            have k5 := H4.out.2.1.cell 5
            have f0 := H4.out.2.1.f 0
            have f1 := H4.out.2.1.f 1
            have f2 := H4.out.2.1.f 2
            have f3 := H4.out.2.1.f 3
            have f4 := H4.out.2.1.f 4
            have f5 := H4.out.2.1.f 5
            have H5 : Hid (Blk (put6 w4 lb ⟨q1, q2, q3, q4, q5, q6⟩) lb 44 (⟨q1, q2, q3, q4, q5, q6⟩ : En).cells ∧ Blk (put6 w4 lb ⟨q1, q2, q3, q4, q5, q6⟩) rb 44 [.int .u64 0, .int .i64 0, .int .i64 0, .int .i64 0, .int .i64 0, .int .i64 0] ∧ Below w.heap.size w (put6 w4 lb ⟨q1, q2, q3, q4, q5, q6⟩) ∧ (put6 w4 lb ⟨q1, q2, q3, q4, q5, q6⟩).ranges Try.prog 23 readE B r s.L.length D (fun z => left z && !z.sameKey (litU q1)) cnt3) := by
              have hg := put6_grown (w := w4) (be := lb) (x := ⟨q1, q2, q3, q4, q5, q6⟩)
              exact ⟨put6_blk (y := ⟨p1, p2, p3, p4, p5, p6⟩) H4.out.2.1, put6_keep H4.out.2.2.2.1 HNE.out.1, H4.out.2.2.2.2.2.grown hg H4.out.2.2.2.2.2.size (fun j hj => by cases hj; exact HNE.out.2.1), H4.out.2.2.2.2.1.kept hg (fun e => HNE.out.2.2.1 (by injection e)) (fun e => HNE.out.2.2.2 (by injection e))⟩
            go_wp2_with fail
            go_roundw
            case rel => exact ⟨_, cnt3, true, ⟨q1, q2, q3, q4, q5, q6⟩, rfl, H5.out.2.2.2, H5.out.1, H5.out.2.1, H5.out.2.2.1, HBN.out⟩
            case measure =>
              have e9 : (put6 w4 lb ⟨q1, q2, q3, q4, q5, q6⟩).rangeLeft B r = cnt3 := H5.out.2.2.2.left_eq
              rw [HM.out]
              exact (show (put6 w4 lb ⟨q1, q2, q3, q4, q5, q6⟩).rangeLeft B r < cnt by rw [e9]; exact HLT.out)
          · have hld : decide (q1 < p1) = false := decide_eq_false hlt
            have HBN : Hid (Best s.L (fun z => left z && !z.sameKey (litU q1)) true ⟨p1, p2, p3, p4, p5, p6⟩) := HBST.out.more HT.out.2.up HX.out hlt
            clear HBST hq3
            go_wp2_with fail
            go_roundw
            case rel => exact ⟨_, cnt3, true, ⟨p1, p2, p3, p4, p5, p6⟩, rfl, H4.out.2.2.2.2.1, H4.out.2.1, H4.out.2.2.2.1, H4.out.2.2.2.2.2, HBN.out⟩
            case measure => rw [H4.out.2.2.2.2.1.left_eq, HM.out]; exact HLT.out
      · have hyd : (q3 == 1) = false := by simp [hq3]
        have HBN : Hid (Best s.L (fun z => left z && !z.sameKey (litU q1)) q ⟨p1, p2, p3, p4, p5, p6⟩) := HBST.out.skip HT.out.2.up HX.out hq3
        clear HBST hq3
        go_wp2_with fail
        go_roundw
        case rel => exact ⟨_, cnt3, q, ⟨p1, p2, p3, p4, p5, p6⟩, rfl, H4.out.2.2.2.2.1, H4.out.2.1, H4.out.2.2.2.1, H4.out.2.2.2.2.2, HBN.out⟩
        case measure => rw [H4.out.2.2.2.2.1.left_eq, HM.out]; exact HLT.out

end Go.Proofs.Ytlckconhhhllkaa
