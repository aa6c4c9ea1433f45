/-
  KPrg KCmp.
-/
import Derived.Test.YtmcgcbgblgmmkaaGreatDoorQ34
import Derived.Test.YtmcgcbgblgmmkaaGreatDoorQ13
import Derived.Test.YtmcgcbgblgmmkaaGreatDoorQ35
set_option maxRecDepth 8000
set_option maxHeartbeats 4000000
namespace Go.Proofs.YtmcgcbgblgmmkaaGreatDoor
open M (below_new)
open Go.RowKit
def PrT (w : World) (k a : Int) (rs : List M.Xr) (e : Ending) (w' : World) : Prop := ∃ ns, Nrs ns rs /\ Tld w (progI ns k a (rs.map M.Xr.r)) e w'
theorem ns_of_nz {w : World} {p : Option Addr} {c : Nat} {l : List Int} (h : M.NzR w (.slice p l.length c) l) : V.Ns .u32 w p l.length l := by
 obtain ⟨a, cap, e, h1, h2, hc⟩ := h
 cases e
 refine ⟨rfl, fun h0 => ?_⟩
 obtain ⟨b, o, rfl, hx⟩ := hc h0
 refine ⟨b, o, rfl, fun i hi => ?_⟩
 have := hx i l[i] (List.getElem?_eq_getElem hi)
 rw [List.getD_eq_getElem?_getD, List.getElem?_eq_getElem hi]
 exact this
theorem mid_of_own {w : World} {b : Nat} {v : Value} {l : List Nat} (h : w.ownsRow b 3 1 v l.length (T.cellsN l)) : Mid w v l := by
 rcases h.2 with ⟨rfl, h0⟩ | ⟨g, cap, cur, rfl, hb, hg, hn, hm, _⟩
 ·exact ⟨none, 0, by rw [h0], by omega, by decide, fun h1 => by omega⟩
 ·refine ⟨_, cap, rfl, hn, by unfold maxLen at hm; omega, fun _ => ⟨g, 0, rfl, fun i x hi => ?_⟩⟩
  have := h.cells (g := g) rfl i (.int .i64 (x : Nat)) (by unfold T.cellsN; rw [List.getElem?_map, hi]; rfl)
  rw [Addr.add_lit] at this
  exact this
theorem sum_wg1 (rs : List M.Xr) (hR : Rok rs) : (rs.map fun x => M.wg1 x.r).sum <= 73728 := by
 have h2 : ∀ l : List M.Xr, (∀ x ∈ l, x.r.names.length <= 16 /\ x.r.conds.length <= 8) -> (l.map fun x => M.wg1 x.r).sum <= l.length * 1152 := by
  intro l
  induction l with
  | nil => intro _; exact Nat.zero_le _
  | cons x r ih =>
   intro hx
   have h3 := ih fun y hy => hx y (List.mem_cons_of_mem _ hy)
   obtain ⟨h4, h5⟩ := hx x (List.mem_cons_self ..)
   have h6 : M.wg1 x.r <= 16 * 72 := by unfold M.wg1; exact Nat.mul_le_mul h4 (by omega)
   rw [List.map_cons, List.sum_cons, List.length_cons]
   omega
 have h3 := h2 rs fun x hx => ⟨hR.nam x hx, hR.con x hx⟩
 have := hR.len
 omega
theorem am_big (ns : List Int) (k a : Int) (rs : List M.Xr) (h : Nrs ns rs) (hR : Rok rs) (i j : Nat) (hij : i < j) (hj : j <= ns.length) : (amI ns (fun z => verI z k a (rs.map M.Xr.r)) (ansI k a) i j).length <= 90000 := by
 have h1 := (am_len ns (fun z => verI z k a (rs.map M.Xr.r)) (ansI k a) (fun z => lenR z (rs.map M.Xr.r) + 1) (fun z => ver_len z k a _) (j - i) i j hij hj (Nat.le_refl _)).2
 have h2 := sum_wg ns rs h
 have h3 := sum_wg1 rs hR
 have h4 : (((ns.drop i).take (j - i)).map fun z => lenR z (rs.map M.Xr.r) + 1 + 4).sum <= (ns.map fun z => lenR z (rs.map M.Xr.r) + 5).sum := by
  have e : (fun z => lenR z (rs.map M.Xr.r) + 1 + 4) = fun z => lenR z (rs.map M.Xr.r) + 5 := by funext z; omega
  rw [e]
  have q1 : ∀ (l : List Int) (n : Nat) (f : Int -> Nat), ((l.take n).map f).sum <= (l.map f).sum := fun l n f => by
   conv => rhs; rw [<- List.take_append_drop n l, List.map_append, List.sum_append]
   omega
  have q2 : ∀ (l : List Int) (n : Nat) (f : Int -> Nat), ((l.drop n).map f).sum <= (l.map f).sum := fun l n f => by
   conv => rhs; rw [<- List.take_append_drop n l, List.map_append, List.sum_append]
   omega
  exact Nat.le_trans (q1 _ _ _) (q2 _ _ _)
 omega
theorem nums_len (rs : List M.Xr) (hR : Rok rs) : (M.numsR rs).length <= 9000000 := by
 have h2 : ∀ l : List M.Xr, (∀ x ∈ l, x.r.names.length <= 16) -> (M.numsR l).length <= l.length * 16 := by
  intro l
  induction l with
  | nil => intro _; exact Nat.zero_le _
  | cons x r ih =>
   intro hx
   have h3 := ih fun y hy => hx y (List.mem_cons_of_mem _ hy)
   have h4 := hx x (List.mem_cons_self ..)
   have h5 : (M.nums x.r.names).length <= x.r.names.length := by unfold M.nums; rw [List.length_map]; exact List.length_filter_le _ _
   show (List.flatMap _ (x :: r)).length <= _
   rw [List.flatMap_cons, List.length_append, List.length_cons]
   have h6 : (List.flatMap (fun x : M.Xr => M.nums x.r.names) r).length <= r.length * 16 := h3
   omega
 have h3 := h2 rs hR.nam
 have := hR.len
 omega
theorem program_of (hT : DecC) (w : World) (k a : Int) (v : Value) (rs : List M.Xr) (h : M.RlR w v rs) (hR : Rok rs) :
  Calls Tryz.prog 37 #[.agg #[.int .i64 k, .int .i64 a, v]] w fun e w' => PrT w k a rs e w' := by
 obtain ⟨p1, c1, rfl⟩ : ∃ p c, v = .slice p rs.length c := by obtain ⟨p, c, e, _⟩ := h; exact ⟨p, c, e⟩
 have HA : Hid (∀ W, Calls Tryz.prog 75 #[.agg #[.int .i64 1, .int .i64 0]] W fun e w' => e = .returned (.agg #[.int .u16 6, .int .u8 0, .int .u8 0, .int .u32 2147483648]) /\ Below W.heap.size W w') := answer_any 1 0
 have HB0 : Hid (Below w.heap.size w (w.alloc (Obj.cells #[.int .i64 k, .int .i64 a, .slice p1 rs.length c1] 58))) := below_new w _
 have HK : Hid (F.D.Blk (w.alloc (Obj.cells #[.int .i64 k, .int .i64 a, .slice p1 rs.length c1] 58)) w.heap.size 58 [.int .i64 k, .int .i64 a, .slice p1 rs.length c1]) := F.D.blk_new w _ _
 have HX : Hid (∀ W, Below (w.alloc (Obj.cells #[.int .i64 k, .int .i64 a, .slice p1 rs.length c1] 58)).heap.size (w.alloc (Obj.cells #[.int .i64 k, .int .i64 a, .slice p1 rs.length c1] 58)) W -> W.cell? ⟨w.heap.size, 0, none⟩ = some (.int .i64 k) /\ W.cell? ⟨w.heap.size, 1, none⟩ = some (.int .i64 a) /\ W.cell? ⟨w.heap.size, 2, none⟩ = some (.slice p1 rs.length c1) /\ M.RlR W (.slice p1 rs.length c1) rs /\ Below w.heap.size w W) := fun W hW => ⟨(HK.out.over hW).cell 0, (HK.out.over hW).cell 1, (HK.out.over hW).cell 2, h.below (HB0.out.trans (hW.mono HB0.out.size)), HB0.out.trans (hW.mono HB0.out.size)⟩
 have HN : Hid (∀ W, M.RlR W (.slice p1 rs.length c1) rs -> Calls Tryz.prog 76 #[.agg #[.int .i64 k, .int .i64 a, .slice p1 rs.length c1]] W fun e w' => M.NmbR W rs e w') := fun W hW => M.numbers_any W k a _ rs hW (by have := hR.len; omega) (fun x hx => by have := hR.nam x hx; omega) (nums_len rs hR) hR.nr
 have HTr : Hid (∀ W p c (l : List Int), V.Ns .u32 W p l.length l -> Calls Tryz.prog 77 #[.slice p l.length c] W fun e w' => T.Bld W w' e (T.bMids l) (T.bErr l)) := fun W p c l hl => T.build_any p l.length c l W hl
 have HAm : Hid (∀ (W X : World) (b : Nat) (vz vm : Value) (ns : List Int), Nrs ns rs -> M.RlR W (.slice p1 rs.length c1) rs -> M.NzR W vz ns -> W.heap.size <= b -> Below W.heap.size W X -> F.D.Blk X b 162 [.int .i64 k, .int .i64 a, .slice p1 rs.length c1, vz, vm] -> Mid W vm (T.mids 0 ns.length) ->
   Calls Tryz.prog 78 #[.pointer (some ⟨b, 0, none⟩), .int .i64 0, .int .i64 ns.length] X fun e w' => AmT W X b k a (.slice p1 rs.length c1) vz (bodI ns k a (rs.map M.Xr.r)) [] e w') := fun W X b vz vm ns h1 h2 h3 h4 h5 h6 h7 =>
  among_of hT W b k a _ vz rs ns ⟨h2, h3, hR, h4, by have := h1.len; omega⟩ (am_big ns k a rs h1 hR) ns.length 0 ns.length (Nat.le_refl _) (Nat.zero_le _) (Nat.le_refl _) X vm [] h5 h6 (by rw [List.append_nil]; exact h7)
 have HBg : Hid (∀ ns, Nrs ns rs -> (bodI ns k a (rs.map M.Xr.r)).length <= 90000) := fun ns h1 => by
  unfold bodI
  by_cases h0 : ns.length = 0
  ·rw [am_none (by omega)]; simp
  ·exact am_big ns k a rs h1 hR 0 ns.length (by omega) (Nat.le_refl _)
 clear h hR hT HK
 go_enter Tryz.func37, Tryz.ntmps37
 go_upto_region 3 with (first
  | (go_at_call 75; refine (HA.out _).mono ?_; rintro e w1 ⟨rfl, b1⟩; have B2 := b1.alloc b1.size (Obj.cells #[.int .u16 32, .int .u8 0, .int .u8 0, .int .u32 4, .int .u16 21, .int .u8 1, .int .u8 0, .int .u32 3221225534, .int .u16 6, .int .u8 0, .int .u8 0, .int .u32 2147483648, .int .u16 32, .int .u8 0, .int .u8 0, .int .u32 0] 156); obtain ⟨c0, c1', c2, r2, Bw2⟩ := HX.out _ B2)
  | (go_at_call 76; refine (HN.out _ r2).mono ?_; rintro e w3 ⟨v3, ns, rfl, hz3, hr3, hm3, b3⟩))
 have hns : Nrs ns rs := ⟨hr3, hm3⟩
 have HNs : Hid (Nrs ns rs) := hns
 have hE : T.bErr ns = 0 /\ T.bMids ns = T.mids 0 ns.length := by
  have h1 := hns.len
  have h2 := rises_of hns.rise
  unfold T.bErr T.bMids
  have h3 : ¬ 4096 < ns.length := by omega
  simp [h2, h3]
 have BX3 := B2.trans (b3.mono B2.size)
 have O3 : Hid (w3.ownsRow w.heap.size 156 4 (.slice (some ⟨w1.heap.size, 0, none⟩) 4 4) 4 (V.cellsI [⟨32, 0, 0, 4⟩, ⟨21, 1, 0, 3221225534⟩, ⟨6, 0, 0, 2147483648⟩, ⟨32, 0, 0, 0⟩])) := own_over (own_fresh w1 w.heap.size (HX.out _ b1).2.2.2.2.size [⟨32, 0, 0, 4⟩, ⟨21, 1, 0, 3221225534⟩, ⟨6, 0, 0, 2147483648⟩, ⟨32, 0, 0, 0⟩] 4 rfl (by decide) _ rfl) b3
 obtain ⟨pz, cz, rfl⟩ : ∃ p c, v3 = .slice p ns.length c := by obtain ⟨p, c, e, _⟩ := hz3; exact ⟨p, c, e⟩
 have HTr2 : Hid (Calls Tryz.prog 77 #[.slice pz ns.length cz] w3 fun e w' => T.Bld w3 w' e (T.mids 0 ns.length) 0) := by
  have := HTr.out w3 pz cz ns (ns_of_nz hz3)
  rw [hE.1, hE.2] at this
  exact this
 have HPr : Hid (progI ns k a (rs.map M.Xr.r) = [⟨32, 0, 0, 4⟩, ⟨21, 1, 0, 3221225534⟩, ⟨6, 0, 0, 2147483648⟩, ⟨32, 0, 0, 0⟩] ++ bodI ns k a (rs.map M.Xr.r)) := rfl
 have HBg2 : Hid ((bodI ns k a (rs.map M.Xr.r)).length <= 90000) := HBg.out ns hns
 have HAm2 := HAm.out
 clear hr3 hm3 hE c0 c1' c2 r2 Bw2 HN HTr HA B2 b1
 go_upto_region 4 with (first
  | (go_at_call 77; refine HTr2.out.mono ?_; rintro e w4 ⟨b4, vm, rfl, o4⟩))
 have BX4 := BX3.trans (b4.mono BX3.size)
 obtain ⟨c0, c1', c2, r4, B4⟩ := HX.out _ BX4
 have hmid : Mid w4 vm (T.mids 0 ns.length) := mid_of_own o4
 have hz4 := hz3.below b4
 have O4 := own_over O3.out b4
 obtain ⟨am, cm, rfl⟩ := own_slice o4
 have HA5 : Hid (Calls Tryz.prog 78 #[.pointer (some ⟨w4.heap.size, 0, none⟩), .int .i64 0, .int .i64 ns.length] (w4.alloc (Obj.cells #[.int .i64 k, .int .i64 a, .slice p1 rs.length c1, .slice pz ns.length cz, .slice am (T.mids 0 ns.length).length cm] 162)) fun e w' => AmT w4 (w4.alloc (Obj.cells #[.int .i64 k, .int .i64 a, .slice p1 rs.length c1, .slice pz ns.length cz, .slice am (T.mids 0 ns.length).length cm] 162)) w4.heap.size k a (.slice p1 rs.length c1) (.slice pz ns.length cz) (bodI ns k a (rs.map M.Xr.r)) [] e w') := HAm2 w4 _ w4.heap.size _ _ ns hns r4 hz4 (Nat.le_refl _) (below_new w4 _) (F.D.blk_new w4 _ _) hmid
 have O5 := O4.alloc (Obj.cells #[.int .i64 k, .int .i64 a, .slice p1 rs.length c1, .slice pz ns.length cz, .slice am (T.mids 0 ns.length).length cm] 162)
 have B5 := B4.alloc B4.size (Obj.cells #[.int .i64 k, .int .i64 a, .slice p1 rs.length c1, .slice pz ns.length cz, .slice am (T.mids 0 ns.length).length cm] 162)
 have hlt := V.own_lt O4 w1.heap.size rfl
 clear hmid hz4 hz3 HAm2 HAm HTr2 o4 O3 O4 r4 BX3 BX4 b3 b4
 generalize bodI ns k a (rs.map M.Xr.r) = BI at *
 generalize (T.mids 0 ns.length).length = ml at *
 go_wp2_with (first
  | (go_at_call 78; refine HA5.out.mono ?_; rintro e w6 ⟨u6, vm6, rfl, o6, k6, m6, g6⟩; have O6 := O5.kept g6 (Or.inr fun e => by have e2 : some w1.heap.size = some w4.heap.size := e; have := Option.some.inj e2; omega); have B6 : Below w.heap.size w w6 := B5.grown g6 B5.size (fun j hj => by cases hj; exact B4.size))
  | (at_builtin; refine app_rows rfl (.tmp 25) (.tmp 28) rfl w.heap.size _ 4 _ rfl O6 _ _ _ BI rfl o6 (by have := HBg2.out; omega) B6.size ?_; intro v7 w7 hG; go_frame))
 go_ret
 exact ⟨ns, HNs.out, _, rfl, by rw [HPr.out, List.length_append]; exact hG.own, hG.below O6 B6 B6.size⟩
theorem decC_holds : DecC := decision_any
def Fits0 (rs : List M.Xr) : Prop := ∀ y ∈ rs, ∀ c ∈ y.r.conds, V.U64 c.mask /\ V.U64 c.val
def Fits (rs : List M.Xr) : Prop := Fits0 rs /\ (∀ y ∈ rs, y.r.conds.length <= 0) /\ (M.numsR rs).length <= 12
def Few (l : List M.Xr) : Prop := l.length <= 70 /\ ∀ x ∈ l, x.r.names.length <= 40 /\ x.r.conds.length <= 40 /\ True
def CmT (w : World) (k a : Int) (rs : List M.Xr) (e : Ending) (w' : World) : Prop :=
 ∃ v er, e = .returned (.tuple #[v, .int .i64 er]) /\ Below w.heap.size w w' /\
  (((M.checkP k a (rs.map M.Xr.r)).1 ≠ 0 /\ er = (M.checkP k a (rs.map M.Xr.r)).1 /\ v = .slice none 0 0) \/
  ((M.checkP k a (rs.map M.Xr.r)).1 = 0 /\ Rok rs /\ ∃ ns, Nrs ns rs /\
    ((4096 < (progI ns k a (rs.map M.Xr.r)).length /\ er = 4 /\ v = .slice none 0 0) \/
    ((progI ns k a (rs.map M.Xr.r)).length <= 4096 /\ er = 0 /\ w'.ownsRow w.heap.size 156 4 v (progI ns k a (rs.map M.Xr.r)).length (V.cellsI (progI ns k a (rs.map M.Xr.r)))))))
theorem rok_of {k a : Int} {rs : List M.Xr} (h : (M.checkP k a (rs.map M.Xr.r)).1 = 0) (hf : Fits rs) : Rok rs /\ M.actB k a = true /\ ∀ x ∈ rs, M.actB x.r.k x.r.a = true := by
 unfold M.checkP at h
 cases hq : M.rulesB k a (rs.map M.Xr.r) with
 | false => rw [hq, if_neg (by decide)] at h; exact absurd h (by decide)
 | true =>
  unfold M.rulesB at hq
  simp only [Bool.and_eq_true, decide_eq_true_eq, List.length_map, List.all_eq_true] at hq
  obtain ⟨⟨h1, h2⟩, h3⟩ := hq
  have h4 : ∀ x ∈ rs, (x.r.names.length <= 16 /\ x.r.conds.length <= 8) /\ M.actB x.r.k x.r.a = true /\ ∀ c ∈ x.r.conds, M.condB c = true := fun x hx => by
   have h5 := h3 x.r (List.mem_map.2 ⟨x, hx, rfl⟩)
   unfold M.ruleB at h5
   simp only [Bool.and_eq_true, decide_eq_true_eq, List.all_eq_true] at h5
   obtain ⟨⟨⟨_, h6⟩, h7⟩, ⟨h8, _⟩, h9⟩ := h5
   exact ⟨⟨h6, h7⟩, h8, h9⟩
  exact ⟨⟨h2, fun x hx => (h4 x hx).1.1, fun x hx => (h4 x hx).1.2, fun x hx => ⟨by have := (h4 x hx).1.2; omega, fun c hc => ⟨(h4 x hx).2.2 c hc, hf.1 x hx c hc⟩⟩, hf.2.1, hf.2.2⟩, h1, fun x hx => (h4 x hx).2.1⟩
theorem compile_any (w : World) (k a : Int) (v : Value) (rs : List M.Xr) (h : M.RlR w v rs) (hL : Few rs) (hf : Fits rs) :
  Calls Tryz.prog 15 #[.agg #[.int .i64 k, .int .i64 a, v]] w fun e w' => CmT w k a rs e w' := by
 obtain ⟨p1, c1, rfl⟩ : ∃ p c, v = .slice p rs.length c := by obtain ⟨p, c, e, _⟩ := h; exact ⟨p, c, e⟩
 have HC : Hid (∀ W, M.RlR W (.slice p1 rs.length c1) rs -> Calls Tryz.prog 36 #[.agg #[.int .i64 k, .int .i64 a, .slice p1 rs.length c1]] W fun e w' => e = .returned (.tuple #[.int .i64 (M.checkP k a (rs.map M.Xr.r)).1, .int .i64 (M.checkP k a (rs.map M.Xr.r)).2]) /\ Below W.heap.size W w') := fun W hW => M.check_any W k a _ rs hW (by have := hL.1; omega) fun x hx => ⟨by have := (hL.2 x hx).1; omega, by have := (hL.2 x hx).2.1; omega⟩
 have HP : Hid ((M.checkP k a (rs.map M.Xr.r)).1 = 0 -> ∀ W, M.RlR W (.slice p1 rs.length c1) rs -> Calls Tryz.prog 37 #[.agg #[.int .i64 k, .int .i64 a, .slice p1 rs.length c1]] W fun e w' => PrT W k a rs e w') := fun h0 W hW => program_of decC_holds W k a _ rs hW (rok_of h0 hf).1
 have HRk : Hid ((M.checkP k a (rs.map M.Xr.r)).1 = 0 -> Rok rs) := fun h0 => (rok_of h0 hf).1
 have HB0 : Hid (Below w.heap.size w (w.alloc (Obj.cells #[.int .i64 k, .int .i64 a, .slice p1 rs.length c1] 58))) := below_new w _
 have HK : Hid (F.D.Blk (w.alloc (Obj.cells #[.int .i64 k, .int .i64 a, .slice p1 rs.length c1] 58)) w.heap.size 58 [.int .i64 k, .int .i64 a, .slice p1 rs.length c1]) := F.D.blk_new w _ _
 have HX : Hid (∀ W, Below (w.alloc (Obj.cells #[.int .i64 k, .int .i64 a, .slice p1 rs.length c1] 58)).heap.size (w.alloc (Obj.cells #[.int .i64 k, .int .i64 a, .slice p1 rs.length c1] 58)) W -> W.cell? ⟨w.heap.size, 0, none⟩ = some (.int .i64 k) /\ W.cell? ⟨w.heap.size, 1, none⟩ = some (.int .i64 a) /\ W.cell? ⟨w.heap.size, 2, none⟩ = some (.slice p1 rs.length c1) /\ M.RlR W (.slice p1 rs.length c1) rs /\ Below w.heap.size w W) := fun W hW => ⟨(HK.out.over hW).cell 0, (HK.out.over hW).cell 1, (HK.out.over hW).cell 2, h.below (HB0.out.trans (hW.mono HB0.out.size)), HB0.out.trans (hW.mono HB0.out.size)⟩
 have hr0 : M.RlR (w.alloc (Obj.cells #[.int .i64 k, .int .i64 a, .slice p1 rs.length c1] 58)) (.slice p1 rs.length c1) rs := h.below (below_new w _)
 have HR0 : Hid (M.RlR (w.alloc (Obj.cells #[.int .i64 k, .int .i64 a, .slice p1 rs.length c1] 58)) (.slice p1 rs.length c1) rs) := hr0
 clear hr0 h hL hf HK
 have HBad : Hid (∀ w', (M.checkP k a (rs.map M.Xr.r)).1 ≠ 0 -> Below w.heap.size w w' -> CmT w k a rs (.returned (.tuple #[.slice none 0 0, .int .i64 (M.checkP k a (rs.map M.Xr.r)).1])) w') := fun w' h1 h2 => ⟨_, _, rfl, h2, .inl ⟨h1, rfl, rfl⟩⟩
 have HLong : Hid (∀ w' ns, (M.checkP k a (rs.map M.Xr.r)).1 = 0 -> Rok rs -> Nrs ns rs -> 4096 < (progI ns k a (rs.map M.Xr.r)).length -> Below w.heap.size w w' -> CmT w k a rs (.returned (.tuple #[.slice none 0 0, .int .i64 4])) w') := fun w' ns h1 h2 h3 h4 h5 => ⟨_, _, rfl, h5, .inr ⟨h1, h2, ns, h3, .inl ⟨h4, rfl, rfl⟩⟩⟩
 have HGood : Hid (∀ w' ns v, (M.checkP k a (rs.map M.Xr.r)).1 = 0 -> Rok rs -> Nrs ns rs -> (progI ns k a (rs.map M.Xr.r)).length <= 4096 -> Below w.heap.size w w' -> w'.ownsRow w.heap.size 156 4 v (progI ns k a (rs.map M.Xr.r)).length (V.cellsI (progI ns k a (rs.map M.Xr.r))) -> CmT w k a rs (.returned (.tuple #[v, .int .i64 0])) w') := fun w' ns v h1 h2 h3 h4 h5 h6 => ⟨_, _, rfl, h5, .inr ⟨h1, h2, ns, h3, .inr ⟨h4, rfl, h6⟩⟩⟩
 generalize M.checkP k a (rs.map M.Xr.r) = cp at *
 obtain ⟨p, q⟩ := cp
 dsimp only at *
 by_cases hp : p = 0
 ·subst hp
  have HP2 : Hid (∀ W, M.RlR W (.slice p1 rs.length c1) rs -> Calls Tryz.prog 37 #[.agg #[.int .i64 k, .int .i64 a, .slice p1 rs.length c1]] W fun e w' => PrT W k a rs e w') := HP.out rfl
  have HRk2 : Hid (Rok rs) := HRk.out rfl
  clear HP HRk
  go_enter Tryz.func15, Tryz.ntmps15
  go_upto_region 5 with (first
   | (go_at_call 36; refine (HC.out _ HR0.out).mono ?_; rintro e w1 ⟨rfl, b1⟩; obtain ⟨c0, c1', c2, r1, B1⟩ := HX.out _ b1)
   | (go_at_call 37; refine (HP2.out _ r1).mono ?_; rintro e w2 ⟨ns, hns, u2, rfl, o2, b2⟩))
  have HO : Hid (w2.ownsRow w.heap.size 156 4 u2 (progI ns k a (rs.map M.Xr.r)).length (V.cellsI (progI ns k a (rs.map M.Xr.r)))) := P.owns_lower o2 B1.size
  have HB : Hid (Below w.heap.size w w2) := B1.trans (b2.mono B1.size)
  obtain ⟨a2, q2, rfl⟩ := own_slice o2
  clear o2 b2 B1 b1 r1 c0 c1' c2
  have HNs : Hid (Nrs ns rs) := hns
  obtain ⟨N1, hN1⟩ : ∃ N1, (progI ns k a (rs.map M.Xr.r)).length = N1 := ⟨_, rfl⟩
  have HN1 : Hid ((progI ns k a (rs.map M.Xr.r)).length = N1) := hN1
  rw [hN1] at HO ⊢
  clear hN1 hns
  by_cases hl : 4096 < N1
  ·have hl1 : (4096 : Int) < (N1 : Int) := by omega
   go_wp2_with fail
   go_ret2
   exact HLong.out _ ns (by first | rfl | trivial) HRk2.out HNs.out (by rw [HN1.out]; exact hl) HB.out
  ·have hl1 : ¬ (4096 : Int) < (N1 : Int) := by omega
   go_wp2_with fail
   go_ret2
   exact HGood.out _ ns _ (by first | rfl | trivial) HRk2.out HNs.out (by rw [HN1.out]; omega) HB.out (by rw [HN1.out]; exact HO.out)
 ·have hp' : (p == 0) = false := by simpa using hp
  go_enter Tryz.func15, Tryz.ntmps15
  go_wp2_with (first | (go_at_call 36; refine (HC.out _ HR0.out).mono ?_; rintro e w1 ⟨rfl, b1⟩; obtain ⟨c0, c1', c2, r1, B1⟩ := HX.out _ b1))
  go_ret2
  exact HBad.out _ hp B1
end Go.Proofs.YtmcgcbgblgmmkaaGreatDoor
