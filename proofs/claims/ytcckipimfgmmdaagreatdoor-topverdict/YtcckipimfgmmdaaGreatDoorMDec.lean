/-
  What rules say of a call.
-/
import Derived.Test.YtcckipimfgmmdaaGreatDoorMCHolds
import Derived.Test.YtcckipimfgmmdaaGreatDoorMWrong
import Derived.Test.YtcckipimfgmmdaaGreatDoorMTabM
namespace Go.Proofs.YtcckipimfgmmdaaGreatDoor.M
open Go.RowKit

/-- does a condition hold of a call? -/
def hB (d : Da) (c : Xc) : Bool := holdN c.arg c.op c.mask c.val (d.g.getD c.arg.toNat 0)

theorem holdsX (x : Xc) (d : Da) (w : World) (hd : d.ok) : Calls Tryz.prog 97 #[.agg #[.int .i64 x.arg, .int .i64 x.op, .int .u64 x.mask, .int .u64 x.val], .agg d.cells.toArray] w fun e w' => e = .returned (.bool (hB d x)) ∧ Below w.heap.size w w' :=
  holds_any x.arg x.op x.mask x.val d w hd

set_option maxHeartbeats 1000000 in
theorem allHold_any (w : World) (v : Value) (l : List Xc) (d : Da) (h : CdR w v l) (hl : l.length ≤ 9000000) (hd : d.ok) :
    Calls Tryz.prog 55 #[v, .agg d.cells.toArray] w fun e w' => e = .returned (.bool (l.all (hB d))) ∧ Below w.heap.size w w' := by
  obtain ⟨p1, c1, rfl⟩ : ∃ p c, v = .slice p l.length c := by obtain ⟨p, c, e, _⟩ := h; exact ⟨p, c, e⟩
  have hsz : (Tryz.prog.info? 27).map (·.size) = some d.cells.toArray.size := d.size hd
  have HH : Hid (∀ (x : Xc) W, Calls Tryz.prog 97 #[.agg #[.int .i64 x.arg, .int .i64 x.op, .int .u64 x.mask, .int .u64 x.val], .agg d.cells.toArray] W fun e w' => e = .returned (.bool (hB d x)) ∧ Below W.heap.size W w') := fun x W => holdsX x d W hd
  have HR : Hid (∀ b, l.all (hB d) = b → b = l.all (hB d)) := fun b h => h.symm
  generalize d.cells = A at *
  have be : Below w.heap.size w (w.alloc (Obj.cells A.toArray 27)) := below_new w _
  have BE : Hid (Below w.heap.size w (w.alloc (Obj.cells A.toArray 27))) := be
  have HK : Hid (Blk (w.alloc (Obj.cells A.toArray 27)) w.heap.size 27 A) := blk_new w _ _
  have SN : Hid (CdR (w.alloc (Obj.cells A.toArray 27)) (.slice p1 l.length c1) l) := h.below be
  clear h be hd
  generalize hR : l.all (hB d) = R
  have HRR : Hid (l.all (hB d) = R) := hR
  clear hR HR
  go_enter Tryz.func55, Tryz.ntmps55
  go_wp2_with fail
  generalize (w.alloc (Obj.cells A.toArray 27)) = X at *
  go_loopw [9] (fun vi wr => ∃ i : Nat, vi = .int .i64 i ∧ i ≤ l.length ∧ ((l.take i).all (hB d)) = true ∧ Below X.heap.size X wr) (fun vi _ => l.length - (intOf vi).toNat)
  case atStart => exact ⟨0, rfl, Nat.zero_le _, rfl, Below.refl _ _⟩
  case round =>
    obtain ⟨i, rfl, hi, ht, hb⟩ := hrel
    have HT : Hid (((l.take i).all (hB d)) = true) := ht
    have HB : Hid (Below X.heap.size X wr) := hb
    clear ht
    by_cases hlt : i < l.length
    · have hi1 : (i : Int) < (l.length : Int) := by omega
      obtain ⟨b1, o1, rfl, e1⟩ := cdR_at (SN.out.below hb) hlt
      have HX : Hid (∀ W, Calls Tryz.prog 97 #[.agg #[.int .i64 l[i].arg, .int .i64 l[i].op, .int .u64 l[i].mask, .int .u64 l[i].val], .agg A.toArray] W fun e w' => e = .returned (.bool (hB d l[i])) ∧ Below W.heap.size W w') := HH.out l[i]
      have HS : Hid (hB d l[i] = true → ((l.take (i + 1)).all (hB d)) = true) := fun hq => all_step (p := hB d) hlt hq HT.out
      have HF : Hid (hB d l[i] = false → R = false) := fun hq => HRR.out.symm.trans (all_stop (p := hB d) hlt hq)
      clear HH
      generalize hB d l[i] = q at *
      generalize l[i] = x at *
      obtain ⟨xa, xo, xm, xv⟩ := x
      obtain ⟨q0, q1, q2, q3⟩ := e1
      dsimp only at q0 q1 q2 q3 HX
      have BX : Hid (Below X.heap.size X (wr.alloc (Obj.cells #[.int .i64 xa, .int .i64 xo, .int .u64 xm, .int .u64 xv] 139))) := HB.out.alloc HB.out.size _
      have KX : Hid (Blk (wr.alloc (Obj.cells #[.int .i64 xa, .int .i64 xo, .int .u64 xm, .int .u64 xv] 139)) w.heap.size 27 A) := HK.out.over BX.out
      clear hb
      cases q with
      | true =>
        go_wp2_with (first | (go_at_call 97; refine (HX.out _).mono ?_; rintro e w1 ⟨rfl, b1⟩) | (refine at_op (.load 27 (.tmp 3)) rfl ?_; refine wpList_load_row rfl 27 (.tmp 3) rfl w.heap.size rfl 27 A.toArray (0, 0) _ KX.out Tryz.underlying27 rfl hsz ?_))
        go_roundw
        case rel => exact ⟨i + 1, by go_num, hlt, HS.out trivial, BX.out.trans (b1.mono BX.out.size)⟩
        case measure => simp [intOf]; omega
      | false =>
        go_wp2_with (first | (go_at_call 97; refine (HX.out _).mono ?_; rintro e w1 ⟨rfl, b1⟩) | (refine at_op (.load 27 (.tmp 3)) rfl ?_; refine wpList_load_row rfl 27 (.tmp 3) rfl w.heap.size rfl 27 A.toArray (0, 0) _ KX.out Tryz.underlying27 rfl hsz ?_))
        go_ret
        exact ⟨ret_bool (HF.out trivial).symm, BE.out.trans ((BX.out.trans (b1.mono BX.out.size)).mono BE.out.size)⟩
    · have hge : ¬ (i : Int) < (l.length : Int) := by omega
      clear hb
      go_wp2
      go_ret
      exact ⟨ret_bool (by rw [← HRR.out]; exact (all_end hlt HT.out).symm), BE.out.trans (HB.out.mono BE.out.size)⟩

/-- a whole load behind a guard that is so. -/
theorem wpList_load_rowG {P : Program} {ops : Array Oper} {rest : List Oper} {o : Oper} {a : Act} {w : World} {Q : Exit → Act → World → Prop} (hw : Region.wanted o (yielded ops a.tmps) = true) (ty : TypeId) (x : Operand) (ho : o.op = .load ty x)
    (g : Nat) (hx : a.eval x = .pointer (some ⟨g, 0, none⟩)) (t : TypeId) (cs : Array Value) (fr : Nat × Nat) (d : TypeDesc) (hg : w.heap[g]? = some (.cells cs t fr))
    (hu : P.underlying ty = some d) (hd : (match d with | .struct _ | .array _ _ => true | _ => false) = true) (hi : (P.info? ty).map (·.size) = some cs.size)
    (h : wpList P ops Q rest (a.put o.dst (.agg cs)) w) : wpList P ops Q (o :: rest) a w :=
  wpList_step fun K hK => by
    simp only [hw, if_true]
    exact wp_load_row ty x ho g hx t cs fr d hg hu hd hi (hK _ _ h)

/-- does a rule speak of a call, and do its conditions hold? -/
def namedB (z : Int) (l : List ByteArray) : Bool := l.any fun s => eqS (nmS z) s
def meetB (d : Da) (x : Xl) : Bool := namedB d.n x.names && x.conds.all (hB d)

/-- the act of the first rule that does. -/
def verdF (d : Da) (k a : Int) : List Xl → Int × Int
  | [] => (k, a)
  | x :: r => if meetB d x = true then (x.k, x.a) else verdF d k a r
def verdP (d : Da) (k a : Int) (l : List Xl) : Int × Int := if isNr d.n = true then verdF d k a l else (k, a)

theorem verdF_step {d : Da} {k a : Int} {l : List Xr} {i : Nat} (h : i < l.length) : verdF d k a ((l.drop i).map Xr.r) = if meetB d l[i].r = true then (l[i].r.k, l[i].r.a) else verdF d k a ((l.drop (i + 1)).map Xr.r) := by
  rw [List.drop_eq_getElem_cons h]
  rfl
theorem verdF_end {d : Da} {k a : Int} {l : List Xr} {i : Nat} (h : ¬ i < l.length) : verdF d k a ((l.drop i).map Xr.r) = (k, a) := by
  rw [List.drop_eq_nil_of_le (by omega)]
  rfl

/-- an act as a value. -/
def actV (p : Int × Int) : Array Value := #[.int .i64 p.1, .int .i64 p.2]
theorem Tryz.sizeA (p : Int × Int) : (Tryz.prog.info? 36).map (·.size) = some (actV p).size := by show (Tryz.prog.info? 36).map (·.size) = some 2; kernel_rfl
theorem actV_one (p : Int × Int) : (actV p).all (·.oneCell') = true := by simp [actV, Value.oneCell']

theorem three_new (w : World) (o : Obj) (A : List Value) (B : Array Value) : Blk (((w.alloc o).alloc (Obj.cells A.toArray 27)).alloc (Obj.cells B 36)) (w.heap.size + 1) 27 A ∧ Blk (((w.alloc o).alloc (Obj.cells A.toArray 27)).alloc (Obj.cells B 36)) (w.heap.size + 1 + 1) 36 B.toList ∧ Below w.heap.size w (((w.alloc o).alloc (Obj.cells A.toArray 27)).alloc (Obj.cells B 36)) := by
  refine ⟨(blk_new' w o _ 27).alloc _, ?_, (room_below w _ _).alloc (room_below w _ _).size _⟩
  have := blk_new' (w.alloc o) (Obj.cells A.toArray 27) B 36
  rw [size_alloc'] at this
  exact this
theorem three_first (w : World) (A : List Value) (B C : Array Value) (t : TypeId) : Blk (((w.alloc (Obj.cells C t)).alloc (Obj.cells A.toArray 27)).alloc (Obj.cells B 36)) w.heap.size t C.toList := ((blk_new w C t).alloc _).alloc _

set_option maxRecDepth 8000 in
set_option maxHeartbeats 2000000 in
theorem verdict_any (w : World) (k a : Int) (v : Value) (l : List Xr) (d : Da) (h : RlR w v l) (hl : l.length ≤ 1000) (hs : ∀ x ∈ l, x.r.names.length ≤ 9000000 ∧ x.r.conds.length ≤ 9000000) (hd : d.ok) :
    Calls Tryz.prog 26 #[.agg #[.int .i64 k, .int .i64 a, v], .agg d.cells.toArray] w fun e w' => e = .returned (.agg (actV (verdP d k a (l.map Xr.r)))) ∧ Below w.heap.size w w' := by
  obtain ⟨p1, c1, rfl⟩ : ∃ p c, v = .slice p l.length c := by obtain ⟨p, c, e, _⟩ := h; exact ⟨p, c, e⟩
  have hsz : (Tryz.prog.info? 27).map (·.size) = some d.cells.toArray.size := d.size hd
  have hA0 : d.cells[0]? = some (.int .u32 d.n) := rfl
  have HH : Hid (∀ W v (x : Xl), CdR W v x.conds → x.conds.length ≤ 9000000 → Calls Tryz.prog 55 #[v, .agg d.cells.toArray] W fun e w' => e = .returned (.bool (x.conds.all (hB d))) ∧ Below W.heap.size W w') := fun W v x h1 h2 => allHold_any W v x.conds d h1 h2 hd
  have HNm : Hid (∀ W, Calls Tryz.prog 53 #[.int .u32 d.n] W fun e w' => e = .returned (.tuple #[.string (nmS d.n), .bool (isNr d.n)]) ∧ Below W.heap.size W w') := name_any _
  have HV : Hid (verdP d k a (l.map Xr.r) = if isNr d.n = true then verdF d k a ((l.drop 0).map Xr.r) else (k, a)) := rfl
  have HMB : Hid (∀ x : Xl, meetB d x = (namedB d.n x.names && x.conds.all (hB d))) := fun _ => rfl
  have HM : Hid (∀ x ∈ l, x.r.names.length ≤ 9000000 ∧ x.r.conds.length ≤ 9000000) := hs
  have h3 := three_new w (Obj.cells #[.int .i64 k, .int .i64 a, .slice p1 l.length c1] 39) d.cells #[.int .i64 0, .int .i64 0]
  have h4 := three_first w d.cells #[.int .i64 0, .int .i64 0] #[.int .i64 k, .int .i64 a, .slice p1 l.length c1] 39
  generalize hAA : d.cells = A at *
  have BE : Hid (Below w.heap.size w (((w.alloc (Obj.cells #[.int .i64 k, .int .i64 a, .slice p1 l.length c1] 39)).alloc (Obj.cells A.toArray 27)).alloc (Obj.cells #[.int .i64 0, .int .i64 0] 36))) := h3.2.2
  have KD : Hid (Blk (((w.alloc (Obj.cells #[.int .i64 k, .int .i64 a, .slice p1 l.length c1] 39)).alloc (Obj.cells A.toArray 27)).alloc (Obj.cells #[.int .i64 0, .int .i64 0] 36)) (w.heap.size + 1) 27 A) := h3.1
  have KA : Hid (Blk (((w.alloc (Obj.cells #[.int .i64 k, .int .i64 a, .slice p1 l.length c1] 39)).alloc (Obj.cells A.toArray 27)).alloc (Obj.cells #[.int .i64 0, .int .i64 0] 36)) (w.heap.size + 1 + 1) 36 [.int .i64 0, .int .i64 0]) := h3.2.1
  have KR : Hid (Blk (((w.alloc (Obj.cells #[.int .i64 k, .int .i64 a, .slice p1 l.length c1] 39)).alloc (Obj.cells A.toArray 27)).alloc (Obj.cells #[.int .i64 0, .int .i64 0] 36)) w.heap.size 39 [.int .i64 k, .int .i64 a, .slice p1 l.length c1]) := h4
  have SN : Hid (RlR _ (.slice p1 l.length c1) l) := h.below h3.2.2
  have HCt : Hid (∀ W v ns, StrR W v ns → ns.length ≤ 9000000 → Calls Tryz.prog 54 #[v, .string (nmS d.n)] W fun e w' => e = .returned (.bool (namedB d.n ns)) ∧ w' = W) := fun W v ns h1 h2 => contains_any W v ns _ h1 h2
  clear h hs hd h3 h4
  generalize verdP d k a (l.map Xr.r) = R at *
  generalize nmS d.n = nm at *
  clear hAA
  cases hq : isNr d.n with
  | false =>
    rw [hq] at HV HNm
    have HV2 : Hid (R = (k, a)) := HV.out.trans (if_neg (by decide))
    clear HV HH HCt HMB HM SN hq
    go_enter Tryz.func26, Tryz.ntmps26
    go_wp2_with fail
    generalize (((w.alloc (Obj.cells #[.int .i64 k, .int .i64 a, .slice p1 l.length c1] 39)).alloc (Obj.cells A.toArray 27)).alloc (Obj.cells #[.int .i64 0, .int .i64 0] 36)) = X at *
    refine (HNm.out _).mono ?_
    rintro e w1 ⟨rfl, b1⟩
    have t0 : w1.cell? ⟨w.heap.size, 0, none⟩ = some (.int .i64 k) := (KR.out.over b1).cell 0
    have t1 : w1.cell? ⟨w.heap.size, 1, none⟩ = some (.int .i64 a) := (KR.out.over b1).cell 1
    have KA1 : Hid (Blk w1 (w.heap.size + 1 + 1) 36 [.int .i64 0, .int .i64 0]) := KA.out.over b1
    have B1 : Hid (Below w.heap.size w w1) := BE.out.trans (b1.mono BE.out.size)
    clear b1 BE KA KR KD
    go_wp2_with (refine at_op (.store 36 (.tmp 4) (.tmp 18)) rfl ?_; refine wpList_store_row rfl 36 (.tmp 4) (.tmp 18) rfl (w.heap.size + 1 + 1) (actV (k, a)) rfl rfl 36 _ KA1.out (Tryz.sizeA _) rfl (actV_one _) ?_)
    refine bodyPost_ret (v := .agg (actV (k, a))) ?_ rfl ⟨by rw [HV2.out], ?_⟩
    · exact results_cell_row Tryz.results26 _ _ (w.heap.size + 1 + 1) 36 (actV (k, a)) (0, 0) _ rfl (Blk.row KA1.out _) Tryz.underlying36 rfl (Tryz.sizeA _)
    · exact below_setRow B1.out (by omega) _
  | true =>
    rw [hq] at HV HNm
    have HV2 : Hid (R = verdF d k a ((l.drop 0).map Xr.r)) := HV.out.trans (if_pos rfl)
    clear HV hq
    go_enter Tryz.func26, Tryz.ntmps26
    go_wp2_with fail
    generalize (((w.alloc (Obj.cells #[.int .i64 k, .int .i64 a, .slice p1 l.length c1] 39)).alloc (Obj.cells A.toArray 27)).alloc (Obj.cells #[.int .i64 0, .int .i64 0] 36)) = X at *
    refine (HNm.out _).mono ?_
    rintro e w1 ⟨rfl, b1⟩
    have t2 : w1.cell? ⟨w.heap.size, 2, none⟩ = some (.slice p1 l.length c1) := (KR.out.over b1).cell 2
    have S1 : Hid (RlR w1 (.slice p1 l.length c1) l) := SN.out.below b1
    have KA1 : Hid (Blk w1 (w.heap.size + 1 + 1) 36 [.int .i64 0, .int .i64 0]) := KA.out.over b1
    have KR1 : Hid (Blk w1 w.heap.size 39 [.int .i64 k, .int .i64 a, .slice p1 l.length c1]) := KR.out.over b1
    have KD1 : Hid (Blk w1 (w.heap.size + 1) 27 A) := KD.out.over b1
    have B1 : Hid (Below w.heap.size w w1) := BE.out.trans (b1.mono BE.out.size)
    clear b1 BE KA KR KD SN HNm hA0
    go_wp2_with fail
    clear t2
    go_loopw [22] (fun vi wr => ∃ i : Nat, vi = .int .i64 i ∧ i ≤ l.length ∧ R = verdF d k a ((l.drop i).map Xr.r) ∧ Below w1.heap.size w1 wr) (fun vi _ => l.length - (intOf vi).toNat)
    case atStart => exact ⟨0, rfl, Nat.zero_le _, HV2.out, Below.refl _ _⟩
    case round =>
      obtain ⟨i, rfl, hi, ht, hb⟩ := hrel
      have HT : Hid (R = verdF d k a ((l.drop i).map Xr.r)) := ht
      have HB : Hid (Below w1.heap.size w1 wr) := hb
      clear ht
      by_cases hlt : i < l.length
      · have hi1 : (i : Int) < (l.length : Int) := by omega
        obtain ⟨b1, o1, rfl, e1⟩ := rlR_at (S1.out.below hb) hlt
        have hmem : l[i] ∈ l := List.getElem_mem hlt
        have HX : Hid (∀ W, Below w1.heap.size w1 W → Calls Tryz.prog 54 #[l[i].vn, .string nm] W fun e w' => e = .returned (.bool (namedB d.n l[i].r.names)) ∧ w' = W) := fun W hW => by
          obtain ⟨_, _, _, _, _, _, hr⟩ := S1.out.below hW
          exact HCt.out W _ _ (hr _ hmem).1 (HM.out _ hmem).1
        have HY : Hid (∀ W, Below w1.heap.size w1 W → Calls Tryz.prog 55 #[l[i].vc, .agg A.toArray] W fun e w' => e = .returned (.bool (l[i].r.conds.all (hB d))) ∧ Below W.heap.size W w') := fun W hW => by
          obtain ⟨_, _, _, _, _, _, hr⟩ := S1.out.below hW
          exact HH.out W _ l[i].r (hr _ hmem).2 (HM.out _ hmem).2
        have HS : Hid (R = if (namedB d.n l[i].r.names && l[i].r.conds.all (hB d)) = true then (l[i].r.k, l[i].r.a) else verdF d k a ((l.drop (i + 1)).map Xr.r)) := by
          show R = _
          rw [← HMB.out]
          exact HT.out.trans (verdF_step hlt)
        obtain ⟨p3, n3, c3, e3⟩ : ∃ p n c, l[i].vn = .slice p n c := by obtain ⟨_, _, _, _, _, _, hr⟩ := S1.out; obtain ⟨p, c, e, _⟩ := (hr _ hmem).1; exact ⟨p, _, c, e⟩
        obtain ⟨p4, n4, c4, e4⟩ : ∃ p n c, l[i].vc = .slice p n c := by obtain ⟨_, _, _, _, _, _, hr⟩ := S1.out; obtain ⟨p, c, e, _⟩ := (hr _ hmem).2; exact ⟨p, _, c, e⟩
        clear hmem HT HH HCt HMB
        generalize l[i] = x at *
        obtain ⟨⟨xk, xa, ns, cs⟩, vn, vc⟩ := x
        obtain ⟨q0, q1, q2, q3⟩ := e1
        dsimp only at q0 q1 q2 q3 HX HY HS e3 e4
        subst e3 e4
        have BE : Hid (Below w1.heap.size w1 (wr.alloc (Obj.cells #[.int .i64 xk, .int .i64 xa, .slice p3 n3 c3, .slice p4 n4 c4] 87))) := HB.out.alloc HB.out.size _
        have KX : Hid (Blk (wr.alloc (Obj.cells #[.int .i64 xk, .int .i64 xa, .slice p3 n3 c3, .slice p4 n4 c4] 87)) wr.heap.size 87 [.int .i64 xk, .int .i64 xa, .slice p3 n3 c3, .slice p4 n4 c4]) := blk_new wr _ _
        have KD2 : Hid (Blk (wr.alloc (Obj.cells #[.int .i64 xk, .int .i64 xa, .slice p3 n3 c3, .slice p4 n4 c4] 87)) (w.heap.size + 1) 27 A) := KD1.out.over BE.out
        clear hb
        generalize namedB d.n ns = qn at *
        generalize cs.all (hB d) = qc at *
        cases qn with
        | false =>
          have HS2 : Hid (R = verdF d k a ((l.drop (i + 1)).map Xr.r)) := HS.out.trans (if_neg (by simp))
          clear HS HY
          go_wp2_with (go_at_call 54; refine (HX.out _ BE.out).mono ?_; rintro e w2 ⟨rfl, rfl⟩)
          go_roundw
          case rel => exact ⟨i + 1, by go_num, hlt, HS2.out, BE.out⟩
          case measure => simp [intOf]; omega
        | true =>
          cases qc with
          | false =>
            have HS2 : Hid (R = verdF d k a ((l.drop (i + 1)).map Xr.r)) := HS.out.trans (if_neg (by simp))
            clear HS
            go_wp2_with (first | (go_at_call 54; refine (HX.out _ BE.out).mono ?_; rintro e w2 ⟨rfl, rfl⟩) | (go_at_call 55; refine (HY.out _ BE.out).mono ?_; rintro e w2 ⟨rfl, b2⟩) | (refine at_op (.load 27 (.tmp 3)) rfl ?_; refine wpList_load_rowG rfl 27 (.tmp 3) rfl (w.heap.size + 1) rfl 27 A.toArray (0, 0) _ KD2.out Tryz.underlying27 rfl hsz ?_))
            go_roundw
            case rel => exact ⟨i + 1, by go_num, hlt, HS2.out, BE.out.trans (b2.mono BE.out.size)⟩
            case measure => simp [intOf]; omega
          | true =>
            have HS2 : Hid (R = (xk, xa)) := HS.out.trans (if_pos (by simp))
            clear HS
            go_wp2_with (first | (go_at_call 54; refine (HX.out _ BE.out).mono ?_; rintro e w2 ⟨rfl, rfl⟩) | (go_at_call 55; refine (HY.out _ BE.out).mono ?_; rintro e w2 ⟨rfl, b2⟩; have t0 : w2.cell? ⟨wr.heap.size, 0, none⟩ = some (.int .i64 xk) := (KX.out.over b2).cell 0; have t1 : w2.cell? ⟨wr.heap.size, 1, none⟩ = some (.int .i64 xa) := (KX.out.over b2).cell 1; have B2 : Hid (Below w1.heap.size w1 w2) := BE.out.trans (b2.mono BE.out.size); clear b2; have KA2 : Hid (Blk w2 (w.heap.size + 1 + 1) 36 [.int .i64 0, .int .i64 0]) := KA1.out.over B2.out) | (refine at_op (.load 27 (.tmp 3)) rfl ?_; refine wpList_load_rowG rfl 27 (.tmp 3) rfl (w.heap.size + 1) rfl 27 A.toArray (0, 0) _ KD2.out Tryz.underlying27 rfl hsz ?_) | (refine at_op (.store 36 (.tmp 4) (.tmp 37)) rfl ?_; refine wpList_store_row rfl 36 (.tmp 4) (.tmp 37) rfl (w.heap.size + 1 + 1) (actV (xk, xa)) rfl rfl 36 _ KA2.out (Tryz.sizeA _) rfl (actV_one _) ?_))
            refine bodyPost_ret (v := .agg (actV (xk, xa))) ?_ rfl ⟨by rw [HS2.out], ?_⟩
            · exact results_cell_row Tryz.results26 _ _ (w.heap.size + 1 + 1) 36 (actV (xk, xa)) (0, 0) _ rfl (Blk.row KA2.out _) Tryz.underlying36 rfl (Tryz.sizeA _)
            · exact below_setRow (B1.out.trans (B2.out.mono B1.out.size)) (by omega) _
      · have hge : ¬ (i : Int) < (l.length : Int) := by omega
        have HS2 : Hid (R = (k, a)) := HT.out.trans (verdF_end hlt)
        have t0 : wr.cell? ⟨w.heap.size, 0, none⟩ = some (.int .i64 k) := (KR1.out.over hb).cell 0
        have t1 : wr.cell? ⟨w.heap.size, 1, none⟩ = some (.int .i64 a) := (KR1.out.over hb).cell 1
        have KA2 : Hid (Blk wr (w.heap.size + 1 + 1) 36 [.int .i64 0, .int .i64 0]) := KA1.out.over hb
        clear hb
        go_wp2_with (refine at_op (.store 36 (.tmp 4) (.tmp 40)) rfl ?_; refine wpList_store_row rfl 36 (.tmp 4) (.tmp 40) rfl (w.heap.size + 1 + 1) (actV (k, a)) rfl rfl 36 _ KA2.out (Tryz.sizeA _) rfl (actV_one _) ?_)
        refine bodyPost_ret (v := .agg (actV (k, a))) ?_ rfl ⟨by rw [HS2.out], ?_⟩
        · exact results_cell_row Tryz.results26 _ _ (w.heap.size + 1 + 1) 36 (actV (k, a)) (0, 0) _ rfl (Blk.row KA2.out _) Tryz.underlying36 rfl (Tryz.sizeA _)
        · exact below_setRow (B1.out.trans (HB.out.mono B1.out.size)) (by omega) _

end Go.Proofs.YtcckipimfgmmdaaGreatDoor.M
