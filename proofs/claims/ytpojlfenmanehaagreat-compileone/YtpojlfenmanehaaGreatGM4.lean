/-
  What rules say of a call; rules that come in.
-/
import Derived.Test.YtpojlfenmanehaaGreatGM2
import Derived.Test.YtpojlfenmanehaaGreatGM3
import Derived.Test.YtpojlfenmanehaaGreatGM1
import Derived.OpenShut
import Derived.ProofKit
import Derived.Deep.Slices
import Derived.Deep.Fields
import Derived.Maps.AppendAt
import Derived.Laws.OwnMore
namespace Go.Proofs.YtpojlfenmanehaaGreat.M
open Go.RowKit

/-- does a condition hold of a call? -/
def hB (d : Da) (c : Xc) : Bool := holdN c.arg c.op c.mask c.val (d.g.getD c.arg.toNat 0)

theorem holdsX (x : Xc) (d : Da) (w : World) (hd : d.ok) : Calls Tryz.prog 98 #[.agg #[.int .i64 x.arg, .int .i64 x.op, .int .u64 x.mask, .int .u64 x.val], .agg d.cells.toArray] w fun e w' => e = .returned (.bool (hB d x)) ∧ Below w.heap.size w w' :=
  holds_any x.arg x.op x.mask x.val d w hd

set_option maxHeartbeats 1000000 in
theorem allHold_any (w : World) (v : Value) (l : List Xc) (d : Da) (h : CdR w v l) (hl : l.length ≤ 9000000) (hd : d.ok) :
    Calls Tryz.prog 58 #[v, .agg d.cells.toArray] w fun e w' => e = .returned (.bool (l.all (hB d))) ∧ Below w.heap.size w w' := by
  obtain ⟨p1, c1, rfl⟩ : ∃ p c, v = .slice p l.length c := by obtain ⟨p, c, e, _⟩ := h; exact ⟨p, c, e⟩
  have hsz : (Tryz.prog.info? 41).map (·.size) = some d.cells.toArray.size := d.size hd
  have HH : Hid (∀ (x : Xc) W, Calls Tryz.prog 98 #[.agg #[.int .i64 x.arg, .int .i64 x.op, .int .u64 x.mask, .int .u64 x.val], .agg d.cells.toArray] W fun e w' => e = .returned (.bool (hB d x)) ∧ Below W.heap.size W w') := fun x W => holdsX x d W hd
  have HR : Hid (∀ b, l.all (hB d) = b → b = l.all (hB d)) := fun b h => h.symm
  generalize d.cells = A at *
  have be : Below w.heap.size w (w.alloc (Obj.cells A.toArray 41)) := below_new w _
  have BE : Hid (Below w.heap.size w (w.alloc (Obj.cells A.toArray 41))) := be
  have HK : Hid (Blk (w.alloc (Obj.cells A.toArray 41)) w.heap.size 41 A) := blk_new w _ _
  have SN : Hid (CdR (w.alloc (Obj.cells A.toArray 41)) (.slice p1 l.length c1) l) := h.below be
  clear h be hd
  generalize hR : l.all (hB d) = R
  have HRR : Hid (l.all (hB d) = R) := hR
  clear hR HR
  go_enter Tryz.func58, Tryz.ntmps58
  go_wp2_with fail
  generalize (w.alloc (Obj.cells A.toArray 41)) = X at *
  go_loopw [9] (fun vi wr => ∃ i : Nat, vi = .int .i64 i ∧ i ≤ l.length ∧ ((l.take i).all (hB d)) = true ∧ Below X.heap.size X wr) (fun vi _ => l.length - (intOf vi).toNat)
  case atStart => exact ⟨0, rfl, Nat.zero_le _, rfl, Below.refl _ _⟩
  case round =>
    obtain ⟨i, rfl, hi, ht, hb⟩ := hrel
    have HT : Hid (((l.take i).all (hB d)) = true) := ht
    have HB : Hid (Below X.heap.size X wr) := hb
    clear ht
    by_cases hlt : i < l.length
    · have hi1 : (i : Int) < (l.length : Int) := by omega
      obtain ⟨b1, o1, rfl, e1⟩ := cdR_at (SN.out.below hb) hlt
      have HX : Hid (∀ W, Calls Tryz.prog 98 #[.agg #[.int .i64 l[i].arg, .int .i64 l[i].op, .int .u64 l[i].mask, .int .u64 l[i].val], .agg A.toArray] W fun e w' => e = .returned (.bool (hB d l[i])) ∧ Below W.heap.size W w') := HH.out l[i]
      have HS : Hid (hB d l[i] = true → ((l.take (i + 1)).all (hB d)) = true) := fun hq => all_step (p := hB d) hlt hq HT.out
      have HF : Hid (hB d l[i] = false → R = false) := fun hq => HRR.out.symm.trans (all_stop (p := hB d) hlt hq)
      clear HH
      generalize hB d l[i] = q at *
      generalize l[i] = x at *
      obtain ⟨xa, xo, xm, xv⟩ := x
      obtain ⟨q0, q1, q2, q3⟩ := e1
      dsimp only at q0 q1 q2 q3 HX
      have BX : Hid (Below X.heap.size X (wr.alloc (Obj.cells #[.int .i64 xa, .int .i64 xo, .int .u64 xm, .int .u64 xv] 54))) := HB.out.alloc HB.out.size _
      have KX : Hid (Blk (wr.alloc (Obj.cells #[.int .i64 xa, .int .i64 xo, .int .u64 xm, .int .u64 xv] 54)) w.heap.size 41 A) := HK.out.over BX.out
      clear hb
      cases q with
      | true =>
        go_wp2_with (first | (go_at_call 98; refine (HX.out _).mono ?_; rintro e w1 ⟨rfl, b1⟩) | (refine at_op (.load 41 (.tmp 3)) rfl ?_; refine wpList_load_row rfl 41 (.tmp 3) rfl w.heap.size rfl 41 A.toArray (0, 0) _ KX.out Tryz.underlying41 rfl hsz ?_))
        go_roundw
        case rel => exact ⟨i + 1, by go_num, hlt, HS.out trivial, BX.out.trans (b1.mono BX.out.size)⟩
        case measure => simp [intOf]; omega
      | false =>
        go_wp2_with (first | (go_at_call 98; refine (HX.out _).mono ?_; rintro e w1 ⟨rfl, b1⟩) | (refine at_op (.load 41 (.tmp 3)) rfl ?_; refine wpList_load_row rfl 41 (.tmp 3) rfl w.heap.size rfl 41 A.toArray (0, 0) _ KX.out Tryz.underlying41 rfl hsz ?_))
        go_ret
        exact ⟨ret_bool (HF.out trivial).symm, BE.out.trans ((BX.out.trans (b1.mono BX.out.size)).mono BE.out.size)⟩
    · have hge : ¬ (i : Int) < (l.length : Int) := by omega
      clear hb
      go_wp2
      go_ret
      exact ⟨ret_bool (by rw [← HRR.out]; exact (all_end hlt HT.out).symm), BE.out.trans (HB.out.mono BE.out.size)⟩

/-- a whole load behind a guard that is so. -/
theorem wpList_load_rowG {P : Program} {ops : Array Oper} {rest : List Oper} {o : Oper} {a : Act} {w : World} {Q : Exit → Act → World → Prop} (hw : Region.wanted o (yielded ops a.tmps) = true) (ty : TypeId) (x : Operand) (ho : o.op = .load ty x)
    (g : Nat) (hx : a.eval x = .pointer (some ⟨g, 0, none⟩)) (t : TypeId) (cs : Array Value) (fr : Nat × Nat) (d : TypeDesc) (hg : w.heap[g]? = some (.cells cs t fr))
    (hu : P.underlying ty = some d) (hd : (match d with | .struct _ | .array _ _ => true | _ => false) = true) (hi : (P.info? ty).map (·.size) = some cs.size)
    (h : wpList P ops Q rest (a.put o.dst (.agg cs)) w) : wpList P ops Q (o :: rest) a w :=
  wpList_step fun K hK => by
    simp only [hw, if_true]
    exact wp_load_row ty x ho g hx t cs fr d hg hu hd hi (hK _ _ h)

/-- does a rule speak of a call, and do its conditions hold? -/
def namedB (z : Int) (l : List ByteArray) : Bool := l.any fun s => eqS (nmS z) s
def meetB (d : Da) (x : Xl) : Bool := namedB d.n x.names && x.conds.all (hB d)

/-- the act of the first rule that does. -/
def verdF (d : Da) (k a : Int) : List Xl → Int × Int
  | [] => (k, a)
  | x :: r => if meetB d x = true then (x.k, x.a) else verdF d k a r
def verdP (d : Da) (k a : Int) (l : List Xl) : Int × Int := if isNr d.n = true then verdF d k a l else (k, a)

theorem verdF_step {d : Da} {k a : Int} {l : List Xr} {i : Nat} (h : i < l.length) : verdF d k a ((l.drop i).map Xr.r) = if meetB d l[i].r = true then (l[i].r.k, l[i].r.a) else verdF d k a ((l.drop (i + 1)).map Xr.r) := by
  rw [List.drop_eq_getElem_cons h]
  rfl
theorem verdF_end {d : Da} {k a : Int} {l : List Xr} {i : Nat} (h : ¬ i < l.length) : verdF d k a ((l.drop i).map Xr.r) = (k, a) := by
  rw [List.drop_eq_nil_of_le (by omega)]
  rfl

/-- an act as a value. -/
def actV (p : Int × Int) : Array Value := #[.int .i64 p.1, .int .i64 p.2]
theorem Tryz.sizeA (p : Int × Int) : (Tryz.prog.info? 23).map (·.size) = some (actV p).size := by show (Tryz.prog.info? 23).map (·.size) = some 2; kernel_rfl
theorem actV_one (p : Int × Int) : (actV p).all (·.oneCell') = true := by simp [actV, Value.oneCell']

theorem three_new (w : World) (o : Obj) (A : List Value) (B : Array Value) : Blk (((w.alloc o).alloc (Obj.cells A.toArray 41)).alloc (Obj.cells B 23)) (w.heap.size + 1) 41 A ∧ Blk (((w.alloc o).alloc (Obj.cells A.toArray 41)).alloc (Obj.cells B 23)) (w.heap.size + 1 + 1) 23 B.toList ∧ Below w.heap.size w (((w.alloc o).alloc (Obj.cells A.toArray 41)).alloc (Obj.cells B 23)) := by
  refine ⟨(blk_new' w o _ 41).alloc _, ?_, (room_below w _ _).alloc (room_below w _ _).size _⟩
  have := blk_new' (w.alloc o) (Obj.cells A.toArray 41) B 23
  rw [size_alloc'] at this
  exact this
theorem three_first (w : World) (A : List Value) (B C : Array Value) (t : TypeId) : Blk (((w.alloc (Obj.cells C t)).alloc (Obj.cells A.toArray 41)).alloc (Obj.cells B 23)) w.heap.size t C.toList := ((blk_new w C t).alloc _).alloc _

set_option maxRecDepth 8000 in
set_option maxHeartbeats 2000000 in
theorem verdict_any (w : World) (k a : Int) (v : Value) (l : List Xr) (d : Da) (h : RlR w v l) (hl : l.length ≤ 1000) (hs : ∀ x ∈ l, x.r.names.length ≤ 9000000 ∧ x.r.conds.length ≤ 9000000) (hd : d.ok) :
    Calls Tryz.prog 32 #[.agg #[.int .i64 k, .int .i64 a, v], .agg d.cells.toArray] w fun e w' => e = .returned (.agg (actV (verdP d k a (l.map Xr.r)))) ∧ Below w.heap.size w w' := by
  obtain ⟨p1, c1, rfl⟩ : ∃ p c, v = .slice p l.length c := by obtain ⟨p, c, e, _⟩ := h; exact ⟨p, c, e⟩
  have hsz : (Tryz.prog.info? 41).map (·.size) = some d.cells.toArray.size := d.size hd
  have hA0 : d.cells[0]? = some (.int .u32 d.n) := rfl
  have HH : Hid (∀ W v (x : Xl), CdR W v x.conds → x.conds.length ≤ 9000000 → Calls Tryz.prog 58 #[v, .agg d.cells.toArray] W fun e w' => e = .returned (.bool (x.conds.all (hB d))) ∧ Below W.heap.size W w') := fun W v x h1 h2 => allHold_any W v x.conds d h1 h2 hd
  have HNm : Hid (∀ W, Calls Tryz.prog 56 #[.int .u32 d.n] W fun e w' => e = .returned (.tuple #[.string (nmS d.n), .bool (isNr d.n)]) ∧ Below W.heap.size W w') := name_any _
  have HV : Hid (verdP d k a (l.map Xr.r) = if isNr d.n = true then verdF d k a ((l.drop 0).map Xr.r) else (k, a)) := rfl
  have HMB : Hid (∀ x : Xl, meetB d x = (namedB d.n x.names && x.conds.all (hB d))) := fun _ => rfl
  have HM : Hid (∀ x ∈ l, x.r.names.length ≤ 9000000 ∧ x.r.conds.length ≤ 9000000) := hs
  have h3 := three_new w (Obj.cells #[.int .i64 k, .int .i64 a, .slice p1 l.length c1] 26) d.cells #[.int .i64 0, .int .i64 0]
  have h4 := three_first w d.cells #[.int .i64 0, .int .i64 0] #[.int .i64 k, .int .i64 a, .slice p1 l.length c1] 26
  generalize hAA : d.cells = A at *
  have BE : Hid (Below w.heap.size w (((w.alloc (Obj.cells #[.int .i64 k, .int .i64 a, .slice p1 l.length c1] 26)).alloc (Obj.cells A.toArray 41)).alloc (Obj.cells #[.int .i64 0, .int .i64 0] 23))) := h3.2.2
  have KD : Hid (Blk (((w.alloc (Obj.cells #[.int .i64 k, .int .i64 a, .slice p1 l.length c1] 26)).alloc (Obj.cells A.toArray 41)).alloc (Obj.cells #[.int .i64 0, .int .i64 0] 23)) (w.heap.size + 1) 41 A) := h3.1
  have KA : Hid (Blk (((w.alloc (Obj.cells #[.int .i64 k, .int .i64 a, .slice p1 l.length c1] 26)).alloc (Obj.cells A.toArray 41)).alloc (Obj.cells #[.int .i64 0, .int .i64 0] 23)) (w.heap.size + 1 + 1) 23 [.int .i64 0, .int .i64 0]) := h3.2.1
  have KR : Hid (Blk (((w.alloc (Obj.cells #[.int .i64 k, .int .i64 a, .slice p1 l.length c1] 26)).alloc (Obj.cells A.toArray 41)).alloc (Obj.cells #[.int .i64 0, .int .i64 0] 23)) w.heap.size 26 [.int .i64 k, .int .i64 a, .slice p1 l.length c1]) := h4
  have SN : Hid (RlR _ (.slice p1 l.length c1) l) := h.below h3.2.2
  have HCt : Hid (∀ W v ns, StrR W v ns → ns.length ≤ 9000000 → Calls Tryz.prog 57 #[v, .string (nmS d.n)] W fun e w' => e = .returned (.bool (namedB d.n ns)) ∧ w' = W) := fun W v ns h1 h2 => contains_any W v ns _ h1 h2
  clear h hs hd h3 h4
  generalize verdP d k a (l.map Xr.r) = R at *
  generalize nmS d.n = nm at *
  clear hAA
  cases hq : isNr d.n with
  | false =>
    rw [hq] at HV HNm
    have HV2 : Hid (R = (k, a)) := HV.out.trans (if_neg (by decide))
    clear HV HH HCt HMB HM SN hq
    go_enter Tryz.func32, Tryz.ntmps32
    go_wp2_with fail
    generalize (((w.alloc (Obj.cells #[.int .i64 k, .int .i64 a, .slice p1 l.length c1] 26)).alloc (Obj.cells A.toArray 41)).alloc (Obj.cells #[.int .i64 0, .int .i64 0] 23)) = X at *
    refine (HNm.out _).mono ?_
    rintro e w1 ⟨rfl, b1⟩
    have t0 : w1.cell? ⟨w.heap.size, 0, none⟩ = some (.int .i64 k) := (KR.out.over b1).cell 0
    have t1 : w1.cell? ⟨w.heap.size, 1, none⟩ = some (.int .i64 a) := (KR.out.over b1).cell 1
    have KA1 : Hid (Blk w1 (w.heap.size + 1 + 1) 23 [.int .i64 0, .int .i64 0]) := KA.out.over b1
    have B1 : Hid (Below w.heap.size w w1) := BE.out.trans (b1.mono BE.out.size)
    clear b1 BE KA KR KD
    go_wp2_with (refine at_op (.store 23 (.tmp 4) (.tmp 18)) rfl ?_; refine wpList_store_row rfl 23 (.tmp 4) (.tmp 18) rfl (w.heap.size + 1 + 1) (actV (k, a)) rfl rfl 23 _ KA1.out (Tryz.sizeA _) rfl (actV_one _) ?_)
    refine bodyPost_ret (v := .agg (actV (k, a))) ?_ rfl ⟨by rw [HV2.out], ?_⟩
    · exact results_cell_row Tryz.results32 _ _ (w.heap.size + 1 + 1) 23 (actV (k, a)) (0, 0) _ rfl (Blk.row KA1.out _) Tryz.underlying23 rfl (Tryz.sizeA _)
    · exact below_setRow B1.out (by omega) _
  | true =>
    rw [hq] at HV HNm
    have HV2 : Hid (R = verdF d k a ((l.drop 0).map Xr.r)) := HV.out.trans (if_pos rfl)
    clear HV hq
    go_enter Tryz.func32, Tryz.ntmps32
    go_wp2_with fail
    generalize (((w.alloc (Obj.cells #[.int .i64 k, .int .i64 a, .slice p1 l.length c1] 26)).alloc (Obj.cells A.toArray 41)).alloc (Obj.cells #[.int .i64 0, .int .i64 0] 23)) = X at *
    refine (HNm.out _).mono ?_
    rintro e w1 ⟨rfl, b1⟩
    have t2 : w1.cell? ⟨w.heap.size, 2, none⟩ = some (.slice p1 l.length c1) := (KR.out.over b1).cell 2
    have S1 : Hid (RlR w1 (.slice p1 l.length c1) l) := SN.out.below b1
    have KA1 : Hid (Blk w1 (w.heap.size + 1 + 1) 23 [.int .i64 0, .int .i64 0]) := KA.out.over b1
    have KR1 : Hid (Blk w1 w.heap.size 26 [.int .i64 k, .int .i64 a, .slice p1 l.length c1]) := KR.out.over b1
    have KD1 : Hid (Blk w1 (w.heap.size + 1) 41 A) := KD.out.over b1
    have B1 : Hid (Below w.heap.size w w1) := BE.out.trans (b1.mono BE.out.size)
    clear b1 BE KA KR KD SN HNm hA0
    go_wp2_with fail
    clear t2
    go_loopw [22] (fun vi wr => ∃ i : Nat, vi = .int .i64 i ∧ i ≤ l.length ∧ R = verdF d k a ((l.drop i).map Xr.r) ∧ Below w1.heap.size w1 wr) (fun vi _ => l.length - (intOf vi).toNat)
    case atStart => exact ⟨0, rfl, Nat.zero_le _, HV2.out, Below.refl _ _⟩
    case round =>
      obtain ⟨i, rfl, hi, ht, hb⟩ := hrel
      have HT : Hid (R = verdF d k a ((l.drop i).map Xr.r)) := ht
      have HB : Hid (Below w1.heap.size w1 wr) := hb
      clear ht
      by_cases hlt : i < l.length
      · have hi1 : (i : Int) < (l.length : Int) := by omega
        obtain ⟨b1, o1, rfl, e1⟩ := rlR_at (S1.out.below hb) hlt
        have hmem : l[i] ∈ l := List.getElem_mem hlt
        have HX : Hid (∀ W, Below w1.heap.size w1 W → Calls Tryz.prog 57 #[l[i].vn, .string nm] W fun e w' => e = .returned (.bool (namedB d.n l[i].r.names)) ∧ w' = W) := fun W hW => by
          obtain ⟨_, _, _, _, _, _, hr⟩ := S1.out.below hW
          exact HCt.out W _ _ (hr _ hmem).1 (HM.out _ hmem).1
        have HY : Hid (∀ W, Below w1.heap.size w1 W → Calls Tryz.prog 58 #[l[i].vc, .agg A.toArray] W fun e w' => e = .returned (.bool (l[i].r.conds.all (hB d))) ∧ Below W.heap.size W w') := fun W hW => by
          obtain ⟨_, _, _, _, _, _, hr⟩ := S1.out.below hW
          exact HH.out W _ l[i].r (hr _ hmem).2 (HM.out _ hmem).2
        have HS : Hid (R = if (namedB d.n l[i].r.names && l[i].r.conds.all (hB d)) = true then (l[i].r.k, l[i].r.a) else verdF d k a ((l.drop (i + 1)).map Xr.r)) := by
          show R = _
          rw [← HMB.out]
          exact HT.out.trans (verdF_step hlt)
        obtain ⟨p3, n3, c3, e3⟩ : ∃ p n c, l[i].vn = .slice p n c := by obtain ⟨_, _, _, _, _, _, hr⟩ := S1.out; obtain ⟨p, c, e, _⟩ := (hr _ hmem).1; exact ⟨p, _, c, e⟩
        obtain ⟨p4, n4, c4, e4⟩ : ∃ p n c, l[i].vc = .slice p n c := by obtain ⟨_, _, _, _, _, _, hr⟩ := S1.out; obtain ⟨p, c, e, _⟩ := (hr _ hmem).2; exact ⟨p, _, c, e⟩
        clear hmem HT HH HCt HMB
        generalize l[i] = x at *
        obtain ⟨⟨xk, xa, ns, cs⟩, vn, vc⟩ := x
        obtain ⟨q0, q1, q2, q3⟩ := e1
        dsimp only at q0 q1 q2 q3 HX HY HS e3 e4
        subst e3 e4
        have BE : Hid (Below w1.heap.size w1 (wr.alloc (Obj.cells #[.int .i64 xk, .int .i64 xa, .slice p3 n3 c3, .slice p4 n4 c4] 58))) := HB.out.alloc HB.out.size _
        have KX : Hid (Blk (wr.alloc (Obj.cells #[.int .i64 xk, .int .i64 xa, .slice p3 n3 c3, .slice p4 n4 c4] 58)) wr.heap.size 58 [.int .i64 xk, .int .i64 xa, .slice p3 n3 c3, .slice p4 n4 c4]) := blk_new wr _ _
        have KD2 : Hid (Blk (wr.alloc (Obj.cells #[.int .i64 xk, .int .i64 xa, .slice p3 n3 c3, .slice p4 n4 c4] 58)) (w.heap.size + 1) 41 A) := KD1.out.over BE.out
        clear hb
        generalize namedB d.n ns = qn at *
        generalize cs.all (hB d) = qc at *
        cases qn with
        | false =>
          have HS2 : Hid (R = verdF d k a ((l.drop (i + 1)).map Xr.r)) := HS.out.trans (if_neg (by simp))
          clear HS HY
          go_wp2_with (go_at_call 57; refine (HX.out _ BE.out).mono ?_; rintro e w2 ⟨rfl, rfl⟩)
          go_roundw
          case rel => exact ⟨i + 1, by go_num, hlt, HS2.out, BE.out⟩
          case measure => simp [intOf]; omega
        | true =>
          cases qc with
          | false =>
            have HS2 : Hid (R = verdF d k a ((l.drop (i + 1)).map Xr.r)) := HS.out.trans (if_neg (by simp))
            clear HS
            go_wp2_with (first | (go_at_call 57; refine (HX.out _ BE.out).mono ?_; rintro e w2 ⟨rfl, rfl⟩) | (go_at_call 58; refine (HY.out _ BE.out).mono ?_; rintro e w2 ⟨rfl, b2⟩) | (refine at_op (.load 41 (.tmp 3)) rfl ?_; refine wpList_load_rowG rfl 41 (.tmp 3) rfl (w.heap.size + 1) rfl 41 A.toArray (0, 0) _ KD2.out Tryz.underlying41 rfl hsz ?_))
            go_roundw
            case rel => exact ⟨i + 1, by go_num, hlt, HS2.out, BE.out.trans (b2.mono BE.out.size)⟩
            case measure => simp [intOf]; omega
          | true =>
            have HS2 : Hid (R = (xk, xa)) := HS.out.trans (if_pos (by simp))
            clear HS
            go_wp2_with (first | (go_at_call 57; refine (HX.out _ BE.out).mono ?_; rintro e w2 ⟨rfl, rfl⟩) | (go_at_call 58; refine (HY.out _ BE.out).mono ?_; rintro e w2 ⟨rfl, b2⟩; have t0 : w2.cell? ⟨wr.heap.size, 0, none⟩ = some (.int .i64 xk) := (KX.out.over b2).cell 0; have t1 : w2.cell? ⟨wr.heap.size, 1, none⟩ = some (.int .i64 xa) := (KX.out.over b2).cell 1; have B2 : Hid (Below w1.heap.size w1 w2) := BE.out.trans (b2.mono BE.out.size); clear b2; have KA2 : Hid (Blk w2 (w.heap.size + 1 + 1) 23 [.int .i64 0, .int .i64 0]) := KA1.out.over B2.out) | (refine at_op (.load 41 (.tmp 3)) rfl ?_; refine wpList_load_rowG rfl 41 (.tmp 3) rfl (w.heap.size + 1) rfl 41 A.toArray (0, 0) _ KD2.out Tryz.underlying41 rfl hsz ?_) | (refine at_op (.store 23 (.tmp 4) (.tmp 37)) rfl ?_; refine wpList_store_row rfl 23 (.tmp 4) (.tmp 37) rfl (w.heap.size + 1 + 1) (actV (xk, xa)) rfl rfl 23 _ KA2.out (Tryz.sizeA _) rfl (actV_one _) ?_))
            refine bodyPost_ret (v := .agg (actV (xk, xa))) ?_ rfl ⟨by rw [HS2.out], ?_⟩
            · exact results_cell_row Tryz.results32 _ _ (w.heap.size + 1 + 1) 23 (actV (xk, xa)) (0, 0) _ rfl (Blk.row KA2.out _) Tryz.underlying23 rfl (Tryz.sizeA _)
            · exact below_setRow (B1.out.trans (B2.out.mono B1.out.size)) (by omega) _
      · have hge : ¬ (i : Int) < (l.length : Int) := by omega
        have HS2 : Hid (R = (k, a)) := HT.out.trans (verdF_end hlt)
        have t0 : wr.cell? ⟨w.heap.size, 0, none⟩ = some (.int .i64 k) := (KR1.out.over hb).cell 0
        have t1 : wr.cell? ⟨w.heap.size, 1, none⟩ = some (.int .i64 a) := (KR1.out.over hb).cell 1
        have KA2 : Hid (Blk wr (w.heap.size + 1 + 1) 23 [.int .i64 0, .int .i64 0]) := KA1.out.over hb
        clear hb
        go_wp2_with (refine at_op (.store 23 (.tmp 4) (.tmp 40)) rfl ?_; refine wpList_store_row rfl 23 (.tmp 4) (.tmp 40) rfl (w.heap.size + 1 + 1) (actV (k, a)) rfl rfl 23 _ KA2.out (Tryz.sizeA _) rfl (actV_one _) ?_)
        refine bodyPost_ret (v := .agg (actV (k, a))) ?_ rfl ⟨by rw [HS2.out], ?_⟩
        · exact results_cell_row Tryz.results32 _ _ (w.heap.size + 1 + 1) 23 (actV (k, a)) (0, 0) _ rfl (Blk.row KA2.out _) Tryz.underlying23 rfl (Tryz.sizeA _)
        · exact below_setRow (B1.out.trans (HB.out.mono B1.out.size)) (by omega) _

end Go.Proofs.YtpojlfenmanehaaGreat.M

namespace Go.Proofs.YtpojlfenmanehaaGreat.M
open Go.RowKit

/-- what rules say of a call: the act, and the error. -/
def decA (d : Da) (k a : Int) (l : List Xl) : Int × Int := if (checkP k a l).1 = 0 then (if d.a = 3221225534 then verdP d k a l else (1, 0)) else (0, 0)
def decE (k a : Int) (l : List Xl) : Int := (checkP k a l).1

theorem results_row2 {fn : Func} {p u : Tmp} (h : fn.results = #[.cell p 23, .tmp u]) (tmps : Array Value) (w : World) (g : Nat) (l : List Value) (y : Value)
    (hp : tmps.getD p undef = .pointer (some ⟨g, 0, none⟩)) (hg : Blk w g 23 l) (hl : (Tryz.prog.info? 23).map (·.size) = some l.toArray.size) (hy : tmps.getD u undef = y) :
    (results fn tmps).run Tryz.prog w = .ok (.tuple #[.agg l.toArray, y]) w := by
  rw [results_cell_tmp h, hp, hy]
  simp [asAddr, run_loadVar_row w g 23 23 l.toArray (0, 0) _ hg Tryz.underlying23 rfl hl]

/-- a call of Decide, as a value. -/
def decV (p : Int × Int) (e : Int) : Value := .tuple #[.agg (actV p), .int .i64 e]

set_option maxRecDepth 8000 in
set_option maxHeartbeats 2000000 in
theorem decide_any (w : World) (k a : Int) (v : Value) (l : List Xr) (d : Da) (h : RlR w v l) (hl : l.length ≤ 1000) (hs : ∀ x ∈ l, x.r.names.length ≤ 9000000 ∧ x.r.conds.length ≤ 9000000) (hd : d.ok) :
    Calls Tryz.prog 19 #[.agg #[.int .i64 k, .int .i64 a, v], .agg d.cells.toArray] w fun e w' => e = .returned (decV (decA d k a (l.map Xr.r)) (decE k a (l.map Xr.r))) ∧ Below w.heap.size w w' := by
  obtain ⟨p1, c1, rfl⟩ : ∃ p c, v = .slice p l.length c := by obtain ⟨p, c, e, _⟩ := h; exact ⟨p, c, e⟩
  have hsz : (Tryz.prog.info? 41).map (·.size) = some d.cells.toArray.size := d.size hd
  have hA1 : d.cells[1]? = some (.int .u32 d.a) := rfl
  have HC : Hid (∀ W, RlR W (.slice p1 l.length c1) l → Calls Tryz.prog 22 #[.agg #[.int .i64 k, .int .i64 a, .slice p1 l.length c1]] W fun e w' => e = .returned (.tuple #[.int .i64 (checkP k a (l.map Xr.r)).1, .int .i64 (checkP k a (l.map Xr.r)).2]) ∧ Below W.heap.size W w') := fun W h => check_any W k a _ l h hl hs
  have HV : Hid (∀ W, RlR W (.slice p1 l.length c1) l → Calls Tryz.prog 32 #[.agg #[.int .i64 k, .int .i64 a, .slice p1 l.length c1], .agg d.cells.toArray] W fun e w' => e = .returned (.agg (actV (verdP d k a (l.map Xr.r)))) ∧ Below W.heap.size W w') := fun W h => verdict_any W k a _ l d h hl hs hd
  have HA : Hid (decA d k a (l.map Xr.r) = if (checkP k a (l.map Xr.r)).1 = 0 then (if d.a = 3221225534 then verdP d k a (l.map Xr.r) else (1, 0)) else (0, 0)) := rfl
  have HE : Hid (decE k a (l.map Xr.r) = (checkP k a (l.map Xr.r)).1) := rfl
  have h3 := three_new w (Obj.cells #[.int .i64 k, .int .i64 a, .slice p1 l.length c1] 26) d.cells #[.int .i64 0, .int .i64 0]
  have h4 := three_first w d.cells #[.int .i64 0, .int .i64 0] #[.int .i64 k, .int .i64 a, .slice p1 l.length c1] 26
  generalize hAA : d.cells = A at *
  have BE : Hid (Below w.heap.size w (((w.alloc (Obj.cells #[.int .i64 k, .int .i64 a, .slice p1 l.length c1] 26)).alloc (Obj.cells A.toArray 41)).alloc (Obj.cells #[.int .i64 0, .int .i64 0] 23))) := h3.2.2
  have KD : Hid (Blk (((w.alloc (Obj.cells #[.int .i64 k, .int .i64 a, .slice p1 l.length c1] 26)).alloc (Obj.cells A.toArray 41)).alloc (Obj.cells #[.int .i64 0, .int .i64 0] 23)) (w.heap.size + 1) 41 A) := h3.1
  have KA : Hid (Blk (((w.alloc (Obj.cells #[.int .i64 k, .int .i64 a, .slice p1 l.length c1] 26)).alloc (Obj.cells A.toArray 41)).alloc (Obj.cells #[.int .i64 0, .int .i64 0] 23)) (w.heap.size + 1 + 1) 23 [.int .i64 0, .int .i64 0]) := h3.2.1
  have KR : Hid (Blk (((w.alloc (Obj.cells #[.int .i64 k, .int .i64 a, .slice p1 l.length c1] 26)).alloc (Obj.cells A.toArray 41)).alloc (Obj.cells #[.int .i64 0, .int .i64 0] 23)) w.heap.size 26 [.int .i64 k, .int .i64 a, .slice p1 l.length c1]) := h4
  have SN : Hid (RlR (((w.alloc (Obj.cells #[.int .i64 k, .int .i64 a, .slice p1 l.length c1] 26)).alloc (Obj.cells A.toArray 41)).alloc (Obj.cells #[.int .i64 0, .int .i64 0] 23)) (.slice p1 l.length c1) l) := h.below h3.2.2
  clear h hs hd h3 h4 hAA
  generalize decA d k a (l.map Xr.r) = RA at *
  generalize decE k a (l.map Xr.r) = RE at *
  generalize checkP k a (l.map Xr.r) = RC at *
  generalize hVV : verdP d k a (l.map Xr.r) = V at *
  obtain ⟨V1, V2⟩ := V
  clear hVV
  obtain ⟨c, cn⟩ := RC
  dsimp only at HC HA HE
  generalize d.a = ar at *
  rcases Bool.eq_false_or_eq_true (c == 0) with hq | hq
  · obtain rfl : c = 0 := by simpa using hq
    clear hq
    have HA2 : Hid (RA = if ar = 3221225534 then (V1, V2) else (1, 0)) := HA.out.trans (if_pos rfl)
    clear HA
    rcases Bool.eq_false_or_eq_true (ar == 3221225534) with hr | hr
    · obtain rfl : ar = 3221225534 := by simpa using hr
      have HA3 : Hid (RA = (V1, V2)) := HA2.out.trans (if_pos rfl)
      clear hr HA2
      go_enter Tryz.func19, Tryz.ntmps19
      go_wp2_with fail
      generalize (((w.alloc (Obj.cells #[.int .i64 k, .int .i64 a, .slice p1 l.length c1] 26)).alloc (Obj.cells A.toArray 41)).alloc (Obj.cells #[.int .i64 0, .int .i64 0] 23)) = X at *
      refine (HC.out _ SN.out).mono ?_
      rintro e w1 ⟨rfl, b1⟩
      have t0 : w1.cell? ⟨w.heap.size, 0, none⟩ = some (.int .i64 k) := (KR.out.over b1).cell 0
      have t1 : w1.cell? ⟨w.heap.size, 1, none⟩ = some (.int .i64 a) := (KR.out.over b1).cell 1
      have t2 : w1.cell? ⟨w.heap.size, 2, none⟩ = some (.slice p1 l.length c1) := (KR.out.over b1).cell 2
      have t3 : w1.cell? ⟨w.heap.size + 1, 1, none⟩ = some (.int .u32 3221225534) := ((KD.out.over b1).cell 1).trans hA1
      have KD1 : Hid (Blk w1 (w.heap.size + 1) 41 A) := KD.out.over b1
      have KA1 : Hid (Blk w1 (w.heap.size + 1 + 1) 23 [.int .i64 0, .int .i64 0]) := KA.out.over b1
      have S1 : Hid (RlR w1 (.slice p1 l.length c1) l) := SN.out.below b1
      have B1 : Hid (Below w.heap.size w w1) := BE.out.trans (b1.mono BE.out.size)
      clear b1 BE KA KR KD SN HC hA1
      go_wp2_with (first | (go_at_call 32; refine (HV.out _ S1.out).mono ?_; rintro e w2 ⟨rfl, b2⟩; have KA2 : Hid (Blk w2 (w.heap.size + 1 + 1) 23 [.int .i64 0, .int .i64 0]) := KA1.out.over b2; have B2 : Hid (Below w.heap.size w w2) := B1.out.trans (b2.mono B1.out.size); clear b2) | (refine at_op (.load 41 (.tmp 3)) rfl ?_; refine wpList_load_row rfl 41 (.tmp 3) rfl (w.heap.size + 1) rfl 41 A.toArray (0, 0) _ KD1.out Tryz.underlying41 rfl hsz ?_) | (refine at_op (.store 23 (.tmp 4) (.tmp 23)) rfl ?_; refine wpList_store_row rfl 23 (.tmp 4) (.tmp 23) rfl (w.heap.size + 1 + 1) (actV (V1, V2)) rfl rfl 23 _ KA2.out (Tryz.sizeA _) rfl (actV_one _) ?_))
      refine bodyPost_ret (v := decV (V1, V2) 0) ?_ rfl ⟨by rw [HA3.out, HE.out], ?_⟩
      · exact results_row2 Tryz.results19 _ _ (w.heap.size + 1 + 1) (actV (V1, V2)).toList _ rfl (Blk.row KA2.out _) (Tryz.sizeA _) rfl
      · exact below_setRow B2.out (by omega) _
    · have hn : ¬ ar = 3221225534 := by simpa using hr
      have hn' : (ar != 3221225534) = true := by simpa using hn
      have HA3 : Hid (RA = (1, 0)) := HA2.out.trans (if_neg hn)
      clear HA2
      go_enter Tryz.func19, Tryz.ntmps19
      go_wp2_with fail
      generalize (((w.alloc (Obj.cells #[.int .i64 k, .int .i64 a, .slice p1 l.length c1] 26)).alloc (Obj.cells A.toArray 41)).alloc (Obj.cells #[.int .i64 0, .int .i64 0] 23)) = X at *
      refine (HC.out _ SN.out).mono ?_
      rintro e w1 ⟨rfl, b1⟩
      have t3 : w1.cell? ⟨w.heap.size + 1, 1, none⟩ = some (.int .u32 ar) := ((KD.out.over b1).cell 1).trans hA1
      have KA1 : Hid (Blk w1 (w.heap.size + 1 + 1) 23 [.int .i64 0, .int .i64 0]) := KA.out.over b1
      have B1 : Hid (Below w.heap.size w w1) := BE.out.trans (b1.mono BE.out.size)
      clear b1 BE KA KR KD SN HC hA1 HV
      go_wp2_with (refine at_op (.store 23 (.tmp 4) (.tmp 20)) rfl ?_; refine wpList_store_row rfl 23 (.tmp 4) (.tmp 20) rfl (w.heap.size + 1 + 1) (actV (1, 0)) rfl rfl 23 _ KA1.out (Tryz.sizeA _) rfl (actV_one _) ?_)
      refine bodyPost_ret (v := decV (1, 0) 0) ?_ rfl ⟨by rw [HA3.out, HE.out], ?_⟩
      · exact results_row2 Tryz.results19 _ _ (w.heap.size + 1 + 1) (actV (1, 0)).toList _ rfl (Blk.row KA1.out _) (Tryz.sizeA _) rfl
      · exact below_setRow B1.out (by omega) _
  · have hn : ¬ c = 0 := by simpa using hq
    have hn' : (c != 0) = true := by simpa using hn
    have HA2 : Hid (RA = (0, 0)) := HA.out.trans (if_neg hn)
    clear HA
    go_enter Tryz.func19, Tryz.ntmps19
    go_wp2_with fail
    generalize (((w.alloc (Obj.cells #[.int .i64 k, .int .i64 a, .slice p1 l.length c1] 26)).alloc (Obj.cells A.toArray 41)).alloc (Obj.cells #[.int .i64 0, .int .i64 0] 23)) = X at *
    refine (HC.out _ SN.out).mono ?_
    rintro e w1 ⟨rfl, b1⟩
    have KA1 : Hid (Blk w1 (w.heap.size + 1 + 1) 23 [.int .i64 0, .int .i64 0]) := KA.out.over b1
    have B1 : Hid (Below w.heap.size w w1) := BE.out.trans (b1.mono BE.out.size)
    clear b1 BE KA KR KD SN HC hA1 HV
    go_wp2_with (refine at_op (.store 23 (.tmp 4) (.tmp 15)) rfl ?_; refine wpList_store_row rfl 23 (.tmp 4) (.tmp 15) rfl (w.heap.size + 1 + 1) (actV (0, 0)) rfl rfl 23 _ KA1.out (Tryz.sizeA _) rfl (actV_one _) ?_)
    refine bodyPost_ret (v := decV (0, 0) c) ?_ rfl ⟨by rw [HA2.out, HE.out], ?_⟩
    · exact results_row2 Tryz.results19 _ _ (w.heap.size + 1 + 1) (actV (0, 0)).toList _ rfl (Blk.row KA1.out _) (Tryz.sizeA _) rfl
    · exact below_setRow B1.out (by omega) _

end Go.Proofs.YtpojlfenmanehaaGreat.M

namespace Go.Proofs.YtpojlfenmanehaaGreat.M
open Go.RowKit

/-- are two acts the same? -/
def sameA (k a k' a' : Int) : Bool := k == k' && a == a'
theorem sameA_self (k a : Int) : sameA k a k a = true := by simp [sameA]

theorem equalIn_act (k a k' a' : Int) (w : World) : (Op.equalIn 10000 23 (.agg #[.int .i64 k, .int .i64 a]) (.agg #[.int .i64 k', .int .i64 a'])).run Tryz.prog w = .ok (sameA k a k' a') w := by
  have u3 := Tryz.underlying3
  have a3 := Tryz.isAgg3
  have z3 := Tryz.sizeOf3
  have hS : Tryz.prog.underlying 23 = some (.struct (Tryz.prog.fieldsOf 23)) := by kernel_rfl
  have hp : Tryz.prog.stoodInHeld 23 = false := by kernel_rfl
  rw [show (10000 : Nat) = 9999 + 1 from rfl, run_equalIn_agg w 9999 23 _ _ hS hp]
  simp only [Program.fieldsOf, Tryz.underlying23]
  go_simp
  unfold sameA
  by_cases h1 : k = k' <;> by_cases h2 : a = a' <;> simp [h1, h2]

def wWrite : ByteArray := ⟨#[119, 114, 105, 116, 101]⟩
def awR : Xl := ⟨8, 0, [wWrite], []⟩
def awD : Da := ⟨1, 3221225534, 0, [0, 0, 0, 0, 0, 0]⟩
def awD2 : Da := ⟨1, 0, 0, [0, 0, 0, 0, 0, 0]⟩
theorem aw1 : decA awD 1 0 [awR] = (8, 0) := by kernel_rfl
theorem aw2 : decE 1 0 [awR] = 0 := by kernel_rfl
theorem aw3 : decA awD2 1 0 [awR] = (1, 0) := by kernel_rfl
theorem zeros_ok : ∀ z ∈ [(0 : Int), 0, 0, 0, 0, 0], U64 z := by
  intro z hz
  have : z = 0 := by simpa using hz
  subst this
  exact ⟨by decide, by decide⟩
theorem awD_ok : awD.ok := ⟨⟨by decide, by decide⟩, ⟨by decide, by decide⟩, ⟨by decide, by decide⟩, rfl, zeros_ok⟩
theorem awD2_ok : awD2.ok := ⟨⟨by decide, by decide⟩, ⟨by decide, by decide⟩, ⟨by decide, by decide⟩, rfl, zeros_ok⟩

def awX (g : Nat) : Xr := ⟨awR, .slice (some ⟨g, 0, none⟩) 1 1, .slice none 0 0⟩

/-- the rules as they lie. -/
theorem aw_rules (w : World) : RlR (((w.alloc (Obj.cells #[.string wWrite] 9)).alloc (Obj.cells #[.int .i64 8, .int .i64 0, .slice (some ⟨w.heap.size, 0, none⟩) 1 1, .slice none 0 0] 58)).alloc (Obj.cells #[.int .i64 1, .int .i64 0, .slice (some ⟨w.heap.size + 1, 0, none⟩) 1 1] 26)) (.slice (some ⟨w.heap.size + 1, 0, none⟩) 1 1) [awX w.heap.size] ∧ Below w.heap.size w (((w.alloc (Obj.cells #[.string wWrite] 9)).alloc (Obj.cells #[.int .i64 8, .int .i64 0, .slice (some ⟨w.heap.size, 0, none⟩) 1 1, .slice none 0 0] 58)).alloc (Obj.cells #[.int .i64 1, .int .i64 0, .slice (some ⟨w.heap.size + 1, 0, none⟩) 1 1] 26)) ∧ Blk (((w.alloc (Obj.cells #[.string wWrite] 9)).alloc (Obj.cells #[.int .i64 8, .int .i64 0, .slice (some ⟨w.heap.size, 0, none⟩) 1 1, .slice none 0 0] 58)).alloc (Obj.cells #[.int .i64 1, .int .i64 0, .slice (some ⟨w.heap.size + 1, 0, none⟩) 1 1] 26)) (w.heap.size + 1 + 1) 26 [.int .i64 1, .int .i64 0, .slice (some ⟨w.heap.size + 1, 0, none⟩) 1 1] := by
  have k0 : Blk (((w.alloc (Obj.cells #[.string wWrite] 9)).alloc (Obj.cells #[.int .i64 8, .int .i64 0, .slice (some ⟨w.heap.size, 0, none⟩) 1 1, .slice none 0 0] 58)).alloc (Obj.cells #[.int .i64 1, .int .i64 0, .slice (some ⟨w.heap.size + 1, 0, none⟩) 1 1] 26)) w.heap.size 9 [.string wWrite] := ((blk_new w _ 9).alloc _).alloc _
  have k1 : Blk (((w.alloc (Obj.cells #[.string wWrite] 9)).alloc (Obj.cells #[.int .i64 8, .int .i64 0, .slice (some ⟨w.heap.size, 0, none⟩) 1 1, .slice none 0 0] 58)).alloc (Obj.cells #[.int .i64 1, .int .i64 0, .slice (some ⟨w.heap.size + 1, 0, none⟩) 1 1] 26)) (w.heap.size + 1) 58 [.int .i64 8, .int .i64 0, .slice (some ⟨w.heap.size, 0, none⟩) 1 1, .slice none 0 0] := (blk_new' w _ _ 58).alloc _
  have k2 := blk_new' (w.alloc (Obj.cells #[.string wWrite] 9)) (Obj.cells #[.int .i64 8, .int .i64 0, .slice (some ⟨w.heap.size, 0, none⟩) 1 1, .slice none 0 0] 58) #[.int .i64 1, .int .i64 0, .slice (some ⟨w.heap.size + 1, 0, none⟩) 1 1] 26
  rw [size_alloc'] at k2
  refine ⟨⟨some ⟨w.heap.size + 1, 0, none⟩, 1, rfl, Nat.le_refl _, by decide, fun _ => ⟨_, 0, rfl, fun i x hi => ?_⟩, fun x hx => ?_⟩, (room_below w _ _).alloc (room_below w _ _).size _, k2⟩
  · cases i with
    | zero =>
      simp at hi
      subst hi
      exact ⟨k1.cell 0, k1.cell 1, k1.cell 2, k1.cell 3⟩
    | succ i => simp at hi
  · obtain rfl : x = awX w.heap.size := by simpa using hx
    refine ⟨⟨some ⟨w.heap.size, 0, none⟩, 1, rfl, Nat.le_refl _, by decide, fun _ => ⟨_, 0, rfl, fun i x hi => ?_⟩⟩, none, 0, rfl, Nat.le_refl _, by decide, fun h => absurd h (by show ¬ 0 < ([] : List Xc).length; decide)⟩
    cases i with
    | zero =>
      have : x = wWrite := by
        have h2 : some wWrite = some x := hi
        cases h2; rfl
      subst this
      exact k0.cell 0
    | succ i =>
      have h2 : (none : Option ByteArray) = some x := hi
      cases h2

end Go.Proofs.YtpojlfenmanehaaGreat.M

namespace Go.Proofs.YtpojlfenmanehaaGreat.M
open Go.RowKit

/-- rules that are not too great. -/
def Lx1 (x : Xl) : Prop := x.names.length ≤ 40 ∧ x.conds.length ≤ 40 ∧ ∀ s ∈ x.names, s.size ≤ 500
def Lt (l : List Xr) : Prop := l.length ≤ 70 ∧ ∀ x ∈ l, Lx1 x.r

theorem lt_step {l : List Xr} {i : Nat} (h : i < l.length) (h1 : ∀ x ∈ l.take i, Lx1 x.r) (h2 : Lx1 l[i].r) : ∀ x ∈ l.take (i + 1), Lx1 x.r := by
  rw [List.take_succ_eq_append_getElem h]
  intro x hx
  rcases List.mem_append.1 hx with h3 | h3
  · exact h1 x h3
  · have : x = l[i] := by simpa using h3
    subst this
    exact h2
theorem sz_step {l : List ByteArray} {i : Nat} (h : i < l.length) (h1 : ∀ x ∈ l.take i, x.size ≤ 500) (h2 : l[i].size ≤ 500) : ∀ x ∈ l.take (i + 1), x.size ≤ 500 := by
  rw [List.take_succ_eq_append_getElem h]
  intro x hx
  rcases List.mem_append.1 hx with h3 | h3
  · exact h1 x h3
  · have : x = l[i] := by simpa using h3
    subst this
    exact h2

/-- what is told of rules' size. -/
def LightR (w : World) (l : List Xr) (e : Ending) (w' : World) : Prop := ∃ bb : Bool, e = .returned (.bool bb) ∧ Below w.heap.size w w' ∧ (bb = true → Lt l)

set_option maxRecDepth 4000 in
set_option maxHeartbeats 2000000 in
theorem light_any (w : World) (k a : Int) (v : Value) (l : List Xr) (h : RlR w v l) :
    Calls Tryz.prog 10 #[.agg #[.int .i64 k, .int .i64 a, v]] w fun e w' => LightR w l e w' := by
  obtain ⟨p1, c1, rfl⟩ : ∃ p c, v = .slice p l.length c := by obtain ⟨p, c, e, _⟩ := h; exact ⟨p, c, e⟩
  have hmax : l.length ≤ 9223372036854775807 := by obtain ⟨p, c, e, g1, g2, _⟩ := h; omega
  have be : Below w.heap.size w (w.alloc (Obj.cells #[.int .i64 k, .int .i64 a, .slice p1 l.length c1] 26)) := (Below.refl _ _).alloc (Nat.le_refl _) _
  have BE : Hid (Below w.heap.size w (w.alloc (Obj.cells #[.int .i64 k, .int .i64 a, .slice p1 l.length c1] 26))) := be
  have HK : Hid (Blk (w.alloc (Obj.cells #[.int .i64 k, .int .i64 a, .slice p1 l.length c1] 26)) w.heap.size 26 [.int .i64 k, .int .i64 a, .slice p1 l.length c1]) := blk_new w _ _
  have SN : Hid (RlR (w.alloc (Obj.cells #[.int .i64 k, .int .i64 a, .slice p1 l.length c1] 26)) (.slice p1 l.length c1) l) := h.below be
  clear h be
  by_cases g70 : 70 < l.length
  · have hd : 70 < (l.length : Int) := by omega
    go_enter Tryz.func10, Tryz.ntmps10
    go_wp2
    go_ret
    exact ⟨false, rfl, BE.out, fun h => by cases h⟩
  · have hd : ¬ 70 < (l.length : Int) := by omega
    go_enter Tryz.func10, Tryz.ntmps10
    go_wp2
    have t2 : (w.alloc (Obj.cells #[.int .i64 k, .int .i64 a, .slice p1 l.length c1] 26)).cell? ⟨w.heap.size, 2, none⟩ = some (.slice p1 l.length c1) := HK.out.cell 2
    generalize (w.alloc (Obj.cells #[.int .i64 k, .int .i64 a, .slice p1 l.length c1] 26)) = X at *
    go_loop [3] (fun vi => ∃ i : Nat, vi = .int .i64 i ∧ i ≤ l.length ∧ ∀ x ∈ l.take i, Lx1 x.r) (fun vi => l.length - (intOf vi).toNat)
    case atStart => exact ⟨0, rfl, Nat.zero_le _, fun x hx => by simp at hx⟩
    case round =>
      obtain ⟨i, rfl, hi, hall⟩ := hrel
      have HALL : Hid (∀ x ∈ l.take i, Lx1 x.r) := hall
      clear hall
      by_cases hlt : i < l.length
      · have hi1 : (i : Int) < (l.length : Int) := by omega
        obtain ⟨b1, o1, rfl, e1⟩ := rlR_at SN.out hlt
        have hmem : l[i] ∈ l := List.getElem_mem hlt
        have hSx : StrR X l[i].vn l[i].r.names ∧ CdR X l[i].vc l[i].r.conds := by obtain ⟨_, _, _, _, _, _, hr⟩ := SN.out; exact hr _ hmem
        have HST : Hid (Lx1 l[i].r → ∀ x ∈ l.take (i + 1), Lx1 x.r) := fun h2 => lt_step hlt HALL.out h2
        clear hmem
        generalize l[i] = x at *
        obtain ⟨⟨xk, xa, ns, cs⟩, vn, vc⟩ := x
        obtain ⟨q0, q1, q2, q3⟩ := e1
        dsimp only at q0 q1 q2 q3 hSx HST
        obtain ⟨p3, c3, rfl⟩ : ∃ p c, vn = .slice p ns.length c := by obtain ⟨p, c, e, _⟩ := hSx.1; exact ⟨p, c, e⟩
        obtain ⟨p4, c4, rfl⟩ : ∃ p c, vc = .slice p cs.length c := by obtain ⟨p, c, e, _⟩ := hSx.2; exact ⟨p, c, e⟩
        have SS : Hid (StrR X (.slice p3 ns.length c3) ns) := hSx.1
        clear hSx
        by_cases g1 : 40 < ns.length
        · have g1' : decide (40 < (ns.length : Int)) = true := decide_eq_true (by omega)
          go_wp2
          go_ret
          exact ⟨false, rfl, BE.out, fun h => by cases h⟩
        · have g1' : decide (40 < (ns.length : Int)) = false := decide_eq_false (by omega)
          by_cases g2 : 40 < cs.length
          · have g2' : decide (40 < (cs.length : Int)) = true := decide_eq_true (by omega)
            go_wp2
            go_ret
            exact ⟨false, rfl, BE.out, fun h => by cases h⟩
          · have g2' : decide (40 < (cs.length : Int)) = false := decide_eq_false (by omega)
            go_wp2
            go_loop [4] (fun vj => ∃ j : Nat, vj = .int .i64 j ∧ j ≤ ns.length ∧ ∀ x ∈ ns.take j, x.size ≤ 500) (fun vj => ns.length - (intOf vj).toNat)
            case atStart => exact ⟨0, rfl, Nat.zero_le _, fun x hx => by simp at hx⟩
            case round =>
              obtain ⟨j, rfl, hj, hall⟩ := hrel
              have HALL2 : Hid (∀ x ∈ ns.take j, x.size ≤ 500) := hall
              clear hall
              by_cases hlt2 : j < ns.length
              · have hj1 : (j : Int) < (ns.length : Int) := by omega
                obtain ⟨b3, o3, rfl, e3⟩ := strR_at SS.out hlt2
                have HST2 : Hid (ns[j].size ≤ 500 → ∀ x ∈ ns.take (j + 1), x.size ≤ 500) := fun h2 => sz_step hlt2 HALL2.out h2
                generalize ns[j] = s at *
                by_cases g3 : 500 < s.size
                · have g3' : 500 < (s.size : Int) := by omega
                  go_wp2
                  go_ret
                  exact ⟨false, rfl, BE.out, fun h => by cases h⟩
                · have g3' : ¬ 500 < (s.size : Int) := by omega
                  go_wp2
                  go_round
                  case rel => exact ⟨j + 1, by go_num, hlt2, HST2.out (by omega)⟩
                  case measure => simp [intOf]; omega
              · have hge2 : ¬ (j : Int) < (ns.length : Int) := by omega
                have HQ : Hid (Lx1 ⟨xk, xa, ns, cs⟩) := ⟨by show ns.length ≤ 40; omega, by show cs.length ≤ 40; omega, fun s hs => HALL2.out s (by rw [List.take_of_length_le (by omega)]; exact hs)⟩
                go_wp2
                go_round
                case rel => exact ⟨i + 1, by go_num, hlt, HST.out HQ.out⟩
                case measure => simp [intOf]; omega
      · have hge : ¬ (i : Int) < (l.length : Int) := by omega
        go_wp2
        go_ret
        exact ⟨true, rfl, BE.out, fun _ => ⟨by omega, fun x hx => HALL.out x (by rw [List.take_of_length_le (by omega)]; exact hx)⟩⟩

end Go.Proofs.YtpojlfenmanehaaGreat.M

namespace Go.Proofs.YtpojlfenmanehaaGreat.M
open Go.ChangeShapes Go.WideShapes Go.ChangeAt Go.RowKit Go.Deep

theorem cellsOf3 : Tryz.prog.cellsOf 3 = 1 := by kernel_rfl
theorem cellsOf9 : Tryz.prog.cellsOf 9 = 1 := by kernel_rfl
theorem cellsOfU : Tryz.prog.cellsOf 38 = 1 := by kernel_rfl
theorem cellsOfC : Tryz.prog.cellsOf 54 = 4 := by kernel_rfl
theorem cellsOfA : Tryz.prog.cellsOf 23 = 2 := by kernel_rfl
theorem cellsOfR : Tryz.prog.cellsOf 58 = 4 := by kernel_rfl
theorem cellsOfN : Tryz.prog.cellsOf 55 = 1 := by kernel_rfl
theorem cellsOfD : Tryz.prog.cellsOf 56 = 1 := by kernel_rfl
theorem cellsOfL : Tryz.prog.cellsOf 24 = 1 := by kernel_rfl
theorem cellsOfX : Tryz.prog.cellsOf 26 = 3 := by kernel_rfl

theorem u64_of {a : Int} (h : (Lit.int .u64 a).wf = true) : U64 a := bounds_u64 h

section
variable {H : Type} {enc : TypeId × Value → H} {w : World} {base : Nat} {spare : Nat → Bool} {held : Bool} {n : Nat} {x : DataW H × List MemPlace}

set_option maxRecDepth 8000 in
theorem open_xc {cs : List Value} (hl : cs.length = 4) (h : DataW.trod enc Tryz.prog w base spare held n 54 cs = some x) :
    ∃ y : Xc, (U64 y.mask ∧ U64 y.val) ∧ cs = [.int .i64 y.arg, .int .i64 y.op, .int .u64 y.mask, .int .u64 y.val] := by
  obtain ⟨xs, k, _, _, _, hxl, hf⟩ := DataW.trod_struct Tryz.underlying54 h
  match xs, hxl, cs, hl with
  | [y0, y1, y2, y3], _, [v0, v1, v2, v3], _ =>
    have g0 := hf 0 _ rfl
    have g1 := hf 1 _ rfl
    have g2 := hf 2 _ rfl
    have g3 := hf 3 _ rfl
    simp [cellsOf3, cellsOfU] at g0 g1 g2 g3
    obtain ⟨a, ha, _, wa⟩ := DataW.trod_int Tryz.underlying3 g0
    obtain ⟨b, hb, _, wb⟩ := DataW.trod_int Tryz.underlying3 g1
    obtain ⟨c, hc, _, wc⟩ := DataW.trod_int Tryz.underlying38 g2
    obtain ⟨e, he, _, we⟩ := DataW.trod_int Tryz.underlying38 g3
    simp at ha hb hc he
    subst ha hb hc he
    exact ⟨⟨a, b, c, e⟩, ⟨u64_of wc, u64_of we⟩, rfl⟩

theorem open_names {v : Value} (h : DataW.trod enc Tryz.prog w base spare held n 55 [v] = some x) : ∃ l, StrR w v l := by
  rcases open_slice Tryz.underlying55 h with ⟨h0, _⟩ | ⟨a', len', cap', m, n, D, Pl, hcs, hb, hl, hm, hmm, _, hx⟩
  · simp at h0
    subst h0
    exact ⟨[], none, 0, rfl, Nat.le_refl _, by decide, fun h => absurd h (by decide)⟩
  · simp at hcs
    subst hcs
    have hlm : len' ≤ m := by rw [hmm]; split <;> omega
    obtain ⟨f, hf⟩ := choose_lt (α := ByteArray) (n := len') (p := fun i y => w.cells? base (a'.add (i * 1)) 1 = some [.string y]) (fun i hi => by
      obtain ⟨cs', h1, h2⟩ := hx i (by omega)
      rw [cellsOf9] at h1
      obtain ⟨_, hlen, _⟩ := World.cells?_some h1
      match cs', hlen with
      | [u], _ =>
        obtain ⟨d, hd, _, _⟩ := DataW.trod_string Tryz.underlying9 h2
        simp at hd
        subst hd
        exact ⟨d, h1⟩)
    refine ⟨(List.range len').map f, a', cap', by simp, by simpa using hl, by unfold maxLen at hm; omega, fun h0 => ?_⟩
    have h0' : 0 < len' := by simpa using h0
    obtain ⟨b, off, spot⟩ := a'
    have c0 := (World.cells?_some (hf 0 h0')).2.2 0 (by decide)
    have hspot : spot = none := by
      have : (({ block := b, off := off, spot := spot } : Addr).add (0 * 1)).add 0 = ⟨b, off, spot⟩ := by cases spot <;> simp [Addr.add]
      rw [this] at c0
      simpa using World.cell?_spot c0
    subst hspot
    refine ⟨b, off, rfl, fun i y hi => ?_⟩
    have hil : i < len' := by
      have := (List.getElem?_eq_some_iff.1 hi).1
      simpa using this
    simp [hil] at hi
    subst hi
    obtain ⟨_, _, hc⟩ := World.cells?_some (hf i hil)
    have k0 := hc 0 (by decide)
    rw [Addr.add_lit, Addr.add_lit] at k0
    simpa using k0

theorem open_conds {v : Value} (h : DataW.trod enc Tryz.prog w base spare held n 56 [v] = some x) : ∃ l, CdR w v l ∧ ∀ c ∈ l, U64 c.mask ∧ U64 c.val := by
  rcases open_slice Tryz.underlying56 h with ⟨h0, _⟩ | ⟨a', len', cap', m, n, D, Pl, hcs, hb, hl, hm, hmm, _, hx⟩
  · simp at h0
    subst h0
    exact ⟨[], ⟨none, 0, rfl, Nat.le_refl _, by decide, fun h => absurd h (by decide)⟩, fun c hc => by cases hc⟩
  · simp at hcs
    subst hcs
    have hlm : len' ≤ m := by rw [hmm]; split <;> omega
    haveI : Inhabited Xc := ⟨⟨0, 0, 0, 0⟩⟩
    obtain ⟨f, hf⟩ := choose_lt (α := Xc) (n := len') (p := fun i y => (U64 y.mask ∧ U64 y.val) ∧ w.cells? base (a'.add (i * 4)) 4 = some [.int .i64 y.arg, .int .i64 y.op, .int .u64 y.mask, .int .u64 y.val]) (fun i hi => by
      obtain ⟨cs', h1, h2⟩ := hx i (by omega)
      rw [cellsOfC] at h1
      obtain ⟨_, hlen, _⟩ := World.cells?_some h1
      obtain ⟨y, hy, rfl⟩ := open_xc hlen h2
      exact ⟨y, hy, h1⟩)
    refine ⟨(List.range len').map f, ⟨a', cap', by simp, by simpa using hl, by unfold maxLen at hm; omega, fun h0 => ?_⟩, fun c hc => ?_⟩
    · have h0' : 0 < len' := by simpa using h0
      obtain ⟨b, off, spot⟩ := a'
      have c0 := (World.cells?_some (hf 0 h0').2).2.2 0 (by decide)
      have hspot : spot = none := by
        have : (({ block := b, off := off, spot := spot } : Addr).add (0 * 4)).add 0 = ⟨b, off, spot⟩ := by cases spot <;> simp [Addr.add]
        rw [this] at c0
        simpa using World.cell?_spot c0
      subst hspot
      refine ⟨b, off, rfl, fun i y hi => ?_⟩
      have hil : i < len' := by
        have := (List.getElem?_eq_some_iff.1 hi).1
        simpa using this
      simp [hil] at hi
      subst hi
      obtain ⟨_, _, hc⟩ := World.cells?_some (hf i hil).2
      have key : ∀ c, (({ block := b, off := off, spot := none } : Addr).add (i * 4)).add c = ⟨b, off + i * 4 + c, none⟩ := by intro c; rw [Addr.add_lit, Addr.add_lit]
      have k0 := hc 0 (by decide)
      have k1 := hc 1 (by decide)
      have k2 := hc 2 (by decide)
      have k3 := hc 3 (by decide)
      rw [key] at k0 k1 k2 k3
      exact ⟨k0, k1, k2, k3⟩
    · obtain ⟨i, hi, rfl⟩ := List.mem_map.1 hc
      exact (hf i (by simpa using hi)).1

/-- a rule that came in. -/
def Xr.okIn (y : Xr) (w : World) : Prop := StrR w y.vn y.r.names ∧ CdR w y.vc y.r.conds ∧ ∀ c ∈ y.r.conds, U64 c.mask ∧ U64 c.val

set_option maxRecDepth 8000 in
theorem open_rule {cs : List Value} (hl : cs.length = 4) (h : DataW.trod enc Tryz.prog w base spare held n 58 cs = some x) :
    ∃ y : Xr, y.okIn w ∧ cs = [.int .i64 y.r.k, .int .i64 y.r.a, y.vn, y.vc] := by
  obtain ⟨xs, k, _, _, _, hxl, hf⟩ := DataW.trod_struct Tryz.underlying58 h
  match xs, hxl, cs, hl with
  | [y0, y1, y2], _, [v0, v1, v2, v3], _ =>
    have g0 := hf 0 _ rfl
    have g1 := hf 1 _ rfl
    have g2 := hf 2 _ rfl
    simp [cellsOfA, cellsOfN, cellsOfD] at g0 g1 g2
    obtain ⟨zs, k2, _, _, _, hzl, hz⟩ := DataW.trod_struct Tryz.underlying23 g0
    match zs, hzl with
    | [z0, z1], _ =>
      have i0 := hz 0 _ rfl
      have i1 := hz 1 _ rfl
      simp [cellsOf3] at i0 i1
      obtain ⟨a, ha, _, _⟩ := DataW.trod_int Tryz.underlying3 i0
      obtain ⟨b, hb, _, _⟩ := DataW.trod_int Tryz.underlying3 i1
      simp at ha hb
      subst ha hb
      obtain ⟨ns, hns⟩ := open_names g1
      obtain ⟨cs, hcs, hu⟩ := open_conds g2
      exact ⟨⟨⟨a, b, ns, cs⟩, v2, v3⟩, ⟨hns, hcs, hu⟩, rfl⟩

/-- what is known of rules that came in. -/
def RlIn (w : World) (v : Value) (l : List Xr) : Prop := RlR w v l ∧ ∀ y ∈ l, ∀ c ∈ y.r.conds, U64 c.mask ∧ U64 c.val

theorem open_list {v : Value} (h : DataW.trod enc Tryz.prog w base spare held n 24 [v] = some x) : ∃ l, RlIn w v l := by
  rcases open_slice Tryz.underlying24 h with ⟨h0, _⟩ | ⟨a', len', cap', m, n, D, Pl, hcs, hb, hl, hm, hmm, _, hx⟩
  · simp at h0
    subst h0
    exact ⟨[], ⟨none, 0, rfl, Nat.le_refl _, by decide, fun h => absurd h (by decide), fun y hy => by cases hy⟩, fun y hy => by cases hy⟩
  · simp at hcs
    subst hcs
    have hlm : len' ≤ m := by rw [hmm]; split <;> omega
    haveI : Inhabited Xr := ⟨⟨⟨0, 0, [], []⟩, .bool false, .bool false⟩⟩
    obtain ⟨f, hf⟩ := choose_lt (α := Xr) (n := len') (p := fun i y => y.okIn w ∧ w.cells? base (a'.add (i * 4)) 4 = some [.int .i64 y.r.k, .int .i64 y.r.a, y.vn, y.vc]) (fun i hi => by
      obtain ⟨cs', h1, h2⟩ := hx i (by omega)
      rw [cellsOfR] at h1
      obtain ⟨_, hlen, _⟩ := World.cells?_some h1
      obtain ⟨y, hy, rfl⟩ := open_rule hlen h2
      exact ⟨y, hy, h1⟩)
    have hok : ∀ y ∈ (List.range len').map f, y.okIn w := by
      intro y hy
      obtain ⟨i, hi, rfl⟩ := List.mem_map.1 hy
      exact (hf i (by simpa using hi)).1
    refine ⟨(List.range len').map f, ⟨a', cap', by simp, by simpa using hl, by unfold maxLen at hm; omega, fun h0 => ?_, fun y hy => ⟨(hok y hy).1, (hok y hy).2.1⟩⟩, fun y hy => (hok y hy).2.2⟩
    have h0' : 0 < len' := by simpa using h0
    obtain ⟨b, off, spot⟩ := a'
    have c0 := (World.cells?_some (hf 0 h0').2).2.2 0 (by decide)
    have hspot : spot = none := by
      have : (({ block := b, off := off, spot := spot } : Addr).add (0 * 4)).add 0 = ⟨b, off, spot⟩ := by cases spot <;> simp [Addr.add]
      rw [this] at c0
      simpa using World.cell?_spot c0
    subst hspot
    refine ⟨b, off, rfl, fun i y hi => ?_⟩
    have hil : i < len' := by
      have := (List.getElem?_eq_some_iff.1 hi).1
      simpa using this
    simp [hil] at hi
    subst hi
    obtain ⟨_, _, hc⟩ := World.cells?_some (hf i hil).2
    have key : ∀ c, (({ block := b, off := off, spot := none } : Addr).add (i * 4)).add c = ⟨b, off + i * 4 + c, none⟩ := by intro c; rw [Addr.add_lit, Addr.add_lit]
    have k0 := hc 0 (by decide)
    have k1 := hc 1 (by decide)
    have k2 := hc 2 (by decide)
    have k3 := hc 3 (by decide)
    rw [key] at k0 k1 k2 k3
    exact ⟨k0, k1, k2, k3⟩
end

/-- rules that came in by value. -/
structure Xin where
  k : Int
  a : Int
  v : Value
  l : List Xr

set_option maxRecDepth 8000 in
theorem open_rules {H : Type} {enc : TypeId × Value → H} {w : World} {base b0 : Nat} {spare : Nat → Bool} {held : Bool} {r : Reach} {v : Value} {d : DataW H} {p : List MemPlace}
    (hv : Value.okWide Tryz.prog w r b0 26 v) (h : DataW.Trod enc Tryz.prog w base spare held 26 v d p) : ∃ y : Xin, v = .agg #[.int .i64 y.k, .int .i64 y.a, y.v] ∧ RlIn w y.v y.l := by
  unfold Value.okWide at hv
  rw [Tryz.underlying26] at hv
  obtain ⟨cs, rfl, hsz, _⟩ := hv
  obtain ⟨fuel, hf⟩ := h
  rw [cellsOfX] at hsz
  obtain ⟨cl⟩ := cs
  match cl, hsz with
  | [v0, v1, v2], _ =>
    obtain ⟨xs, k, _, _, _, hxl, hf⟩ := DataW.trod_struct Tryz.underlying26 hf
    match xs, hxl with
    | [y0, y1], _ =>
      have g0 := hf 0 _ rfl
      have g1 := hf 1 _ rfl
      simp [cellsOfA, cellsOfL, Value.cells] at g0 g1
      obtain ⟨zs, k2, _, _, _, hzl, hz⟩ := DataW.trod_struct Tryz.underlying23 g0
      match zs, hzl with
      | [z0, z1], _ =>
        have i0 := hz 0 _ rfl
        have i1 := hz 1 _ rfl
        simp [cellsOf3] at i0 i1
        obtain ⟨a, ha, _, _⟩ := DataW.trod_int Tryz.underlying3 i0
        obtain ⟨b, hb, _, _⟩ := DataW.trod_int Tryz.underlying3 i1
        simp at ha hb
        subst ha hb
        obtain ⟨l, hl⟩ := open_list g1
        exact ⟨⟨a, b, v2, l⟩, rfl, hl⟩

theorem cellsOfW : Tryz.prog.cellsOf 37 = 1 := by kernel_rfl
theorem cellsOfG : Tryz.prog.cellsOf 39 = 6 := by kernel_rfl
theorem cellsOfDa : Tryz.prog.cellsOf 41 = 9 := by kernel_rfl

set_option maxRecDepth 20000 in
theorem open_dcells {H : Type} {enc : TypeId × Value → H} {w : World} {base : Nat} {spare : Nat → Bool} {held : Bool} {n : Nat} {cs : List Value} {x : DataW H × List MemPlace} (hl : cs.length = 9) (h : DataW.trod enc Tryz.prog w base spare held n 41 cs = some x) :
    ∃ y : Da, y.ok ∧ cs = y.cells := by
  obtain ⟨xs, k, _, _, _, hxl, hf⟩ := DataW.trod_struct Tryz.underlying41 h
  match xs, hxl, cs, hl with
  | [y0, y1, y2, y3], _, [v0, v1, v2, v3, v4, v5, v6, v7, v8], _ =>
    have g0 := hf 0 _ rfl
    have g1 := hf 1 _ rfl
    have g2 := hf 2 _ rfl
    have g3 := hf 3 _ rfl
    simp [cellsOfW, cellsOfU, cellsOfG] at g0 g1 g2 g3
    obtain ⟨a, ha, _, wa⟩ := DataW.trod_int Tryz.underlying37 g0
    obtain ⟨b, hb, _, wb⟩ := DataW.trod_int Tryz.underlying37 g1
    obtain ⟨c, hc, _, wc⟩ := DataW.trod_int Tryz.underlying38 g2
    obtain ⟨zs, m, _, _, _, hlen, hi⟩ := DataW.trod_array Tryz.underlying39 g3
    have i0 := hi 0 (by omega)
    have i1 := hi 1 (by omega)
    have i2 := hi 2 (by omega)
    have i3 := hi 3 (by omega)
    have i4 := hi 4 (by omega)
    have i5 := hi 5 (by omega)
    rw [cellsOfU] at i0 i1 i2 i3 i4 i5
    match zs, hlen with
    | [z0, z1, z2, z3, z4, z5], _ =>
      obtain ⟨x0, e0, _, w0⟩ := DataW.trod_int Tryz.underlying38 (by simpa using i0)
      obtain ⟨x1, e1, _, w1⟩ := DataW.trod_int Tryz.underlying38 (by simpa using i1)
      obtain ⟨x2, e2, _, w2⟩ := DataW.trod_int Tryz.underlying38 (by simpa using i2)
      obtain ⟨x3, e3, _, w3⟩ := DataW.trod_int Tryz.underlying38 (by simpa using i3)
      obtain ⟨x4, e4, _, w4⟩ := DataW.trod_int Tryz.underlying38 (by simpa using i4)
      obtain ⟨x5, e5, _, w5⟩ := DataW.trod_int Tryz.underlying38 (by simpa using i5)
      simp at ha hb hc e0 e1 e2 e3 e4 e5
      subst ha hb hc e0 e1 e2 e3 e4 e5
      refine ⟨⟨a, b, c, [x0, x1, x2, x3, x4, x5]⟩, ⟨bounds_u32 wa, bounds_u32 wb, bounds_u64 wc, rfl, ?_⟩, rfl⟩
      intro z hz
      simp only [List.mem_cons, List.not_mem_nil, or_false] at hz
      rcases hz with rfl | rfl | rfl | rfl | rfl | rfl
      · exact bounds_u64 w0
      · exact bounds_u64 w1
      · exact bounds_u64 w2
      · exact bounds_u64 w3
      · exact bounds_u64 w4
      · exact bounds_u64 w5

set_option maxRecDepth 8000 in
theorem open_da {H : Type} {enc : TypeId × Value → H} {w : World} {base b0 : Nat} {spare : Nat → Bool} {held : Bool} {r : Reach} {v : Value} {d : DataW H} {p : List MemPlace}
    (hv : Value.okWide Tryz.prog w r b0 41 v) (h : DataW.Trod enc Tryz.prog w base spare held 41 v d p) : ∃ y : Da, v = y.val ∧ y.ok := by
  unfold Value.okWide at hv
  rw [Tryz.underlying41] at hv
  obtain ⟨cs, rfl, hsz, _⟩ := hv
  obtain ⟨fuel, hf⟩ := h
  rw [cellsOfDa] at hsz
  obtain ⟨y, hy, e⟩ := open_dcells (cs := cs.toList) (by simpa using hsz) hf
  refine ⟨y, ?_, hy⟩
  unfold Da.val
  rw [← e]



set_option maxRecDepth 8000 in
theorem open_rulev {H : Type} {enc : TypeId × Value → H} {w : World} {base b0 : Nat} {spare : Nat → Bool} {held : Bool} {r : Reach} {v : Value} {d : DataW H} {p : List MemPlace}
    (hv : Value.okWide Tryz.prog w r b0 58 v) (h : DataW.Trod enc Tryz.prog w base spare held 58 v d p) : ∃ y : Xr, v = .agg #[.int .i64 y.r.k, .int .i64 y.r.a, y.vn, y.vc] ∧ y.okIn w := by
  unfold Value.okWide at hv
  rw [Tryz.underlying58] at hv
  obtain ⟨cs, rfl, hsz, _⟩ := hv
  obtain ⟨fuel, hf⟩ := h
  rw [cellsOfR] at hsz
  obtain ⟨y, hy, e⟩ := open_rule (cs := cs.toList) (by simpa using hsz) hf
  refine ⟨y, ?_, hy⟩
  rw [← e]

end Go.Proofs.YtpojlfenmanehaaGreat.M

namespace Go.Proofs.YtpojlfenmanehaaGreat.M
open Go.RowKit

/-- a rule's cells; rules', names' cells. -/
def Xr.cl (x : Xr) : List Value := [.int .i64 x.r.k, .int .i64 x.r.a, x.vn, x.vc]
def cellsX (l : List Xr) : List Value := l.flatMap Xr.cl

theorem cellsX_length (l : List Xr) : (cellsX l).length = l.length * 4 := by
  induction l with
  | nil => rfl
  | cons x l ih =>
    show (x.cl ++ cellsX l).length = _
    rw [List.length_append, ih, List.length_cons, Nat.add_mul]
    show 4 + _ = _
    omega
theorem cellsX_get (l : List Xr) : ∀ (i : Nat) (x : Xr) (c : Nat), l[i]? = some x → c < 4 → (cellsX l)[i * 4 + c]? = x.cl[c]? := by
  induction l with
  | nil => intro i x c h; simp at h
  | cons y l ih =>
    intro i x c h hc
    show (y.cl ++ cellsX l)[i * 4 + c]? = _
    cases i with
    | zero =>
      simp at h
      subst h
      rw [List.getElem?_append_left (by show _ < 4; omega)]
      congr 1
      omega
    | succ i =>
      rw [List.getElem?_append_right (by show 4 ≤ _; omega)]
      rw [List.getElem?_cons_succ] at h
      rw [← ih i x c h hc]
      congr 1
      show (i + 1) * 4 + c - 4 = _
      omega
theorem cellsX_out (l : List Xr) : ∀ (j : Nat) (u : Value), (cellsX l)[j]? = some u → ∃ i c x, j = i * 4 + c ∧ c < 4 ∧ l[i]? = some x ∧ x.cl[c]? = some u := by
  intro j u h
  have hj : j < l.length * 4 := by rw [← cellsX_length]; exact (List.getElem?_eq_some_iff.1 h).1
  have hi : j / 4 < l.length := by omega
  refine ⟨j / 4, j % 4, l[j / 4], by omega, by omega, List.getElem?_eq_getElem hi, ?_⟩
  rw [← cellsX_get l (j / 4) l[j / 4] (j % 4) (List.getElem?_eq_getElem hi) (by omega), show j / 4 * 4 + j % 4 = j from by omega]
  exact h
theorem cellsX_app (l m : List Xr) : cellsX (l ++ m) = cellsX l ++ cellsX m := by simp [cellsX]
theorem cellsB_app (l m : List ByteArray) : cellsB (l ++ m) = cellsB l ++ cellsB m := by simp [cellsB]

/-- what is appended: nothing at all, or cells that lie somewhere. -/
def Src (w : World) (v : Value) (m : Nat) (news : List Value) : Prop :=
  (∃ ad c, v = .slice (some ad) m c ∧ ∀ j u, news[j]? = some u → w.cell? (ad.add j) = some u) ∨ (v = .slice none 0 0 ∧ m = 0 ∧ news = [])

/-- a slice that is nil, or leads somewhere. -/
def okS (v : Value) : Prop := (∃ ad n c, v = .slice (some ad) n c) ∨ v = .slice none 0 0

theorem add_none (b o j : Nat) : (⟨b, o, none⟩ : Addr).add j = ⟨b, o + j, none⟩ := Addr.add_lit b o j

theorem src_rules {w : World} {v : Value} {l : List Xr} (h : RlR w v l) (hs : okS v) : Src w v l.length (cellsX l) := by
  obtain ⟨a, cap, rfl, _, _, hc, _⟩ := h
  rcases hs with ⟨ad, n, c, e⟩ | e
  · cases e
    refine .inl ⟨ad, cap, rfl, fun j u hu => ?_⟩
    obtain ⟨i, c, x, rfl, hc4, hx, hu⟩ := cellsX_out l j u hu
    obtain ⟨b, o, e, hat⟩ := hc (by have := (List.getElem?_eq_some_iff.1 hx).1; omega)
    cases e
    obtain ⟨h0, h1, h2, h3⟩ := hat i x hx
    rw [add_none, ← Nat.add_assoc]
    match c, hc4, hu with
    | 0, _, hu => cases hu; exact h0
    | 1, _, hu => cases hu; exact h1
    | 2, _, hu => cases hu; exact h2
    | 3, _, hu => cases hu; exact h3
  · injection e with e1 e2 e3
    have : l = [] := List.eq_nil_of_length_eq_zero e2
    subst this
    exact .inr ⟨by rw [e1, e3]; rfl, rfl, rfl⟩
theorem src_names {w : World} {v : Value} {l : List ByteArray} (h : StrR w v l) (hs : okS v) : Src w v l.length (cellsB l) := by
  obtain ⟨a, cap, rfl, _, _, hc⟩ := h
  rcases hs with ⟨ad, n, c, e⟩ | e
  · cases e
    refine .inl ⟨ad, cap, rfl, fun j u hu => ?_⟩
    have hj : j < l.length := by have := (List.getElem?_eq_some_iff.1 hu).1; simpa [cellsB] using this
    obtain ⟨b, o, e, hat⟩ := hc (by omega)
    cases e
    rw [add_none]
    unfold cellsB at hu
    rw [List.getElem?_map, List.getElem?_eq_getElem hj] at hu
    cases hu
    exact hat j _ (List.getElem?_eq_getElem hj)
  · injection e with e1 e2 e3
    have : l = [] := List.eq_nil_of_length_eq_zero e2
    subst this
    exact .inr ⟨by rw [e1, e3]; rfl, rfl, rfl⟩

theorem one_rules {w : World} {v : Value} {l : List Xr} (h : RlR w v l) : ∀ u ∈ cellsX l, u.oneCell' = true := by
  obtain ⟨_, _, _, _, _, _, hr⟩ := h
  intro u hu
  obtain ⟨x, hx, hu⟩ := List.mem_flatMap.1 hu
  simp only [Xr.cl, List.mem_cons, List.not_mem_nil, or_false] at hu
  obtain ⟨⟨_, _, e1, _⟩, ⟨_, _, e2, _⟩⟩ := hr x hx
  rcases hu with rfl | rfl | rfl | rfl
  · rfl
  · rfl
  · rw [e1]; rfl
  · rw [e2]; rfl
theorem one_names (l : List ByteArray) : ∀ u ∈ cellsB l, u.oneCell' = true := by
  intro u hu
  obtain ⟨x, _, rfl⟩ := List.mem_map.1 hu
  rfl

theorem info_parts {t : TypeId} {z : Option Value} {s b : Nat} (h : (Tryz.prog.info? t).map (fun i => (i.zero, i.size, i.bytes)) = some (z, s, b)) : ∃ i, Tryz.prog.info? t = some i ∧ i.zero = z ∧ i.size = s ∧ i.bytes = b := by
  cases hi : Tryz.prog.info? t with
  | none => rw [hi] at h; cases h
  | some i =>
    rw [hi] at h
    simp at h
    exact ⟨i, rfl, h.1, h.2.1, h.2.2⟩
theorem Tryz.infoR : (Tryz.prog.info? 58).map (fun i => (i.zero, i.size, i.bytes)) = some (some (.agg #[.int .i64 0, .int .i64 0, .slice none 0 0, .slice none 0 0]), 4, 64) := by kernel_rfl

theorem run_app_rules (w : World) (ty : TypeId) (base : Nat) (v : Value) (n : Nat) (xs : List Value) (hown : w.ownsRow base 58 4 v n xs) (x : Value) (m : Nat) (k : List Xr) (hs : Src w x m (cellsX k)) (hm : k.length = m) (h1 : ∀ u ∈ cellsX k, u.oneCell' = true) (hn : n + m ≤ 1000000) (hbase : base ≤ w.heap.size) :
    ∃ v' w', (Builtin.append_ #[24, 24] ty #[v, x]).run Tryz.prog w = .ok v' w' ∧ w'.ownsRow base 58 4 v' (n + m) (xs ++ cellsX k) ∧ w.grownBy w' v.ownBlock ∧ (v'.ownBlock = v.ownBlock ∨ v'.ownBlock = some w.heap.size) := by
  obtain ⟨i0, hi, hz0, hz1, hz2⟩ := info_parts Tryz.infoR
  rcases hs with ⟨ad, c, rfl, hc⟩ | ⟨rfl, rfl, h0⟩
  · obtain ⟨v', w', r1, r2, r3, _, r5⟩ := run_append_own_at (P := Tryz.prog) w base 24 ty 58 i0 _ 4 64 Tryz.underlying24 hi hz0 hz1 hz2 rfl (by decide) v n xs hown ad m c (cellsX k) (by rw [cellsX_length, hm]) hc h1 (by unfold maxLen; omega) (by omega) hbase
    exact ⟨v', w', r1, r2, r3, r5⟩
  · rw [h0, List.append_nil]
    exact ⟨v, w, run_append_owned_none (P := Tryz.prog) (w := w) base 24 ty 58 i0 4 Tryz.underlying24 hi v n xs hown, hown, ⟨rfl, rfl, rfl, Nat.le_refl _, fun _ _ _ => rfl⟩, .inl rfl⟩
theorem run_app_names (w : World) (ty : TypeId) (base : Nat) (v : Value) (n : Nat) (xs : List Value) (hown : w.ownsRow base 9 1 v n xs) (x : Value) (m : Nat) (k : List ByteArray) (hs : Src w x m (cellsB k)) (hm : k.length = m) (hn : n + m ≤ 1000000) (hbase : base ≤ w.heap.size) :
    ∃ v' w', (Builtin.append_ #[55, 55] ty #[v, x]).run Tryz.prog w = .ok v' w' ∧ w'.ownsRow base 9 1 v' (n + m) (xs ++ cellsB k) ∧ w.grownBy w' v.ownBlock ∧ (v'.ownBlock = v.ownBlock ∨ v'.ownBlock = some w.heap.size) := by
  obtain ⟨i0, hi, hz0, hz1, hz2⟩ := info_parts Tryz.infoB
  rcases hs with ⟨ad, c, rfl, hc⟩ | ⟨rfl, rfl, h0⟩
  · obtain ⟨v', w', r1, r2, r3, _, r5⟩ := run_append_own_at (P := Tryz.prog) w base 55 ty 9 i0 _ 1 16 Tryz.underlying55 hi hz0 hz1 hz2 rfl (by decide) v n xs hown ad m c (cellsB k) (by simp [cellsB, hm]) hc (one_names k) (by unfold maxLen; omega) (by omega) hbase
    exact ⟨v', w', r1, r2, r3, r5⟩
  · rw [h0, List.append_nil]
    exact ⟨v, w, run_append_owned_none (P := Tryz.prog) (w := w) base 55 ty 9 i0 1 Tryz.underlying55 hi v n xs hown, hown, ⟨rfl, rfl, rfl, Nat.le_refl _, fun _ _ _ => rfl⟩, .inl rfl⟩

/-- what is known behind an append: the row, what was there, where the row lies. -/
def Apd (t sz B : Nat) (w : World) (v : Value) (n : Nat) (xs : List Value) (v' : Value) (w' : World) : Prop :=
  w'.ownsRow B t sz v' n xs ∧ w.grownBy w' v.ownBlock ∧ (v'.ownBlock = v.ownBlock ∨ v'.ownBlock = some w.heap.size)

theorem wp_app_rules {w : World} {o : Oper} {a : Act} {K : Act → World → Prop} {Q : Exit → Act → World → Prop} (s x : Operand)
    (ho : o.op = .call { callee := .builtin .append, args := #[s, x], argTypes := #[24, 24] })
    (base : Nat) (v : Value) (n : Nat) (xs : List Value) (hs : a.eval s = v) (hown : w.ownsRow base 58 4 v n xs) (xv : Value) (m : Nat) (k : List Xr) (hx : a.eval x = xv) (hsrc : Src w xv m (cellsX k)) (hm : k.length = m) (h1 : ∀ u ∈ cellsX k, u.oneCell' = true) (hn : n + m ≤ 1000000) (hbase : base ≤ w.heap.size)
    (h : ∀ v' w', Apd 58 4 base w v (n + m) (xs ++ cellsX k) v' w' → K (a.put o.dst v') w') : Oper.wp Tryz.prog o a w K Q := by
  obtain ⟨v', w', hr, h2, h3, h4⟩ := run_app_rules w o.type base v n xs hown xv m k hsrc hm h1 hn hbase
  unfold Oper.wp execOp
  simp only [ho, resolve, invoke, builtin, Sem.run_bind, Sem.run_pure, Result.andThen_ok, List.map_toArray, List.map_cons, List.map_nil, hs, hx, hr]
  exact h v' w' ⟨h2, h3, h4⟩
theorem wp_app_names {w : World} {o : Oper} {a : Act} {K : Act → World → Prop} {Q : Exit → Act → World → Prop} (s x : Operand)
    (ho : o.op = .call { callee := .builtin .append, args := #[s, x], argTypes := #[55, 55] })
    (base : Nat) (v : Value) (n : Nat) (xs : List Value) (hs : a.eval s = v) (hown : w.ownsRow base 9 1 v n xs) (xv : Value) (m : Nat) (k : List ByteArray) (hx : a.eval x = xv) (hsrc : Src w xv m (cellsB k)) (hm : k.length = m) (hn : n + m ≤ 1000000) (hbase : base ≤ w.heap.size)
    (h : ∀ v' w', Apd 9 1 base w v (n + m) (xs ++ cellsB k) v' w' → K (a.put o.dst v') w') : Oper.wp Tryz.prog o a w K Q := by
  obtain ⟨v', w', hr, h2, h3, h4⟩ := run_app_names w o.type base v n xs hown xv m k hsrc hm hn hbase
  unfold Oper.wp execOp
  simp only [ho, resolve, invoke, builtin, Sem.run_bind, Sem.run_pure, Result.andThen_ok, List.map_toArray, List.map_cons, List.map_nil, hs, hx, hr]
  exact h v' w' ⟨h2, h3, h4⟩

/-- at the list of a plain region's operations. -/
theorem wpList_app_rules {w : World} {ops : Array Oper} {rest : List Oper} {o : Oper} {a : Act} {Q : Exit → Act → World → Prop} (hgd : o.guard = none) (s x : Operand)
    (ho : o.op = .call { callee := .builtin .append, args := #[s, x], argTypes := #[24, 24] })
    (base : Nat) (v : Value) (n : Nat) (xs : List Value) (hs : a.eval s = v) (hown : w.ownsRow base 58 4 v n xs) (xv : Value) (m : Nat) (k : List Xr) (hx : a.eval x = xv) (hsrc : Src w xv m (cellsX k)) (hm : k.length = m) (h1 : ∀ u ∈ cellsX k, u.oneCell' = true) (hn : n + m ≤ 1000000) (hbase : base ≤ w.heap.size)
    (h : ∀ v' w', Apd 58 4 base w v (n + m) (xs ++ cellsX k) v' w' → wpList Tryz.prog ops Q rest (a.put o.dst v') w') : wpList Tryz.prog ops Q (o :: rest) a w :=
  wpList_plain hgd fun _ hK => wp_app_rules s x ho base v n xs hs hown xv m k hx hsrc hm h1 hn hbase fun v' w' ha => hK _ _ (h v' w' ha)

/-- at a step of a drawn region. -/
theorem step_of_wp {ops : Array Oper} {o : Oper} {a : Act} {w : World} {K : Act → World → Prop} {Q : Exit → Act → World → Prop} {E : Prop} (hgd : o.guard = none) (h : Oper.wp Tryz.prog o a w K Q) :
    if Region.wanted o (yielded ops a.tmps) = true then Oper.wp Tryz.prog o a w K Q else E := by
  rw [if_pos (by simp [Region.wanted, hgd])]
  exact h

/-- a row of the call's own. -/
structure Jn (t sz B : Nat) (a X : World) (v : Value) (n : Nat) (xs : List Value) : Prop where
  own : X.ownsRow B t sz v n xs
  be : Below B a X
  lB : B ≤ X.heap.size
/-- a block of the call's own, apart from a row. -/
structure Fr (B : Nat) (X : World) (v : Value) (b : Nat) (t : TypeId) (l : List Value) : Prop where
  blk : Blk X b t l
  ge : B ≤ b
  ne : ∀ j, v.ownBlock = some j → j ≠ b

section
variable {t sz B b n n' : Nat} {t' : TypeId} {a X Y : World} {v v' : Value} {xs xs' l : List Value}
theorem Jn.nil (h : Below B a X) (hB : B ≤ X.heap.size) : Jn t sz B a X (.slice none 0 0) 0 [] := ⟨⟨by simp, .inl ⟨rfl, rfl⟩⟩, h, hB⟩
theorem Jn.over (h : Jn t sz B a X v n xs) (hb : Below X.heap.size X Y) : Jn t sz B a Y v n xs := ⟨owns_below h.own hb (Nat.le_refl _), h.be.trans (hb.mono h.lB), Nat.le_trans h.lB hb.size⟩
theorem Jn.empty (h : Below B a X) (hB : B ≤ X.heap.size) : Jn t sz B a (X.alloc (Obj.cells #[] t)) (.slice (some ⟨X.heap.size, 0, none⟩) 0 0) 0 [] :=
  ⟨⟨by simp, .inr ⟨X.heap.size, 0, #[], rfl, hB, heap_alloc_new X _, Nat.le_refl _, by unfold maxLen; omega, by simp, by simp⟩⟩, h.alloc hB _, by rw [size_alloc']; omega⟩
theorem Jn.new (h : Below B a X) (hB : B ≤ X.heap.size) (c : List Value) (hc : c.length = n * sz) (hn : n ≤ 1000) : Jn t sz B a (X.alloc (Obj.cells c.toArray t)) (.slice (some ⟨X.heap.size, 0, none⟩) n n) n c :=
  ⟨⟨hc, .inr ⟨X.heap.size, n, c.toArray, rfl, hB, heap_alloc_new X _, Nat.le_refl _, by unfold maxLen; omega, by simpa using hc, by rw [← hc]; simp⟩⟩, h.alloc hB _, by rw [size_alloc']; omega⟩
theorem Jn.app (h : Jn t sz B a X v n xs) (ha : Apd t sz B X v n' xs' v' Y) : Jn t sz B a Y v' n' xs' := ⟨ha.1, h.be.grown ha.2.1 h.lB (owns_block h.own), Nat.le_trans h.lB ha.2.1.size⟩
theorem Jn.lt (h : Jn t sz B a X v n xs) : ∀ j, v.ownBlock = some j → j < X.heap.size := by
  intro j hj
  rcases h.own.2 with ⟨rfl, _⟩ | ⟨g, cap, cur, rfl, _, hg, _⟩
  · cases hj
  · cases hj; exact lt_of_block hg
theorem Jn.slice (h : Jn t sz B a X v n xs) : ∃ p c, v = .slice p n c := by
  rcases h.own.2 with ⟨rfl, h0⟩ | ⟨g', c, cur, rfl, _⟩
  · exact ⟨none, 0, by rw [h0]⟩
  · exact ⟨_, c, rfl⟩
theorem Fr.over (h : Fr B X v b t' l) (hb : Below X.heap.size X Y) : Fr B Y v b t' l := ⟨h.blk.over hb, h.ge, h.ne⟩
theorem Fr.new (h : Jn t sz B a X v n xs) (c : Array Value) : Fr B (X.alloc (Obj.cells c t')) v X.heap.size t' c.toList := ⟨blk_new X c t', h.lB, fun j hj => by have := h.lt j hj; omega⟩
theorem Fr.row (h : Fr B X v b t' l) (o : Obj) (n c : Nat) : Fr B (X.alloc o) (.slice (some ⟨X.heap.size, 0, none⟩) n c) b t' l := ⟨h.blk.alloc o, h.ge, fun j hj => by have := h.blk.lt; have e : X.heap.size = j := (by injection hj); omega⟩
theorem Fr.app (h : Fr B X v b t' l) (ha : Apd t sz B X v n' xs' v' Y) : Fr B Y v' b t' l := by
  refine ⟨?_, h.ge, fun j hj => ?_⟩
  · unfold Blk
    rw [ha.2.1.block b h.blk.lt (fun e => h.ne b e.symm rfl)]
    exact h.blk
  · rcases ha.2.2 with e | e
    · exact h.ne j (e ▸ hj)
    · rw [e] at hj; have := h.blk.lt; have e : X.heap.size = j := (by injection hj); omega
theorem Jn.setRow (h : Jn t sz B a X v n xs) (hf : Fr B X v b t' l) (cs : Array Value) : Jn t sz B a (X.setRow b cs) v n xs := by
  refine ⟨⟨h.own.1, ?_⟩, h.be.trans ⟨rfl, rfl, rfl, by simp, fun k hk => setRow_other _ _ _ _ (by have := hf.ge; omega)⟩, by have := h.lB; simpa using this⟩
  rcases h.own.2 with hn | ⟨g, cap, cur, hv, hg, hh, r⟩
  · exact .inl hn
  · refine .inr ⟨g, cap, cur, hv, hg, ?_, r⟩
    rw [setRow_other _ _ _ _ (by subst hv; exact hf.ne g rfl)]
    exact hh
end

/-- a row of rules, for a reader. -/
theorem Jn.rules {B : Nat} {a X : World} {v : Value} {l : List Xr} (h : Jn 58 4 B a X v l.length (cellsX l)) (hs : ∀ x ∈ l, StrR X x.vn x.r.names ∧ CdR X x.vc x.r.conds) : RlR X v l := by
  rcases h.own.2 with ⟨rfl, h0⟩ | ⟨g, cap, cur, rfl, hb, hg, hnc, hcm, hcs, htake⟩
  · exact ⟨none, 0, by rw [h0], by omega, by decide, fun h => absurd h (by omega), hs⟩
  · refine ⟨_, cap, rfl, hnc, by unfold maxLen at hcm; omega, fun _ => ⟨g, 0, rfl, fun i x hx => ?_⟩, hs⟩
    have key : ∀ c u, c < 4 → x.cl[c]? = some u → X.cell? ⟨g, 0 + i * 4 + c, none⟩ = some u := by
      intro c u hc hu
      have := h.own.cells (g := g) rfl (i * 4 + c) u (by rw [cellsX_get l i x c hx hc]; exact hu)
      rw [add_none] at this
      rw [Nat.add_assoc]
      exact this
    exact ⟨key 0 _ (by decide) rfl, key 1 _ (by decide) rfl, key 2 _ (by decide) rfl, key 3 _ (by decide) rfl⟩
/-- a row of names, for a reader. -/
theorem Jn.names {B : Nat} {a X : World} {v : Value} {l : List ByteArray} (h : Jn 9 1 B a X v l.length (cellsB l)) : StrR X v l := by
  rcases h.own.2 with ⟨rfl, h0⟩ | ⟨g, cap, cur, rfl, hb, hg, hnc, hcm, hcs, htake⟩
  · exact ⟨none, 0, by rw [h0], by omega, by decide, fun h => absurd h (by omega)⟩
  · refine ⟨_, cap, rfl, hnc, by unfold maxLen at hcm; omega, fun _ => ⟨g, 0, rfl, fun i x hx => ?_⟩⟩
    have := h.own.cells (g := g) rfl i (.string x) (by unfold cellsB; rw [List.getElem?_map, hx]; rfl)
    rw [add_none] at this
    exact this

theorem Jn.names' {B m : Nat} {a X : World} {v : Value} {l : List ByteArray} (h : Jn 9 1 B a X v m (cellsB l)) (hm : m = l.length) : StrR X v l := by
  subst hm
  exact h.names
theorem Jn.rules' {B m : Nat} {a X : World} {v : Value} {l : List Xr} (h : Jn 58 4 B a X v m (cellsX l)) (hm : m = l.length) (hs : ∀ x ∈ l, StrR X x.vn x.r.names ∧ CdR X x.vc x.r.conds) : RlR X v l := by
  subst hm
  exact h.rules hs

end Go.Proofs.YtpojlfenmanehaaGreat.M

