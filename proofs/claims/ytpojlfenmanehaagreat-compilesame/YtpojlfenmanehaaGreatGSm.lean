/-
  The same rules have the same program.
-/
import Derived.Test.YtpojlfenmanehaaGreatGLw
import Derived.Laws.StructEq
import Derived.BigQuiet
namespace Go.Proofs.YtpojlfenmanehaaGreat
open Go.RowKit

/-- are two instructions the same? -/
def sameI (x y : V.In) : Bool := x.c == y.c && x.t == y.t && x.f == y.f && x.k == y.k
theorem sameI_self (x : V.In) : sameI x x = true := by simp [sameI]

theorem equalIn_in (x y : V.In) (w : World) : (Op.equalIn 10000 78 x.val y.val).run Tryz.prog w = .ok (sameI x y) w := by
  have u22 := Tryz.underlying76
  have a22 := Tryz.isAgg76
  have z22 := Tryz.sizeOf76
  have u5 := Tryz.underlying5
  have a5 := Tryz.isAgg5
  have z5 := Tryz.sizeOf5
  have u25 := Tryz.underlying37
  have a25 := Tryz.isAgg37
  have z25 := Tryz.sizeOf37
  have hS : Tryz.prog.underlying 78 = some (.struct (Tryz.prog.fieldsOf 78)) := by kernel_rfl
  have hp : Tryz.prog.stoodInHeld 78 = false := by kernel_rfl
  unfold V.In.val
  rw [show (10000 : Nat) = 9999 + 1 from rfl, run_equalIn_agg w 9999 78 _ _ hS hp]
  simp only [Program.fieldsOf, Tryz.underlying78]
  go_simp
  obtain ⟨a, b, c, d⟩ := x
  obtain ⟨a', b', c', d'⟩ := y
  unfold sameI
  by_cases h1 : a = a' <;> by_cases h2 : b = b' <;> by_cases h3 : c = c' <;> by_cases h4 : d = d' <;> simp [h1, h2, h3, h4]
theorem neq_in (x y : V.In) (w : World) : (binOp .neq 78 x.val y.val).run Tryz.prog w = .ok (.bool (!sameI x y)) w := by
  unfold V.In.val
  rw [run_neq_struct]
  have := equalIn_in x y w
  unfold V.In.val at this
  rw [this]
  rfl
theorem bel_drewN (w : World) (n : Nat) : Below w.heap.size w (w.drewN n) := ⟨rfl, rfl, rfl, Nat.le_refl _, fun _ _ => rfl⟩

set_option maxHeartbeats 800000 in
theorem same_eq (a1 a2 : Option Addr) (len cap1 cap2 : Nat) (ins : List V.In) (w : World) (hlen : len ≤ 100000) (h1 : V.Ins w a1 len ins) (h2 : V.Ins w a2 len ins) :
    Calls Tryz.prog 21 #[.slice a1 len cap1, .slice a2 len cap2] w fun e w' => e = .returned (.bool true) ∧ Below w.heap.size w w' := by
  have hll := h1.1
  go_enter Tryz.func21, Tryz.ntmps21
  go_wp2
  go_loopw [5] (fun i wr => ∃ k : Nat, k ≤ len ∧ i = .int .i64 k ∧ Below w.heap.size w wr) (fun i _ => len - (intOf i).toNat)
  case atStart => exact ⟨0, Nat.zero_le _, rfl, Below.refl _ _⟩
  case round =>
    obtain ⟨k, hk, rfl, hbr⟩ := hrel
    by_cases hlt : k < len
    · have hr1 := h1.below hbr
      have hr2 := h2.below hbr
      obtain ⟨b, off, rfl, hc⟩ := hr1.2.2 (by omega)
      obtain ⟨b', off', rfl, hc'⟩ := hr2.2.2 (by omega)
      obtain ⟨q1, q2, q3, q4⟩ := hc k ins[k] (List.getElem?_eq_getElem (by omega))
      obtain ⟨p1, p2, p3, p4⟩ := hc' k ins[k] (List.getElem?_eq_getElem (by omega))
      clear hc hc' hr1 hr2 h1 h2
      generalize ins[k] = x at *
      have hq1 : ∀ W : World, (binOp .neq 78 x.val x.val).run Tryz.prog W = .ok (.bool false) W := fun W => by rw [neq_in, sameI_self]; rfl
      have hq2 : ∀ W : World, (Op.equalIn 10000 78 x.val x.val).run Tryz.prog W = .ok true W := fun W => by rw [equalIn_in, sameI_self]
      obtain ⟨xc, xt, xf, xk⟩ := x
      unfold V.In.val at *
      simp only at q1 q2 q3 q4 p1 p2 p3 p4
      have hi1 : (k : Int) < (len : Int) := by omega
      go_wp2_with fail
      go_quiet (fail)
      go_wp2
      go_roundw
      case rel => exact ⟨k + 1, by omega, by go_num, hbr.trans ((bel_drewN _ _).mono hbr.size)⟩
      case measure => simp [intOf]; omega
    · go_wp2
      go_ret
      exact ⟨rfl, hbr⟩

/-- which program and which error there is. -/
def Det (k a : Int) (rs : List M.Xr) (l : List V.In) (er : Int) : Prop :=
  ((M.checkP k a (rs.map M.Xr.r)).1 ≠ 0 ∧ er = (M.checkP k a (rs.map M.Xr.r)).1 ∧ l = []) ∨
  ((M.checkP k a (rs.map M.Xr.r)).1 = 0 ∧ ∃ ns, Nrs ns rs ∧ ((4096 < (progI ns k a (rs.map M.Xr.r)).length ∧ er = 4 ∧ l = []) ∨ ((progI ns k a (rs.map M.Xr.r)).length ≤ 4096 ∧ er = 0 ∧ l = progI ns k a (rs.map M.Xr.r))))
theorem nrs_one {ns ns' : List Int} {rs : List M.Xr} (h : Nrs ns rs) (h' : Nrs ns' rs) : ns = ns' := by
  have hp : ns.Perm ns' := (List.perm_ext_iff_of_nodup h.nodup h'.nodup).2 fun z => (h.mem z).trans (h'.mem z).symm
  exact List.Perm.eq_of_pairwise (le := fun a b => a < b) (fun a b _ _ h1 h2 => by omega) h.rise h'.rise hp
theorem det_one {k a : Int} {rs : List M.Xr} {l l' : List V.In} {er er' : Int} (h : Det k a rs l er) (h' : Det k a rs l' er') : l = l' ∧ er = er' := by
  rcases h with ⟨h1, h2, h3⟩ | ⟨h1, ns, hn, h⟩
  · rcases h' with ⟨_, q2, q3⟩ | ⟨q1, _⟩
    · exact ⟨by rw [h3, q3], by rw [h2, q2]⟩
    · exact absurd q1 h1
  · rcases h' with ⟨q1, _⟩ | ⟨_, ns', hn', h'⟩
    · exact absurd h1 q1
    · obtain rfl := nrs_one hn hn'
      rcases h with ⟨a1, a2, a3⟩ | ⟨a1, a2, a3⟩ <;> rcases h' with ⟨b1, b2, b3⟩ | ⟨b1, b2, b3⟩
      · exact ⟨by rw [a3, b3], by rw [a2, b2]⟩
      · omega
      · omega
      · exact ⟨by rw [a3, b3], by rw [a2, b2]⟩
/-- what Compile tells, as one row and an error. -/
def CmD (w : World) (k a : Int) (rs : List M.Xr) (e : Ending) (w' : World) : Prop :=
  ∃ l er p c, e = .returned (.tuple #[.slice p l.length c, .int .i64 er]) ∧ Below w.heap.size w w' ∧ V.Ins w' p l.length l ∧ l.length ≤ 4096 ∧ Det k a rs l er
theorem cmd_of {w w' : World} {k a : Int} {rs : List M.Xr} {e : Ending} (h : CmT w k a rs e w') : CmD w k a rs e w' := by
  have hnil : V.Ins w' none ([] : List V.In).length [] := ⟨rfl, fun x hx => absurd hx List.not_mem_nil, fun h => absurd h (by decide)⟩
  obtain ⟨v, er, rfl, hb, ⟨h1, rfl, rfl⟩ | ⟨h1, hR, ns, hn, ⟨h2, rfl, rfl⟩ | ⟨h2, rfl, ho⟩⟩⟩ := h
  · exact ⟨[], _, none, 0, rfl, hb, hnil, by decide, .inl ⟨h1, rfl, rfl⟩⟩
  · exact ⟨[], _, none, 0, rfl, hb, hnil, by decide, .inr ⟨h1, ns, hn, .inl ⟨h2, rfl, rfl⟩⟩⟩
  · have hw : M.wgt rs ≤ 100000000 := by
      have h1 := sum_wg1 rs hR
      have h2 : M.wgt rs = 8 + (rs.map fun x => M.wg1 x.r).sum := rfl
      omega
    obtain ⟨p, c, rfl, hi⟩ := own_ins ho (prog_gd ns k a rs hn hR.ok hw).ok
    exact ⟨_, _, p, c, rfl, hb, hi, h2, .inr ⟨h1, ns, hn, .inr ⟨h2, rfl, rfl⟩⟩⟩

set_option maxRecDepth 8000 in
set_option maxHeartbeats 2000000 in
theorem same_walk (w : World) (k a : Int) (v : Value) (rs : List M.Xr) (h : M.RlR w v rs) (hf : Fits rs) :
    Calls Tryz.prog 7 #[.agg #[.int .i64 k, .int .i64 a, v]] w fun e w' => e = .returned (.bool true) ∧ Below w.heap.size w w' := by
  obtain ⟨p1, c1, rfl⟩ : ∃ p c, v = .slice p rs.length c := by obtain ⟨p, c, e, _⟩ := h; exact ⟨p, c, e⟩
  have HA : Hid (∀ W, Calls Tryz.prog 9 #[] W fun e w' => e = .returned (.bool true) ∧ Below W.heap.size W w') := awake_any
  have HL : Hid (∀ W, M.RlR W (.slice p1 rs.length c1) rs → Calls Tryz.prog 10 #[.agg #[.int .i64 k, .int .i64 a, .slice p1 rs.length c1]] W fun e w' => M.LightR W rs e w') := fun W h => M.light_any W k a _ rs h
  have HC : Hid (M.Lt rs → ∀ W, M.RlR W (.slice p1 rs.length c1) rs → Calls Tryz.prog 11 #[.agg #[.int .i64 k, .int .i64 a, .slice p1 rs.length c1]] W fun e w' => CmD W k a rs e w') := fun hL W hW => (compile_any W k a _ rs hW hL hf).mono fun e w' hh => cmd_of hh
  have HX : Hid (∀ W, Below (w.alloc (Obj.cells #[.int .i64 k, .int .i64 a, .slice p1 rs.length c1] 26)).heap.size (w.alloc (Obj.cells #[.int .i64 k, .int .i64 a, .slice p1 rs.length c1] 26)) W → W.cell? ⟨w.heap.size, 0, none⟩ = some (.int .i64 k) ∧ W.cell? ⟨w.heap.size, 1, none⟩ = some (.int .i64 a) ∧ W.cell? ⟨w.heap.size, 2, none⟩ = some (.slice p1 rs.length c1) ∧ M.RlR W (.slice p1 rs.length c1) rs ∧ Below w.heap.size w W) := box_rules w k a p1 c1 rs h
  unfold CmD at HC
  clear h hf
  go_enter Tryz.func7, Tryz.ntmps7
  go_upto_region 3 with (first
    | (go_at_call 9; refine (HA.out _).mono ?_; rintro e w1 ⟨rfl, b1⟩; obtain ⟨q0, q1, q2, r1, B1⟩ := HX.out _ b1)
    | (go_at_call 10; refine (HL.out _ r1).mono ?_; rintro e w2 ⟨bb, rfl, b2, hbb⟩; have X2 := b1.trans (b2.mono b1.size); obtain ⟨t0, t1, t2, r2, B2⟩ := HX.out _ X2))
  clear q0 q1 q2 r1 B1 b1 b2
  cases bb with
  | false =>
    go_wp2_with fail
    go_ret
    exact ⟨rfl, B2⟩
  | true =>
    have hLt : M.Lt rs := hbb rfl
    have HC2 : Hid _ := HC.out hLt
    clear HC HL HA hbb
    go_upto_region 6 with (first
      | (go_at_call 11; refine (HC2.out _ r2).mono ?_; rintro e w3 ⟨l3, e3, p3, c3, rfl, b3, i3, n3, d3⟩; have X3 := X2.trans (b3.mono X2.size); obtain ⟨s0, s1, s2, r3, B3⟩ := HX.out _ X3))
    clear t0 t1 t2 r2 B2 X2 b3
    go_upto_region 7 with (first
      | (go_at_call 11; refine (HC2.out _ r3).mono ?_; rintro e w4 ⟨l4, e4, p4, c4, rfl, b4, i4, n4, d4⟩))
    have B4 := B3.trans (b4.mono B3.size)
    have j4 := i3.below b4
    obtain ⟨hl, he⟩ := det_one d3 d4
    subst hl he
    have HS : Hid (Calls Tryz.prog 21 #[.slice p3 l3.length c3, .slice p4 l3.length c4] w4 fun e w' => e = .returned (.bool true) ∧ Below w4.heap.size w4 w') := same_eq p3 p4 _ c3 c4 l3 w4 (by omega) j4 i4
    have hee : (e3 == e3) = true := by simp
    clear i3 i4 j4 d3 d4 s0 s1 s2 r3 b4 X3 HC2
    generalize l3.length = N1 at *
    go_wp2_with (first | (go_at_call 21; refine HS.out.mono ?_; rintro e w5 ⟨rfl, b5⟩))
    go_ret
    exact ⟨rfl, B4.trans (b5.mono B4.size)⟩

end Go.Proofs.YtpojlfenmanehaaGreat

