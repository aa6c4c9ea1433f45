/-
  Parse: what it tells of any text.
-/
import Derived.Test.YtcckipimfgmmdaaGreatDoorPCatch
import Derived.Test.YtcckipimfgmmdaaGreatDoorPAll
namespace Go.Proofs.YtcckipimfgmmdaaGreatDoor.P
open Go.RowKit

theorem glue_ok {a : List Tok} {r : (Except (Nat × Nat) (List Tok))} {ts : List Tok} (h : glue a r = .ok ts) : ∃ t, r = .ok t ∧ ts = a ++ t := by
  cases r with
  | error e => cases h
  | ok t => cases h; exact ⟨t, rfl, rfl⟩

theorem go_len : ∀ (l : (List UInt8)) (k p : Nat) (ts : List Tok), go k p l = .ok ts → ts.length ≤ l.length + 1 := by
  intro l
  induction l with
  | nil => intro k p ts h; cases h; simp
  | cons c r ih =>
    intro k p ts h
    unfold go at h
    split at h
    · have := ih _ _ _ h; simp; omega
    · split at h
      · have := ih _ _ _ h; simp; omega
      · split at h
        · have := ih _ _ _ h; simp; omega
        · split at h
          · cases h
          · obtain ⟨t, h1, rfl⟩ := glue_ok h
            have := ih _ _ _ h1
            simp
            omega

theorem all_len {l : (List UInt8)} {ts : List Tok} (h : all l = .ok ts) : ts.length ≤ 8193 := by
  unfold all at h
  split at h
  · cases h
  · have := go_len _ _ _ _ h
    omega

/-- what is told of a text. -/
def ParR (base : Nat) (r : Except (Nat × Nat) (Ac × List Rl)) (e : Ending) (w' : World) : Prop :=
  match r with
  | .error (c, p) => e = .returned (.tuple #[.agg #[.int .i64 0, .int .i64 0, .slice none 0 0], .int .i64 c, .int .i64 p])
  | .ok (d, rs) => ∃ v rv, rs = List.map Rv.r rv ∧ e = .returned (.tuple #[.agg #[.int .i64 d.k, .int .i64 d.a, v], .int .i64 0, .int .i64 (-1)]) ∧ w'.ownsRow base 87 4 v rv.length (cellsR rv) ∧ ∀ x ∈ rv, Rows2 w' base x

theorem cq_new (w : World) : Cq w w.heap.size w.heap.size (w.heap.size + 1) (w.heap.size + 1 + 1) (rulL 0 0 (.slice none 0 0)) [.int .i64 0] [.int .i64 0] (((w.alloc (Obj.cells #[.int .i64 0, .int .i64 0, .slice none 0 0] 39)).alloc (Obj.cells #[.int .i64 0] 40)).alloc (Obj.cells #[.int .i64 0] 3)) := by
  have e1 : (w.alloc (Obj.cells #[.int .i64 0, .int .i64 0, .slice none 0 0] 39)).heap.size = w.heap.size + 1 := size_alloc' _ _
  have e2 : ((w.alloc (Obj.cells #[.int .i64 0, .int .i64 0, .slice none 0 0] 39)).alloc (Obj.cells #[.int .i64 0] 40)).heap.size = w.heap.size + 1 + 1 := by rw [size_alloc', e1]
  have h1 := blk_new (w.alloc (Obj.cells #[.int .i64 0, .int .i64 0, .slice none 0 0] 39)) #[.int .i64 0] 40
  have h2 := blk_new ((w.alloc (Obj.cells #[.int .i64 0, .int .i64 0, .slice none 0 0] 39)).alloc (Obj.cells #[.int .i64 0] 40)) #[.int .i64 0] 3
  rw [e1] at h1
  rw [e2] at h2
  refine ⟨((blk_new w _ 39).alloc _).alloc _, h1.alloc _, h2, ?_, Nat.le_refl _, by omega, by omega⟩
  exact (((Below.refl _ _).alloc (Nat.le_refl _) _).alloc (by rw [e1]; omega) _).alloc (by rw [e2]; omega) _

theorem Cq.on {w X Y : World} {N B0 B1 B2 b : Nat} {l0 l1 l2 : List Value} (h : Cq w N B0 B1 B2 l0 l1 l2 X) (hb : Bt b X Y) (h0 : B0 < b) (h1 : B1 < b) (h2 : B2 < b) : Cq w N B0 B1 B2 l0 l1 l2 Y := by
  have n0 := h.n0
  have n1 := h.n1
  have n2 := h.n2
  refine ⟨hb.blk h.b0 (by omega), hb.blk h.b1 (by omega), hb.blk h.b2 (by omega), ⟨hb.os.trans h.be.os, hb.tape.trans h.be.tape, hb.output.trans h.be.output, Nat.le_trans h.be.size hb.size, fun k hk => ?_⟩, n0, n1, n2⟩
  have := h.b0.lt
  rw [hb.block k (by omega) (by omega)]
  exact h.be.block k hk

theorem all_code {l : List UInt8} {c p : Nat} (h : all l = .error (c, p)) : ¬ c = 0 ∧ c < 100 := by
  unfold all at h
  split at h
  · cases h; decide
  · have := go_err l l [] 0 c p rfl h
    omega

/-- Parse's results, read. -/
theorem results10 {w X : World} {N B0 B1 B2 : Nat} {k a c p : Int} {v : Value} (tmps : Array Value) (h : Cq w N B0 B1 B2 (rulL k a v) [.int .i64 c] [.int .i64 p] X)
    (h0 : tmps.getD 2 undef = .pointer (some ⟨B0, 0, none⟩)) (h1 : tmps.getD 3 undef = .pointer (some ⟨B1, 0, none⟩)) (h2 : tmps.getD 4 undef = .pointer (some ⟨B2, 0, none⟩)) :
    (results Tryz.f6 tmps).run Tryz.prog X = .ok (.tuple #[.agg (rulL k a v).toArray, .int .i64 c, .int .i64 p]) X := by
  have h0' : tmps[2]?.getD undef = .pointer (some ⟨B0, 0, none⟩) := by simpa using h0
  have h1' : tmps[3]?.getD undef = .pointer (some ⟨B1, 0, none⟩) := by simpa using h1
  have h2' : tmps[4]?.getD undef = .pointer (some ⟨B2, 0, none⟩) := by simpa using h2
  have c1 : X.cell? ⟨B1, 0, none⟩ = some (.int .i64 c) := h.b1.cell 0
  have c2 : X.cell? ⟨B2, 0, none⟩ = some (.int .i64 p) := h.b2.cell 0
  have d0 : X.cell? ⟨B0, 0, none⟩ = some (.int .i64 k) := h.b0.cell 0
  have d1 : X.cell? ⟨B0, 1, none⟩ = some (.int .i64 a) := h.b0.cell 1
  have d2 : X.cell? ⟨B0, 2, none⟩ = some v := h.b0.cell 2
  simp [results, Tryz.results6, h0', h1', h2', asAddr, c1, c2, d0, d1, d2, go_sem, rulL]

theorem toks_rd {w : World} {base : Nat} {v : Value} {ts : List Tok} (ho : w.ownsRow base 108 4 v ts.length (cellsT ts)) (hp : 0 < ts.length) : ∃ g cap, v = .slice (some ⟨g, 0, none⟩) ts.length cap ∧ base ≤ g ∧ g < w.heap.size ∧ ts.length ≤ cap ∧ cap ≤ 9223372036854775807 ∧ Toks w (some ⟨g, 0, none⟩) ts.length ts := by
  obtain ⟨a, c, hv, hT⟩ := owns_toks ho
  rcases ho.2 with ⟨_, h0⟩ | ⟨g, cap, cur, hv2, hb, hg, hnc, hcm, _⟩
  · omega
  · subst hv2
    cases hv
    exact ⟨g, c, rfl, hb, lt_of_block hg, hnc, by unfold maxLen at hcm; omega, hT⟩

theorem tks_of {l : List UInt8} {ts : List Tok} (h : all l = .ok ts) : Tks ts := by
  obtain ⟨A, hA, gA, _⟩ := ch_init (all_ch h)
  have hl := all_len h
  refine ⟨fun i hi => all_tk h _ (List.getElem_mem hi), fun i hi h4 => ?_, ?_, by omega⟩
  · rcases Nat.lt_or_ge (i + 1) ts.length with h1 | h1
    · exact h1
    · exfalso
      have hlen : ts.length = A.length + 1 := by rw [hA]; simp
      obtain rfl : i = A.length := by omega
      apply h4
      subst hA
      simp
  · rw [hA]
    simp

set_option linter.unusedSimpArgs false in
set_option maxRecDepth 8000 in
set_option maxHeartbeats 4000000 in
theorem parse_any (s : ByteArray) (w : World) (hv : Vars w) :
    Calls Tryz.prog 6 #[.string s] w fun e w' => Below w.heap.size w w' ∧ ParR w.heap.size (prs (lst s)) e w' := by
  have C0 : Hid (Cq w w.heap.size w.heap.size (w.heap.size + 1) (w.heap.size + 1 + 1) (rulL 0 0 (.slice none 0 0)) [.int .i64 0] [.int .i64 0] (((w.alloc (Obj.cells #[.int .i64 0, .int .i64 0, .slice none 0 0] 39)).alloc (Obj.cells #[.int .i64 0] 40)).alloc (Obj.cells #[.int .i64 0] 3))) := cq_new w
  have HA : Hid (∀ W, Vars W → Calls Tryz.prog 21 #[.string s] W fun e w' => Below W.heap.size W w' ∧ Told W.heap.size (all (lst s)) e w') := fun W h => all_any s W h
  have HV : Hid (Vars (((w.alloc (Obj.cells #[.int .i64 0, .int .i64 0, .slice none 0 0] 39)).alloc (Obj.cells #[.int .i64 0] 40)).alloc (Obj.cells #[.int .i64 0] 3))) := hv.below C0.out.be
  have hmf : ∀ (fn : Fn) (first cap : Array Value) (w : World), (Instr.makeFunc fn first cap).run Tryz.prog w = .ok (.func fn first cap) w := fun _ _ _ _ => rfl
  have HCE : Hid (∀ c p, all (lst s) = .error (c, p) → ¬ c = 0 ∧ c < 100) := fun c p h => all_code h
  clear hv
  unfold prs
  rcases hR : all (lst s) with ⟨c, p⟩ | ts
  · have HE0 := HCE.out c p hR
    rw [hR] at HA
    clear hR HCE
    have HE : Hid (¬ c = 0 ∧ c < 100) := HE0
    have hc1 : ((c : Int) == 0) = false := by rw [beq_eq_false_iff_ne]; have := HE.out.1; omega
    have hc2 : ((c : Int) != 0) = true := by rw [bne, hc1]; rfl
    go_enter_defers Tryz.func6, Tryz.ntmps6
    go_wp2_with fail
    generalize (((w.alloc (Obj.cells #[.int .i64 0, .int .i64 0, .slice none 0 0] 39)).alloc (Obj.cells #[.int .i64 0] 40)).alloc (Obj.cells #[.int .i64 0] 3)) = X at *
    generalize w.heap.size + 1 + 1 = B2 at *
    generalize w.heap.size + 1 = B1 at *
    refine (HA.out _ HV.out).mono ?_
    rintro e w1 ⟨b1, rfl⟩
    have C1 : Hid (Cq w w.heap.size w.heap.size B1 B2 (rulL 0 0 (.slice none 0 0)) [.int .i64 0] [.int .i64 0] w1) := C0.out.over b1
    obtain ⟨Z1, hZ1⟩ : ∃ Z, w1.setCell ⟨B1, 0, none⟩ (.int .i64 c) = Z := ⟨_, rfl⟩
    have HZ1 : Hid (w1.setCell ⟨B1, 0, none⟩ (.int .i64 c) = Z1) := hZ1
    have C2 : Hid (Cq w w.heap.size w.heap.size B1 B2 (rulL 0 0 (.slice none 0 0)) [.int .i64 c] [.int .i64 0] Z1) := by
      show Cq w w.heap.size w.heap.size B1 B2 (rulL 0 0 (.slice none 0 0)) [.int .i64 c] [.int .i64 0] Z1
      rw [← hZ1]
      exact C1.out.set1 _
    obtain ⟨Z2, hZ2⟩ : ∃ Z, Z1.setCell ⟨B2, 0, none⟩ (.int .i64 p) = Z := ⟨_, rfl⟩
    have HZ2 : Hid (Z1.setCell ⟨B2, 0, none⟩ (.int .i64 p) = Z2) := hZ2
    have C3 : Hid (Cq w w.heap.size w.heap.size B1 B2 (rulL 0 0 (.slice none 0 0)) [.int .i64 c] [.int .i64 p] Z2) := by
      show Cq w w.heap.size w.heap.size B1 B2 (rulL 0 0 (.slice none 0 0)) [.int .i64 c] [.int .i64 p] Z2
      rw [← hZ2]
      exact C2.out.set2 _
    have t1 : w1.cell? ⟨B1, 0, none⟩ = some (.int .i64 0) := C1.out.b1.cell 0
    have g1 := C1.out.b1.f 0
    have t2 : Z1.cell? ⟨B2, 0, none⟩ = some (.int .i64 0) := C2.out.b2.cell 0
    have g2 := C2.out.b2.f 0
    have t3 : Z2.cell? ⟨B1, 0, none⟩ = some (.int .i64 c) := C3.out.b1.cell 0
    clear hZ1 hZ2 b1 C0 C1 HV HA
    go_wp2_with (first | (refine switch_world' HZ1.out ?_) | (refine switch_world' HZ2.out ?_))
    clear t1 t2 t3 g1 g2 HZ1 HZ2 C2
    have t0 : Z2.cell? ⟨w.heap.size, 0, none⟩ = some (.int .i64 0) := C3.out.b0.cell 0
    have t1 : Z2.cell? ⟨w.heap.size, 1, none⟩ = some (.int .i64 0) := C3.out.b0.cell 1
    have t2 : Z2.cell? ⟨w.heap.size, 2, none⟩ = some (.slice none 0 0) := C3.out.b0.cell 2
    have t3 : Z2.cell? ⟨B1, 0, none⟩ = some (.int .i64 c) := C3.out.b1.cell 0
    have t4 : Z2.cell? ⟨B2, 0, none⟩ = some (.int .i64 p) := C3.out.b2.cell 0
    have g0 := C3.out.b0.f 0
    have g1 := C3.out.b0.f 1
    have g2 := C3.out.b0.f 2
    have g3 := C3.out.b1.f 0
    have g4 := C3.out.b2.f 0
    have n1 : ¬ B1 = w.heap.size := by have := C3.out.n1; omega
    have n2 : ¬ B2 = w.heap.size := by have := C3.out.n1; have := C3.out.n2; omega
    have n3 : ¬ B2 = B1 := by have := C3.out.n2; omega
    have n4 : ¬ w.heap.size = B1 := by omega
    have n5 : ¬ w.heap.size = B2 := by omega
    have n6 : ¬ B1 = B2 := by omega
    go_region
    all_goals
      go_wp2_with fail
      have C9 : Cq w w.heap.size w.heap.size B1 B2 (rulL 0 0 (.slice none 0 0)) [.int .i64 c] [.int .i64 p] (((((Z2.setCell ⟨w.heap.size, 0, none⟩ (.int .i64 0)).setCell ⟨w.heap.size, 1, none⟩ (.int .i64 0)).setCell ⟨w.heap.size, 2, none⟩ (.slice none 0 0)).setCell ⟨B1, 0, none⟩ (.int .i64 c)).setCell ⟨B2, 0, none⟩ (.int .i64 p)).drew := (((((C3.out.setc 0 _).setc 1 _).setc 2 _).set1 _).set2 _).over (Below.refl _ _).drew
      exact ⟨_, results10 _ C9 rfl rfl rfl, C9.be, rfl⟩
  · have HT : Hid (Tks ts) := tks_of hR
    rw [hR] at HA
    clear hR HCE
    dsimp only
    obtain ⟨R, hRR⟩ : ∃ R, run .s0 ts = R := ⟨_, rfl⟩
    rw [hRR]
    have HRR : Hid (run .s0 ts = R) := hRR
    clear hRR
    go_enter_defers Tryz.func6, Tryz.ntmps6
    go_wp2_with fail
    generalize (((w.alloc (Obj.cells #[.int .i64 0, .int .i64 0, .slice none 0 0] 39)).alloc (Obj.cells #[.int .i64 0] 40)).alloc (Obj.cells #[.int .i64 0] 3)) = X at *
    generalize w.heap.size + 1 + 1 = B2 at *
    generalize w.heap.size + 1 = B1 at *
    refine (HA.out _ HV.out).mono ?_
    rintro e w1 ⟨b1, v, rfl, ho⟩
    obtain ⟨g, cap, rfl, hg1, hg2, hg3, hg4, hT1⟩ := toks_rd ho HT.out.pos
    have C1 : Hid (Cq w w.heap.size w.heap.size B1 B2 (rulL 0 0 (.slice none 0 0)) [.int .i64 0] [.int .i64 0] w1) := C0.out.over b1
    obtain ⟨Z1, hZ1⟩ : ∃ Z, w1.setCell ⟨B1, 0, none⟩ (.int .i64 0) = Z := ⟨_, rfl⟩
    have HZ1 : Hid (w1.setCell ⟨B1, 0, none⟩ (.int .i64 0) = Z1) := hZ1
    have C2 : Hid (Cq w w.heap.size w.heap.size B1 B2 (rulL 0 0 (.slice none 0 0)) [.int .i64 0] [.int .i64 0] Z1) := by
      show Cq w w.heap.size w.heap.size B1 B2 (rulL 0 0 (.slice none 0 0)) [.int .i64 0] [.int .i64 0] Z1
      rw [← hZ1]
      exact C1.out.set1 _
    obtain ⟨Z2, hZ2⟩ : ∃ Z, Z1.setCell ⟨B2, 0, none⟩ (.int .i64 (-1)) = Z := ⟨_, rfl⟩
    have HZ2 : Hid (Z1.setCell ⟨B2, 0, none⟩ (.int .i64 (-1)) = Z2) := hZ2
    have C3 : Hid (Cq w w.heap.size w.heap.size B1 B2 (rulL 0 0 (.slice none 0 0)) [.int .i64 0] [.int .i64 (-1)] Z2) := by
      show Cq w w.heap.size w.heap.size B1 B2 (rulL 0 0 (.slice none 0 0)) [.int .i64 0] [.int .i64 (-1)] Z2
      rw [← hZ2]
      exact C2.out.set2 _
    have hgB : B1 < X.heap.size ∧ B2 < X.heap.size := ⟨C0.out.b1.lt, C0.out.b2.lt⟩
    have T2 : Toks Z2 (some ⟨g, 0, none⟩) ts.length ts := by
      rw [← hZ2, ← hZ1]
      exact (hT1.bt (b := B1) ((Bt.refl B1 w1).setCell 0 _) (by omega)).bt (b := B2) ((Bt.refl B2 _).setCell 0 _) (by omega)
    have C4 : Hid (Cq w w.heap.size w.heap.size B1 B2 (rulL 0 0 (.slice none 0 0)) [.int .i64 0] [.int .i64 (-1)] (Z2.alloc (Obj.cells #[.slice (some ⟨g, 0, none⟩) ts.length cap] 75))) := C3.out.over ((Below.refl _ _).alloc (Nat.le_refl _) _)
    have hgz : g < Z2.heap.size := by
      rw [← hZ2, ← hZ1]
      simpa using hg2
    have R4 : Hid (Rd (Z2.alloc (Obj.cells #[.slice (some ⟨g, 0, none⟩) ts.length cap] 75)) Z2.heap.size g cap ts 0) := by
      refine ⟨?_, T2.below ((Below.refl _ _).alloc (Nat.le_refl _) _), by omega, hg3, hg4⟩
      rw [Nat.zero_mul, Nat.sub_zero, Nat.sub_zero]
      exact blk_new Z2 _ 75
    have t1 : w1.cell? ⟨B1, 0, none⟩ = some (.int .i64 0) := C1.out.b1.cell 0
    have g1 := C1.out.b1.f 0
    have t2 : Z1.cell? ⟨B2, 0, none⟩ = some (.int .i64 0) := C2.out.b2.cell 0
    have g2 := C2.out.b2.f 0
    have t3 : Z2.cell? ⟨B1, 0, none⟩ = some (.int .i64 0) := C3.out.b1.cell 0
    clear hZ1 hZ2 b1 C0 C1 HV HA hgB hgz T2 ho hg1 hg2 hg3 hg4 hT1
    go_wp2_with (first | (refine switch_world' HZ1.out ?_) | (refine switch_world' HZ2.out ?_))
    clear t1 t2 t3 g1 g2 HZ1 HZ2 C2
    have HB : Hid (w.heap.size ≤ Z2.heap.size) := C3.out.be.size
    have HL : Hid (B1 < Z2.heap.size ∧ B2 < Z2.heap.size ∧ w.heap.size < Z2.heap.size) := ⟨C3.out.b1.lt, C3.out.b2.lt, C3.out.b0.lt⟩
    generalize Z2.alloc (Obj.cells #[.slice (some ⟨g, 0, none⟩) ts.length cap] 75) = Y at *
    generalize Z2.heap.size = b at *
    clear C3
    refine (rules_any _ b g cap ts HT.out R4.out).mono ?_
    rintro e w3 ⟨b3, ⟨c, p, rfl, h3⟩ | ⟨d, rv, v, rfl, o3, r3, h3⟩⟩
    · have C5 : Hid (Cq w w.heap.size w.heap.size B1 B2 (rulL 0 0 (.slice none 0 0)) [.int .i64 0] [.int .i64 (-1)] w3) := C4.out.on b3 (by have := HL.out; omega) (by have := HL.out; omega) (by have := HL.out; omega)
      have HR2 : Hid (R = .error (c, p)) := HRR.out.symm.trans h3
      clear h3 HRR
      show bodyPostD Tryz.prog Tryz.f6 _ (Exit.panic (fltC c p)) _ w3
      refine leaves_cons (f := 22) (args := #[.pointer (some ⟨w.heap.size, 0, none⟩), .pointer (some ⟨B1, 0, none⟩), .pointer (some ⟨B2, 0, none⟩)]) (by simp) (by simp [go_sem]) ?_
      refine (catch_panicking w w.heap.size w.heap.size B1 B2 0 0 _ _ _ c p w3 C5.out).mono ?_
      rintro e u' w'' ⟨rfl, rfl, hc⟩
      exact ⟨_, results10 _ hc rfl rfl rfl, hc.be, by rw [HR2.out]; rfl⟩
    · have C5 : Hid (Cq w w.heap.size w.heap.size B1 B2 (rulL 0 0 (.slice none 0 0)) [.int .i64 0] [.int .i64 (-1)] w3) := C4.out.on b3 (by have := HL.out; omega) (by have := HL.out; omega) (by have := HL.out; omega)
      have HR2 : Hid (R = .ok (d, rv.map Rv.r)) := HRR.out.symm.trans h3
      have HLY : Hid (b < Y.heap.size) := R4.out.blk.lt
      clear h3 HRR
      obtain ⟨Y1, hY1⟩ : ∃ Z, w3.setRow w.heap.size (rulL d.k d.a v).toArray = Z := ⟨_, rfl⟩
      have HY1 : Hid (w3.setRow w.heap.size (rulL d.k d.a v).toArray = Y1) := hY1
      have D1 : Hid (Cq w w.heap.size w.heap.size B1 B2 (rulL d.k d.a v) [.int .i64 0] [.int .i64 (-1)] Y1) := by
        show Cq w w.heap.size w.heap.size B1 B2 (rulL d.k d.a v) [.int .i64 0] [.int .i64 (-1)] Y1
        rw [← hY1]
        exact C5.out.set0 _
      obtain ⟨Y2, hY2⟩ : ∃ Z, Y1.setCell ⟨B1, 0, none⟩ (.int .i64 0) = Z := ⟨_, rfl⟩
      have HY2 : Hid (Y1.setCell ⟨B1, 0, none⟩ (.int .i64 0) = Y2) := hY2
      have D2 : Hid (Cq w w.heap.size w.heap.size B1 B2 (rulL d.k d.a v) [.int .i64 0] [.int .i64 (-1)] Y2) := by
        show Cq w w.heap.size w.heap.size B1 B2 (rulL d.k d.a v) [.int .i64 0] [.int .i64 (-1)] Y2
        rw [← hY2]
        exact D1.out.set1 _
      obtain ⟨Y3, hY3⟩ : ∃ Z, Y2.setCell ⟨B2, 0, none⟩ (.int .i64 (-1)) = Z := ⟨_, rfl⟩
      have HY3 : Hid (Y2.setCell ⟨B2, 0, none⟩ (.int .i64 (-1)) = Y3) := hY3
      have D3 : Hid (Cq w w.heap.size w.heap.size B1 B2 (rulL d.k d.a v) [.int .i64 0] [.int .i64 (-1)] Y3) := by
        show Cq w w.heap.size w.heap.size B1 B2 (rulL d.k d.a v) [.int .i64 0] [.int .i64 (-1)] Y3
        rw [← hY3]
        exact D2.out.set2 _
      have HK3 : Hid (∀ j, Y.heap.size ≤ j → Y3.heap[j]? = w3.heap[j]?) := by
        intro j hj
        have h1 := HL.out
        have h2 : b < Y.heap.size := HLY.out
        rw [← hY3, heap_setCell_other Y2 ⟨B2, 0, none⟩ j _ (by show j ≠ B2; omega), ← hY2, heap_setCell_other Y1 ⟨B1, 0, none⟩ j _ (by show j ≠ B1; omega), ← hY1, setRow_other _ _ _ _ (by omega)]
      have HO : Hid (Y3.ownsRow w.heap.size 87 4 v rv.length (cellsR rv) ∧ ∀ x ∈ rv, Rows2 Y3 w.heap.size x) := by
        have h1 := HL.out
        have h2 : b < Y.heap.size := HLY.out
        exact ⟨owns_lower (owns_same o3 fun j hj => HK3.out j (owns_block o3 j hj)) (by omega), fun x hx => ⟨owns_lower (owns_same (r3 x hx).1 fun j hj => HK3.out j (owns_block (r3 x hx).1 j hj)) (by omega), owns_lower (owns_same (r3 x hx).2 fun j hj => HK3.out j (owns_block (r3 x hx).2 j hj)) (by omega)⟩⟩
      have HV1 : Hid (v.oneCell' = true) := owns_cell o3
      have t1 : Y1.cell? ⟨B1, 0, none⟩ = some (.int .i64 0) := D1.out.b1.cell 0
      have g1 := D1.out.b1.f 0
      have t2 : Y2.cell? ⟨B2, 0, none⟩ = some (.int .i64 (-1)) := D2.out.b2.cell 0
      have g2 := D2.out.b2.f 0
      clear hY1 hY2 hY3 HK3 o3 r3 D1 D2 C4 R4 b3 HLY
      go_wp2_with (first | (refine at_op' (.store 39 (.tmp 2) (.tmp 21)) rfl ?_; refine wpList_store_row rfl 39 (.tmp 2) (.tmp 21) rfl w.heap.size (rulL d.k d.a v).toArray rfl rfl 39 _ C5.out.b0 (rulL_size _ _ _) rfl (rulL_one HV1.out) ?_; refine switch_world' HY1.out ?_) | (refine switch_world' HY2.out ?_) | (refine switch_world' HY3.out ?_))
      rw [HY3.out]
      show bodyPostD Tryz.prog Tryz.f6 _ Exit.ret _ Y3
      refine leaves_cons (f := 22) (args := #[.pointer (some ⟨w.heap.size, 0, none⟩), .pointer (some ⟨B1, 0, none⟩), .pointer (some ⟨B2, 0, none⟩)]) (by simp) (by simp [go_sem]) ?_
      refine (catch_idle w.heap.size B1 B2 Y3).mono ?_
      rintro e u' w'' ⟨rfl, rfl, hw2⟩
      subst w''
      exact ⟨_, results10 _ D3.out rfl rfl rfl, D3.out.be, by rw [HR2.out]; exact ⟨v, rv, rfl, rfl, HO.out.1, HO.out.2⟩⟩

end Go.Proofs.YtcckipimfgmmdaaGreatDoor.P
