/-
  What vfs's functions and the document's tell, as an interface; a tree's weight; a link is followed.
-/
import Derived.Test.YtilemgpopjlchaaDoorVRow
import Derived.Laws.StructEq
import Derived.BigQuiet
namespace Go.Proofs.YtilemgpopjlchaaDoor
open Go.RowKit

/-- a node, if there is one. -/
def fndN (o : Option Nd) : Nd := o.getD ⟨[], 0, []⟩
def tellF (o : Option Nd) : Value := .tuple #[(fndN o).v, .bool o.isSome]
def tellC (c : Int × Int) : Value := .tuple #[.int .i64 c.1, .int .i64 c.2]
def tellR (r : Nm × Int × Int) : Value := .tuple #[.string (bar r.1), .int .i64 r.2.1, .int .i64 r.2.2]
structure Ifv : Prop where
  clean : ∀ (s : ByteArray) (W : World), Calls Tryd.prog 17 #[.string s] W (Tells W (.tuple #[.string (bar (cleanP (lst s))), .int .i64 (errP (lst s))]))
  names : ∀ (s : ByteArray) (W : World), s.size ≤ 5000 → Calls Tryd.prog 18 #[.string s] W fun e w' => ∃ gf lb, e = .returned (.func (.func gf) #[] lb) ∧ Below W.heap.size W w' ∧ SeqN w' (lst s) gf lb
  check : ∀ (v : Value) (L : List Nd) (W : World), NdR W v L → Calls Tryd.prog 11 #[v] W (Tells W (tellC (chkN L)))
  find : ∀ (v : Value) (L : List Nd) (s : ByteArray) (W : World), NdR W v L → Lt L → s.size ≤ 5000 → Calls Tryd.prog 13 #[v, .string s] W (Tells W (tellF (findN L (lst s))))
  resolve : ∀ (v : Value) (L : List Nd) (s : ByteArray) (W : World), NdR W v L → Lt L → s.size ≤ 5000 → Calls Tryd.prog 15 #[v, .string s] W (Tells W (tellR (resV L (lst s))))
structure Ifd : Prop where
  check : ∀ (v : Value) (L : List Nd) (W : World), NdR W v L → Lt L → Calls Tryd.prog 12 #[v] W (Tells W (tellC (chkN L)))
  find : ∀ (v : Value) (L : List Nd) (s : ByteArray) (W : World), NdR W v L → Lt L → s.size ≤ 5000 → Calls Tryd.prog 14 #[v, .string s] W (Tells W (tellF (findN L (lst s))))
  resolve : ∀ (v : Value) (L : List Nd) (s : ByteArray) (W : World), NdR W v L → Lt L → s.size ≤ 5000 → Calls Tryd.prog 16 #[v, .string s] W (Tells W (tellR (resV L (lst s))))

/-- two nodes, compared. -/
theorem equalIn_nd (a c : ByteArray) (b : Int) (w : World) : (Op.equalIn 10000 29 (.agg #[.string a, .int .i64 b, .string c]) (.agg #[.string a, .int .i64 b, .string c])).run Tryd.prog w = .ok true w := by
  have uS := Tryd.underlying9
  have aS := Tryd.isAgg9
  have zS := Tryd.sizeOf9
  have uI := Tryd.underlying3
  have aI := Tryd.isAgg3
  have zI := Tryd.sizeOf3
  have hS : Tryd.prog.underlying 29 = some (.struct (Tryd.prog.fieldsOf 29)) := by kernel_rfl
  have hp : Tryd.prog.stoodInHeld 29 = false := by kernel_rfl
  rw [show (10000 : Nat) = 9999 + 1 from rfl, run_equalIn_agg w 9999 29 _ _ hS hp]
  simp only [Program.fieldsOf, Tryd.underlying29]
  go_simp
  try simp
theorem eql_nd (a c : ByteArray) (b : Int) (w : World) : (binOp .eql 29 (.agg #[.string a, .int .i64 b, .string c]) (.agg #[.string a, .int .i64 b, .string c])).run Tryd.prog w = .ok (.bool true) w := by
  rw [run_eql_struct]
  have := equalIn_nd a c b w
  rw [this]
  rfl

theorem guard_nd (op : BinOp) (p q : Operand) (x y : Array Value) (w : World) (hop : op = .eql ∨ op = .neq) : (eqGuard op 29 p q (.agg x) (.agg y)).run Tryd.prog w = .ok () w := by
  rcases hop with rfl | rfl <;> kernel_rfl

/-- three nodes. -/
def treeA : List Nd := [⟨[47, 97], 2, []⟩, ⟨[47, 97, 47, 102], 1, []⟩, ⟨[47, 108], 3, [97]⟩]
theorem treeA_chk : chkN treeA = (0, -1) := by kernel_rfl
theorem treeA_res : resV treeA [47, 108, 47, 102] = ([47, 97, 47, 102], 1, 0) := by kernel_rfl
theorem treeA_lt : Lt treeA := ⟨by decide, by intro x hx; simp [treeA] at hx; rcases hx with rfl | rfl | rfl <;> decide, by intro x hx; simp [treeA] at hx; rcases hx with rfl | rfl | rfl <;> decide⟩
theorem treeA_row (W : World) : NdR (W.alloc (.cells #[.string ⟨#[47, 97]⟩, .int .i64 2, .string ⟨#[]⟩, .string ⟨#[47, 97, 47, 102]⟩, .int .i64 1, .string ⟨#[]⟩, .string ⟨#[47, 108]⟩, .int .i64 3, .string ⟨#[97]⟩] 29)) (.slice (some ⟨W.heap.size, 0, none⟩) 3 3) treeA := by
  have hb := heap_alloc_new W (.cells #[.string ⟨#[47, 97]⟩, .int .i64 2, .string ⟨#[]⟩, .string ⟨#[47, 97, 47, 102]⟩, .int .i64 1, .string ⟨#[]⟩, .string ⟨#[47, 108]⟩, .int .i64 3, .string ⟨#[97]⟩] 29)
  refine ⟨_, 3, rfl, (fun e => by cases e), Nat.le_refl _, (by show 3 ≤ _; unfold maxLen; decide), fun _ => ⟨W.heap.size, 0, rfl, fun i x hi => ?_⟩⟩
  match i, hi with
  | 0, hi => cases hi; refine ⟨?_, ?_, ?_⟩ <;> (rw [cell_of_row _ _ _ _ _ _ hb]; rfl)
  | 1, hi => cases hi; refine ⟨?_, ?_, ?_⟩ <;> (rw [cell_of_row _ _ _ _ _ _ hb]; rfl)
  | 2, hi => cases hi; refine ⟨?_, ?_, ?_⟩ <;> (rw [cell_of_row _ _ _ _ _ _ hb]; rfl)
  | n + 3, hi => simp [treeA] at hi

set_option maxHeartbeats 2000000 in
theorem awake_any (J : Ifv) (w : World) : Calls Tryd.prog 9 #[] w (Tells w (.bool true)) := by
  have HR : Hid (∀ (W : World) (v : Value), NdR W v treeA → Calls Tryd.prog 15 #[v, .string ⟨#[47, 108, 47, 102]⟩] W (Tells W (.tuple #[.string ⟨#[47, 97, 47, 102]⟩, .int .i64 1, .int .i64 0]))) := fun W v h => by
    have := J.resolve v treeA ⟨#[47, 108, 47, 102]⟩ W h treeA_lt (by decide)
    rw [show lst ⟨#[47, 108, 47, 102]⟩ = [47, 108, 47, 102] from rfl, treeA_res] at this
    exact this
  have HC : Hid (∀ (W : World) (v : Value), NdR W v treeA → Calls Tryd.prog 11 #[v] W (Tells W (.tuple #[.int .i64 0, .int .i64 (-1)]))) := fun W v h => by
    have := J.check v treeA W h
    rw [treeA_chk] at this
    exact this
  have H0 : Hid (∀ o : Obj, Below w.heap.size w (w.alloc o)) := fun o => below_new w o
  go_enter Tryd.func9, Tryd.ntmps9
  go_wp2_with fail
  refine (HR.out _ _ (treeA_row w)).mono ?_
  rintro e w1 ⟨rfl, hb1⟩
  have H1 : Hid (NdR w1 _ treeA ∧ Below w.heap.size w w1) := ⟨(treeA_row w).over hb1, (H0.out _).trans (hb1.mono (H0.out _).size)⟩
  clear hb1
  go_wp2_with fail
  refine (HC.out _ _ H1.out.1).mono ?_
  rintro e w2 ⟨rfl, hb2⟩
  have H2 : Hid (Below w.heap.size w w2) := H1.out.2.trans (hb2.mono H1.out.2.size)
  clear hb2
  go_wp2_with fail
  go_ret
  exact ⟨rfl, H2.out⟩

/-! is a tree not too great? -/
def ltB (L : List Nd) : Bool := decide (L.length ≤ 70) && L.all fun x => decide (x.p.length ≤ 400) && decide (x.t.length ≤ 400)
theorem lt_iff {L : List Nd} : ltB L = true ↔ Lt L := by
  unfold ltB
  simp only [Bool.and_eq_true, decide_eq_true_eq, List.all_eq_true]
  exact ⟨fun ⟨h1, h2⟩ => ⟨h1, fun x hx => (h2 x hx).1, fun x hx => (h2 x hx).2⟩, fun h => ⟨h.n, fun x hx => ⟨h.p x hx, h.t x hx⟩⟩⟩
set_option maxHeartbeats 4000000 in
theorem light_any (v : Value) (L : List Nd) (w : World) (h : NdR w v L) : Calls Tryd.prog 10 #[v] w fun e w' => e = .returned (.bool (ltB L)) ∧ w' = w := by
  obtain ⟨p, c, rfl⟩ := h.form
  have HN : Hid (NdR w (.slice p L.length c) L) := h
  have hmax : L.length ≤ 9223372036854775807 := by
    obtain ⟨_, _, _, _, _, h2, _⟩ := h
    unfold maxLen at h2
    omega
  clear h
  obtain ⟨n, hn⟩ : ∃ n, L.length = n := ⟨_, rfl⟩
  have HL : Hid (L.length = n) := hn
  rw [hn] at HN hmax ⊢
  clear hn
  go_enter Tryd.func10, Tryd.ntmps10
  go_wp2
  go_loopw [3] (fun v3 wr => ∃ i : Nat, v3 = .int .i64 i ∧ i ≤ n ∧ (∀ x ∈ L.take i, x.p.length ≤ 400 ∧ x.t.length ≤ 400) ∧ wr = w) (fun v3 _ => n - (intOf v3).toNat)
  case atStart => exact ⟨0, rfl, Nat.zero_le _, fun x hx => by simp at hx, rfl⟩
  case round =>
    obtain ⟨i, rfl, hi, hall, hw⟩ := hrel
    subst hw
    have HA : Hid (∀ x ∈ L.take i, x.p.length ≤ 400 ∧ x.t.length ≤ 400) := hall
    clear hall
    by_cases hlt : i < n
    · have hi1 : (i : Int) < (n : Int) := by omega
      have hiL : i < L.length := by rw [HL.out]; exact hlt
      obtain ⟨b, o, rfl, hc⟩ := HN.out.at hiL
      obtain ⟨c0, c1, c2⟩ := hc
      obtain ⟨sp, hsp⟩ : ∃ s, bar L[i].p = s := ⟨_, rfl⟩
      obtain ⟨st, hst⟩ : ∃ s, bar L[i].t = s := ⟨_, rfl⟩
      have HS : Hid (L[i].p.length = sp.size ∧ L[i].t.length = st.size) := ⟨by rw [← hsp, bar_size], by rw [← hst, bar_size]⟩
      rw [hsp] at c0
      rw [hst] at c2
      clear hsp hst c1
      have hmem : L[i] ∈ L := List.getElem_mem hiL
      by_cases h1 : sp.size ≤ 400
      · have r1 : ¬ (400 : Int) < (sp.size : Int) := by omega
        have r1' : decide ((400 : Int) < (sp.size : Int)) = false := decide_eq_false r1
        by_cases h2 : st.size ≤ 400
        · have r2 : ¬ (400 : Int) < (st.size : Int) := by omega
          have r2' : decide ((400 : Int) < (st.size : Int)) = false := decide_eq_false r2
          have HX : Hid (∀ x ∈ L.take (i + 1), x.p.length ≤ 400 ∧ x.t.length ≤ 400) := fun x hx => by
            rw [List.take_add_one, List.getElem?_eq_getElem hiL] at hx
            rcases List.mem_append.1 hx with hx | hx
            · exact HA.out x hx
            · rw [Option.toList_some, List.mem_singleton] at hx
              subst hx
              have := HS.out
              omega
          go_wp2
          go_roundw
          case rel => exact ⟨i + 1, by go_num, hlt, HX.out, by trivial⟩
          case measure => simp [intOf]; omega
        · have r2 : (400 : Int) < (st.size : Int) := by omega
          have r2' : decide ((400 : Int) < (st.size : Int)) = true := decide_eq_true r2
          have HF : Hid (ltB L = false) := by
            show _ = _
            rw [Bool.eq_false_iff]
            intro e
            have := (lt_iff.1 e).t _ hmem
            have := HS.out
            omega
          go_wp2
          go_ret
          exact ⟨by rw [HF.out]; rfl, rfl⟩
      · have r1 : (400 : Int) < (sp.size : Int) := by omega
        have r1' : decide ((400 : Int) < (sp.size : Int)) = true := decide_eq_true r1
        have HF : Hid (ltB L = false) := by
          show _ = _
          rw [Bool.eq_false_iff]
          intro e
          have := (lt_iff.1 e).p _ hmem
          have := HS.out
          omega
        go_wp2
        go_ret
        exact ⟨by rw [HF.out]; rfl, rfl⟩
    · have hi1 : ¬ (i : Int) < (n : Int) := by omega
      have hin : i = n := by omega
      have HF : Hid (ltB L = decide (n ≤ 70)) := by
        show _ = _
        unfold ltB
        rw [HL.out]
        have : (L.all fun x => decide (x.p.length ≤ 400) && decide (x.t.length ≤ 400)) = true := by
          simp only [Bool.and_eq_true, decide_eq_true_eq, List.all_eq_true]
          have h9 := HA.out
          rw [hin, List.take_of_length_le (by have := HL.out; omega)] at h9
          exact h9
        rw [this, Bool.and_true]
      by_cases h7 : n ≤ 70
      · have r1 : (n : Int) ≤ (70 : Int) := by omega
        have r1' : decide ((n : Int) ≤ (70 : Int)) = true := decide_eq_true r1
        have HG : Hid (decide (n ≤ 70) = true) := decide_eq_true h7
        go_wp2
        go_ret
        exact ⟨by rw [HF.out, HG.out]; rfl, rfl⟩
      · have r1 : ¬ (n : Int) ≤ (70 : Int) := by omega
        have r1' : decide ((n : Int) ≤ (70 : Int)) = false := decide_eq_false r1
        have HG : Hid (decide (n ≤ 70) = false) := decide_eq_false h7
        go_wp2
        go_ret
        exact ⟨by rw [HF.out, HG.out]; rfl, rfl⟩

end Go.Proofs.YtilemgpopjlchaaDoor
