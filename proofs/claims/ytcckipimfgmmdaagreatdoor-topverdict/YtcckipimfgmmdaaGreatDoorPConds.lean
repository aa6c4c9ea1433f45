/-
  The reader: the conditions of a rule.
-/
import Derived.Test.YtcckipimfgmmdaaGreatDoorPNames
namespace Go.Proofs.YtcckipimfgmmdaaGreatDoor.P
open Go.RowKit

theorem condD_lt {k : Nat} {l q : List Tok} {c : Cd} (h : condD k l = .ok (c, q)) : k < 8 := by
  cases l with
  | nil => cases h
  | cons x r =>
    simp only [condD] at h
    split at h
    · split at h
      · cases h
      · omega
    · cases h

theorem s13_and {ts : List Tok} {q : Nat} (hq : q < ts.length) (hk : isW ts[q] wAnd = true) (d : Ac) (rs : List Rl) (a : Ac) (ns : List (List UInt8)) (cs : List Cd) : run (.s13 d rs a ns cs) (ts.drop q) = run (.s8 d rs a ns cs) (ts.drop (q + 1)) := by
  rw [drop_at hq, run_next rfl]
  simp only [step]
  rw [if_pos hk]

/-- how far the conditions are. -/
def CsP (ts : List Tok) (n m : Nat) (cs : List Cd) : Prop :=
  (cs = [] ∧ m = n) ∨ (¬ cs = [] ∧ ∀ d rs a ns, run (.s8 d rs a ns []) (ts.drop n) = run (.s13 d rs a ns cs) (ts.drop m))

/-- what is told of conditions. -/
def CmR (w : World) (b g cap : Nat) (ts : List Tok) (n : Nat) (e : Ending) (w' : World) : Prop :=
  Bt b w w' ∧ ((∃ c p, e = .panicked (fltC c p) ∧ ∀ d rs a ns, run (.s8 d rs a ns []) (ts.drop n) = .error (c, p)) ∨
    ∃ v m, ∃ (cs : List Cd) (hm : m < ts.length), e = .returned v ∧ Rd w' b g cap ts m ∧ w'.ownsRow w.heap.size 139 4 v cs.length (cellsC cs) ∧ isW ts[m] wAnd = false ∧
      ∀ d rs a ns, run (.s8 d rs a ns []) (ts.drop n) = run (.s13 d rs a ns cs) (ts.drop m))

theorem and_word {ts : List Tok} (hT : Tks ts) (n : Nat) (hn : n < ts.length) : isW ts[n] wAnd = (ts[n].t == lst ⟨#[97, 110, 100]⟩) := (hT.tk n hn).isW 97 [110, 100] (by decide)

theorem cd_new (w : World) (x : Cd) : ∀ j u, x.cells[j]? = some u → (w.alloc (Obj.cells #[.int .i64 x.arg, .int .i64 x.op, .int .u64 x.mask, .int .u64 x.val] 139)).cell? ((⟨w.heap.size, 0, none⟩ : Addr).add j) = some u := by
  intro j u hu
  match j, hu with
  | 0, hu => cases hu; simp [Addr.add]
  | 1, hu => cases hu; simp [Addr.add]
  | 2, hu => cases hu; simp [Addr.add]
  | 3, hu => cases hu; simp [Addr.add]

set_option maxRecDepth 8000 in
set_option maxHeartbeats 8000000 in
theorem conds_any (w : World) (b g cap n : Nat) (ts : List Tok) (hT : Tks ts) (h : Rd w b g cap ts n) (hn : n < ts.length) :
    Calls Tryz.prog 83 #[.pointer (some ⟨b, 0, none⟩)] w fun e w' => CmR w b g cap ts n e w' := by
  have N0 : Hid (Nm w b g cap ts n 139 4 (.slice none 0 0) 0 [] w) := nm_new h hn 139 4
  have HT : Hid (Tks ts) := hT
  clear h hT
  go_enter Tryz.func83, Tryz.ntmps83
  go_wp2
  go_loopw [3] (fun v wr => ∃ m, ∃ cs : List Cd, Nm w b g cap ts m 139 4 v cs.length (cellsC cs) wr ∧ m < ts.length ∧ cs.length ≤ 8 ∧ CsP ts n m cs) (fun v _ => 9 - lenOf v)
  case atStart => exact ⟨n, [], N0.out, hn, by decide, .inl ⟨rfl, rfl⟩⟩
  case round =>
    obtain ⟨m, cs, hM, hm, hcs, hp⟩ := hrel
    obtain ⟨a, c, rfl⟩ := hM.slice
    have HM : Hid (Nm w b g cap ts m 139 4 (.slice a cs.length c) cs.length (cellsC cs) wr) := hM
    clear hM N0
    by_cases hz : cs.length = 0
    · have hnil : cs = [] := List.eq_nil_of_length_eq_zero hz
      have hz2 : ((cs.length : Int) == 0) = true := by rw [beq_iff_eq]; omega
      obtain rfl : n = m := by
        rcases hp with ⟨_, h⟩ | ⟨h, _⟩
        · exact h.symm
        · exact absurd hnil h
      have HQ : Hid (∀ d rs a ns, run (.s8 d rs a ns []) (ts.drop n) = run (.s8 d rs a ns cs) (ts.drop n)) := fun d rs a ns => by rw [hnil]
      clear hp hnil hz
      rcases hR : condD cs.length (ts.drop (n)) with ⟨c1, p1⟩ | ⟨x, l⟩
      · have HC : Hid (∀ W, Rd W b g cap ts (n) → Calls Tryz.prog 120 #[.pointer (some ⟨b, 0, none⟩), .int .i64 cs.length] W fun e w' => Bt b W w' ∧ e = .panicked (fltC c1 p1)) := by
          intro W hW
          have := cond_any W b g cap (n) ts cs.length HT.out hW hm
          rw [hR] at this
          exact this
        have HE : Hid (∀ w', Bt b w w' → CmR w b g cap ts n (.panicked (fltC c1 p1)) w') := fun w' hb => ⟨hb, .inl ⟨c1, p1, rfl, fun d rs a ns => by rw [HQ.out, run_cond, hR]⟩⟩
        generalize fltC c1 p1 = F at *
        clear hR
        have C0 := HM
        go_wp2_with fail
        refine (HC.out _ C0.out.rd).mono ?_
        rintro e w1 ⟨b1, rfl⟩
        go_wp2_with fail
        exact ⟨rfl, HE.out _ (C0.out.bt.trans b1)⟩
      · have HC : Hid (∀ W, Rd W b g cap ts (n) → Calls Tryz.prog 120 #[.pointer (some ⟨b, 0, none⟩), .int .i64 cs.length] W fun e w' => Bt b W w' ∧ ∃ m, l = ts.drop m ∧ m < ts.length ∧ e = .returned (.agg #[.int .i64 x.arg, .int .i64 x.op, .int .u64 x.mask, .int .u64 x.val]) ∧ Rd w' b g cap ts m) := by
          intro W hW
          have := cond_any W b g cap (n) ts cs.length HT.out hW hm
          rw [hR] at this
          exact this
        have HE : Hid (∀ m, l = ts.drop m → CsP ts n m (cs ++ [x])) := fun m hm => .inr ⟨by simp, fun d rs a ns => by rw [HQ.out, run_cond, hR, ← hm]⟩
        have hl8 := condD_lt hR
        have HL : Hid ((cs ++ [x]).length ≤ 8 ∧ (cs ++ [x]).length = cs.length + 1) := by constructor <;> simp <;> omega
        clear hR
        have C0 := HM
        go_wp2_with fail
        refine (HC.out _ C0.out.rd).mono ?_
        rintro e w1 ⟨b1, m1, hl1, hm1, rfl, P1⟩
        have HE1 : Hid (CsP ts n m1 (cs ++ [x])) := HE.out m1 hl1
        have C3 : Hid (Nm w b g cap ts m1 139 4 (.slice a cs.length c) cs.length (cellsC cs) (w1.alloc (Obj.cells #[.int .i64 x.arg, .int .i64 x.op, .int .u64 x.mask, .int .u64 x.val] 139))) := (C0.out.on b1 P1).alloc _
        clear b1 P1 hl1
        go_wp2_with (at_builtin; refine append_cond rfl (.tmp 11) (.tmp 16) rfl w.heap.size _ cs.length cs rfl C3.out.own x ⟨w1.heap.size, 0, none⟩ rfl (cd_new w1 x) (by omega) C3.out.bt.size ?_; intro v2 w4 ho hg; have C4 : Hid (Nm w b g cap ts m1 139 4 v2 (cs ++ [x]).length (cellsC (cs ++ [x])) w4) := (by rw [HL.out.2]; exact C3.out.app ho hg); clear ho hg)
        obtain ⟨a2, c2, rfl⟩ := C4.out.slice
        go_roundw
        case rel => exact ⟨_, _, C4.out, hm1, HL.out.1, HE1.out⟩
        case measure => have := HL.out.2; simp [lenOf]; omega
    · have hz2 : ((cs.length : Int) == 0) = false := by rw [beq_eq_false_iff_ne]; omega
      have hz3 : ¬ (cs.length : Int) = 0 := by omega
      have HS : Hid (∀ d rs a ns, run (.s8 d rs a ns []) (ts.drop n) = run (.s13 d rs a ns cs) (ts.drop m)) := by
        rcases hp with ⟨h, _⟩ | ⟨_, h⟩
        · rw [h] at hz; exact absurd rfl hz
        · exact h
      have hcm := and_word HT.out m hm
      rcases Bool.eq_false_or_eq_true (isW ts[m] wAnd) with h3 | h3
      · have hm1 := HT.out.nx m hm (isW_4 h3)
        have HQ : Hid (∀ d rs a ns, run (.s8 d rs a ns []) (ts.drop n) = run (.s8 d rs a ns cs) (ts.drop (m + 1))) := fun d rs a ns => (HS.out d rs a ns).trans (s13_and hm h3 d rs a ns cs)
        rw [h3] at hcm
        have HI : Hid (∀ W, Rd W b g cap ts m → Calls Tryz.prog 77 #[.pointer (some ⟨b, 0, none⟩), .string ⟨#[97, 110, 100]⟩] W fun e w' => e = .returned (.bool true) ∧ Bt b W w' ∧ Rd w' b g cap ts (m + 1)) := fun W hW => passIf_ok W b g cap m ts hW hm hm1 _ hcm.symm
        clear hp hz hcm h3 HS
        rcases hR : condD cs.length (ts.drop (m + 1)) with ⟨c1, p1⟩ | ⟨x, l⟩
        · have HC : Hid (∀ W, Rd W b g cap ts (m + 1) → Calls Tryz.prog 120 #[.pointer (some ⟨b, 0, none⟩), .int .i64 cs.length] W fun e w' => Bt b W w' ∧ e = .panicked (fltC c1 p1)) := by
            intro W hW
            have := cond_any W b g cap (m + 1) ts cs.length HT.out hW hm1
            rw [hR] at this
            exact this
          have HE : Hid (∀ w', Bt b w w' → CmR w b g cap ts n (.panicked (fltC c1 p1)) w') := fun w' hb => ⟨hb, .inl ⟨c1, p1, rfl, fun d rs a ns => by rw [HQ.out, run_cond, hR]⟩⟩
          generalize fltC c1 p1 = F at *
          clear hR
          go_wp2_with fail
          refine (HI.out _ HM.out.rd).mono ?_
          rintro e w0 ⟨rfl, b0, P0⟩
          have C0 : Hid (Nm w b g cap ts (m + 1) 139 4 (.slice a cs.length c) cs.length (cellsC cs) w0) := HM.out.on b0 P0
          clear b0 P0
          go_wp2_with fail
          refine (HC.out _ C0.out.rd).mono ?_
          rintro e w1 ⟨b1, rfl⟩
          go_wp2_with fail
          exact ⟨rfl, HE.out _ (C0.out.bt.trans b1)⟩
        · have HC : Hid (∀ W, Rd W b g cap ts (m + 1) → Calls Tryz.prog 120 #[.pointer (some ⟨b, 0, none⟩), .int .i64 cs.length] W fun e w' => Bt b W w' ∧ ∃ m, l = ts.drop m ∧ m < ts.length ∧ e = .returned (.agg #[.int .i64 x.arg, .int .i64 x.op, .int .u64 x.mask, .int .u64 x.val]) ∧ Rd w' b g cap ts m) := by
            intro W hW
            have := cond_any W b g cap (m + 1) ts cs.length HT.out hW hm1
            rw [hR] at this
            exact this
          have HE : Hid (∀ m, l = ts.drop m → CsP ts n m (cs ++ [x])) := fun m hm => .inr ⟨by simp, fun d rs a ns => by rw [HQ.out, run_cond, hR, ← hm]⟩
          have hl8 := condD_lt hR
          have HL : Hid ((cs ++ [x]).length ≤ 8 ∧ (cs ++ [x]).length = cs.length + 1) := by constructor <;> simp <;> omega
          clear hR
          go_wp2_with fail
          refine (HI.out _ HM.out.rd).mono ?_
          rintro e w0 ⟨rfl, b0, P0⟩
          have C0 : Hid (Nm w b g cap ts (m + 1) 139 4 (.slice a cs.length c) cs.length (cellsC cs) w0) := HM.out.on b0 P0
          clear b0 P0
          go_wp2_with fail
          refine (HC.out _ C0.out.rd).mono ?_
          rintro e w1 ⟨b1, m1, hl1, hm1, rfl, P1⟩
          have HE1 : Hid (CsP ts n m1 (cs ++ [x])) := HE.out m1 hl1
          have C3 : Hid (Nm w b g cap ts m1 139 4 (.slice a cs.length c) cs.length (cellsC cs) (w1.alloc (Obj.cells #[.int .i64 x.arg, .int .i64 x.op, .int .u64 x.mask, .int .u64 x.val] 139))) := (C0.out.on b1 P1).alloc _
          clear b1 P1 hl1
          go_wp2_with (at_builtin; refine append_cond rfl (.tmp 11) (.tmp 16) rfl w.heap.size _ cs.length cs rfl C3.out.own x ⟨w1.heap.size, 0, none⟩ rfl (cd_new w1 x) (by omega) C3.out.bt.size ?_; intro v2 w4 ho hg; have C4 : Hid (Nm w b g cap ts m1 139 4 v2 (cs ++ [x]).length (cellsC (cs ++ [x])) w4) := (by rw [HL.out.2]; exact C3.out.app ho hg); clear ho hg)
          obtain ⟨a2, c2, rfl⟩ := C4.out.slice
          go_roundw
          case rel => exact ⟨_, _, C4.out, hm1, HL.out.1, HE1.out⟩
          case measure => have := HL.out.2; simp [lenOf]; omega
      · rw [h3] at hcm
        have HI : Hid (∀ W, Rd W b g cap ts m → Calls Tryz.prog 77 #[.pointer (some ⟨b, 0, none⟩), .string ⟨#[97, 110, 100]⟩] W fun e w' => e = .returned (.bool false) ∧ Below W.heap.size W w') := fun W hW => passIf_no W b g cap m ts hW hm _ hcm.symm
        have HE : Hid (isW ts[m] wAnd = false) := h3
        clear hp hz hcm h3
        go_wp2_with fail
        refine (HI.out _ HM.out.rd).mono ?_
        rintro e w0 ⟨rfl, b0⟩
        go_wp2_with fail
        go_ret
        exact ⟨(HM.out.over b0).bt, .inr ⟨_, m, cs, hm, rfl, (HM.out.over b0).rd, (HM.out.over b0).own, HE.out, HS.out⟩⟩

end Go.Proofs.YtcckipimfgmmdaaGreatDoor.P
