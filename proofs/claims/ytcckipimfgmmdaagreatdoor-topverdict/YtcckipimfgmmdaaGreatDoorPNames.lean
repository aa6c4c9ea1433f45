/-
  The reader: the names of a rule.
-/
import Derived.Test.YtcckipimfgmmdaaGreatDoorPRows1
namespace Go.Proofs.YtcckipimfgmmdaaGreatDoor.P
open Go.RowKit

section
variable {ts : List Tok} {q : Nat} {ns : List (List UInt8)}
theorem s6_word (hq : q < ts.length) (hk : ts[q].k = 1) (hl : ns.length < 16) (d : Ac) (rs : List Rl) (a : Ac) : run (.s6 d rs a ns) (ts.drop q) = run (.s7 d rs a (ns ++ [ts[q].t])) (ts.drop (q + 1)) := by
  rw [drop_at hq, run_next rfl]
  simp only [step]
  rw [if_pos (by rw [hk]; rfl), if_neg (by omega)]
theorem s6_full (hq : q < ts.length) (hk : ts[q].k = 1) (hl : 16 ≤ ns.length) (d : Ac) (rs : List Rl) (a : Ac) : run (.s6 d rs a ns) (ts.drop q) = .error (4, ts[q].at') := by
  rw [drop_at hq, run_next rfl]
  simp only [step]
  rw [if_pos (by rw [hk]; rfl), if_pos hl]
theorem s6_no (hq : q < ts.length) (hk : ¬ ts[q].k = 1) (d : Ac) (rs : List Rl) (a : Ac) : run (.s6 d rs a ns) (ts.drop q) = .error (7, ts[q].at') := by
  rw [drop_at hq, run_next rfl]
  simp only [step]
  rw [if_neg (by simpa using hk)]
theorem s7_comma (hq : q < ts.length) (hk : isS ts[q] [44] = true) (d : Ac) (rs : List Rl) (a : Ac) : run (.s7 d rs a ns) (ts.drop q) = run (.s6 d rs a ns) (ts.drop (q + 1)) := by
  rw [drop_at hq, run_next rfl]
  simp only [step]
  rw [if_pos hk]
end

/-- how far the names are. -/
def NsP (ts : List Tok) (n m : Nat) (ns : List (List UInt8)) : Prop :=
  (ns = [] ∧ m = n) ∨ (¬ ns = [] ∧ ∀ d rs a, run (.s6 d rs a []) (ts.drop n) = run (.s7 d rs a ns) (ts.drop m))

/-- what is told of names. -/
def NmR (w : World) (b g cap : Nat) (ts : List Tok) (n : Nat) (e : Ending) (w' : World) : Prop :=
  Bt b w w' ∧ ((∃ c p, e = .panicked (fltC c p) ∧ ∀ d rs a, run (.s6 d rs a []) (ts.drop n) = .error (c, p)) ∨
    ∃ v m, ∃ (ns : List (List UInt8)) (hm : m < ts.length), e = .returned v ∧ Rd w' b g cap ts m ∧ w'.ownsRow w.heap.size 9 1 v ns.length (cellsN ns) ∧ isS ts[m] [44] = false ∧
      ∀ d rs a, run (.s6 d rs a []) (ts.drop n) = run (.s7 d rs a ns) (ts.drop m))

theorem nmR_flt {w : World} {b g cap n : Nat} {ts : List Tok} {c p : Nat} {w' : World} (hb : Bt b w w') (h : ∀ d rs a, run (.s6 d rs a []) (ts.drop n) = .error (c, p)) : NmR w b g cap ts n (.panicked (fltC c p)) w' := ⟨hb, .inl ⟨c, p, rfl, h⟩⟩

theorem comma_at {ts : List Tok} (hT : Tks ts) (n : Nat) (hn : n < ts.length) : isS ts[n] [44] = (ts[n].t == lst ⟨#[44]⟩) := (hT.tk n hn).isS 44 [] (by decide) (by decide)

theorem name_new (w : World) (s : ByteArray) : (w.alloc (Obj.cells #[.string s] 9)).cell? ((⟨w.heap.size, 0, none⟩ : Addr).add 0) = some (.string s) := by simp [Addr.add]

set_option maxRecDepth 8000 in
set_option maxHeartbeats 8000000 in
theorem names_any (w : World) (b g cap n : Nat) (ts : List Tok) (hT : Tks ts) (h : Rd w b g cap ts n) (hn : n < ts.length) :
    Calls Tryz.prog 82 #[.pointer (some ⟨b, 0, none⟩)] w fun e w' => NmR w b g cap ts n e w' := by
  have N0 : Hid (Nm w b g cap ts n 9 1 (.slice none 0 0) 0 [] w) := nm_new h hn 9 1
  have HT : Hid (Tks ts) := hT
  have h0 := fld0
  have h2 := fld2
  clear h hT
  go_enter Tryz.func82, Tryz.ntmps82
  go_wp2
  go_loopw [3] (fun v wr => ∃ m, ∃ ns : List (List UInt8), Nm w b g cap ts m 9 1 v ns.length (cellsN ns) wr ∧ m < ts.length ∧ ns.length ≤ 16 ∧ NsP ts n m ns) (fun v _ => 17 - lenOf v)
  case atStart => exact ⟨n, [], N0.out, hn, by decide, .inl ⟨rfl, rfl⟩⟩
  case round =>
    obtain ⟨m, ns, hM, hm, hns, hp⟩ := hrel
    obtain ⟨a, c, rfl⟩ := hM.slice
    have HM : Hid (Nm w b g cap ts m 9 1 (.slice a ns.length c) ns.length (cellsN ns) wr) := hM
    clear hM N0
    by_cases hz : ns.length = 0
    · have hnil : ns = [] := List.eq_nil_of_length_eq_zero hz
      have hz2 : ((ns.length : Int) == 0) = true := by rw [beq_iff_eq]; omega
      obtain rfl : n = m := by
        rcases hp with ⟨_, h⟩ | ⟨h, _⟩
        · exact h.symm
        · exact absurd hnil h
      have HQ : Hid (∀ d rs a, run (.s6 d rs a []) (ts.drop n) = run (.s6 d rs a ns) (ts.drop n)) := fun d rs a => by rw [hnil]
      have HZ0 : Hid (ns.length = 0) := hz
      clear hp hnil hz
      have HN : Hid (∀ W, Rd W b g cap ts (n) → Calls Tryz.prog 46 #[.pointer (some ⟨b, 0, none⟩)] W fun e w' => e = .returned (.agg #[.int .i64 ts[n].k, .int .i64 ts[n].at', .string (bar ts[n].t), .int .u64 ts[n].n]) ∧ Below W.heap.size W w') := fun W hW => next_at' W b g cap (n) ts hW hm
      by_cases hk : ts[n].k = 1
      · have hk2 : ((ts[n].k : Int) == 1) = true := by rw [beq_iff_eq]; omega
        have hq1 := HT.out.nx (n) hm (by rw [hk]; decide)
        by_cases hl : ns.length < 16
        · have hd : decide ((ns.length : Int) < 16) = true := by simp; omega
          have HP : Hid (∀ W, Rd W b g cap ts (n) → Calls Tryz.prog 79 #[.pointer (some ⟨b, 0, none⟩)] W fun e w' => e = .returned (.agg #[.int .i64 ts[n].k, .int .i64 ts[n].at', .string (bar ts[n].t), .int .u64 ts[n].n]) ∧ Bt b W w' ∧ Rd w' b g cap ts (n + 1)) := fun W hW => pass_at W b g cap (n) ts hW hm hq1
          have HE : Hid (NsP ts n (n + 1) (ns ++ [ts[n].t])) := .inr ⟨by simp, fun d rs a => (HQ.out d rs a).trans (s6_word hm hk hl d rs a)⟩
          have HL : Hid ((ns ++ [ts[n].t]).length ≤ 16 ∧ (ns ++ [ts[n].t]).length = ns.length + 1) := by constructor <;> simp <;> omega
          generalize ts[n] = x at *
          clear hk
          have C0 := HM
          go_wp2_with fail
          refine (HN.out _ C0.out.rd).mono ?_
          rintro e w1 ⟨rfl, b1⟩
          have C1 : Hid (Nm w b g cap ts (n) 9 1 (.slice a ns.length c) ns.length (cellsN ns) w1) := C0.out.over b1
          clear b1
          go_wp2_with fail
          refine (needs_ok _ b 7).mono ?_
          rintro e w2 ⟨rfl, hw2⟩
          subst w2
          go_wp2_with fail
          refine (needs_ok _ b 4).mono ?_
          rintro e w2 ⟨rfl, hw2⟩
          subst w2
          go_wp2_with fail
          refine (HP.out _ C1.out.rd).mono ?_
          rintro e w3 ⟨rfl, b3, P3⟩
          have C3 : Hid (Nm w b g cap ts (n + 1) 9 1 (.slice a ns.length c) ns.length (cellsN ns) (w3.alloc (Obj.cells #[.string (bar x.t)] 9))) := (C1.out.on b3 P3).alloc _
          clear b3 P3
          go_wp2_with (at_builtin; refine append_str rfl (.tmp 22) (.tmp 26) rfl w.heap.size _ ns.length ns rfl C3.out.own x.t ⟨w3.heap.size, 0, none⟩ rfl (name_new w3 (bar x.t)) (by omega) C3.out.bt.size ?_; intro v2 w4 ho hg; have C4 : Hid (Nm w b g cap ts (n + 1) 9 1 v2 (ns ++ [x.t]).length (cellsN (ns ++ [x.t])) w4) := (by rw [HL.out.2]; exact C3.out.app ho hg); clear ho hg)
          obtain ⟨a2, c2, rfl⟩ := C4.out.slice
          go_roundw
          case rel => exact ⟨_, _, C4.out, hq1, HL.out.1, HE.out⟩
          case measure => have := HL.out.2; simp [lenOf]; omega
        · exact absurd (by have := HZ0.out; omega) hl
      · have hk2 : ((ts[n].k : Int) == 1) = false := by rw [beq_eq_false_iff_ne]; omega
        have HF : Hid (∀ W, Rd W b g cap ts (n) → Calls Tryz.prog 76 #[.pointer (some ⟨b, 0, none⟩), .bool false, .int .i64 7] W fun e w' => e = .panicked (fltC 7 ts[n].at') ∧ Below W.heap.size W w') := fun W hW => needs_flt W b g cap (n) ts hW hm 7
        have HE : Hid (∀ w', Bt b w w' → NmR w b g cap ts n (.panicked (fltC 7 ts[n].at')) w') := fun w' hb => nmR_flt hb (fun d rs a => (HQ.out d rs a).trans (s6_no hm hk d rs a))
        generalize fltC 7 ts[n].at' = F at *
        generalize ts[n] = x at *
        clear hk
        have C0 := HM
        go_wp2_with fail
        refine (HN.out _ C0.out.rd).mono ?_
        rintro e w1 ⟨rfl, b1⟩
        go_wp2_with fail
        refine (HF.out _ (C0.out.over b1).rd).mono ?_
        rintro e w2 ⟨rfl, b2⟩
        go_wp2_with fail
        exact ⟨rfl, HE.out _ ((C0.out.over b1).over b2).bt⟩
    · have hz2 : ((ns.length : Int) == 0) = false := by rw [beq_eq_false_iff_ne]; omega
      have hz3 : ¬ (ns.length : Int) = 0 := by omega
      have HS : Hid (∀ d rs a, run (.s6 d rs a []) (ts.drop n) = run (.s7 d rs a ns) (ts.drop m)) := by
        rcases hp with ⟨h, _⟩ | ⟨_, h⟩
        · rw [h] at hz; exact absurd rfl hz
        · exact h
      have hcm := comma_at HT.out m hm
      rcases Bool.eq_false_or_eq_true (isS ts[m] [44]) with h3 | h3
      · have hm1 := HT.out.nx m hm (isS_4 h3)
        have HQ : Hid (∀ d rs a, run (.s6 d rs a []) (ts.drop n) = run (.s6 d rs a ns) (ts.drop (m + 1))) := fun d rs a => (HS.out d rs a).trans (s7_comma hm h3 d rs a)
        rw [h3] at hcm
        have HI : Hid (∀ W, Rd W b g cap ts m → Calls Tryz.prog 77 #[.pointer (some ⟨b, 0, none⟩), .string ⟨#[44]⟩] W fun e w' => e = .returned (.bool true) ∧ Bt b W w' ∧ Rd w' b g cap ts (m + 1)) := fun W hW => passIf_ok W b g cap m ts hW hm hm1 _ hcm.symm
        clear hp hz hcm h3 HS
        have HN : Hid (∀ W, Rd W b g cap ts (m + 1) → Calls Tryz.prog 46 #[.pointer (some ⟨b, 0, none⟩)] W fun e w' => e = .returned (.agg #[.int .i64 ts[m + 1].k, .int .i64 ts[m + 1].at', .string (bar ts[m + 1].t), .int .u64 ts[m + 1].n]) ∧ Below W.heap.size W w') := fun W hW => next_at' W b g cap (m + 1) ts hW hm1
        by_cases hk : ts[m + 1].k = 1
        · have hk2 : ((ts[m + 1].k : Int) == 1) = true := by rw [beq_iff_eq]; omega
          have hq1 := HT.out.nx (m + 1) hm1 (by rw [hk]; decide)
          by_cases hl : ns.length < 16
          · have hd : decide ((ns.length : Int) < 16) = true := by simp; omega
            have HP : Hid (∀ W, Rd W b g cap ts (m + 1) → Calls Tryz.prog 79 #[.pointer (some ⟨b, 0, none⟩)] W fun e w' => e = .returned (.agg #[.int .i64 ts[m + 1].k, .int .i64 ts[m + 1].at', .string (bar ts[m + 1].t), .int .u64 ts[m + 1].n]) ∧ Bt b W w' ∧ Rd w' b g cap ts (m + 1 + 1)) := fun W hW => pass_at W b g cap (m + 1) ts hW hm1 hq1
            have HE : Hid (NsP ts n (m + 1 + 1) (ns ++ [ts[m + 1].t])) := .inr ⟨by simp, fun d rs a => (HQ.out d rs a).trans (s6_word hm1 hk hl d rs a)⟩
            have HL : Hid ((ns ++ [ts[m + 1].t]).length ≤ 16 ∧ (ns ++ [ts[m + 1].t]).length = ns.length + 1) := by constructor <;> simp <;> omega
            generalize ts[m + 1] = x at *
            clear hk
            go_wp2_with fail
            refine (HI.out _ HM.out.rd).mono ?_
            rintro e w0 ⟨rfl, b0, P0⟩
            have C0 : Hid (Nm w b g cap ts (m + 1) 9 1 (.slice a ns.length c) ns.length (cellsN ns) w0) := HM.out.on b0 P0
            clear b0 P0
            go_wp2_with fail
            refine (HN.out _ C0.out.rd).mono ?_
            rintro e w1 ⟨rfl, b1⟩
            have C1 : Hid (Nm w b g cap ts (m + 1) 9 1 (.slice a ns.length c) ns.length (cellsN ns) w1) := C0.out.over b1
            clear b1
            go_wp2_with fail
            refine (needs_ok _ b 7).mono ?_
            rintro e w2 ⟨rfl, hw2⟩
            subst w2
            go_wp2_with fail
            refine (needs_ok _ b 4).mono ?_
            rintro e w2 ⟨rfl, hw2⟩
            subst w2
            go_wp2_with fail
            refine (HP.out _ C1.out.rd).mono ?_
            rintro e w3 ⟨rfl, b3, P3⟩
            have C3 : Hid (Nm w b g cap ts (m + 1 + 1) 9 1 (.slice a ns.length c) ns.length (cellsN ns) (w3.alloc (Obj.cells #[.string (bar x.t)] 9))) := (C1.out.on b3 P3).alloc _
            clear b3 P3
            go_wp2_with (at_builtin; refine append_str rfl (.tmp 22) (.tmp 26) rfl w.heap.size _ ns.length ns rfl C3.out.own x.t ⟨w3.heap.size, 0, none⟩ rfl (name_new w3 (bar x.t)) (by omega) C3.out.bt.size ?_; intro v2 w4 ho hg; have C4 : Hid (Nm w b g cap ts (m + 1 + 1) 9 1 v2 (ns ++ [x.t]).length (cellsN (ns ++ [x.t])) w4) := (by rw [HL.out.2]; exact C3.out.app ho hg); clear ho hg)
            obtain ⟨a2, c2, rfl⟩ := C4.out.slice
            go_roundw
            case rel => exact ⟨_, _, C4.out, hq1, HL.out.1, HE.out⟩
            case measure => have := HL.out.2; simp [lenOf]; omega
          · have hd : decide ((ns.length : Int) < 16) = false := by simp; omega
            have HF : Hid (∀ W, Rd W b g cap ts (m + 1) → Calls Tryz.prog 76 #[.pointer (some ⟨b, 0, none⟩), .bool false, .int .i64 4] W fun e w' => e = .panicked (fltC 4 ts[m + 1].at') ∧ Below W.heap.size W w') := fun W hW => needs_flt W b g cap (m + 1) ts hW hm1 4
            have HE : Hid (∀ w', Bt b w w' → NmR w b g cap ts n (.panicked (fltC 4 ts[m + 1].at')) w') := fun w' hb => nmR_flt hb (fun d rs a => (HQ.out d rs a).trans (s6_full hm1 hk (by omega) d rs a))
            generalize fltC 4 ts[m + 1].at' = F at *
            generalize ts[m + 1] = x at *
            clear hk
            go_wp2_with fail
            refine (HI.out _ HM.out.rd).mono ?_
            rintro e w0 ⟨rfl, b0, P0⟩
            have C0 : Hid (Nm w b g cap ts (m + 1) 9 1 (.slice a ns.length c) ns.length (cellsN ns) w0) := HM.out.on b0 P0
            clear b0 P0
            go_wp2_with fail
            refine (HN.out _ C0.out.rd).mono ?_
            rintro e w1 ⟨rfl, b1⟩
            go_wp2_with fail
            refine (needs_ok _ b 7).mono ?_
            rintro e w2 ⟨rfl, hw2⟩
            subst w2
            go_wp2_with fail
            refine (HF.out _ (C0.out.over b1).rd).mono ?_
            rintro e w2 ⟨rfl, b2⟩
            go_wp2_with fail
            exact ⟨rfl, HE.out _ ((C0.out.over b1).over b2).bt⟩
        · have hk2 : ((ts[m + 1].k : Int) == 1) = false := by rw [beq_eq_false_iff_ne]; omega
          have HF : Hid (∀ W, Rd W b g cap ts (m + 1) → Calls Tryz.prog 76 #[.pointer (some ⟨b, 0, none⟩), .bool false, .int .i64 7] W fun e w' => e = .panicked (fltC 7 ts[m + 1].at') ∧ Below W.heap.size W w') := fun W hW => needs_flt W b g cap (m + 1) ts hW hm1 7
          have HE : Hid (∀ w', Bt b w w' → NmR w b g cap ts n (.panicked (fltC 7 ts[m + 1].at')) w') := fun w' hb => nmR_flt hb (fun d rs a => (HQ.out d rs a).trans (s6_no hm1 hk d rs a))
          generalize fltC 7 ts[m + 1].at' = F at *
          generalize ts[m + 1] = x at *
          clear hk
          go_wp2_with fail
          refine (HI.out _ HM.out.rd).mono ?_
          rintro e w0 ⟨rfl, b0, P0⟩
          have C0 : Hid (Nm w b g cap ts (m + 1) 9 1 (.slice a ns.length c) ns.length (cellsN ns) w0) := HM.out.on b0 P0
          clear b0 P0
          go_wp2_with fail
          refine (HN.out _ C0.out.rd).mono ?_
          rintro e w1 ⟨rfl, b1⟩
          go_wp2_with fail
          refine (HF.out _ (C0.out.over b1).rd).mono ?_
          rintro e w2 ⟨rfl, b2⟩
          go_wp2_with fail
          exact ⟨rfl, HE.out _ ((C0.out.over b1).over b2).bt⟩
      · rw [h3] at hcm
        have HI : Hid (∀ W, Rd W b g cap ts m → Calls Tryz.prog 77 #[.pointer (some ⟨b, 0, none⟩), .string ⟨#[44]⟩] W fun e w' => e = .returned (.bool false) ∧ Below W.heap.size W w') := fun W hW => passIf_no W b g cap m ts hW hm _ hcm.symm
        have HE : Hid (isS ts[m] [44] = false) := h3
        clear hp hz hcm h3
        go_wp2_with fail
        refine (HI.out _ HM.out.rd).mono ?_
        rintro e w0 ⟨rfl, b0⟩
        go_wp2_with fail
        go_ret
        exact ⟨(HM.out.over b0).bt, .inr ⟨_, m, ns, hm, rfl, (HM.out.over b0).rd, (HM.out.over b0).own, HE.out, HS.out⟩⟩

end Go.Proofs.YtcckipimfgmmdaaGreatDoor.P
