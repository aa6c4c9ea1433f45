/-
  PPDesc PPTok PRd PRd1 PRd2 PRd3 PRd4.
-/
import Derived.Test.YtmcgcbgblgmmkaaGreatDoorQ15
set_option maxRecDepth 8000
set_option maxHeartbeats 2000000
namespace Go.Proofs.YtmcgcbgblgmmkaaGreatDoor.P
open Go
theorem end_no {x : Tok} (h : x.k = 4) : isA x = false /\ isG x = false /\ isO x = false /\ isN x = false /\ (∀ t, isW x t = false) /\ (∀ t, isS x t = false) /\ (x.k == 1) = false := by
 refine ⟨?_, ?_, ?_, ?_, fun t => ?_, fun t => ?_, ?_⟩ <;> simp [isA, isG, isO, isN, isW, isS, h]
theorem step_end {s : St} {x : Tok} (h : x.k = 4) : step s x = .error 7 := by
 obtain ⟨h1, h2, h3, h4, h5, h6, h7⟩ := end_no h
 cases s using St.every <;> simp [step, h1, h2, h3, h4, h5, h6, h7]
theorem run_next {s : St} {x : Tok} {r : List Tok} (hd : done s = none) : run s (x :: r) = (match step s x with | .error c => .error (c, x.at') | .ok s' => run s' r) := by
 by_cases h4 : x.k = 4
 ·rw [run_end h4, hd, step_end h4]
 ·cases hs : step s x with
  | error c => rw [run_err h4 hs]
  | ok s' => rw [run_step h4 hs]
def actD : List Tok -> Except (Nat × Nat) (Ac × List Tok)
 | [] => .error (7, 0)
 | x :: r => if isA x then (if numK (kindOf x.t) then (match r with
   | [] => .error (7, 0)
   | y :: q => if isN y then (if 65535 < y.n then .error (6, y.at') else .ok (⟨kindOf x.t, y.n⟩, q)) else .error (7, y.at'))
  else .ok (⟨kindOf x.t, 0⟩, r)) else .error (7, x.at')
theorem run_act1 (ts : List Tok) : run .s1 ts = (match actD ts with | .error e => .error e | .ok (a, r) => run (.s3 a) r) := by
 cases ts with
 | nil => rfl
 | cons x r =>
  rw [run_next rfl]
  unfold actD
  simp only [step]
  by_cases h1 : isA x = true
  ·rw [if_pos h1, if_pos h1]
   by_cases h2 : numK (kindOf x.t) = true
   ·rw [if_pos h2, if_pos h2]
    cases r with
    | nil => rfl
    | cons y q =>
     simp only
     rw [run_next rfl]
     simp only [step]
     by_cases h3 : isN y = true
     ·rw [if_pos h3, if_pos h3]
      by_cases h4 : 65535 < y.n
      ·rw [if_pos h4, if_pos h4]
      ·rw [if_neg h4, if_neg h4]
     ·rw [if_neg h3, if_neg h3]
   ·rw [if_neg h2, if_neg h2]
  ·rw [if_neg h1, if_neg h1]
theorem run_act4 {d : Ac} {rs : List Rl} (hl : rs.length < 64) {x : Tok} (h4 : ¬ x.k = 4) (r : List Tok) : run (.s4 d rs) (x :: r) = (match actD (x :: r) with | .error e => .error e | .ok (a, q) => run (.s6 d rs a []) q) := by
 unfold actD
 simp only
 by_cases h1 : isA x = true
 ·rw [if_pos h1]
  by_cases h2 : numK (kindOf x.t) = true
  ·rw [if_pos h2, run_step h4 (s' := .s5 d rs (kindOf x.t)) (by simp only [step]; rw [if_pos h1, if_neg (by omega), if_pos h2])]
   cases r with
   | nil => rfl
   | cons y q =>
    simp only
    rw [run_next rfl]
    simp only [step]
    by_cases h3 : isN y = true
    ·rw [if_pos h3, if_pos h3]
     by_cases h5 : 65535 < y.n
     ·rw [if_pos h5, if_pos h5]
     ·rw [if_neg h5, if_neg h5]
    ·rw [if_neg h3, if_neg h3]
  ·rw [if_neg h2, run_step h4 (s' := .s6 d rs ⟨kindOf x.t, 0⟩ []) (by simp only [step]; rw [if_pos h1, if_neg (by omega), if_neg h2])]
 ·rw [if_neg h1, run_err h4 (c := 7) (by simp only [step]; rw [if_neg h1])]
theorem run_full {d : Ac} {rs : List Rl} (hl : 64 <= rs.length) {x : Tok} (h4 : ¬ x.k = 4) (r : List Tok) : run (.s4 d rs) (x :: r) = (if isA x then .error (4, x.at') else .error (7, x.at')) := by
 by_cases h1 : isA x = true
 ·rw [if_pos h1, run_err h4 (c := 4) (by simp only [step]; rw [if_pos h1, if_pos hl])]
 ·rw [if_neg h1, run_err h4 (c := 7) (by simp only [step]; rw [if_neg h1])]
def numD : List Tok -> Except (Nat × Nat) (Nat × List Tok)
 | [] => .error (7, 0)
 | x :: r => if isN x then .ok (x.n, r) else .error (7, x.at')
def opD : List Tok -> Except (Nat × Nat) (Nat × List Tok)
 | [] => .error (7, 0)
 | x :: r => if isO x then .ok (opOf x.t, r) else .error (7, x.at')
def tailD (g m : Nat) (ts : List Tok) : Except (Nat × Nat) (Cd × List Tok) :=
 match opD ts with
 | .error e => .error e
 | .ok (o, r) => match numD r with
  | .error e => .error e
  | .ok (v, q) => .ok (⟨g, o, m, v⟩, q)
def condD (n : Nat) : List Tok -> Except (Nat × Nat) (Cd × List Tok)
 | [] => .error (7, 0)
 | x :: r => if isG x then (if 8 <= n then .error (4, x.at') else (match r with
   | [] => .error (7, 0)
   | y :: q => if isS y [38] then (match numD q with | .error e => .error e | .ok (m, q') => tailD (argOf x.t - 1) m q') else tailD (argOf x.t - 1) 18446744073709551615 (y :: q)))
  else .error (7, x.at')
theorem run_s12 (d : Ac) (rs : List Rl) (a : Ac) (ns : List (List UInt8)) (cs : List Cd) (g m o : Nat) (ts : List Tok) :
  run (.s12 d rs a ns cs g m o) ts = (match numD ts with | .error e => .error e | .ok (v, q) => run (.s13 d rs a ns (cs ++ [⟨g, o, m, v⟩])) q) := by
 cases ts with
 | nil => rfl
 | cons x r =>
  rw [run_next rfl]
  unfold numD
  simp only [step]
  by_cases h : isN x = true
  ·rw [if_pos h, if_pos h]
  ·rw [if_neg h, if_neg h]
theorem run_s11 (d : Ac) (rs : List Rl) (a : Ac) (ns : List (List UInt8)) (cs : List Cd) (g m : Nat) (ts : List Tok) :
  run (.s11 d rs a ns cs g m) ts = (match tailD g m ts with | .error e => .error e | .ok (c, q) => run (.s13 d rs a ns (cs ++ [c])) q) := by
 unfold tailD
 cases ts with
 | nil => rfl
 | cons x r =>
  rw [run_next rfl]
  unfold opD
  simp only [step]
  by_cases h : isO x = true
  ·rw [if_pos h, if_pos h]
   simp only
   rw [run_s12]
   cases numD r with
   | error e => rfl
   | ok v => rfl
  ·rw [if_neg h, if_neg h]
theorem run_s9 (d : Ac) (rs : List Rl) (a : Ac) (ns : List (List UInt8)) (cs : List Cd) (g : Nat) (y : Tok) (q : List Tok) (h : isS y [38] = false) :
  run (.s9 d rs a ns cs g) (y :: q) = (match tailD g 18446744073709551615 (y :: q) with | .error e => .error e | .ok (c, q) => run (.s13 d rs a ns (cs ++ [c])) q) := by
 rw [<- run_s11, run_next rfl, run_next rfl]
 simp only [step]
 rw [if_neg (by rw [h]; decide)]
theorem run_cond (d : Ac) (rs : List Rl) (a : Ac) (ns : List (List UInt8)) (cs : List Cd) (ts : List Tok) :
  run (.s8 d rs a ns cs) ts = (match condD cs.length ts with | .error e => .error e | .ok (c, q) => run (.s13 d rs a ns (cs ++ [c])) q) := by
 cases ts with
 | nil => rfl
 | cons x r =>
  rw [run_next rfl]
  unfold condD
  simp only [step]
  by_cases h1 : isG x = true
  ·rw [if_pos h1, if_pos h1]
   by_cases h2 : 8 <= cs.length
   ·rw [if_pos h2, if_pos h2]
   ·rw [if_neg h2, if_neg h2]
    cases r with
    | nil => rfl
    | cons y q =>
     simp only
     rcases Bool.eq_false_or_eq_true (isS y [38]) with h3 | h3
     ·rw [if_pos h3, run_next rfl]
      simp only [step]
      rw [if_pos h3]
      simp only
      cases q with
      | nil => rfl
      | cons z q' =>
       rw [run_next rfl]
       unfold numD
       simp only [step]
       by_cases h4 : isN z = true
       ·rw [if_pos h4, if_pos h4]
        simp only
        rw [run_s11]
       ·rw [if_neg h4, if_neg h4]
     ·rw [if_neg (by rw [h3]; decide), run_s9 _ _ _ _ _ _ _ _ h3]
  ·rw [if_neg h1, if_neg h1]
open M (dgN loN)
theorem parse_lt (b : Nat) : ∀ (l : List UInt8) (a n : Nat), a < 18446744073709551616 -> parse b a l = some n -> n < 18446744073709551616 := by
 intro l
 induction l with
 | nil => intro a n ha h; simp [parse] at h; omega
 | cons c r ih =>
  intro a n ha h
  unfold parse at h
  split at h
  ·next hc => exact ih _ _ hc.2 h
  ·cases h
theorem numV_lt {t : List UInt8} {n : Nat} (h : numV t = some n) : n < 18446744073709551616 := by
 unfold numV at h
 split at h
 ·split at h
  ·exact parse_lt 16 _ 0 n (by decide) h
  ·cases h
 ·split at h
  ·split at h
   ·cases h; decide
   ·cases h
  ·exact parse_lt 10 _ 0 n (by decide) h
structure Tk (x : Tok) : Prop where
 k : (x.k = 4 /\ x.t = []) \/ ∃ c r, x.t = c :: r /\ x.k = (if loN c.toNat then 1 else if dgN c.toNat then 2 else 3)
 n : x.n < 18446744073709551616
theorem good_tk {l : List UInt8} {x : Tok} (h : Good l x) : Tk x := by
 have ho := h.st.2 9 [] (by decide) (by decide)
 have hne := h.ne
 match ht : x.t, hne with
 | c :: t', _ =>
  rw [ht, List.cons_append] at ho
  rcases Bool.eq_false_or_eq_true (loN c.toNat) with hl | hl
  ·rw [one_lo' hl] at ho
   injection ho with ho
   have h1 := congrArg (fun z => z.1) ho
   have h2 := congrArg (fun z => z.2.2) ho
   simp only at h1 h2
   exact ⟨.inr ⟨c, t', ht, by rw [if_pos hl]; exact h1.symm⟩, by rw [<- h2]; decide⟩
  ·rcases Bool.eq_false_or_eq_true (dgN c.toNat) with hd | hd
   ·rw [one_dg' hl hd] at ho
    unfold numR at ho
    split at ho
    ·next n hn =>
     injection ho with ho
     have h1 := congrArg (fun z => z.1) ho
     have h2 := congrArg (fun z => z.2.2) ho
     simp only at h1 h2
     exact ⟨.inr ⟨c, t', ht, by rw [if_neg (by rw [hl]; decide), if_pos hd]; exact h1.symm⟩, by rw [<- h2]; exact numV_lt hn⟩
    ·cases ho
   ·rw [one_sg' hl hd] at ho
    unfold sgR at ho
    split at ho
    ·injection ho with ho
     have h1 := congrArg (fun z => z.1) ho
     have h2 := congrArg (fun z => z.2.2) ho
     simp only at h1 h2
     exact ⟨.inr ⟨c, t', ht, by rw [if_neg (by rw [hl]; decide), if_neg (by rw [hd]; decide)]; exact h1.symm⟩, by rw [<- h2]; decide⟩
    ·cases ho
theorem all_tk {l : List UInt8} {ts : List Tok} (h : all l = .ok ts) : ∀ x ∈ ts, Tk x := by
 intro x hx
 obtain ⟨A, hA, gA, _⟩ := ch_init (all_ch h)
 rw [hA] at hx
 rcases List.mem_append.1 hx with hx | hx
 ·exact good_tk (gA x hx)
 ·simp at hx
  subst hx
  exact ⟨.inl ⟨rfl, rfl⟩, by show (0 : Nat) < _; decide⟩
section
variable {x : Tok}
theorem Tk.lo (h : Tk x) {c : UInt8} {r : List UInt8} (ht : x.t = c :: r) (hc : loN c.toNat = true) : x.k = 1 := by
 rcases h.k with ⟨_, h0⟩ | ⟨c', r', h1, h2⟩
 ·rw [h0] at ht; cases ht
 ·rw [ht] at h1
  cases h1
  rw [h2, if_pos hc]
theorem Tk.sg (h : Tk x) {c : UInt8} {r : List UInt8} (ht : x.t = c :: r) (hc : loN c.toNat = false) (hd : dgN c.toNat = false) : x.k = 3 := by
 rcases h.k with ⟨_, h0⟩ | ⟨c', r', h1, h2⟩
 ·rw [h0] at ht; cases ht
 ·rw [ht] at h1
  cases h1
  rw [h2, if_neg (by rw [hc]; decide), if_neg (by rw [hd]; decide)]
theorem Tk.isW (h : Tk x) (c : UInt8) (r : List UInt8) (hc : loN c.toNat = true) : isW x (c :: r) = (x.t == c :: r) := by
 unfold Go.Proofs.YtmcgcbgblgmmkaaGreatDoor.P.isW
 rcases Bool.eq_false_or_eq_true (x.t == c :: r) with e | e
 ·rw [e, h.lo (beq_iff_eq.1 e) hc]; rfl
 ·rw [e, Bool.and_false]
theorem Tk.isS (h : Tk x) (c : UInt8) (r : List UInt8) (hc : loN c.toNat = false) (hd : dgN c.toNat = false) : isS x (c :: r) = (x.t == c :: r) := by
 unfold Go.Proofs.YtmcgcbgblgmmkaaGreatDoor.P.isS
 rcases Bool.eq_false_or_eq_true (x.t == c :: r) with e | e
 ·rw [e, h.sg (beq_iff_eq.1 e) hc hd]; rfl
 ·rw [e, Bool.and_false]
theorem kind_word {t : List UInt8} (h : ¬ kindOf t = 0) : ∃ c r, t = c :: r /\ loN c.toNat = true := by
 unfold kindOf at h
 repeat' split at h
 all_goals first | (next e => exact ⟨_, _, e, by decide⟩) | exact absurd rfl h
theorem arg_word {t : List UInt8} (h : ¬ argOf t = 0) : ∃ c r, t = c :: r /\ loN c.toNat = true := by
 unfold argOf at h
 repeat' split at h
 all_goals first | (next e => exact ⟨_, _, e, by decide⟩) | exact absurd rfl h
theorem op_sign {t : List UInt8} (h : ¬ opOf t = 0) : ∃ c r, t = c :: r /\ loN c.toNat = false /\ dgN c.toNat = false := by
 unfold opOf at h
 repeat' split at h
 all_goals first | (next e => exact ⟨_, _, e, by decide, by decide⟩) | exact absurd rfl h
theorem Tk.isA (h : Tk x) : isA x = !(kindOf x.t == 0) := by
 unfold Go.Proofs.YtmcgcbgblgmmkaaGreatDoor.P.isA
 by_cases e : kindOf x.t = 0
 ·simp [e]
 ·obtain ⟨c, r, h1, h2⟩ := kind_word e
  rw [h.lo h1 h2]; rfl
theorem Tk.isG (h : Tk x) : isG x = !(argOf x.t == 0) := by
 unfold Go.Proofs.YtmcgcbgblgmmkaaGreatDoor.P.isG
 by_cases e : argOf x.t = 0
 ·simp [e]
 ·obtain ⟨c, r, h1, h2⟩ := arg_word e
  rw [h.lo h1 h2]; rfl
theorem Tk.isO (h : Tk x) : isO x = !(opOf x.t == 0) := by
 unfold Go.Proofs.YtmcgcbgblgmmkaaGreatDoor.P.isO
 by_cases e : opOf x.t = 0
 ·simp [e]
 ·obtain ⟨c, r, h1, h2, h3⟩ := op_sign e
  rw [h.sg h1 h2 h3]; rfl
end
structure Tks (ts : List Tok) : Prop where
 tk : ∀ i (h : i < ts.length), Tk ts[i]
 nx : ∀ i (h : i < ts.length), ¬ ts[i].k = 4 -> i + 1 < ts.length
 pos : 0 < ts.length
 len : ts.length <= 100000
open F.D (Blk blk_new)
open M (bar)
open Go.RowKit
structure Bt (b : Nat) (w w' : World) : Prop where
 os : w'.os = w.os
 tape : w'.tape = w.tape
 output : w'.output = w.output
 size : w.heap.size <= w'.heap.size
 block : ∀ k, k < w.heap.size -> k ≠ b -> w'.heap[k]? = w.heap[k]?
section
variable {b : Nat} {w w' w'' : World}
theorem Bt.refl (b : Nat) (w : World) : Bt b w w := ⟨rfl, rfl, rfl, Nat.le_refl _, fun _ _ _ => rfl⟩
theorem Bt.trans (h : Bt b w w') (k : Bt b w' w'') : Bt b w w'' :=
 ⟨k.os.trans h.os, k.tape.trans h.tape, k.output.trans h.output, Nat.le_trans h.size k.size, fun j hj hn => (k.block j (Nat.lt_of_lt_of_le hj h.size) hn).trans (h.block j hj hn)⟩
theorem Bt.of (h : Below w.heap.size w w') : Bt b w w' := ⟨h.os, h.tape, h.output, h.size, fun j hj _ => h.block j hj⟩
theorem Bt.over (h : Bt b w w') (k : Below w'.heap.size w' w'') : Bt b w w'' := h.trans (.of k)
theorem Bt.setCell (h : Bt b w w') (j : Nat) (v : Value) : Bt b w (w'.setCell ⟨b, j, none⟩ v) := by
 refine h.trans ⟨rfl, rfl, rfl, ?_, fun k hk hn => heap_setCell_other w' ⟨b, j, none⟩ k v hn⟩
 show w'.heap.size <= (w'.setCell ⟨b, j, none⟩ v).heap.size
 simp
theorem Bt.blk {g : Nat} {t : TypeId} {l : List Value} (h : Bt b w w') (hg : Blk w g t l) (hn : g ≠ b) : Blk w' g t l := by
 unfold Blk
 rw [h.block g hg.lt hn]
 exact hg
theorem Bt.cell {a : Addr} {v : Value} (h : Bt b w w') (hc : w.cell? a = some v) (hn : a.block ≠ b) : w'.cell? a = some v := by
 rw [World.cell?_of_block (w := w) (h.block a.block (World.block_lt_of_cell? w _ hc) hn)]
 exact hc
end
theorem Toks.bt {w w' : World} {b g len : Nat} {ts : List Tok} (h : Toks w (some ⟨g, 0, none⟩) len ts) (hb : Bt b w w') (hn : g ≠ b) : Toks w' (some ⟨g, 0, none⟩) len ts := by
 refine ⟨h.1, fun h0 => ?_⟩
 obtain ⟨g', e, hc⟩ := h.2 h0
 cases e
 exact ⟨g, rfl, fun i x hx => ⟨hb.cell (hc i x hx).1 hn, hb.cell (hc i x hx).2.1 hn, hb.cell (hc i x hx).2.2.1 hn, hb.cell (hc i x hx).2.2.2 hn⟩⟩
structure Rd (w : World) (b g cap : Nat) (ts : List Tok) (n : Nat) : Prop where
 blk : Blk w b 101 [.slice (some ⟨g, n * 4, none⟩) (ts.length - n) (cap - n)]
 tok : Toks w (some ⟨g, 0, none⟩) ts.length ts
 ne : g ≠ b
 le : ts.length <= cap
 cap : cap <= 9223372036854775807
section
variable {w w' : World} {b g cap n : Nat} {ts : List Tok}
theorem Rd.over (h : Rd w b g cap ts n) (hb : Below w.heap.size w w') : Rd w' b g cap ts n := ⟨h.blk.over hb, h.tok.below hb, h.ne, h.le, h.cap⟩
theorem Rd.at (h : Rd w b g cap ts n) (hn : n < ts.length) : ts[n].at w g (n * 4) := by
 obtain ⟨g', e, hc⟩ := h.tok.2 (by omega)
 cases e
 exact hc n ts[n] (List.getElem?_eq_getElem hn)
theorem Rd.set (h : Rd w b g cap ts n) (n' : Nat) : Rd (w.setCell ⟨b, 0, none⟩ (.slice (some ⟨g, n' * 4, none⟩) (ts.length - n') (cap - n'))) b g cap ts n' :=
 ⟨h.blk.set 0 _, h.tok.bt ((Bt.refl b w).setCell 0 _) h.ne, h.ne, h.le, h.cap⟩
end
theorem at_op' {P : Program} {ops : Array Oper} {Q : Exit -> Act -> World -> Prop} {rest : List Oper} {o : Oper} {a : Act} {w : World} (op : Op) (_ho : o.op = op) (h : wpList P ops Q (o :: rest) a w) : wpList P ops Q (o :: rest) a w := h
theorem switch_world' {P : Program} {ops : Array Oper} {Q : Exit -> Act -> World -> Prop} {l : List Oper} {a : Act} {w X : World} (hw : w = X) (h : wpList P ops Q l a X) : wpList P ops Q l a w := hw ▸ h
theorem Bt.setRow {b g : Nat} {w w' : World} (h : Bt b w w') (hg : w.heap.size <= g) (cs : Array Value) : Bt b w (w'.setRow g cs) := by
 refine ⟨h.os, h.tape, h.output, ?_, fun k hk hn => ?_⟩
 ·have := h.size
  simp
  exact this
 ·rw [setRow_other _ _ _ _ (by omega)]
  exact h.block k hk hn
theorem Bt.setAny {b r i : Nat} {w w' : World} (h : Bt b w w') (hr : w.heap.size <= r) (v : Value) : Bt b w (w'.setCell ⟨r, i, none⟩ v) := by
 refine ⟨h.os, h.tape, h.output, ?_, fun k hk hn => ?_⟩
 ·have := h.size
  simp
  exact this
 ·rw [heap_setCell_other w' ⟨r, i, none⟩ k v (by show k ≠ r; omega)]
  exact h.block k hk hn
section
variable {w : World} {b g cap n r i : Nat} {ts : List Tok}
theorem Rd.setRow (h : Rd w b g cap ts n) (hb : r ≠ b) (hg : r ≠ g) (cs : Array Value) : Rd (w.setRow r cs) b g cap ts n := by
 refine ⟨?_, ?_, h.ne, h.le, h.cap⟩
 ·unfold Blk
  rw [setRow_other _ _ _ _ (Ne.symm hb)]
  exact h.blk
 ·refine ⟨h.tok.1, fun h0 => ?_⟩
  obtain ⟨g', e, hc⟩ := h.tok.2 h0
  cases e
  have k : ∀ j v, w.cell? ⟨g, j, none⟩ = some v -> (w.setRow r cs).cell? ⟨g, j, none⟩ = some v := by
   intro j v hv
   rw [World.cell?_of_block (w := w) (setRow_other w r g cs (Ne.symm hg))]
   exact hv
  exact ⟨g, rfl, fun i x hx => ⟨k _ _ (hc i x hx).1, k _ _ (hc i x hx).2.1, k _ _ (hc i x hx).2.2.1, k _ _ (hc i x hx).2.2.2⟩⟩
theorem Rd.other (h : Rd w b g cap ts n) (hb : r ≠ b) (hg : r ≠ g) (v : Value) : Rd (w.setCell ⟨r, i, none⟩ v) b g cap ts n :=
 ⟨h.blk.other _ _ (Ne.symm hb), h.tok.bt (b := r) ((Bt.refl r w).setCell i v) (Ne.symm hg), h.ne, h.le, h.cap⟩
theorem Rd.lt (h : Rd w b g cap ts n) (hn : n < ts.length) : g < w.heap.size /\ b < w.heap.size := ⟨World.block_lt_of_cell? w _ (h.at hn).1, h.blk.lt⟩
end
structure Kr (w : World) (b g cap : Nat) (ts : List Tok) (m : Nat) (T : TypeId) (l : List Value) (X : World) : Prop where
 rd : Rd X b g cap ts m
 blk : Blk X w.heap.size T l
 bt : Bt b w X
 lb : b < w.heap.size
 lg : g < w.heap.size
structure Kq (w : World) (b g cap : Nat) (ts : List Tok) (m : Nat) (T : TypeId) (l : List Value) (r : Nat) (S : TypeId) (q : List Value) (X : World) : Prop where
 kr : Kr w b g cap ts m T l X
 blk : Blk X r S q
 lr : w.heap.size < r
section
variable {w X Y : World} {b g cap m m' r : Nat} {ts : List Tok} {T S : TypeId} {l q : List Value}
theorem Kr.over (h : Kr w b g cap ts m T l X) (hb : Below X.heap.size X Y) : Kr w b g cap ts m T l Y := ⟨h.rd.over hb, h.blk.over hb, h.bt.over hb, h.lb, h.lg⟩
theorem Kr.on (h : Kr w b g cap ts m T l X) (hb : Bt b X Y) (hp : Rd Y b g cap ts m') : Kr w b g cap ts m' T l Y := ⟨hp, hb.blk h.blk (by have := h.lb; omega), h.bt.trans hb, h.lb, h.lg⟩
theorem Kr.row (h : Kr w b g cap ts m T l X) (l' : List Value) : Kr w b g cap ts m T l' (X.setRow w.heap.size l'.toArray) := ⟨h.rd.setRow (by have := h.lb; omega) (by have := h.lg; omega) _, h.blk.row _, h.bt.setRow (Nat.le_refl _) _, h.lb, h.lg⟩
theorem kr_new (h : Rd w b g cap ts m) (hn : m < ts.length) (T : TypeId) (cs : Array Value) : Kr w b g cap ts m T cs.toList (w.alloc (Obj.cells cs T)) := by
 have hb : Below w.heap.size w (w.alloc (Obj.cells cs T)) := (Below.refl _ _).alloc (Nat.le_refl _) _
 have hl := h.lt hn
 exact ⟨h.over hb, blk_new w _ _, .of hb, hl.2, hl.1⟩
theorem Kr.new (h : Kr w b g cap ts m T l X) (S : TypeId) (cs : Array Value) : Kq w b g cap ts m T l X.heap.size S cs.toList (X.alloc (Obj.cells cs S)) := by
 have hb : Below X.heap.size X (X.alloc (Obj.cells cs S)) := (Below.refl _ _).alloc (Nat.le_refl _) _
 exact ⟨h.over hb, blk_new X _ _, h.blk.lt⟩
theorem Kq.rd (h : Kq w b g cap ts m T l r S q X) : Rd X b g cap ts m := h.kr.rd
theorem Kq.over (h : Kq w b g cap ts m T l r S q X) (hb : Below X.heap.size X Y) : Kq w b g cap ts m T l r S q Y := ⟨h.kr.over hb, h.blk.over hb, h.lr⟩
theorem Kq.on (h : Kq w b g cap ts m T l r S q X) (hb : Bt b X Y) (hp : Rd Y b g cap ts m') : Kq w b g cap ts m' T l r S q Y := ⟨h.kr.on hb hp, hb.blk h.blk (by have := h.kr.lb; have := h.lr; omega), h.lr⟩
theorem Kq.set (h : Kq w b g cap ts m T l r S q X) (i : Nat) (v : Value) : Kq w b g cap ts m T l r S (q.set i v) (X.setCell ⟨r, i, none⟩ v) := by
 have h1 := h.lr
 have h2 := h.kr.lb
 have h3 := h.kr.lg
 exact ⟨⟨h.rd.other (by omega) (by omega) v, h.kr.blk.other _ _ (by show _ ≠ r; omega), h.kr.bt.setAny (by omega) v, h2, h3⟩, h.blk.set i v, h1⟩
theorem Kq.row (h : Kq w b g cap ts m T l r S q X) (l' : List Value) : Kq w b g cap ts m T l' r S q (X.setRow w.heap.size l'.toArray) := by
 refine ⟨h.kr.row l', ?_, h.lr⟩
 unfold Blk
 rw [setRow_other _ _ _ _ (by have := h.lr; omega)]
 exact h.blk
end
def tokV (x : Tok) : Value := .agg #[.int .i64 x.k, .int .i64 x.at', .string (bar x.t), .int .u64 x.n]
theorem next_any (w : World) (b g cap n : Nat) (ts : List Tok) (h : Rd w b g cap ts n) (hn : n < ts.length) :
  Calls Tryz.prog 71 #[.pointer (some ⟨b, 0, none⟩)] w fun e w' => e = .returned (tokV ts[n]) /\ Below w.heap.size w w' := by
 have hb1 : Below w.heap.size w (w.alloc (Obj.cells #[.int .i64 0, .int .i64 0, .string ⟨#[]⟩, .int .u64 0] 142)) := (Below.refl _ _).alloc (Nat.le_refl _) _
 have h1 := h.over hb1
 obtain ⟨x0, x1, x2, x3⟩ := h1.at hn
 have c0 : (w.alloc (Obj.cells #[.int .i64 0, .int .i64 0, .string ⟨#[]⟩, .int .u64 0] 142)).cell? ⟨b, 0, none⟩ = some (.slice (some ⟨g, n * 4, none⟩) (ts.length - n) (cap - n)) := h1.blk.cell 0
 have hi : 0 < ts.length - n := by omega
 unfold tokV
 generalize ts[n] = x at *
 obtain ⟨xk, xa, xt, xn⟩ := x
 dsimp only at *
 clear h h1
 generalize ts.length - n = L at *
 generalize cap - n = C at *
 go_enter Tryz.func71, Tryz.ntmps71
 go_wp2
 exact bodyPost_ret (v := .agg #[.int .i64 xk, .int .i64 xa, .string (bar xt), .int .u64 xn]) (by simp [results, Tryz.results71, go_sem]) rfl ⟨rfl, (Below.refl _ _).alloc (Nat.le_refl _) _⟩
open M (lst)
def fltC (c p : Nat) : List PanicEntry := [{ v := .iface 99 (.agg #[.int .i64 c, .int .i64 p]), recovered := false }]
def flt (c p : Nat) : Ending := .panicked (fltC c p)
theorem fld0 (a b : Int) (s : ByteArray) (n : Int) (W : World) : (Instr.field 142 (.agg #[.int .i64 a, .int .i64 b, .string s, .int .u64 n]) 0).run Tryz.prog W = .ok (.int .i64 a) W := by kernel_rfl
theorem fld1 (a b : Int) (s : ByteArray) (n : Int) (W : World) : (Instr.field 142 (.agg #[.int .i64 a, .int .i64 b, .string s, .int .u64 n]) 1).run Tryz.prog W = .ok (.int .i64 b) W := by kernel_rfl
theorem fld2 (a b : Int) (s : ByteArray) (n : Int) (W : World) : (Instr.field 142 (.agg #[.int .i64 a, .int .i64 b, .string s, .int .u64 n]) 2).run Tryz.prog W = .ok (.string s) W := by kernel_rfl
theorem fld3 (a b : Int) (s : ByteArray) (n : Int) (W : World) : (Instr.field 142 (.agg #[.int .i64 a, .int .i64 b, .string s, .int .u64 n]) 3).run Tryz.prog W = .ok (.int .u64 n) W := by kernel_rfl
theorem needs_ok (w : World) (b : Nat) (c : Int) : Calls Tryz.prog 102 #[.pointer (some ⟨b, 0, none⟩), .bool true, .int .i64 c] w fun e w' => e = .returned (.tuple #[]) /\ w' = w := by
 go_enter Tryz.func102, Tryz.ntmps102
 go_wp2
 go_end0
 exact ⟨rfl, rfl⟩
theorem needs_no (w : World) (b g cap n : Nat) (ts : List Tok) (h : Rd w b g cap ts n) (hn : n < ts.length) (c : Nat) :
  Calls Tryz.prog 102 #[.pointer (some ⟨b, 0, none⟩), .bool false, .int .i64 c] w fun e w' => e = flt c ts[n].at' /\ Below w.heap.size w w' := by
 have HN : Hid (Calls Tryz.prog 71 #[.pointer (some ⟨b, 0, none⟩)] w fun e w' => e = .returned (tokV ts[n]) /\ Below w.heap.size w w') := next_any w b g cap n ts h hn
 have h1 := fld1
 unfold tokV at HN
 generalize ts[n] = x at *
 obtain ⟨xk, xa, xt, xn⟩ := x
 dsimp only at *
 clear h
 go_enter Tryz.func102, Tryz.ntmps102
 go_wp2_with (go_at_call 71; refine HN.out.mono ?_; rintro e w1 ⟨rfl, b1⟩)
 exact ⟨rfl, rfl, b1⟩
def tokL (x : Tok) : List Value := [.int .i64 x.k, .int .i64 x.at', .string (bar x.t), .int .u64 x.n]
theorem tokL_size (x : Tok) : (Tryz.prog.info? 142).map (·.size) = some (tokL x).toArray.size := Tryz.size142
theorem tokL_one (x : Tok) : (tokL x).toArray.all (·.oneCell') = true := by simp [tokL, Value.oneCell']
theorem pass_any (w : World) (b g cap n : Nat) (ts : List Tok) (h : Rd w b g cap ts n) (hn : n < ts.length) (hn1 : n + 1 < ts.length) :
  Calls Tryz.prog 105 #[.pointer (some ⟨b, 0, none⟩)] w fun e w' => e = .returned (tokV ts[n]) /\ Bt b w w' /\ Rd w' b g cap ts (n + 1) := by
 have A0 : Hid (Kr w b g cap ts n 142 [.int .i64 0, .int .i64 0, .string ⟨#[]⟩, .int .u64 0] (w.alloc (Obj.cells #[.int .i64 0, .int .i64 0, .string ⟨#[]⟩, .int .u64 0] 142))) := kr_new h hn 142 _
 have HN : Hid (∀ W, Rd W b g cap ts n -> Calls Tryz.prog 71 #[.pointer (some ⟨b, 0, none⟩)] W fun e w' => e = .returned (.agg #[.int .i64 ts[n].k, .int .i64 ts[n].at', .string (bar ts[n].t), .int .u64 ts[n].n]) /\ Below W.heap.size W w') := fun W hW => next_any W b g cap n ts hW hn
 have hL : 1 <= ts.length - n := by omega
 have hC : ts.length - n <= cap - n := by have := h.le; omega
 have hC1 : 1 <= cap - n := by omega
 have hC2 : cap - n <= 9223372036854775807 := by have := h.cap; omega
 have hC3 : ¬ cap - n = 1 := by omega
 have HO : Hid (Value.slice (some ⟨g, n * 4 + 4, none⟩) (ts.length - n - 1) (cap - n - 1) = Value.slice (some ⟨g, (n + 1) * 4, none⟩) (ts.length - (n + 1)) (cap - (n + 1))) := by
  show _ = _
  rw [show (n + 1) * 4 = n * 4 + 4 by omega, show ts.length - (n + 1) = ts.length - n - 1 by omega, show cap - (n + 1) = cap - n - 1 by omega]
 have HS := tokL_size ts[n]
 have HU := tokL_one ts[n]
 have HX : Hid (tokL ts[n] = [.int .i64 ts[n].k, .int .i64 ts[n].at', .string (bar ts[n].t), .int .u64 ts[n].n] /\ tokV ts[n] = .agg #[.int .i64 ts[n].k, .int .i64 ts[n].at', .string (bar ts[n].t), .int .u64 ts[n].n]) := ⟨rfl, rfl⟩
 clear h
 generalize ts[n] = x at *
 go_enter Tryz.func105, Tryz.ntmps105
 go_wp2_with fail
 generalize w.alloc (Obj.cells #[.int .i64 0, .int .i64 0, .string ⟨#[]⟩, .int .u64 0] 142) = W0 at *
 go_wp2_with (first | (go_at_call 71; refine (HN.out _ A0.out.rd).mono ?_; rintro e w1 ⟨rfl, b1⟩; have A1 : Hid (Kq w b g cap ts n 142 [.int .i64 0, .int .i64 0, .string ⟨#[]⟩, .int .u64 0] w1.heap.size 142 (tokL x) (w1.alloc (Obj.cells #[.int .i64 x.k, .int .i64 x.at', .string (bar x.t), .int .u64 x.n] 142))) := (A0.out.over b1).new 142 _; have c0 : (w1.alloc (Obj.cells #[.int .i64 x.k, .int .i64 x.at', .string (bar x.t), .int .u64 x.n] 142)).cell? ⟨b, 0, none⟩ = some (.slice (some ⟨g, n * 4, none⟩) (ts.length - n) (cap - n)) := A1.out.rd.blk.cell 0; have f0 := A1.out.rd.blk.f 0; obtain ⟨Z, hZ⟩ : ∃ Z, (w1.alloc (Obj.cells #[.int .i64 x.k, .int .i64 x.at', .string (bar x.t), .int .u64 x.n] 142)).setCell ⟨b, 0, none⟩ (.slice (some ⟨g, n * 4 + 4, none⟩) (ts.length - n - 1) (cap - n - 1)) = Z := ⟨_, rfl⟩; have HZ : Hid ((w1.alloc (Obj.cells #[.int .i64 x.k, .int .i64 x.at', .string (bar x.t), .int .u64 x.n] 142)).setCell ⟨b, 0, none⟩ (.slice (some ⟨g, n * 4 + 4, none⟩) (ts.length - n - 1) (cap - n - 1)) = Z) := hZ; have A2 : Hid (Kq w b g cap ts (n + 1) 142 [.int .i64 0, .int .i64 0, .string ⟨#[]⟩, .int .u64 0] w1.heap.size 142 (tokL x) Z) := (by rw [<- hZ, HO.out]; exact A1.out.on ((Bt.refl b _).setCell 0 _) (A1.out.rd.set (n + 1))); clear hZ) | (refine switch_world' HZ.out ?_) | (refine at_op' (.load 142 (.tmp 3)) rfl ?_; refine wpList_load_row rfl 142 (.tmp 3) rfl w1.heap.size rfl 142 (tokL x).toArray (0, 0) _ A2.out.blk Tryz.underlying142 rfl HS ?_) | (refine at_op' (.store 142 (.tmp 2) (.tmp 14)) rfl ?_; refine wpList_store_row rfl 142 (.tmp 2) (.tmp 14) rfl w.heap.size (tokL x).toArray rfl rfl 142 _ A2.out.kr.blk HS rfl HU ?_))
 refine bodyPost_ret (v := tokV x) ?_ rfl ⟨rfl, (A2.out.row (tokL x)).kr.bt, (A2.out.row (tokL x)).rd⟩
 exact results_cell_row Tryz.results105 _ _ w.heap.size 142 (tokL x).toArray (0, 0) _ rfl (A2.out.row (tokL x)).kr.blk Tryz.underlying142 rfl HS
theorem txt_eq (l : List UInt8) (t : ByteArray) : ((bar l).toList == t.toList) = (l == lst t) := by
 rw [ByteArray.toList_eq, ByteArray.toList_eq]
 show (lst (bar l) == lst t) = _
 rw [lst_bar]
theorem passIf_no (w : World) (b g cap n : Nat) (ts : List Tok) (h : Rd w b g cap ts n) (hn : n < ts.length) (s : ByteArray) (hs : (ts[n].t == lst s) = false) :
  Calls Tryz.prog 103 #[.pointer (some ⟨b, 0, none⟩), .string s] w fun e w' => e = .returned (.bool false) /\ Below w.heap.size w w' := by
 have HN : Hid (Calls Tryz.prog 71 #[.pointer (some ⟨b, 0, none⟩)] w fun e w' => e = .returned (.agg #[.int .i64 ts[n].k, .int .i64 ts[n].at', .string (bar ts[n].t), .int .u64 ts[n].n]) /\ Below w.heap.size w w') := next_any w b g cap n ts h hn
 have HT := txt_eq ts[n].t s
 rw [hs] at HT
 have h2 := fld2
 clear h hs
 generalize ts[n] = x at *
 generalize bar x.t = bx at *
 go_enter Tryz.func103, Tryz.ntmps103
 go_wp2_with (go_at_call 71; refine HN.out.mono ?_; rintro e w1 ⟨rfl, b1⟩)
 go_ret
 exact ⟨rfl, b1⟩
theorem passIf_ok (w : World) (b g cap n : Nat) (ts : List Tok) (h : Rd w b g cap ts n) (hn : n < ts.length) (hn1 : n + 1 < ts.length) (s : ByteArray) (hs : (ts[n].t == lst s) = true) :
  Calls Tryz.prog 103 #[.pointer (some ⟨b, 0, none⟩), .string s] w fun e w' => e = .returned (.bool true) /\ Bt b w w' /\ Rd w' b g cap ts (n + 1) := by
 have HR : Hid (Rd w b g cap ts n) := h
 have HN : Hid (Calls Tryz.prog 71 #[.pointer (some ⟨b, 0, none⟩)] w fun e w' => e = .returned (.agg #[.int .i64 ts[n].k, .int .i64 ts[n].at', .string (bar ts[n].t), .int .u64 ts[n].n]) /\ Below w.heap.size w w') := next_any w b g cap n ts h hn
 have HP : Hid (∀ W, Rd W b g cap ts n -> Calls Tryz.prog 105 #[.pointer (some ⟨b, 0, none⟩)] W fun e w' => e = .returned (tokV ts[n]) /\ Bt b W w' /\ Rd w' b g cap ts (n + 1)) := fun W hW => pass_any W b g cap n ts hW hn hn1
 have HT := txt_eq ts[n].t s
 rw [hs] at HT
 have h2 := fld2
 clear h hs
 generalize ts[n] = x at *
 generalize bar x.t = bx at *
 go_enter Tryz.func103, Tryz.ntmps103
 go_wp2_with (first | (go_at_call 71; refine HN.out.mono ?_; rintro e w1 ⟨rfl, b1⟩) | (go_at_call 105; refine (HP.out _ (HR.out.over b1)).mono ?_; rintro e w2 ⟨rfl, b2, P2⟩))
 go_ret
 exact ⟨rfl, (Bt.of b1).trans b2, P2⟩
theorem must_no (w : World) (b g cap n : Nat) (ts : List Tok) (h : Rd w b g cap ts n) (hn : n < ts.length) (s : ByteArray) (hs : (ts[n].t == lst s) = false) :
  Calls Tryz.prog 69 #[.pointer (some ⟨b, 0, none⟩), .string s] w fun e w' => e = flt 7 ts[n].at' /\ Below w.heap.size w w' := by
 have HR : Hid (Rd w b g cap ts n) := h
 have HI : Hid (Calls Tryz.prog 103 #[.pointer (some ⟨b, 0, none⟩), .string s] w fun e w' => e = .returned (.bool false) /\ Below w.heap.size w w') := passIf_no w b g cap n ts h hn s hs
 have HF : Hid (∀ W, Rd W b g cap ts n -> Calls Tryz.prog 102 #[.pointer (some ⟨b, 0, none⟩), .bool false, .int .i64 7] W fun e w' => e = flt 7 ts[n].at' /\ Below W.heap.size W w') := fun W hW => needs_no W b g cap n ts hW hn 7
 clear h hs
 generalize ts[n].at' = xa at *
 unfold flt
 go_enter Tryz.func69, Tryz.ntmps69
 go_wp2_with (first | (go_at_call 103; refine HI.out.mono ?_; rintro e w1 ⟨rfl, b1⟩) | (go_at_call 102; refine (HF.out _ (HR.out.over b1)).mono ?_; unfold flt; rintro e w2 ⟨rfl, b2⟩))
 exact ⟨rfl, rfl, b1.trans (b2.mono b1.size)⟩
theorem must_ok (w : World) (b g cap n : Nat) (ts : List Tok) (h : Rd w b g cap ts n) (hn : n < ts.length) (hn1 : n + 1 < ts.length) (s : ByteArray) (hs : (ts[n].t == lst s) = true) :
  Calls Tryz.prog 69 #[.pointer (some ⟨b, 0, none⟩), .string s] w fun e w' => e = .returned (.tuple #[]) /\ Bt b w w' /\ Rd w' b g cap ts (n + 1) := by
 have HI : Hid (Calls Tryz.prog 103 #[.pointer (some ⟨b, 0, none⟩), .string s] w fun e w' => e = .returned (.bool true) /\ Bt b w w' /\ Rd w' b g cap ts (n + 1)) := passIf_ok w b g cap n ts h hn hn1 s hs
 clear h hs
 go_enter Tryz.func69, Tryz.ntmps69
 go_wp2_with (first | (go_at_call 103; refine HI.out.mono ?_; rintro e w1 ⟨rfl, b1, P1⟩) | (go_at_call 102; refine (needs_ok _ b 7).mono ?_; rintro e w2 ⟨rfl, hw2⟩; subst w2))
 go_end0
 exact ⟨rfl, b1, P1⟩
theorem txt_is (l m : List UInt8) (h : l = m) : ((bar l).toList == m) = true := by
 rw [ByteArray.toList_eq]
 show (lst (bar l) == m) = true
 rw [lst_bar, h]
 exact beq_self_eq_true _
theorem txt_not (l m : List UInt8) (h : ¬ l = m) : ((bar l).toList == m) = false := by
 rw [ByteArray.toList_eq]
 show (lst (bar l) == m) = false
 rw [lst_bar]
 exact beq_eq_false_iff_ne.2 h
theorem kind_any (t : List UInt8) (w : World) :
  Calls Tryz.prog 104 #[.string (bar t)] w fun e w' => e = .returned (.int .i64 (kindOf t)) /\ w' = w := by
 by_cases h1 : t = wKill
 ·have e1 : ((bar t).toList == [107, 105, 108, 108]) = true := txt_is t _ h1
  have HK : Hid (kindOf t = 1) := by show _ = _; subst h1; rfl
  clear h1
  generalize bar t = bt at *
  go_enter Tryz.func104, Tryz.ntmps104
  go_wp2
  go_ret
  exact ⟨by rw [HK.out]; rfl, rfl⟩
 have e1 : ((bar t).toList == [107, 105, 108, 108]) = false := txt_not t _ h1
 by_cases h2 : t = wThread
 ·have e2 : ((bar t).toList == [116, 104, 114, 101, 97, 100]) = true := txt_is t _ h2
  have HK : Hid (kindOf t = 2) := by show _ = _; subst h2; rfl
  clear h1 h2
  generalize bar t = bt at *
  go_enter Tryz.func104, Tryz.ntmps104
  go_wp2
  go_ret
  exact ⟨by rw [HK.out]; rfl, rfl⟩
 have e2 : ((bar t).toList == [116, 104, 114, 101, 97, 100]) = false := txt_not t _ h2
 by_cases h3 : t = wTrap
 ·have e3 : ((bar t).toList == [116, 114, 97, 112]) = true := txt_is t _ h3
  have HK : Hid (kindOf t = 3) := by show _ = _; subst h3; rfl
  clear h1 h2 h3
  generalize bar t = bt at *
  go_enter Tryz.func104, Tryz.ntmps104
  go_wp2
  go_ret
  exact ⟨by rw [HK.out]; rfl, rfl⟩
 have e3 : ((bar t).toList == [116, 114, 97, 112]) = false := txt_not t _ h3
 by_cases h4 : t = wErrno
 ·have e4 : ((bar t).toList == [101, 114, 114, 110, 111]) = true := txt_is t _ h4
  have HK : Hid (kindOf t = 4) := by show _ = _; subst h4; rfl
  clear h1 h2 h3 h4
  generalize bar t = bt at *
  go_enter Tryz.func104, Tryz.ntmps104
  go_wp2
  go_ret
  exact ⟨by rw [HK.out]; rfl, rfl⟩
 have e4 : ((bar t).toList == [101, 114, 114, 110, 111]) = false := txt_not t _ h4
 by_cases h5 : t = wNotify
 ·have e5 : ((bar t).toList == [110, 111, 116, 105, 102, 121]) = true := txt_is t _ h5
  have HK : Hid (kindOf t = 5) := by show _ = _; subst h5; rfl
  clear h1 h2 h3 h4 h5
  generalize bar t = bt at *
  go_enter Tryz.func104, Tryz.ntmps104
  go_wp2
  go_ret
  exact ⟨by rw [HK.out]; rfl, rfl⟩
 have e5 : ((bar t).toList == [110, 111, 116, 105, 102, 121]) = false := txt_not t _ h5
 by_cases h6 : t = wTrace
 ·have e6 : ((bar t).toList == [116, 114, 97, 99, 101]) = true := txt_is t _ h6
  have HK : Hid (kindOf t = 6) := by show _ = _; subst h6; rfl
  clear h1 h2 h3 h4 h5 h6
  generalize bar t = bt at *
  go_enter Tryz.func104, Tryz.ntmps104
  go_wp2
  go_ret
  exact ⟨by rw [HK.out]; rfl, rfl⟩
 have e6 : ((bar t).toList == [116, 114, 97, 99, 101]) = false := txt_not t _ h6
 by_cases h7 : t = wLog
 ·have e7 : ((bar t).toList == [108, 111, 103]) = true := txt_is t _ h7
  have HK : Hid (kindOf t = 7) := by show _ = _; subst h7; rfl
  clear h1 h2 h3 h4 h5 h6 h7
  generalize bar t = bt at *
  go_enter Tryz.func104, Tryz.ntmps104
  go_wp2
  go_ret
  exact ⟨by rw [HK.out]; rfl, rfl⟩
 have e7 : ((bar t).toList == [108, 111, 103]) = false := txt_not t _ h7
 by_cases h8 : t = wAllow
 ·have e8 : ((bar t).toList == [97, 108, 108, 111, 119]) = true := txt_is t _ h8
  have HK : Hid (kindOf t = 8) := by show _ = _; subst h8; rfl
  clear h1 h2 h3 h4 h5 h6 h7 h8
  generalize bar t = bt at *
  go_enter Tryz.func104, Tryz.ntmps104
  go_wp2
  go_ret
  exact ⟨by rw [HK.out]; rfl, rfl⟩
 have e8 : ((bar t).toList == [97, 108, 108, 111, 119]) = false := txt_not t _ h8
 have HK : Hid (kindOf t = 0) := by
  show _ = _
  unfold kindOf
  rw [if_neg h1, if_neg h2, if_neg h3, if_neg h4, if_neg h5, if_neg h6, if_neg h7, if_neg h8]
 clear h1 h2 h3 h4 h5 h6 h7 h8
 generalize bar t = bt at *
 go_enter Tryz.func104, Tryz.ntmps104
 go_wp2
 go_ret
 exact ⟨by rw [HK.out]; rfl, rfl⟩
theorem op_any (t : List UInt8) (w : World) :
  Calls Tryz.prog 169 #[.string (bar t)] w fun e w' => e = .returned (.int .i64 (opOf t)) /\ w' = w := by
 by_cases h1 : t = [61, 61]
 ·have e1 : ((bar t).toList == [61, 61]) = true := txt_is t _ h1
  have HK : Hid (opOf t = 1) := by show _ = _; subst h1; rfl
  clear h1
  generalize bar t = bt at *
  go_enter Tryz.func169, Tryz.ntmps169
  go_wp2
  go_ret
  exact ⟨by rw [HK.out]; rfl, rfl⟩
 have e1 : ((bar t).toList == [61, 61]) = false := txt_not t _ h1
 by_cases h2 : t = [33, 61]
 ·have e2 : ((bar t).toList == [33, 61]) = true := txt_is t _ h2
  have HK : Hid (opOf t = 2) := by show _ = _; subst h2; rfl
  clear h1 h2
  generalize bar t = bt at *
  go_enter Tryz.func169, Tryz.ntmps169
  go_wp2
  go_ret
  exact ⟨by rw [HK.out]; rfl, rfl⟩
 have e2 : ((bar t).toList == [33, 61]) = false := txt_not t _ h2
 by_cases h3 : t = [60]
 ·have e3 : ((bar t).toList == [60]) = true := txt_is t _ h3
  have HK : Hid (opOf t = 3) := by show _ = _; subst h3; rfl
  clear h1 h2 h3
  generalize bar t = bt at *
  go_enter Tryz.func169, Tryz.ntmps169
  go_wp2
  go_ret
  exact ⟨by rw [HK.out]; rfl, rfl⟩
 have e3 : ((bar t).toList == [60]) = false := txt_not t _ h3
 by_cases h4 : t = [60, 61]
 ·have e4 : ((bar t).toList == [60, 61]) = true := txt_is t _ h4
  have HK : Hid (opOf t = 4) := by show _ = _; subst h4; rfl
  clear h1 h2 h3 h4
  generalize bar t = bt at *
  go_enter Tryz.func169, Tryz.ntmps169
  go_wp2
  go_ret
  exact ⟨by rw [HK.out]; rfl, rfl⟩
 have e4 : ((bar t).toList == [60, 61]) = false := txt_not t _ h4
 by_cases h5 : t = [62]
 ·have e5 : ((bar t).toList == [62]) = true := txt_is t _ h5
  have HK : Hid (opOf t = 5) := by show _ = _; subst h5; rfl
  clear h1 h2 h3 h4 h5
  generalize bar t = bt at *
  go_enter Tryz.func169, Tryz.ntmps169
  go_wp2
  go_ret
  exact ⟨by rw [HK.out]; rfl, rfl⟩
 have e5 : ((bar t).toList == [62]) = false := txt_not t _ h5
 by_cases h6 : t = [62, 61]
 ·have e6 : ((bar t).toList == [62, 61]) = true := txt_is t _ h6
  have HK : Hid (opOf t = 6) := by show _ = _; subst h6; rfl
  clear h1 h2 h3 h4 h5 h6
  generalize bar t = bt at *
  go_enter Tryz.func169, Tryz.ntmps169
  go_wp2
  go_ret
  exact ⟨by rw [HK.out]; rfl, rfl⟩
 have e6 : ((bar t).toList == [62, 61]) = false := txt_not t _ h6
 have HK : Hid (opOf t = 0) := by
  show _ = _
  unfold opOf
  rw [if_neg h1, if_neg h2, if_neg h3, if_neg h4, if_neg h5, if_neg h6]
 clear h1 h2 h3 h4 h5 h6
 generalize bar t = bt at *
 go_enter Tryz.func169, Tryz.ntmps169
 go_wp2
 go_ret
 exact ⟨by rw [HK.out]; rfl, rfl⟩
theorem has_any (k : Nat) (w : World) : Calls Tryz.prog 106 #[.int .i64 k] w fun e w' => e = .returned (.bool (numK k)) /\ w' = w := by
 by_cases h3 : k = 3
 ·subst h3
  go_enter Tryz.func106, Tryz.ntmps106
  go_wp2
  go_ret
  exact ⟨rfl, rfl⟩
 by_cases h4 : k = 4
 ·subst h4
  go_enter Tryz.func106, Tryz.ntmps106
  go_wp2
  go_ret
  exact ⟨rfl, rfl⟩
 by_cases h6 : k = 6
 ·subst h6
  go_enter Tryz.func106, Tryz.ntmps106
  go_wp2
  go_ret
  exact ⟨rfl, rfl⟩
 have e3 : ((k : Int) == 3) = false := by rw [beq_eq_false_iff_ne]; omega
 have e4 : ((k : Int) == 4) = false := by rw [beq_eq_false_iff_ne]; omega
 have e6 : ((k : Int) == 6) = false := by rw [beq_eq_false_iff_ne]; omega
 have HK : Hid (numK k = false) := by
  show _ = _
  simp [numK, h3, h4, h6]
 clear h3 h4 h6
 go_enter Tryz.func106, Tryz.ntmps106
 go_wp2
 go_ret
 exact ⟨by rw [HK.out]; rfl, rfl⟩
open F (ret_int)
def argT : List (List UInt8) := [[97, 114, 103, 48], [97, 114, 103, 49], [97, 114, 103, 50], [97, 114, 103, 51], [97, 114, 103, 52], [97, 114, 103, 53]]
theorem arg_inv (t : List UInt8) : argOf t = 0 \/ ∃ x, argT[argOf t - 1]? = some x /\ t = x := by
 unfold argOf
 split
 ·next h => exact .inr ⟨_, rfl, h⟩
 ·split
  ·next h => exact .inr ⟨_, rfl, h⟩
  ·split
   ·next h => exact .inr ⟨_, rfl, h⟩
   ·split
    ·next h => exact .inr ⟨_, rfl, h⟩
    ·split
     ·next h => exact .inr ⟨_, rfl, h⟩
     ·split
      ·next h => exact .inr ⟨_, rfl, h⟩
      ·exact .inl rfl
theorem arg_at {t x : List UInt8} {k : Nat} (hx : argT[k]? = some x) : t = x ↔ argOf t = k + 1 := by
 constructor
 ·intro h
  subst h
  match k, hx with
  | 0, hx => cases hx; rfl
  | 1, hx => cases hx; rfl
  | 2, hx => cases hx; rfl
  | 3, hx => cases hx; rfl
  | 4, hx => cases hx; rfl
  | 5, hx => cases hx; rfl
 ·intro h
  rcases arg_inv t with h0 | ⟨y, hy, rfl⟩
  ·omega
  ·rw [h, Nat.add_sub_cancel, hx] at hy
   cases hy
   rfl
theorem index_any (g cap : Nat) (t : List UInt8) (w : World) (h : ∀ i x, argT[i]? = some x -> w.cell? ⟨g, i, none⟩ = some (.string (bar x))) :
  Calls Tryz.prog 148 #[.slice (some ⟨g, 0, none⟩) 6 cap, .string (bar t)] w fun e w' => e = .returned (.int .i64 ((argOf t : Int) - 1)) /\ w' = w := by
 have HC : Hid (∀ i x, argT[i]? = some x -> w.cell? ⟨g, i, none⟩ = some (.string (bar x))) := h
 have HQ : Hid (∀ k x, argT[k]? = some x -> (((bar t).toList == (bar x).toList) = true ↔ argOf t = k + 1)) := by
  intro k x hx
  rw [txt_eq, lst_bar, beq_iff_eq]
  exact arg_at hx
 clear h
 have hle : argOf t <= 6 := arg_le t
 generalize argOf t = A at *
 generalize bar t = bt at *
 go_enter Tryz.func148, Tryz.ntmps148
 go_wp2
 go_loop [8] (fun i => ∃ k : Nat, k <= 6 /\ i = .int .i64 k /\ (A = 0 \/ k < A)) (fun i => 6 - (intOf i).toNat)
 case atStart => exact ⟨0, Nat.zero_le _, rfl, by omega⟩
 case round =>
  obtain ⟨k, hk, rfl, hno⟩ := hrel
  by_cases hlt : k < 6
  ·obtain ⟨x, hx⟩ : ∃ x, argT[k]? = some x := ⟨argT[k], List.getElem?_eq_getElem hlt⟩
   have hck := HC.out k x hx
   have HM := HQ.out k x hx
   have hlt' : (k : Int) < 6 := by omega
   clear hx
   generalize bar x = bx at *
   by_cases he : A = k + 1
   ·have e1 : (bt.toList == bx.toList) = true := HM.2 he
    have HE : Hid (A = k + 1) := he
    clear HM he hno hle
    go_wp2
    go_ret
    exact ⟨ret_int (by have := HE.out; omega), rfl⟩
   ·have e1 : (bt.toList == bx.toList) = false := by
     rcases Bool.eq_false_or_eq_true (bt.toList == bx.toList) with q | q
     ·exact absurd (HM.1 q) he
     ·exact q
    have HE : Hid (A = 0 \/ k + 1 < A) := by show _ \/ _; omega
    clear HM he hno hle
    go_wp2
    go_round
    case rel => exact ⟨k + 1, by omega, by go_num, HE.out⟩
    case measure => simp [intOf]; omega
  ·obtain rfl : k = 6 := by omega
   have HE : Hid (A = 0) := by show _ = _; omega
   clear hno hle
   go_wp2
   go_ret
   exact ⟨by rw [HE.out]; rfl, rfl⟩
theorem arg_any (t : List UInt8) (w : World) :
  Calls Tryz.prog 168 #[.string (bar t)] w fun e w' => e = .returned (.int .i64 ((argOf t : Int) - 1)) /\ Below w.heap.size w w' := by
 have HB : Hid (Below w.heap.size w (w.alloc (Obj.cells #[.string ⟨#[97, 114, 103, 48]⟩, .string ⟨#[97, 114, 103, 49]⟩, .string ⟨#[97, 114, 103, 50]⟩, .string ⟨#[97, 114, 103, 51]⟩, .string ⟨#[97, 114, 103, 52]⟩, .string ⟨#[97, 114, 103, 53]⟩] 9))) := (Below.refl _ _).alloc (Nat.le_refl _) _
 have HI : Hid (Calls Tryz.prog 148 #[.slice (some ⟨w.heap.size, 0, none⟩) 6 6, .string (bar t)] (w.alloc (Obj.cells #[.string ⟨#[97, 114, 103, 48]⟩, .string ⟨#[97, 114, 103, 49]⟩, .string ⟨#[97, 114, 103, 50]⟩, .string ⟨#[97, 114, 103, 51]⟩, .string ⟨#[97, 114, 103, 52]⟩, .string ⟨#[97, 114, 103, 53]⟩] 9)) fun e w' => e = .returned (.int .i64 ((argOf t : Int) - 1)) /\ w' = (w.alloc (Obj.cells #[.string ⟨#[97, 114, 103, 48]⟩, .string ⟨#[97, 114, 103, 49]⟩, .string ⟨#[97, 114, 103, 50]⟩, .string ⟨#[97, 114, 103, 51]⟩, .string ⟨#[97, 114, 103, 52]⟩, .string ⟨#[97, 114, 103, 53]⟩] 9))) := by
  refine index_any _ 6 t _ fun i x hx => ?_
  rw [(blk_new w _ 9).cell i]
  match i, hx with
  | 0, hx => cases hx; rfl
  | 1, hx => cases hx; rfl
  | 2, hx => cases hx; rfl
  | 3, hx => cases hx; rfl
  | 4, hx => cases hx; rfl
  | 5, hx => cases hx; rfl
 go_enter Tryz.func168, Tryz.ntmps168
 go_wp2_with (go_at_call 148; refine HI.out.mono ?_; rintro e w1 ⟨rfl, rfl⟩)
 go_ret
 exact ⟨rfl, HB.out⟩
theorem drop_at {ts : List Tok} {n : Nat} (hn : n < ts.length) : ts.drop n = ts[n] :: ts.drop (n + 1) := List.drop_eq_getElem_cons hn
theorem not_of {a : Bool} (h : a = false) : ¬ a = true := by rw [h]; decide
theorem isN_4 {x : Tok} (h : isN x = true) : ¬ x.k = 4 := by
 simp [isN] at h
 omega
theorem isA_4 {x : Tok} (h : isA x = true) : ¬ x.k = 4 := by
 simp [isA] at h
 omega
theorem isG_4 {x : Tok} (h : isG x = true) : ¬ x.k = 4 := by
 simp [isG] at h
 omega
theorem isO_4 {x : Tok} (h : isO x = true) : ¬ x.k = 4 := by
 simp [isO] at h
 omega
theorem isS_4 {x : Tok} {t : List UInt8} (h : isS x t = true) : ¬ x.k = 4 := by
 simp [isS] at h
 omega
theorem isW_4 {x : Tok} {t : List UInt8} (h : isW x t = true) : ¬ x.k = 4 := by
 simp [isW] at h
 omega
theorem next_at' (w : World) (b g cap n : Nat) (ts : List Tok) (h : Rd w b g cap ts n) (hn : n < ts.length) :
  Calls Tryz.prog 71 #[.pointer (some ⟨b, 0, none⟩)] w fun e w' => e = .returned (.agg #[.int .i64 ts[n].k, .int .i64 ts[n].at', .string (bar ts[n].t), .int .u64 ts[n].n]) /\ Below w.heap.size w w' := next_any w b g cap n ts h hn
theorem pass_at (w : World) (b g cap n : Nat) (ts : List Tok) (h : Rd w b g cap ts n) (hn : n < ts.length) (hn1 : n + 1 < ts.length) :
  Calls Tryz.prog 105 #[.pointer (some ⟨b, 0, none⟩)] w fun e w' => e = .returned (.agg #[.int .i64 ts[n].k, .int .i64 ts[n].at', .string (bar ts[n].t), .int .u64 ts[n].n]) /\ Bt b w w' /\ Rd w' b g cap ts (n + 1) := pass_any w b g cap n ts h hn hn1
theorem needs_flt (w : World) (b g cap n : Nat) (ts : List Tok) (h : Rd w b g cap ts n) (hn : n < ts.length) (c : Nat) :
  Calls Tryz.prog 102 #[.pointer (some ⟨b, 0, none⟩), .bool false, .int .i64 c] w fun e w' => e = .panicked (fltC c ts[n].at') /\ Below w.heap.size w w' := needs_no w b g cap n ts h hn c
theorem number_no (w : World) (b g cap n : Nat) (ts : List Tok) (h : Rd w b g cap ts n) (hn : n < ts.length) (most : Int) (hs : isN ts[n] = false) :
  Calls Tryz.prog 107 #[.pointer (some ⟨b, 0, none⟩), .int .u64 most] w fun e w' => e = .panicked (fltC 7 ts[n].at') /\ Below w.heap.size w w' := by
 have HR : Hid (Rd w b g cap ts n) := h
 have HN : Hid (Calls Tryz.prog 71 #[.pointer (some ⟨b, 0, none⟩)] w fun e w' => e = .returned (.agg #[.int .i64 ts[n].k, .int .i64 ts[n].at', .string (bar ts[n].t), .int .u64 ts[n].n]) /\ Below w.heap.size w w') := next_at' w b g cap n ts h hn
 have HF : Hid (∀ W, Rd W b g cap ts n -> Calls Tryz.prog 102 #[.pointer (some ⟨b, 0, none⟩), .bool false, .int .i64 7] W fun e w' => e = .panicked (fltC 7 ts[n].at') /\ Below W.heap.size W w') := fun W hW => needs_flt W b g cap n ts hW hn 7
 have h0 := fld0
 have hk : ((ts[n].k : Int) == 2) = false := by
  rw [beq_eq_false_iff_ne]
  simp [isN] at hs
  omega
 clear h hs
 generalize ts[n] = x at *
 obtain ⟨xk, xa, xt, xn⟩ := x
 dsimp only at *
 generalize fltC 7 xa = F at *
 go_enter Tryz.func107, Tryz.ntmps107
 go_wp2_with (first | (go_at_call 71; refine HN.out.mono ?_; rintro e w1 ⟨rfl, b1⟩) | (go_at_call 102; refine (HF.out _ (HR.out.over b1)).mono ?_; rintro e w2 ⟨rfl, b2⟩))
 exact ⟨rfl, rfl, b1.trans (b2.mono b1.size)⟩
theorem number_big (w : World) (b g cap n : Nat) (ts : List Tok) (h : Rd w b g cap ts n) (hn : n < ts.length) (most : Int) (hs : isN ts[n] = true) (hm : most < (ts[n].n : Int)) :
  Calls Tryz.prog 107 #[.pointer (some ⟨b, 0, none⟩), .int .u64 most] w fun e w' => e = .panicked (fltC 6 ts[n].at') /\ Below w.heap.size w w' := by
 have HR : Hid (Rd w b g cap ts n) := h
 have HN : Hid (∀ W, Rd W b g cap ts n -> Calls Tryz.prog 71 #[.pointer (some ⟨b, 0, none⟩)] W fun e w' => e = .returned (.agg #[.int .i64 ts[n].k, .int .i64 ts[n].at', .string (bar ts[n].t), .int .u64 ts[n].n]) /\ Below W.heap.size W w') := fun W hW => next_at' W b g cap n ts hW hn
 have HF : Hid (∀ W, Rd W b g cap ts n -> Calls Tryz.prog 102 #[.pointer (some ⟨b, 0, none⟩), .bool false, .int .i64 6] W fun e w' => e = .panicked (fltC 6 ts[n].at') /\ Below W.heap.size W w') := fun W hW => needs_flt W b g cap n ts hW hn 6
 have h0 := fld0
 have h3 := fld3
 have hk : ((ts[n].k : Int) == 2) = true := by
  rw [beq_iff_eq]
  simp [isN] at hs
  omega
 have hd : decide ((ts[n].n : Int) <= most) = false := by simp; omega
 clear h hs
 generalize ts[n] = x at *
 obtain ⟨xk, xa, xt, xn⟩ := x
 dsimp only at *
 generalize fltC 6 xa = F at *
 go_enter Tryz.func107, Tryz.ntmps107
 go_wp2_with fail
 refine (HN.out _ HR.out).mono ?_
 rintro e w1 ⟨rfl, b1⟩
 go_wp2_with (go_at_call 102; refine (needs_ok _ b 7).mono ?_; rintro e w2 ⟨rfl, hw2⟩; subst w2)
 refine (HN.out _ (HR.out.over b1)).mono ?_
 rintro e w2 ⟨rfl, b2⟩
 go_wp2_with (go_at_call 102; refine (HF.out _ ((HR.out.over b1).over b2)).mono ?_; rintro e w3 ⟨rfl, b3⟩)
 exact ⟨rfl, rfl, (b1.trans (b2.mono b1.size)).trans (b3.mono (Nat.le_trans b1.size b2.size))⟩
theorem number_ok (w : World) (b g cap n : Nat) (ts : List Tok) (h : Rd w b g cap ts n) (hn : n < ts.length) (hn1 : n + 1 < ts.length) (most : Int) (hs : isN ts[n] = true) (hm : (ts[n].n : Int) <= most) :
  Calls Tryz.prog 107 #[.pointer (some ⟨b, 0, none⟩), .int .u64 most] w fun e w' => e = .returned (.int .u64 ts[n].n) /\ Bt b w w' /\ Rd w' b g cap ts (n + 1) := by
 have HR : Hid (Rd w b g cap ts n) := h
 have HN : Hid (∀ W, Rd W b g cap ts n -> Calls Tryz.prog 71 #[.pointer (some ⟨b, 0, none⟩)] W fun e w' => e = .returned (.agg #[.int .i64 ts[n].k, .int .i64 ts[n].at', .string (bar ts[n].t), .int .u64 ts[n].n]) /\ Below W.heap.size W w') := fun W hW => next_at' W b g cap n ts hW hn
 have HP : Hid (∀ W, Rd W b g cap ts n -> Calls Tryz.prog 105 #[.pointer (some ⟨b, 0, none⟩)] W fun e w' => e = .returned (.agg #[.int .i64 ts[n].k, .int .i64 ts[n].at', .string (bar ts[n].t), .int .u64 ts[n].n]) /\ Bt b W w' /\ Rd w' b g cap ts (n + 1)) := fun W hW => pass_at W b g cap n ts hW hn hn1
 have h0 := fld0
 have h3 := fld3
 have hk : ((ts[n].k : Int) == 2) = true := by
  rw [beq_iff_eq]
  simp [isN] at hs
  omega
 have hd : decide ((ts[n].n : Int) <= most) = true := by simp; omega
 clear h hs
 generalize ts[n] = x at *
 obtain ⟨xk, xa, xt, xn⟩ := x
 dsimp only at *
 go_enter Tryz.func107, Tryz.ntmps107
 go_wp2_with fail
 refine (HN.out _ HR.out).mono ?_
 rintro e w1 ⟨rfl, b1⟩
 go_wp2_with (go_at_call 102; refine (needs_ok _ b 7).mono ?_; rintro e w2 ⟨rfl, hw2⟩; subst w2)
 refine (HN.out _ (HR.out.over b1)).mono ?_
 rintro e w2 ⟨rfl, b2⟩
 go_wp2_with (first | (go_at_call 102; refine (needs_ok _ b 6).mono ?_; rintro e w3 ⟨rfl, hw3⟩; subst w3) | (go_at_call 105; refine (HP.out _ ((HR.out.over b1).over b2)).mono ?_; rintro e w3 ⟨rfl, b3, P3⟩))
 go_ret
 exact ⟨rfl, ((Bt.of b1).over b2).trans b3, P3⟩
end Go.Proofs.YtmcgcbgblgmmkaaGreatDoor.P
