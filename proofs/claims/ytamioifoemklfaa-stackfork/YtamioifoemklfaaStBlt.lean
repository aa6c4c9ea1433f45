/-
  A stack of those filters that can be attached (built).
-/
import Derived.Test.YtamioifoemklfaaStAwk
namespace Go.Proofs.Ytamioifoemklfaa
open Go.RowKit

/-- all filters, attached one by one. -/
def attAll : List (List V.In) → List (List V.In) → List (List V.In)
  | acc, [] => acc
  | acc, l :: ls => attAll (attL acc l) ls
theorem attAll_snoc (acc ls : List (List V.In)) (l : List V.In) : attAll acc (ls ++ [l]) = attL (attAll acc ls) l := by
  induction ls generalizing acc with
  | nil => rfl
  | cons k ls ih => exact ih _
theorem attAll_step {ls : List (List V.In)} {i : Nat} (h : i < ls.length) : attAll [] (ls.take (i + 1)) = attL (attAll [] (ls.take i)) ls[i] := by
  rw [List.take_succ_eq_append_getElem h, attAll_snoc]
theorem okS_all (acc ls : List (List V.In)) (h : OkS acc) (hl : ∀ l ∈ ls, ∀ x ∈ l, x.ok) : OkS (attAll acc ls) := by
  induction ls generalizing acc with
  | nil => exact h
  | cons l ls ih => exact ih _ (okS_attL h (hl l (List.mem_cons_self ..))) (fun k hk => hl k (List.mem_cons_of_mem _ hk))
/-- what was built is built again. -/
theorem attAll_ok {ls : List (List V.In)} (h : OkS ls) : attAll [] ls = ls := by
  have key : ∀ i, i ≤ ls.length → attAll [] (ls.take i) = ls.take i := by
    intro i
    induction i with
    | zero => intro _; rw [List.take_zero]; rfl
    | succ i ih =>
      intro hi
      rw [attAll_step (by omega), ih (by omega), attL, if_pos (att_again h (by omega)), List.take_succ_eq_append_getElem (by omega)]
  have := key ls.length (Nat.le_refl _)
  rw [List.take_length] at this
  exact this
theorem flR_ok {w : World} {v : Value} {ls : List (List V.In)} (h : FlR w v ls) : ∀ l ∈ ls, ∀ x ∈ l, x.ok := by
  intro l hl
  obtain ⟨i, hi, rfl⟩ := List.getElem_of_mem hl
  obtain ⟨a, cap, rfl, _⟩ := id h
  obtain ⟨_, _, _, _, _, _, _, _, _, hI, _⟩ := flR_at h hi
  exact hI.2.1

/-- filters in a row of slices of the call's own. -/
def FlO (X w : World) (B : Nat) (v : Value) (ls : List (List V.In)) : Prop := ∃ us, w.ownsRow B 31 1 v ls.length us ∧ ∀ (i : Nat) (l : List V.In), ls[i]? = some l → ∃ u, us[i]? = some u ∧ FlV X u l
theorem FlO.flR {X w : World} {B : Nat} {v : Value} {ls : List (List V.In)} (h : FlO X w B v ls) (hb : Below X.heap.size X w) : FlR w v ls := by
  obtain ⟨us, ho, hc⟩ := h
  rcases ho.2 with ⟨rfl, h0⟩ | ⟨g, cap, cur, rfl, _, _, h1, h2, _⟩
  · exact ⟨none, 0, by rw [h0], by omega, by decide, fun h => by omega⟩
  · refine ⟨_, cap, rfl, h1, by unfold maxLen at h2; omega, fun _ => ⟨g, 0, rfl, fun i l hi => ?_⟩⟩
    obtain ⟨u, hu, hf⟩ := hc i l hi
    have := ho.cells (g := g) rfl i u hu
    rw [Addr.add_lit] at this
    exact ⟨u, this, hf.below hb⟩
theorem FlO.over {X w w' : World} {B : Nat} {v : Value} {ls : List (List V.In)} (h : FlO X w B v ls) (hb : Below w.heap.size w w') : FlO X w' B v ls := by
  obtain ⟨us, ho, hc⟩ := h
  exact ⟨us, own_over ho hb, hc⟩
theorem FlO.kept {X w w' : World} {B b : Nat} {v : Value} {ls : List (List V.In)} {cs : List Value} (h : FlO X w B v ls) (hk : V.Blk w b 34 cs) (hg : w.grownBy w' (some b)) : FlO X w' B v ls := by
  obtain ⟨us, ho, hc⟩ := h
  exact ⟨us, ho.kept hg (row_ne (by decide) ho hk), hc⟩
theorem blk_row_ne {X : World} {b c s : Nat} {t t' : TypeId} {v : Value} {n : Nat} {xs cs : List Value} (ht : t ≠ t') (h : X.ownsRow c t s v n xs) (h' : V.Blk X b t' cs) : some b ≠ v.ownBlock := by
  rcases row_ne ht h h' with e | e
  · rw [e]; intro h; cases h
  · exact fun h => e h.symm
theorem StkV.row {X Y : World} {b B s : Nat} {t : TypeId} {vc ve v : Value} {n : Nat} {us : List Value} {ls : List (List V.In)} (h : StkV X b vc ve ls) (ho : X.ownsRow B t s v n us) (h1 : t ≠ 34) (h2 : t ≠ 56) (h3 : t ≠ 3) (hg : X.grownBy Y v.ownBlock) : StkV Y b vc ve ls :=
  ⟨blk_grown h.blk hg (blk_row_ne h1 ho h.blk), h.code.kept hg (own_ne (Ne.symm h2) h.code ho), h.ends.kept hg (own_ne (Ne.symm h3) h.ends ho)⟩
theorem AttT.fresh {X Y : World} {b : Nat} {vc ve : Value} {ls : List (List V.In)} {l : List V.In} {e : Ending} (h : AttT X b vc ve ls l e Y) : e = .returned (.int .i64 (attE ls l)) ∧ X.grownBy Y (some b) ∧ ∃ vc' ve', StkV Y b vc' ve' (attL ls l) ∧ ∀ B, B ≤ X.heap.size → (∀ j, vc.ownBlock = some j → B ≤ j) → ∀ j, vc'.ownBlock = some j → B ≤ j := by
  obtain ⟨rfl, h2, h3⟩ := h
  refine ⟨rfl, h2, ?_⟩
  unfold attL
  rcases h3 with ⟨h4, h5⟩ | ⟨h4, vc', ve', h5, h6, _⟩
  · rw [if_neg h4]
    exact ⟨_, _, h5, fun B _ hB => hB⟩
  · rw [if_pos h4]
    exact ⟨_, _, h5, fun B hB _ j hj => Nat.le_trans hB (h6 j hj)⟩
/-- a slice appended to a row of slices. -/
theorem app_filt {w : World} {ops : Array Oper} {rest : List Oper} {o : Oper} {a : Act} {Q : Exit → Act → World → Prop} (hgd : o.guard = none) (s x : Operand)
    (ho : o.op = .call { callee := .builtin .append, args := #[s, x], argTypes := #[22, 22] })
    (base : Nat) (v : Value) (n : Nat) (vs : List Value) (hs : a.eval s = v) (hown : w.ownsRow base 31 1 v n vs) (ad : Addr) (u : Value) (hx : a.eval x = .slice (some ad) 1 1) (hu : w.cell? ad = some u) (h1 : u.oneCell' = true)
    (hn : n ≤ 100000) (hbase : base ≤ w.heap.size)
    (h : ∀ v' w', GrwF w w' base v v' (n + 1) (vs ++ [u]) → wpList Try.prog ops Q rest (a.put o.dst v') w') : wpList Try.prog ops Q (o :: rest) a w := by
  obtain ⟨v', w', hrun, hG⟩ := run_appF o.type base v n vs hown ad u hu h1 hn hbase
  refine wpList_plain hgd fun K hK => ?_
  unfold Oper.wp execOp
  simp only [ho, resolve, invoke, builtin, Sem.run_bind, Sem.run_pure, Result.andThen_ok, List.map_toArray, List.map_cons, List.map_nil, hs, hx, hrun]
  exact hK _ _ (h v' w' hG)
theorem FlO.app {X w w' : World} {B : Nat} {v v' u : Value} {ls : List (List V.In)} {l : List V.In} {us : List Value} (hc : ∀ (i : Nat) (l : List V.In), ls[i]? = some l → ∃ u, us[i]? = some u ∧ FlV X u l) (hl : us.length = ls.length) (hf : FlV X u l) (h : GrwF w w' B v v' (ls.length + 1) (us ++ [u])) : FlO X w' B v' (ls ++ [l]) := by
  refine ⟨us ++ [u], by rw [List.length_append, List.length_singleton]; exact h.own, fun i k hi => ?_⟩
  by_cases hlt : i < ls.length
  · rw [List.getElem?_append_left hlt] at hi
    obtain ⟨y, hy, hf2⟩ := hc i k hi
    exact ⟨y, by rw [List.getElem?_append_left (by omega)]; exact hy, hf2⟩
  · have hil := (List.getElem?_eq_some_iff.1 hi).1
    rw [List.length_append, List.length_singleton] at hil
    have e : i = ls.length := by omega
    subst e
    rw [List.getElem?_append_right (Nat.le_refl _), Nat.sub_self] at hi
    cases hi
    exact ⟨u, by rw [List.getElem?_append_right (by omega), hl, Nat.sub_self]; rfl, hf⟩

/-- what built tells. -/
def BltT (X : World) (ls : List (List V.In)) (e : Ending) (Y : World) : Prop :=
  ∃ b vc ve vi, e = .returned (.tuple #[.pointer (some ⟨b, 0, none⟩), vi]) ∧ StkV Y b vc ve (attAll [] ls) ∧ X.heap.size ≤ b ∧ FlO X Y X.heap.size vi (attAll [] ls) ∧ (∀ j, vc.ownBlock = some j → X.heap.size ≤ j) ∧ Below X.heap.size X Y

set_option maxRecDepth 8000 in
set_option maxHeartbeats 4000000 in
theorem built_any (X : World) (v : Value) (ls : List (List V.In)) (h : FlR X v ls) :
    Calls Try.prog 17 #[v] X fun e Y => BltT X ls e Y := by
  obtain ⟨p1, c1, rfl, hk1, hk2⟩ : ∃ p c, v = .slice p ls.length c ∧ ls.length ≤ c ∧ c ≤ 9223372036854775807 := by obtain ⟨p, c, e, h1, h2, _⟩ := h; exact ⟨p, c, e, h1, h2⟩
  have HF : Hid (FlR X (.slice p1 ls.length c1) ls) := h
  have HN : Hid (StkV (X.alloc (Obj.cells #[.slice none 0 0, .slice none 0 0] 34)) X.heap.size (.slice none 0 0) (.slice none 0 0) [] ∧ Below X.heap.size X (X.alloc (Obj.cells #[.slice none 0 0, .slice none 0 0] 34))) := ⟨stk_new X, below_new X _⟩
  clear h
  go_enter Try.func17, Try.ntmps17
  go_wp2_with fail
  generalize (X.alloc (Obj.cells #[.slice none 0 0, .slice none 0 0] 34)) = X1 at *
  go_loopw [5, 6] (fun v5 vi wr => ∃ (i : Nat) (vc ve : Value), vi = .int .i64 i ∧ i ≤ ls.length ∧ StkV wr X.heap.size vc ve (attAll [] (ls.take i)) ∧ FlO X wr X.heap.size v5 (attAll [] (ls.take i)) ∧ (∀ j, vc.ownBlock = some j → X.heap.size ≤ j) ∧ Below X.heap.size X wr) (fun _ vi _ => ls.length - (intOf vi).toNat)
  case atStart => exact ⟨0, _, _, rfl, Nat.zero_le _, HN.out.1, ⟨[], ⟨rfl, .inl ⟨rfl, rfl⟩⟩, fun i l hi => (by cases hi)⟩, fun j hj => (by cases hj), HN.out.2⟩
  case round =>
    obtain ⟨i, vc, ve, rfl, hi2, hs, ho, hfr, hb⟩ := hrel
    have HS : Hid (StkV wr X.heap.size vc ve (attAll [] (ls.take i))) := hs
    have HB : Hid (Below X.heap.size X wr) := hb
    have HFr : Hid (∀ j, vc.ownBlock = some j → X.heap.size ≤ j) := hfr
    obtain ⟨us, ho, hc⟩ := ho
    have HO : Hid (wr.ownsRow X.heap.size 31 1 _ (attAll [] (ls.take i)).length us) := ho
    have HC : Hid (∀ (j : Nat) (l : List V.In), (attAll [] (ls.take i))[j]? = some l → ∃ u, us[j]? = some u ∧ FlV X u l) := hc
    obtain ⟨a5, q5, rfl⟩ := own_slice ho
    clear ho hc hs hfr
    by_cases hlt : i < ls.length
    · have hi1 : (i : Int) < (ls.length : Int) := by omega
      obtain ⟨fb, fo, fa, fc, rfl, e1, e2⟩ := flR_at HF.out hlt
      have HE2 : Hid (FlV X (.slice fa ls[i].length fc) ls[i]) := e2
      have HOk : Hid (OkS (attAll [] (ls.take i))) := okS_all [] _ okS_nil (fun l hl => flR_ok HF.out l (List.mem_of_mem_take hl))
      have HST : Hid (attAll [] (ls.take (i + 1)) = attL (attAll [] (ls.take i)) ls[i]) := attAll_step hlt
      have h32 := HOk.out.2.1
      have HAt : Hid (Calls Try.prog 10 #[.pointer (some ⟨X.heap.size, 0, none⟩), .slice fa ls[i].length fc] wr fun e Y => AttT wr X.heap.size vc ve (attAll [] (ls.take i)) ls[i] e Y) := attach_any wr X.heap.size vc ve _ _ _ HS.out HOk.out (HE2.out.below HB.out)
      have c1' := cellK e1 HB.out
      have HCk : Hid (∀ W, Below X.heap.size X W → W.cell? ⟨fb, fo + i, none⟩ = some (.slice fa ls[i].length fc)) := fun W hW => cellK e1 hW
      clear e1 e2
      generalize ls[i] = li at *
      generalize attAll [] (ls.take i) = acc at *
      by_cases h0 : attE acc li = 0
      · have hL : attL acc li = acc ++ [li] := by unfold attL; rw [if_pos h0]
        have HL : Hid (attL acc li = acc ++ [li]) := hL
        clear hL
        have hq : (attE acc li == 0) = true := by rw [h0]; rfl
        clear h0
        go_upto_region 7 with (first | (go_at_call 10; refine HAt.out.mono ?_; rintro e w2 h2; obtain ⟨rfl, g2, vc2, ve2, s2, f2⟩ := h2.fresh))
        have HB2 : Hid (Below X.heap.size X w2) := HB.out.trans (grown_below g2 (Nat.le_refl _) HB.out.size)
        have c2 := HCk.out w2 HB2.out
        have HO2 : Hid (w2.ownsRow X.heap.size 31 1 (.slice a5 acc.length q5) acc.length us) := HO.out.kept g2 (row_ne (by decide) HO.out HS.out.blk)
        have HS2 : Hid (StkV w2 X.heap.size vc2 ve2 (attL acc li)) := s2
        have HF2 : Hid (∀ j, vc2.ownBlock = some j → X.heap.size ≤ j) := f2 _ HB.out.size HFr.out
        clear h2 g2 s2 f2 c1'
        go_wp2_with (first | (at_builtin; refine app_filt rfl _ _ rfl X.heap.size _ acc.length us rfl (HO2.out.alloc _) ⟨w2.heap.size, 0, none⟩ (.slice fa li.length fc) rfl (cell_one_new' _ _ _) rfl (by omega) (by have := HB2.out.size; simp; omega) ?_; intro v' w3 hg3; go_frame))
        go_roundw
        case rel =>
          have g3 := hg3.grown
          have ob := V.owns_block (HO2.out.alloc (Obj.cells #[.slice fa li.length fc] 31))
          refine ⟨i + 1, vc2, ve2, by go_num, hlt, ?_, ?_, HF2.out, ?_⟩
          · rw [HST.out]
            exact (HS2.out.over (below_new w2 _)).row (HO2.out.alloc _) (by decide) (by decide) (by decide) g3
          · rw [HST.out, HL.out]
            exact FlO.app HC.out (by have := HO2.out.1; omega) HE2.out hg3
          · exact (HB2.out.alloc HB2.out.size _).grown g3 (by have := HB2.out.size; simp; omega) ob
        case measure => simp [intOf]; omega
      · have hL : attL acc li = acc := by unfold attL; rw [if_neg h0]
        have HL : Hid (attL acc li = acc) := hL
        clear hL
        have hq : (attE acc li == 0) = false := by simpa using h0
        clear h0
        go_wp2_with (first | (go_at_call 10; refine HAt.out.mono ?_; rintro e w2 h2; obtain ⟨rfl, g2, vc2, ve2, s2, f2⟩ := h2.fresh))
        go_roundw
        case rel =>
          refine ⟨i + 1, vc2, ve2, by go_num, hlt, by rw [HST.out]; exact s2, ?_, f2 _ HB.out.size HFr.out, HB.out.trans (grown_below g2 (Nat.le_refl _) HB.out.size)⟩
          rw [HST.out, HL.out]
          exact ⟨us, HO.out.kept g2 (row_ne (by decide) HO.out HS.out.blk), HC.out⟩
        case measure => simp [intOf]; omega
    · have hi1 : ¬ (i : Int) < (ls.length : Int) := by omega
      have ei : ls.take i = ls := List.take_of_length_le (by omega)
      have HE : Hid (BltT X ls (.returned (.tuple #[.pointer (some ⟨X.heap.size, 0, none⟩), .slice a5 (attAll [] (ls.take i)).length q5])) wr) := ⟨X.heap.size, vc, ve, _, rfl, by have := HS.out; rw [ei] at this; exact this, Nat.le_refl _, ⟨us, by have := HO.out; rw [ei] at this; rw [ei]; exact this, by have := HC.out; rw [ei] at this; exact this⟩, HFr.out, HB.out⟩
      clear ei
      go_wp2_with fail
      go_ret2
      exact HE.out

end Go.Proofs.Ytamioifoemklfaa
