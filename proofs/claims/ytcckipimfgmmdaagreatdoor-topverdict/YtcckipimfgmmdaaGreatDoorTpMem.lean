/-
  Programs of rules as filters of a stack.
-/
import Derived.Test.YtcckipimfgmmdaaGreatDoorKAwk
import Derived.Test.YtcckipimfgmmdaaGreatDoorStRun
import Derived.Test.YtcckipimfgmmdaaGreatDoorAValue
namespace Go.Proofs.YtcckipimfgmmdaaGreatDoor.S
open Go.RowKit

theorem stk_new (w : World) : StkV (w.alloc (Obj.cells #[.slice none 0 0, .slice none 0 0] 33)) w.heap.size (.slice none 0 0) (.slice none 0 0) [] := ⟨V.blk_new w _ _, own_nil _ _, ⟨rfl, .inl ⟨rfl, rfl⟩⟩⟩
theorem fl_of_own {w : World} {base : Nat} {v : Value} {l : List V.In} (h : w.ownsRow base 60 4 v l.length (V.cellsI l)) (hl : ∀ x ∈ l, x.ok) : FlV w v l := by
  obtain ⟨a, cap, rfl, hi⟩ := V.owns_ins h hl
  rcases h.2 with ⟨e, h0⟩ | ⟨g, c, cur, e, _, _, h1, h2, _⟩
  · simp at e
    exact ⟨a, cap, rfl, hi, by unfold maxLen; omega, by omega, fun _ => by omega⟩
  · simp at e
    exact ⟨a, cap, rfl, hi, by omega, by omega, fun hn => by rw [e.1] at hn; cases hn⟩
/-- an attached filter: what is there then. -/
theorem AttT.yes {X Y : World} {b : Nat} {vc ve : Value} {ls : List (List V.In)} {l : List V.In} {e : Ending} (h : AttT X b vc ve ls l e Y) (h0 : attE ls l = 0) : e = .returned (.int .i64 0) ∧ X.grownBy Y (some b) ∧ ∃ vc' ve', StkV Y b vc' ve' (ls ++ [l]) := by
  obtain ⟨rfl, h2, h3⟩ := h
  refine ⟨by rw [h0], h2, ?_⟩
  rcases h3 with ⟨h4, _⟩ | ⟨_, vc', ve', h5, _⟩
  · exact absurd h0 h4
  · exact ⟨vc', ve', h5⟩
/-- one that is not: what is there then. -/
theorem AttT.no {X Y : World} {b : Nat} {vc ve : Value} {ls : List (List V.In)} {l : List V.In} {e : Ending} (h : AttT X b vc ve ls l e Y) (h0 : attE ls l = 16) : e = .returned (.int .i64 16) ∧ X.grownBy Y (some b) ∧ StkV Y b vc ve ls := by
  obtain ⟨rfl, h2, h3⟩ := h
  refine ⟨by rw [h0], h2, ?_⟩
  rcases h3 with ⟨_, h4⟩ | ⟨h4, _⟩
  · exact h4
  · rw [h0] at h4
    exact absurd h4 (by decide)
/-- a row of another kind was turned. -/
theorem blk_row_ne {X : World} {b c s : Nat} {t t' : TypeId} {v : Value} {n : Nat} {xs cs : List Value} (ht : t ≠ t') (h : X.ownsRow c t s v n xs) (h' : V.Blk X b t' cs) : some b ≠ v.ownBlock := by
  rcases row_ne ht h h' with e | e
  · rw [e]; intro h; cases h
  · exact fun h => e h.symm
theorem StkV.row {X Y : World} {b B s : Nat} {t : TypeId} {vc ve v : Value} {n : Nat} {us : List Value} {ls : List (List V.In)} (h : StkV X b vc ve ls) (ho : X.ownsRow B t s v n us) (h1 : t ≠ 33) (h2 : t ≠ 60) (h3 : t ≠ 3) (hg : X.grownBy Y v.ownBlock) : StkV Y b vc ve ls :=
  ⟨blk_grown h.blk hg (blk_row_ne h1 ho h.blk), h.code.kept hg (own_ne (Ne.symm h2) h.code ho), h.ends.kept hg (own_ne (Ne.symm h3) h.ends ho)⟩
theorem ansL_snoc (ls : List (List V.In)) (l : List V.In) (d : V.Da) : ansL (ls ++ [l]) d = V.ansV l d :: ansL ls d := by
  unfold ansL
  rw [List.map_append, List.reverse_append]
  rfl
theorem ansL_u {ls : List (List V.In)} {d : V.Da} (h : OkS ls) (hd : d.ok) : ∀ z ∈ ansL ls d, A.U32 z := by
  intro z hz
  unfold ansL at hz
  rw [List.mem_reverse] at hz
  obtain ⟨l, hl, e⟩ := List.mem_map.1 hz
  rw [← e]
  exact ansV_u l d (h.1 l hl).2 hd

end Go.Proofs.YtcckipimfgmmdaaGreatDoor.S
namespace Go.Proofs.YtcckipimfgmmdaaGreatDoor
open Go.RowKit

/-- a program that means what rules do. -/
structure Pgm (k a : Int) (l : List M.Xl) (p : List V.In) : Prop where
  chk : (V.chk p).1 = 0
  ok : ∀ x ∈ p, x.ok
  len : p.length ≤ 4096
  ans : ∀ d : M.Da, d.ok → V.ansV p (toV d) = meanZ d k a l
/-- what Compile tells: an error, or such a program. -/
def CmP (w : World) (k a : Int) (rs : List M.Xr) (e : Ending) (w' : World) : Prop :=
  ∃ v er, e = .returned (.tuple #[v, .int .i64 er]) ∧ Below w.heap.size w w' ∧
    (er ≠ 0 ∨ (er = 0 ∧ (M.checkP k a (rs.map M.Xr.r)).1 = 0 ∧ Rok rs ∧ ∃ p, S.FlV w' v p ∧ Pgm k a (rs.map M.Xr.r) p))
theorem wgt_of {rs : List M.Xr} (hR : Rok rs) : M.wgt rs ≤ 100000000 := by
  have h1 := sum_wg1 rs hR
  have h2 : M.wgt rs = 8 + (rs.map fun x => M.wg1 x.r).sum := rfl
  omega
theorem pgm_of {k a : Int} {rs : List M.Xr} {ns : List Int} (hR : Rok rs) (hn : Nrs ns rs) (h4 : (progI ns k a (rs.map M.Xr.r)).length ≤ 4096) : Pgm k a (rs.map M.Xr.r) (progI ns k a (rs.map M.Xr.r)) :=
  ⟨by rw [prog_chk ns k a rs hn hR.ok (wgt_of hR) h4], (prog_gd ns k a rs hn hR.ok (wgt_of hR)).ok, h4, fun d hd => (prog_ans d hd ns k a rs hn hR.ok (wgt_of hR) h4).2.1⟩
theorem CmT.pgm {w w' : World} {k a : Int} {rs : List M.Xr} {e : Ending} (h : CmT w k a rs e w') : CmP w k a rs e w' := by
  obtain ⟨v, er, rfl, hb, ⟨h1, rfl, rfl⟩ | ⟨h0, hR, ns, hn, ⟨h1, rfl, rfl⟩ | ⟨h1, rfl, ho⟩⟩⟩ := h
  · exact ⟨_, _, rfl, hb, .inl h1⟩
  · exact ⟨_, _, rfl, hb, .inl (by decide)⟩
  · exact ⟨_, _, rfl, hb, .inr ⟨rfl, h0, hR, _, S.fl_of_own ho (pgm_of hR hn h1).ok, pgm_of hR hn h1⟩⟩
theorem compileP (w : World) (k a : Int) (v : Value) (rs : List M.Xr) (h : M.RlR w v rs) (hL : Few rs) (hf : Fits rs) :
    Calls Tryz.prog 7 #[.agg #[.int .i64 k, .int .i64 a, v]] w fun e w' => CmP w k a rs e w' := (compile_any w k a v rs h hL hf).mono fun _ _ h => h.pgm

/-- what rules say of a call, as a filter answers it. -/
theorem mean_dec (d : M.Da) (k a : Int) (l : List M.Xl) (h : (M.checkP k a l).1 = 0) : meanZ d k a l = A.valZ (M.decA d k a l).1 (M.decA d k a l).2 := by
  unfold meanZ M.decA
  rw [if_pos h]
  split
  · rfl
  · rfl
theorem dec_right (d : M.Da) (k a : Int) (rs : List M.Xr) (h : (M.checkP k a (rs.map M.Xr.r)).1 = 0) (hf : Fits rs) : A.rightB (M.decA d k a (rs.map M.Xr.r)).1 (M.decA d k a (rs.map M.Xr.r)).2 = true := by
  obtain ⟨_, h1, h2⟩ := rok_of h hf
  unfold M.decA
  rw [if_pos h]
  split
  · unfold M.verdP
    split
    · have key : ∀ l : List M.Xl, (∀ x ∈ l, M.actB x.k x.a = true) → A.rightB (M.verdF d k a l).1 (M.verdF d k a l).2 = true := by
        intro l
        induction l with
        | nil => intro _; exact actB_right h1
        | cons x l ih =>
          intro hx
          unfold M.verdF
          split
          · exact actB_right (hx x (List.mem_cons_self ..))
          · exact ih fun y hy => hx y (List.mem_cons_of_mem _ hy)
      exact key _ fun x hx => by obtain ⟨y, hy, rfl⟩ := List.mem_map.1 hx; exact h2 y hy
    · exact actB_right h1
  · rfl
/-- attached, or too many. -/
theorem att_or {ls : List (List V.In)} {p : List V.In} (hc : (V.chk p).1 = 0) (h8 : ls.length ≤ 8) : S.attE ls p = 0 ∨ (S.attE ls p = 16 ∧ 32768 < S.costL ls + (p.length + 4)) := by
  unfold S.attE
  rw [if_pos hc]
  by_cases h : 32 ≤ ls.length ∨ 32768 < S.costL ls + (p.length + 4)
  · rw [if_pos h]
    rcases h with h | h
    · omega
    · exact .inr ⟨rfl, h⟩
  · rw [if_neg h]
    exact .inl rfl

end Go.Proofs.YtcckipimfgmmdaaGreatDoor
