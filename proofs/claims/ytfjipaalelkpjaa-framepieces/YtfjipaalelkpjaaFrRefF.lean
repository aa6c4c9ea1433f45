/-
  The frame of a body, by the document's answer.
-/
import Derived.Test.YtfjipaalelkpjaaFrBig
import Derived.Test.YtfjipaalelkpjaaRefGo
namespace Go.Proofs.Ytfjipaalelkpjaa
open Go.RowKit D

theorem Wt.over {w w' : World} {v : Value} {l : List Int} (h : Wt w v l) (hb : Below w.heap.size w w') : Wt w' v l := h.kept hb.size fun k hk => hb.block k (h.lt k hk)
theorem Wt.slice' {w : World} {v : Value} {l : List Int} (h : Wt w v l) (n : Nat) (hn : l.length = n) : ∃ a cap, v = .slice a n cap ∧ Bs w a n l ∧ n ≤ cap ∧ cap ≤ maxLen ∧ (a = none → cap = 0) := by
  subst hn
  exact h.slice
theorem rof_wt (v : Value) (l : List Int) (w : World) (h : Wt w v l) (hl : l.length ≤ 60000) : Calls Try.prog 23 #[v] w fun e w' => e = .returned (.int .u32 (goS 1 l)) ∧ w' = w := by
  obtain ⟨a, c, rfl, hs, _⟩ := h.slice
  exact refof_any a _ c l w hl hs
theorem append_wt2 {w : World} {ops : Array Oper} {rest : List Oper} {o : Oper} {a : Act} {Q : Exit → Act → World → Prop} (hgd : o.guard = none) (s x : Operand)
    (ho : o.op = .call { callee := .builtin .append, args := #[s, x], argTypes := #[22, 22] })
    (v : Value) (l : List Int) (hs : a.eval s = v) (hw : Wt w v l) (u : Value) (k : List Int) (hx : a.eval x = u) (hu : Wt w u k) (hn : l.length + k.length ≤ 100000)
    (h : ∀ v' w', Wt w' v' (l ++ k) → w.grownBy w' v.ownBlock → (v'.ownBlock = v.ownBlock ∨ v'.ownBlock = some w.heap.size) → wpList Try.prog ops Q rest (a.put o.dst v') w') : wpList Try.prog ops Q (o :: rest) a w := by
  obtain ⟨ao, c, rfl, hb, _, _, hao⟩ := hu.slice
  exact append_wt hgd s x ho v l hs hw ao _ c k hx hao hb hn h
theorem two_len (n : Nat) : (two n).length = 2 := rfl
theorem four_len (s : Int) : (four s).length = 4 := rfl
theorem wt_empty (w : World) : Wt (w.alloc (.cells #[] 5)) (.slice (some ⟨w.heap.size, 0, none⟩) 0 0) [] := wt_made w [] (fun _ h => by cases h) (by decide)
theorem wt_marks (w : World) : Wt (w.alloc (.cells #[.int .u8 102, .int .u8 76] 5)) (.slice (some ⟨w.heap.size, 0, none⟩) 2 2) [102, 76] := wt_made w [102, 76] (by decide) (by decide)
/-- a row made since. -/
def Own (B : Nat) (v : Value) : Prop := ∀ k, v.ownBlock = some k → B ≤ k
theorem Own.mono {B B' : Nat} {v : Value} (h : Own B v) (hB : B' ≤ B) : Own B' v := fun k hk => Nat.le_trans hB (h k hk)
theorem own_at (B g off m c : Nat) (h : B ≤ g) : Own B (.slice (some ⟨g, off, none⟩) m c) := fun k hk => by cases hk; exact h
theorem Own.next {B n : Nat} {v v' : Value} (h : Own B v) (hn : B ≤ n) (ho : v'.ownBlock = v.ownBlock ∨ v'.ownBlock = some n) : Own B v' := fun k hk => by
  rcases ho with e | e
  · exact h k (by rw [← e]; exact hk)
  · rw [e] at hk; cases hk; exact hn

set_option maxHeartbeats 400000 in
theorem rframe_none (a : Option Addr) (cap : Nat) (w : World) : Calls Try.prog 11 #[.slice a 0 cap] w fun e w' => e = .returned (.tuple #[.slice none 0 0, .int .i64 10]) ∧ w' = w := by
  go_enter Try.func11, Try.ntmps11
  go_wp2
  go_ret2
  exact ⟨rfl, rfl⟩
set_option maxHeartbeats 400000 in
theorem rframe_long (a : Option Addr) (len cap : Nat) (w : World) (h : 512 < len) : Calls Try.prog 11 #[.slice a len cap] w fun e w' => e = .returned (.tuple #[.slice none 0 0, .int .i64 4]) ∧ w' = w := by
  go_enter Try.func11, Try.ntmps11
  go_wp2
  go_ret2
  exact ⟨rfl, rfl⟩
set_option maxHeartbeats 4000000 in
theorem rframe_any (a : Option Addr) (len cap : Nat) (l : List Int) (w : World) (h0 : 1 ≤ len) (h1 : len ≤ 512) (hb : Bs w a len l) :
    Calls Try.prog 11 #[.slice a len cap] w fun e w' => ∃ v, e = .returned (.tuple #[v, .int .i64 0]) ∧ Wt w' v (frm sm l) ∧ Below w.heap.size w w' ∧ Own w.heap.size v := by
  have hao : a = none → cap = 0 := by
    obtain ⟨b, off, rfl, _⟩ := hb.2.2 (by omega)
    intro h; cases h
  have hll := hb.1
  go_enter Try.func11, Try.ntmps11
  go_upto_region 6 with (go_at_call 22; refine (big_two len _ h1).mono ?_; rintro e w1 ⟨v1, rfl, hw1, hb1, ho1⟩)
  have we := wt_empty w1
  have hw1e : Wt (w1.alloc (.cells #[] 5)) v1 (two len) := hw1.over ((Below.refl _ _).alloc (Nat.le_refl _) _)
  go_upto_region 7 with (first
    | (refine append_wt2 rfl (.tmp 16) (.tmp 17) rfl (.slice (some ⟨w1.heap.size, 0, none⟩) 0 0) [] rfl we v1 (two len) rfl hw1e (by rw [two_len]; decide) ?_; intro v3 w3 hw3 hg3 ho3
       have hb3 : Below w1.heap.size w1 w3 := ((Below.refl _ _).alloc (Nat.le_refl _) _).grown hg3 (by simp) (fun k hk => by cases hk; exact Nat.le_refl _)
       have hO3 : Own w1.heap.size v3 := (own_at _ _ _ _ _ (Nat.le_refl _)).next (by simp) ho3
       have hB3 := hb1.trans (hb3.mono hb1.size))
    | (refine append_wt rfl (.tmp 18) (.tmp 19) rfl v3 _ rfl hw3 a len cap l rfl hao (hb.below hB3) (by rw [List.nil_append, two_len]; omega) ?_; intro v4 w4 hw4 hg4 ho4
       have hb4 : Below w1.heap.size w1 w4 := hb3.grown hg4 hb3.size hO3
       have hB4 := hb1.trans (hb4.mono hb1.size))
    | (go_at_call 23; refine (rof_wt _ _ _ hw4 (by rw [List.nil_append, List.length_append, two_len, hll]; omega)).mono ?_; rintro e w5 ⟨rfl, rfl⟩; have hsb := goS_bd 1 ([] ++ two len ++ l); generalize hsg : goS 1 ([] ++ two len ++ l) = s at hsb ⊢; obtain ⟨hsb0, hsb1⟩ := hsb; have HG : Hid (goS 1 ([] ++ two len ++ l) = s) := hsg; clear hsg))
  have wm := wt_marks w5
  have hw1m : Wt (w5.alloc (.cells #[.int .u8 102, .int .u8 76] 5)) v1 (two len) := hw1.over (hb4.alloc hb4.size _)
  go_upto_region 8 with
    (refine append_wt2 rfl (.tmp 22) (.tmp 23) rfl (.slice (some ⟨w5.heap.size, 0, none⟩) 2 2) [102, 76] rfl wm v1 (two len) rfl hw1m (by rw [two_len]; decide) ?_; intro v6 w6 hw6 hg6 ho6
     have hO6 : Own w.heap.size v6 := (own_at _ _ _ _ _ hB4.size).next (by have := hB4.size; simp; omega) ho6
     have hB6 : Below w.heap.size w w6 := (hB4.alloc hB4.size _).grown hg6 (by have := hB4.size; simp; omega) (fun k hk => by cases hk; exact hB4.size))
  go_upto_region 9 with (first
    | (go_at_call 22; refine (big_four s _ ⟨hsb0, hsb1⟩).mono ?_; rintro e w7 ⟨v7, rfl, hw7, hb7, ho7⟩
       have hB7 := hB6.trans (hb7.mono hB6.size)
       have hw67 := hw6.over hb7)
    | (refine append_wt2 rfl (.tmp 25) (.tmp 28) rfl v6 _ rfl hw67 v7 _ rfl hw7 (by rw [List.length_append, two_len, four_len]; decide) ?_; intro v8 w8 hw8 hg8 ho8
       have hO8 : Own w.heap.size v8 := hO6.next hB7.size ho8
       have hB8 : Below w.heap.size w w8 := hB7.grown hg8 hB7.size hO6))
  go_wp2_with
    (refine append_wt rfl (.tmp 30) (.tmp 31) rfl v8 _ rfl hw8 a len cap l rfl hao (hb.below hB8) (by rw [List.length_append, List.length_append, two_len, four_len]; simp only [List.length_cons, List.length_nil]; omega) ?_; intro v9 w9 hw9 hg9 ho9)
  go_ret2
  refine ⟨v9, rfl, ?_, hB8.grown hg9 hB8.size hO8, hO8.next hB8.size ho9⟩
  have e : frm sm l = [102, 76] ++ two len ++ four s ++ l := by rw [← HG.out]; simp [frm, hll, sm]
  rw [e]
  exact hw9

end Go.Proofs.Ytfjipaalelkpjaa
