/-
  A new stack; two filters (awake).
-/
import Derived.Test.YtamioifoemklfaaStRun
namespace Go.Proofs.Ytamioifoemklfaa
open Go.RowKit

theorem stk_new (w : World) : StkV (w.alloc (Obj.cells #[.slice none 0 0, .slice none 0 0] 34)) w.heap.size (.slice none 0 0) (.slice none 0 0) [] := ⟨V.blk_new w _ _, own_nil _ _, ⟨rfl, .inl ⟨rfl, rfl⟩⟩⟩
theorem fl_of_own {w : World} {base : Nat} {v : Value} {l : List V.In} (h : w.ownsRow base 56 4 v l.length (V.cellsI l)) (hl : ∀ x ∈ l, x.ok) : FlV w v l := by
  obtain ⟨a, cap, rfl, hi⟩ := V.owns_ins h hl
  rcases h.2 with ⟨e, h0⟩ | ⟨g, c, cur, e, _, _, h1, h2, _⟩
  · simp at e
    exact ⟨a, cap, rfl, hi, by unfold maxLen; omega, by omega, fun _ => by omega⟩
  · simp at e
    exact ⟨a, cap, rfl, hi, by omega, by omega, fun hn => by rw [e.1] at hn; cases hn⟩
theorem fl_in (w : World) (c t f k : Int) (hx : (⟨c, t, f, k⟩ : V.In).ok) : FlV (w.alloc (Obj.cells #[.int .u16 c, .int .u8 t, .int .u8 f, .int .u32 k] 56)) (.slice (some ⟨w.heap.size, 0, none⟩) 1 1) [⟨c, t, f, k⟩] :=
  fl_of_own (l := [⟨c, t, f, k⟩]) (own_in w 0 (Nat.zero_le _) c t f k _ rfl) (fun x hx' => by rw [List.mem_singleton] at hx'; subst hx'; exact hx)
def dZero : V.Da := ⟨0, 0, 0, [0, 0, 0, 0, 0, 0]⟩
theorem dZero_ok : dZero.ok := ⟨⟨by decide, by decide⟩, ⟨by decide, by decide⟩, ⟨by decide, by decide⟩, rfl, fun z hz => by simp [dZero] at hz; subst hz; exact ⟨by decide, by decide⟩⟩
/-- an attached filter: what is there then. -/
theorem AttT.yes {X Y : World} {b : Nat} {vc ve : Value} {ls : List (List V.In)} {l : List V.In} {e : Ending} (h : AttT X b vc ve ls l e Y) (h0 : attE ls l = 0) : e = .returned (.int .i64 0) ∧ X.grownBy Y (some b) ∧ ∃ vc' ve', StkV Y b vc' ve' (ls ++ [l]) := by
  obtain ⟨rfl, h2, h3⟩ := h
  refine ⟨by rw [h0], h2, ?_⟩
  rcases h3 with ⟨h4, _⟩ | ⟨_, vc', ve', h5, _⟩
  · exact absurd h0 h4
  · exact ⟨vc', ve', h5⟩
/-- whatever becomes of it: what is there then. -/
theorem AttT.any {X Y : World} {b : Nat} {vc ve : Value} {ls : List (List V.In)} {l : List V.In} {e : Ending} (h : AttT X b vc ve ls l e Y) : e = .returned (.int .i64 (attE ls l)) ∧ X.grownBy Y (some b) ∧ ∃ vc' ve', StkV Y b vc' ve' (attL ls l) := by
  obtain ⟨rfl, h2, h3⟩ := h
  refine ⟨rfl, h2, ?_⟩
  unfold attL
  rcases h3 with ⟨h4, h5⟩ | ⟨h4, vc', ve', h5, _⟩
  · rw [if_neg h4]
    exact ⟨_, _, h5⟩
  · rw [if_pos h4]
    exact ⟨_, _, h5⟩

set_option maxRecDepth 8000 in
set_option maxHeartbeats 4000000 in
theorem awake_any (X : World) : Calls Try.prog 8 #[] X fun e w' => e = .returned (.bool true) ∧ Below X.heap.size X w' := by
  obtain ⟨f1, hf1⟩ : ∃ f : List V.In, f = [⟨6, 0, 0, 2147418112⟩] := ⟨_, rfl⟩
  obtain ⟨f2, hf2⟩ : ∃ f : List V.In, f = [⟨6, 0, 0, 327681⟩] := ⟨_, rfl⟩
  have K1 : Hid (attE [] f1 = 0 ∧ OkS [f1] ∧ attE [f1] f2 = 0 ∧ OkS [f1, f2]) := by
    have e1 : attE [] f1 = 0 := by rw [hf1]; kernel_rfl
    have ok1 : OkS [f1] := okS_att okS_nil (fun x hx => by rw [hf1, List.mem_singleton] at hx; subst hx; unfold V.In.ok; decide) e1
    have e2 : attE [f1] f2 = 0 := by rw [hf1, hf2]; kernel_rfl
    exact ⟨e1, ok1, e2, okS_att ok1 (fun x hx => by rw [hf2, List.mem_singleton] at hx; subst hx; unfold V.In.ok; decide) e2⟩
  have K2 : Hid (A.most (ansL [f1, f2] dZero) = 327681 ∧ plN (ansL [f1, f2] dZero) = 1 ∧ costL [f1, f2] = 10) := by
    rw [hf1, hf2]
    exact ⟨by kernel_rfl, by kernel_rfl, by kernel_rfl⟩
  have HN : Hid (StkV (X.alloc (Obj.cells #[.slice none 0 0, .slice none 0 0] 34)) X.heap.size (.slice none 0 0) (.slice none 0 0) [] ∧ Below X.heap.size X (X.alloc (Obj.cells #[.slice none 0 0, .slice none 0 0] 34))) := ⟨stk_new X, below_new X _⟩
  have HF1 : Hid (∀ W : World, FlV (W.alloc (Obj.cells #[.int .u16 6, .int .u8 0, .int .u8 0, .int .u32 2147418112] 56)) (.slice (some ⟨W.heap.size, 0, none⟩) 1 1) f1) := fun W => by rw [hf1]; exact fl_in W 6 0 0 2147418112 (by unfold V.In.ok; decide)
  have HF2 : Hid (∀ W : World, FlV (W.alloc (Obj.cells #[.int .u16 6, .int .u8 0, .int .u8 0, .int .u32 327681] 56)) (.slice (some ⟨W.heap.size, 0, none⟩) 1 1) f2) := fun W => by rw [hf2]; exact fl_in W 6 0 0 327681 (by unfold V.In.ok; decide)
  clear hf1 hf2
  go_enter Try.func8, Try.ntmps8
  go_upto_region 2 with fail
  generalize (X.alloc (Obj.cells #[.slice none 0 0, .slice none 0 0] 34)) = X1 at *
  have H1 : Hid (Calls Try.prog 10 #[.pointer (some ⟨X.heap.size, 0, none⟩), .slice (some ⟨X1.heap.size, 0, none⟩) 1 1] (X1.alloc (Obj.cells #[.int .u16 6, .int .u8 0, .int .u8 0, .int .u32 2147418112] 56)) fun e Y => AttT _ X.heap.size _ _ [] f1 e Y) := attach_any _ X.heap.size _ _ _ [] f1 (HN.out.1.over (below_new _ _)) okS_nil (HF1.out X1)
  have HB1 : Hid (Below X.heap.size X (X1.alloc (Obj.cells #[.int .u16 6, .int .u8 0, .int .u8 0, .int .u32 2147418112] 56))) := HN.out.2.trans ((below_new _ _).mono HN.out.2.size)
  go_upto_region 3 with (first | (go_at_call 10; refine H1.out.mono ?_; rintro e w2 h2; obtain ⟨rfl, g2, vc2, ve2, s2⟩ := h2.yes K1.out.1))
  have HB2 : Hid (Below X.heap.size X w2) := HB1.out.trans (grown_below g2 (Nat.le_refl _) HB1.out.size)
  have H2 : Hid (Calls Try.prog 10 #[.pointer (some ⟨X.heap.size, 0, none⟩), .slice (some ⟨w2.heap.size, 0, none⟩) 1 1] (w2.alloc (Obj.cells #[.int .u16 6, .int .u8 0, .int .u8 0, .int .u32 327681] 56)) fun e Y => AttT _ X.heap.size _ _ [f1] f2 e Y) := attach_any _ X.heap.size _ _ _ [f1] f2 (s2.over (below_new _ _)) K1.out.2.1 (HF2.out w2)
  have HB3 : Hid (Below X.heap.size X (w2.alloc (Obj.cells #[.int .u16 6, .int .u8 0, .int .u8 0, .int .u32 327681] 56))) := HB2.out.trans ((below_new _ _).mono HB2.out.size)
  clear h2 g2 s2
  go_upto_region 4 with (first | (go_at_call 10; refine H2.out.mono ?_; rintro e w4 h4; obtain ⟨rfl, g4, vc4, ve4, s4⟩ := h4.yes K1.out.2.2.1))
  have HB4 : Hid (Below X.heap.size X w4) := HB3.out.trans (grown_below g4 (Nat.le_refl _) HB3.out.size)
  have HR : Hid (Calls Try.prog 15 #[.pointer (some ⟨X.heap.size, 0, none⟩), .agg #[.int .u32 0, .int .u32 0, .int .u64 0, .int .u64 0, .int .u64 0, .int .u64 0, .int .u64 0, .int .u64 0, .int .u64 0]] w4 fun e w' => e = .returned (.tuple #[.int .u32 327681, .int .i64 1]) ∧ Below w4.heap.size w4 w') := by
    have := run_any w4 X.heap.size vc4 ve4 [f1, f2] dZero s4 K1.out.2.2.2 dZero_ok
    rw [K2.out.1, K2.out.2.1] at this
    exact this
  have HS5 : Hid (∀ W, Below w4.heap.size w4 W → StkV W X.heap.size vc4 ve4 [f1, f2]) := fun W hW => s4.over hW
  have HLn : Hid (∀ W, Below w4.heap.size w4 W → Calls Try.prog 12 #[.pointer (some ⟨X.heap.size, 0, none⟩)] W fun e w' => e = .returned (.int .i64 2) ∧ w' = W) := fun W hW => len_any W X.heap.size vc4 ve4 [f1, f2] (HS5.out W hW)
  have HCo : Hid (∀ W, Below w4.heap.size w4 W → Calls Try.prog 13 #[.pointer (some ⟨X.heap.size, 0, none⟩)] W fun e w' => e = .returned (.int .i64 10) ∧ Below W.heap.size W w') := fun W hW => by
    have hc := K2.out.2.2
    have := cost_any W X.heap.size vc4 ve4 [f1, f2] (HS5.out W hW) (by rw [cost_flat] at hc; omega) (by simp)
    rw [hc] at this
    exact this
  clear h4 g4 s4
  go_wp2_with (first | (go_at_call 15; refine HR.out.mono ?_; rintro e w5 ⟨rfl, b5⟩) | (go_at_call 12; refine (HLn.out _ b5).mono ?_; rintro e w6 ⟨rfl, rfl⟩) | (go_at_call 13; refine (HCo.out _ b5).mono ?_; rintro e w7 ⟨rfl, b7⟩))
  go_ret
  have b57 := b5.trans (b7.mono b5.size)
  exact ⟨rfl, HB4.out.trans (b57.mono HB4.out.size)⟩

end Go.Proofs.Ytamioifoemklfaa
