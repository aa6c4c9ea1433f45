/-
  For every slice of bytes and every byte the law SumWindow returns true: a window's sum, rolled on by a byte, is that of the window a byte further on.
-/
import Derived.Test.YtfjehpfpgefmfaaAwake
import Derived.Test.YtfjehpfpgefmfaaArgs
import Derived.Test.YtfjehpfpgefmfaaJoin
import Derived.Test.YtfjehpfpgefmfaaShift
import Derived.Deep.QuietTactic
import Derived.BigQuiet
import Derived.Deep.RegionWith
import Derived.WalkKit
import Derived.ProofKit
import Derived.OpenShut
import Derived.ShutString
import Derived.ChangeOld
import Derived.Below
namespace Go.Proofs.Ytfjehpfpgefmfaa.sumWindow
open Go.ChangeShapes Go.WideShapes Go.ChangeAt Go.RowKit
open Go.ChangeMaps (open_string shut_string)
set_option linter.unusedVariables false

theorem own : ownKnob Try.prog.godebug = none := by kernel_rfl
theorem laidOut : laidOutB Try.prog = true := by kernel_rfl

set_option maxHeartbeats 400000 in
theorem walk (a0 : Option Addr) (len0 cap0 : Nat) (z0 : List Int) (a1 : Int) (w : World) (w0 : IsRow .u8 w a0 len0 cap0 z0) (w1 : (Lit.int .u8 a1).wf = true) :
    Calls Try.prog 7 #[.slice a0 len0 cap0, .int .u8 a1] w fun e w' => e = .returned (.bool true) ∧ Below w.heap.size w w' := by
  have hb0 := w0.bs
  have hn0 := w0.bare
  obtain ⟨c0, c1⟩ := bounds_u8 w1
  by_cases hz : len0 = 0
  · subst hz
    clear hb0 hn0
    go_enter Try.func7, Try.ntmps7
    go_wp2_with (go_at_call 9; refine (awake_any _).mono ?_; rintro e w1 ⟨rfl, hbel⟩)
    go_ret
    exact ⟨rfl, hbel⟩
  have hne : ((len0 : Int) == 0) = false := by simp; omega
  by_cases hl : 20000 < len0
  · clear hb0 hn0
    go_enter Try.func7, Try.ntmps7
    go_wp2_with (go_at_call 9; refine (awake_any _).mono ?_; rintro e w1 ⟨rfl, hbel⟩)
    go_ret
    exact ⟨rfl, hbel⟩
  · obtain ⟨m, rfl⟩ : ∃ m, len0 = m + 1 := ⟨len0 - 1, by omega⟩
    obtain ⟨b, off, rfl, _⟩ := hb0.2.2 (by omega)
    have hmc : m + 1 ≤ cap0 := by rcases w0 with ⟨h, _⟩ | ⟨_, _, h, _⟩; cases h; exact h
    have hlen := hb0.1
    generalize z0.take (m + 1) = L at hb0 hlen
    match L, hlen with
    | hd :: tl, hlen =>
    have htl : tl.length = m := by simpa using hlen
    have HR : Hid (rollS (goS 1 (hd :: tl)) ((m : Int) + 1) hd a1 = goS 1 (tl ++ [a1])) := roll_right hd a1 tl m htl (by omega)
    have hm : m < 20000 := by omega
    have hd01 := hb0.2.1 hd (List.mem_cons_self ..)
    clear hn0 hz hlen htl w0 hne hl
    have hne : (((m + 1 : Nat) : Int) == 0) = false := by simp; omega
    have hl : ¬ 20000 < m + 1 := by omega
    by_cases hc1 : cap0 = 1
    · subst hc1
      obtain rfl : m = 0 := by omega
      obtain rfl : tl = [] := List.eq_nil_of_length_eq_zero (by have := hb0.1; simpa using this)
      have HR1 : Hid (rollS (goS 1 [hd]) 1 hd a1 = goS 1 [a1]) := HR
      clear HR  hmc hm
      go_enter Try.func7, Try.ntmps7
      go_wp2_with fail
      refine (awake_any _).mono ?_
      rintro e x1 ⟨rfl, hbel⟩
      have ha := hb0.below hbel
      have e1 : Below x1.heap.size x1 (x1.alloc (Obj.cells #[] 5)) := (Below.refl _ _).alloc (Nat.le_refl _) _
      go_wp2_with (first | (at_builtin; (refine append_bytes rfl (.tmp 17) (.tmp 19) rfl x1.heap.size _ 0 [] rfl (owns_empty x1) (some ⟨b, off, none⟩) 0 0 [] rfl (by intro h; cases h) ⟨rfl, by simp, fun h => absurd h (by omega)⟩ (by omega) (by simp) ?_); intro v2 x2 ho2 hg2; have e2 := e1.grown hg2 (by simp) (by intro k hk; cases hk; exact Nat.le_refl _)) | (at_builtin; (refine append_bytes rfl (.tmp 20) (.tmp 22) rfl x1.heap.size _ (0 + 0) _ rfl (ho2.alloc _) (some ⟨x2.heap.size, 0, none⟩) 1 1 [a1] rfl (by intro h; cases h) (Bs.one x2 a1 c0 c1) (by omega) (by simp; have := e2.size; omega) ?_); intro v3 x3 ho3 hg3))
      have e3 := (e2.alloc e2.size _).grown hg3 (by simp; have := e2.size; omega) (owns_block ho2)
      obtain ⟨a3, c3, rfl, hc⟩ := owns_bs ho3 (by
        intro z hz
        simp at hz; subst hz; exact ⟨c0, c1⟩)
      simp only [List.nil_append] at hc
      have e3w : Below w.heap.size w x3 := hbel.trans (e3.mono hbel.size)
      have ha3 := ha.below e3
      have hh3 := ha3.head
      clear hg2 hg3 ho2 ho3 e1 e2 e3
      have gb := goS_bd 1 [hd]
      obtain ⟨d0, d1⟩ := hd01
      go_quiet ((first | (go_at_call_of 10 off; exact Calls.quiet_of_same (of_any _ _ _ _ _ (by omega) (ha3.drewN _))) | (go_at_call_of 10 a3; exact Calls.quiet_of_same (of_any _ _ _ _ _ (by omega) (hc.drewN _))) | (go_at_call 14; exact Calls.quiet_of_same (roll_any _ _ _ _ _ gb.1 gb.2 d0 d1 c0 c1))))
      rw [HR1.out]
      go_wp2
      go_ret
      refine ⟨?_, e3w.trans (by exact ⟨rfl, rfl, rfl, Nat.le_refl _, fun _ _ => rfl⟩)⟩
      simp
    · obtain ⟨c, rfl⟩ : ∃ c, cap0 = c + 2 := ⟨cap0 - 2, by omega⟩
      clear hc1
      go_enter Try.func7, Try.ntmps7
      go_wp2_with fail
      refine (awake_any _).mono ?_
      rintro e x1 ⟨rfl, hbel⟩
      have ha := hb0.below hbel
      have e1 : Below x1.heap.size x1 (x1.alloc (Obj.cells #[] 5)) := (Below.refl _ _).alloc (Nat.le_refl _) _
      go_wp2_with (first | (at_builtin; (refine append_bytes rfl (.tmp 17) (.tmp 19) rfl x1.heap.size _ 0 [] rfl (owns_empty x1) (some ⟨b, off + 1, none⟩) m (c + 1) tl rfl (by intro h; cases h) (ha.below e1).tail (by omega) (by simp) ?_); intro v2 x2 ho2 hg2; have e2 := e1.grown hg2 (by simp) (by intro k hk; cases hk; exact Nat.le_refl _)) | (at_builtin; (refine append_bytes rfl (.tmp 20) (.tmp 22) rfl x1.heap.size _ (0 + m) _ rfl (ho2.alloc _) (some ⟨x2.heap.size, 0, none⟩) 1 1 [a1] rfl (by intro h; cases h) (Bs.one x2 a1 c0 c1) (by omega) (by simp; have := e2.size; omega) ?_); intro v3 x3 ho3 hg3))
      · go_ret
        exact ⟨rfl, hbel⟩
      have e3 := (e2.alloc e2.size _).grown hg3 (by simp; have := e2.size; omega) (owns_block ho2)
      obtain ⟨a3, c3, rfl, hc⟩ := owns_bs ho3 (by
        intro z hz
        rw [List.nil_append, List.mem_append] at hz
        rcases hz with hz | hz
        · exact hb0.2.1 z (List.mem_cons_of_mem _ hz)
        · simp at hz; subst hz; exact ⟨c0, c1⟩)
      rw [Nat.zero_add, List.nil_append] at hc
      have e3w : Below w.heap.size w x3 := hbel.trans (e3.mono hbel.size)
      have ha3 := ha.below e3
      have hh3 := ha3.head
      clear hg2 hg3 ho2 ho3 e1 e2 e3 hne hl
      have gb := goS_bd 1 (hd :: tl)
      obtain ⟨d0, d1⟩ := hd01
      go_quiet ((first | (go_at_call_of 10 off; exact Calls.quiet_of_same (of_any _ _ _ _ _ (by omega) (ha3.drewN _))) | (go_at_call_of 10 a3; exact Calls.quiet_of_same (of_any _ _ _ _ _ (by omega) (hc.drewN _))) | (go_at_call 14; exact Calls.quiet_of_same (roll_any _ _ _ _ _ gb.1 gb.2 d0 d1 c0 c1))))
      rw [HR.out]
      go_wp2
      go_ret
      refine ⟨?_, e3w.trans (by exact ⟨rfl, rfl, rfl, Nat.le_refl _, fun _ _ => rfl⟩)⟩
      simp

/-! the row, out of the walk. -/
set_option maxRecDepth 100000 in
theorem lifted (os : Os) (started : os.Started) (H : Type) (enc : TypeId × Value → H) :
    ReturnsInHanded {} Try.checked os 7 .any (Rows.sumWindowSpec.pre6 enc Try.prog Try.f7 Rows.sumWindowRow.domain false) (Rows.sumWindowSpec.post enc Try.prog Try.f7 false true false false) := by
  refine returnsInHanded_of_change (C := Try.checked) own started (by kernel_rfl) Try.func7
    (ChangeSpec.witness6 (enc := enc) (C := Try.checked) false ⟨#[], #[.slice none 0 0, .int .u8 0], []⟩ 8 (by kernel_rfl) (by kernel_rfl) (by kernel_rfl) (by kernel_rfl)) ?_
  intro W base args ds gs before hval0 hW hcnd _
  have hval : ∀ (j : Nat) t v, Try.f7.params[j]? = some t → args[j]? = some v → Value.okWide Try.prog W .any base t v := hval0
  have hW' := hW
  obtain ⟨p, q, hA0, hV, rfl, hfz, hnd⟩ := hW
  have hA : DataW.TrodAll enc Try.prog W 0 (fun _ => true) true Try.f7.params.toList args.toList ds p := hA0
  rw [Try.params7] at hA hval
  obtain ⟨v0, vs0, d0, ds0, p0, q0, hargs, rfl, rfl, h0, r0⟩ := trodAll_cons hA
  obtain ⟨v1, vs1, d1, ds1, p1, q1, rfl, rfl, rfl, h1, r1⟩ := trodAll_cons r0
  obtain ⟨rfl, rfl, rfl⟩ := trodAll_nil r1
  obtain rfl : args = #[v0, v1] := by cases args; simp_all
  obtain ⟨rfl, rfl⟩ := trodVars_none hV
  obtain ⟨a0, len0, cap0, rfl⟩ := okWide_slice Try.underlying22 (hval 0 22 v0 rfl rfl)
  have k0 := h0
  have lt0 : ∀ x ∈ p0, x.block < W.heap.size := by obtain ⟨m, hm⟩ := k0; exact DataW.trod_lt m _ _ _ hm
  obtain ⟨z0, w0⟩ : ∃ zs, IsRow .u8 W a0 len0 cap0 zs := by
    obtain ⟨fuel, hf⟩ := h0
    rcases open_ints Try.underlying22 Try.underlying5 (by kernel_rfl) hf with ⟨hcs, _⟩ | ⟨x, l, c, zs, hcs, _, hl, hm, hz, _, hcell, hwz⟩
    · simp [Value.cells] at hcs
      obtain ⟨rfl, rfl, rfl⟩ := hcs
      exact ⟨[], .inl ⟨rfl, rfl, rfl, rfl⟩⟩
    · simp [Value.cells] at hcs
      obtain ⟨rfl, rfl, rfl⟩ := hcs
      exact ⟨zs, .inr ⟨_, rfl, hl, hm, by simpa using hz, hcell, hwz⟩⟩
  obtain ⟨a1, rfl, rfl, rfl, w1⟩ := open_int Try.underlying5 (hval 1 5 v1 rfl rfl) h1
  clear hA0 hval0
  refine (walk a0 len0 cap0 z0 a1 W w0 w1).mono fun e W' ⟨he, bel⟩ => ?_
  subst he
  exact ⟨_, rfl, _, _, _, [], _, [], hW', trodAll_mk1 (shut_bool Try.underlying4 _), (trodAll_cons_mk (Below.trod laidOut (by kernel_rfl) (of_decide_eq_true (by kernel_rfl)) k0 bel lt0) (trodAll_cons_mk (shut_int Try.underlying5 w1) trodAll_mk0)), rfl, bel.frame _, fun h => by cases h⟩

theorem over : Rows.sumWindowRow.holds Try.pinned (OpenSpec.ofChange Rows.sumWindowSpec) :=
  OpenClaim.holds_of_wide 7 Try.f7 rfl rfl rfl rfl rfl rfl rfl ⟨rfl, rfl, rfl, rfl, rfl⟩ rfl rfl rfl rfl rfl (by kernel_rfl) Try.func7 (by kernel_rfl)
    (of_decide_eq_true (by kernel_rfl)) (by unfold Func.isWrapper; first | (rw [if_pos (by decide +kernel)]; kernel_rfl) | (rw [if_neg (by decide +kernel)]; exact ⟨rfl, rfl⟩))
    (fun os started H enc _ => lifted os started H enc)

end Go.Proofs.Ytfjehpfpgefmfaa.sumWindow

namespace Go.Proofs.Ytfjehpfpgefmfaa
/-- the statement. -/
theorem sumWindow_holds : Rows.SumWindowSaid := sumWindow.over
#print axioms sumWindow_holds
end Go.Proofs.Ytfjehpfpgefmfaa
