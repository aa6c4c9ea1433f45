/-
  The law CheckSpoilt, walked: true for every program, place and way.
-/
import Derived.Test.YtfdnhdijogphiaaAwake
namespace Go.Proofs.Ytfdnhdijogphiaa
open Go.RowKit

theorem cellsI_set (l : List In) (i : Nat) (x : In) (hi : i < l.length) : ((((cellsI l).set (i * 4) (.int .u16 x.c)).set (i * 4 + 1) (.int .u8 x.t)).set (i * 4 + 2) (.int .u8 x.f)).set (i * 4 + 3) (.int .u32 x.k) = cellsI (l.set i x) := by
  induction l generalizing i with
  | nil => cases hi
  | cons y r ih =>
    cases i with
    | zero => rfl
    | succ i =>
      have e : ∀ j, (i + 1) * 4 + j = (i * 4 + j) + 1 + 1 + 1 + 1 := fun j => by omega
      show ((((y.cells ++ cellsI r).set ((i + 1) * 4) _).set ((i + 1) * 4 + 1) _).set ((i + 1) * 4 + 2) _).set ((i + 1) * 4 + 3) _ = y.cells ++ cellsI (r.set i x)
      rw [← ih i (by rw [List.length_cons] at hi; omega), show (i + 1) * 4 = i * 4 + 1 + 1 + 1 + 1 from by omega]
      rfl

theorem owns_set {w : World} {base g n cap : Nat} {l : List In} (h : w.ownsRow base 36 4 (.slice (some ⟨g, 0, none⟩) n cap) n (cellsI l)) (i : Nat) (x : In) (hi : i < l.length) :
    ((((w.setCell ⟨g, i * 4, none⟩ (.int .u16 x.c)).setCell ⟨g, i * 4 + 1, none⟩ (.int .u8 x.t)).setCell ⟨g, i * 4 + 2, none⟩ (.int .u8 x.f)).setCell ⟨g, i * 4 + 3, none⟩ (.int .u32 x.k)).ownsRow base 36 4 (.slice (some ⟨g, 0, none⟩) n cap) n (cellsI (l.set i x)) := by
  have h1 := (h.stored (i * 4) (.int .u16 x.c)).1
  have h2 := (h1.stored (i * 4 + 1) (.int .u8 x.t)).1
  have h3 := (h2.stored (i * 4 + 2) (.int .u8 x.f)).1
  have h4 := (h3.stored (i * 4 + 3) (.int .u32 x.k)).1
  rw [cellsI_set l i x hi] at h4
  exact h4

theorem owns_some {w : World} {base : Nat} {v : Value} {n : Nat} {l : List In} (h : w.ownsRow base 36 4 v n (cellsI l)) (hn : 0 < n) : ∃ g cap, v = .slice (some ⟨g, 0, none⟩) n cap ∧ base ≤ g ∧ w.ownsRow base 36 4 (.slice (some ⟨g, 0, none⟩) n cap) n (cellsI l) := by
  have h' := h
  rcases h.2 with ⟨rfl, rfl⟩ | ⟨g, cap, cur, rfl, hb, _⟩
  · omega
  · exact ⟨g, cap, rfl, hb, h'⟩

theorem owns_frozen {w : World} {base g n cap : Nat} {xs : List Value} (h : w.ownsRow base 36 4 (.slice (some ⟨g, 0, none⟩) n cap) n xs) (i : Nat) :
    w.frozen? ⟨g, i * 4, none⟩ = false ∧ w.frozen? ⟨g, i * 4 + 1, none⟩ = false ∧ w.frozen? ⟨g, i * 4 + 2, none⟩ = false ∧ w.frozen? ⟨g, i * 4 + 3, none⟩ = false :=
  ⟨h.frozenAt _, h.frozenAt _, h.frozenAt _, h.frozenAt _⟩

theorem owns_cells {w : World} {base g n cap : Nat} {l : List In} (h : w.ownsRow base 36 4 (.slice (some ⟨g, 0, none⟩) n cap) n (cellsI l)) (i : Nat) (hi : i < l.length) :
    w.cell? ⟨g, i * 4, none⟩ = some (.int .u16 l[i].c) ∧ w.cell? ⟨g, i * 4 + 1, none⟩ = some (.int .u8 l[i].t) ∧ w.cell? ⟨g, i * 4 + 2, none⟩ = some (.int .u8 l[i].f) ∧ w.cell? ⟨g, i * 4 + 3, none⟩ = some (.int .u32 l[i].k) := by
  have key : ∀ c u, c < 4 → l[i].cells[c]? = some u → w.cell? ⟨g, i * 4 + c, none⟩ = some u := by
    intro c u hc hu
    have := h.cells (g := g) rfl (i * 4 + c) u (by rw [cellsI_get l i l[i] c (List.getElem?_eq_getElem hi) hc]; exact hu)
    rw [Addr.add_lit, Nat.zero_add] at this
    exact this
  exact ⟨key 0 _ (by decide) rfl, key 1 _ (by decide) rfl, key 2 _ (by decide) rfl, key 3 _ (by decide) rfl⟩

/-- what Check tells of a program that was spoilt at a place. -/
theorem chk_spoilt (l : List In) (i : Nat) (x : In) (want : Int) (hi : i < l.length) (hl : l.length ≤ 4096) (hf : fault x (l.length - 1 - i) = want) (hw : want ≠ 0) :
    chk (l.set i x) = if (chk l).1 ≠ 0 ∧ (chk l).2 < i then chk l else (want, (i : Int)) := by
  have e1 : chk l = ff l 0 := by unfold chk; rw [if_neg (by omega), if_neg (by omega)]
  have e2 : chk (l.set i x) = ff (l.set i x) 0 := by unfold chk; rw [List.length_set, if_neg (by omega), if_neg (by omega)]
  rw [e1, e2, ff_set l 0 i x hi (by rw [hf]; exact hw), hf]
  rw [show (0 : Int) + (i : Int) = i from by omega]

set_option maxHeartbeats 1000000 in
theorem checkSpoilt_walk (a : Option Addr) (len cap : Nat) (ins : List In) (i : Int) (how : Bool) (w : World) (hlen : len ≤ maxLen) (hao : a = none → cap = 0) (h : Ins w a len ins) :
    Calls Try.prog 8 #[.slice a len cap, .int .i64 i, .bool how] w fun e w' => e = .returned (.bool true) ∧ Below w.heap.size w w' := by
  unfold maxLen at hlen
  by_cases h0 : i < 0
  · go_enter Try.func8, Try.ntmps8
    go_wp2_with (go_at_call 9; refine (awake_any _).mono ?_; rintro e w1 ⟨rfl, b1⟩)
    go_ret
    exact ⟨rfl, b1⟩
  · by_cases hz : len = 0
    · subst hz
      have h00 : 0 ≤ i := by omega
      go_enter Try.func8, Try.ntmps8
      go_wp2_with (go_at_call 9; refine (awake_any _).mono ?_; rintro e w1 ⟨rfl, b1⟩)
      go_ret
      exact ⟨rfl, b1⟩
    · have hz1 : ((len : Int) == 0) = false := by rw [beq_eq_false_iff_ne]; omega
      have hz2 : ¬ (len : Int) = 0 := by omega
      by_cases h4 : 4096 < len
      · have hd : decide ((4096 : Int) < (len : Int)) = true := by simp; omega
        have h00 : decide (i < 0) = false := by simp; omega
        go_enter Try.func8, Try.ntmps8
        go_wp2_with (go_at_call 9; refine (awake_any _).mono ?_; rintro e w1 ⟨rfl, b1⟩)
        go_ret
        exact ⟨rfl, b1⟩
      · have hd : decide ((4096 : Int) < (len : Int)) = false := by simp; omega
        obtain ⟨n, rfl⟩ := Int.eq_ofNat_of_zero_le (show 0 ≤ i by omega)
        have hm : n % len < len := Nat.mod_lt _ (by omega)
        have hr : Int.tmod (n : Int) (len : Int) = ((n % len : Nat) : Int) := by rw [Int.tmod_eq_emod_of_nonneg (by omega)]; rfl
        have hd0 : decide ((n : Int) < 0) = false := by simp
        generalize n % len = m at *
        have hll := h.1
        have hpos : (0 : Int) < len := by omega
        have HL : Hid (len ≤ 4096) := by unfold Hid; omega
        obtain ⟨b, off, rfl, -⟩ := h.2.2 (by omega)
        clear hao hlen
        have HC : Hid (∀ W : World, Ins W (some ⟨b, off, none⟩) len ins → Calls Try.prog 10 #[.slice (some ⟨b, off, none⟩) len cap] W fun e w' => Told W w' e (chk ins)) := fun W h => check_any _ len cap ins W (by have := HL.out; unfold maxLen; omega) h
        cases how with
        | false =>
          have HD : Hid (∀ (W : World) (a' : Option Addr) (c : Nat), Ins W a' len (ins.set m ⟨255, 0, 0, 0⟩) → Calls Try.prog 10 #[.slice a' len c] W fun e w' => Told W w' e (chk (ins.set m ⟨255, 0, 0, 0⟩))) := fun W a' c h => check_any a' len c _ W (by have := HL.out; unfold maxLen; omega) h
          have HS : Hid (chk (ins.set m ⟨255, 0, 0, 0⟩) = if (chk ins).1 ≠ 0 ∧ (chk ins).2 < m then chk ins else (11, (m : Int))) := chk_spoilt ins m ⟨255, 0, 0, 0⟩ 11 (by omega) (by omega) (fault_bad _) (by decide)
          have hok : Hid (∀ y ∈ ins.set m ⟨255, 0, 0, 0⟩, y.ok) := by
            intro y hy
            rcases List.mem_or_eq_of_mem_set hy with hy | rfl
            · exact h.2.1 y hy
            · unfold In.ok; decide
          generalize chk (ins.set m ⟨255, 0, 0, 0⟩) = q at *
          generalize chk ins = p at *
          obtain ⟨p1, p2⟩ := p
          obtain ⟨q1, q2⟩ := q
          go_enter Try.func8, Try.ntmps8
          go_wp2_with fail
          refine (awake_any _).mono ?_
          rintro e w1 ⟨rfl, b1⟩
          have h1 := h.below b1
          have hown : (w1.alloc (.cells #[] 36)).ownsRow w1.heap.size 36 4 (.slice (some ⟨w1.heap.size, 0, none⟩) 0 0) 0 (cellsI []) := World.ownsRow_lit w1 _ 0 (Nat.le_refl _) (by unfold maxLen; decide) rfl
          have hB := (Below.refl w1.heap.size w1).alloc (Nat.le_refl _) (Obj.cells #[] 36)
          have h2 := h1.below hB
          go_wp2_with (at_builtin; refine append_ins rfl (.tmp 32) (.tmp 33) rfl w1.heap.size _ 0 [] rfl hown _ len cap ins rfl (fun h => by cases h) h2 (by have := HL.out; omega) (by rw [size_alloc']; omega) ?_; intro v4 w4 ho4 hg4; rw [List.nil_append, Nat.zero_add] at ho4; have B4 := hB.grown hg4 hB.size (owns_block hown); obtain ⟨g, cap4, rfl, hgb, o4⟩ := owns_some ho4 (by omega); obtain ⟨f0, f1, f2, f3⟩ := owns_frozen o4 m; obtain ⟨k0, k1, k2, k3⟩ := owns_cells o4 m (by rw [h.1]; exact hm))
          have o5 := owns_set o4 m ⟨255, 0, 0, 0⟩ (by omega)
          have B5 := (((B4.setCell (p := ⟨g, m * 4, none⟩) hgb (.int .u16 255)).setCell (p := ⟨g, m * 4 + 1, none⟩) hgb (.int .u8 0)).setCell (p := ⟨g, m * 4 + 2, none⟩) hgb (.int .u8 0)).setCell (p := ⟨g, m * 4 + 3, none⟩) hgb (.int .u32 0)
          obtain ⟨a5, c5, e5, i5⟩ := owns_ins o5 hok.out
          cases e5
          have h3 := h1.below B5
          have c1 := b1.trans (B5.mono b1.size)
          refine (HD.out _ _ _ i5).mono ?_
          rintro e w5 ⟨rfl, b5⟩
          have h5 := h3.below b5
          have c2 := c1.trans (b5.mono c1.size)
          clear o4 ho4 hg4 hown f0 f1 f2 f3 k0 k1 k2 k3
          go_wp2_with fail
          refine (HC.out _ h5).mono ?_
          rintro e w6 ⟨rfl, b6⟩
          have c3 := c2.trans (b6.mono c2.size)
          clear HC HD
          by_cases hq : p1 ≠ 0 ∧ p2 < (m : Int)
          · have e1 := HS.out
            rw [if_pos hq] at e1
            cases e1
            have n1 : (p1 == 0) = false := by rw [beq_eq_false_iff_ne]; exact hq.1
            have n2 : decide (p2 < (m : Int)) = true := by simp [hq.2]
            have HQ : Hid (p1 ≠ 0 ∧ p2 < (m : Int)) := hq
            clear hq HS
            go_wp2
            all_goals
              go_ret
              first
              | (exfalso; have hq := HQ.out; omega)
              | exact ⟨by simp, c3⟩
          · have e1 := HS.out
            rw [if_neg hq] at e1
            cases e1
            clear HS
            by_cases hp : p1 = 0
            · subst hp
              go_wp2
              all_goals
                go_ret
                exact ⟨by simp, c3⟩
            · have n1 : (p1 == 0) = false := by rw [beq_eq_false_iff_ne]; exact hp
              have n2 : decide (p2 < (m : Int)) = false := by simp; omega
              clear hq
              go_wp2
              all_goals
                go_ret
                exact ⟨by simp, c3⟩
        | true =>
          have HD : Hid (∀ (W : World) (a' : Option Addr) (c : Nat), Ins W a' len (ins.set m ⟨5, 0, 0, 4294967295⟩) → Calls Try.prog 10 #[.slice a' len c] W fun e w' => Told W w' e (chk (ins.set m ⟨5, 0, 0, 4294967295⟩))) := fun W a' c h => check_any a' len c _ W (by have := HL.out; unfold maxLen; omega) h
          have HS : Hid (chk (ins.set m ⟨5, 0, 0, 4294967295⟩) = if (chk ins).1 ≠ 0 ∧ (chk ins).2 < m then chk ins else (14, (m : Int))) := chk_spoilt ins m ⟨5, 0, 0, 4294967295⟩ 14 (by omega) (by omega) (fault_far _ (by omega)) (by decide)
          have hok : Hid (∀ y ∈ ins.set m ⟨5, 0, 0, 4294967295⟩, y.ok) := by
            intro y hy
            rcases List.mem_or_eq_of_mem_set hy with hy | rfl
            · exact h.2.1 y hy
            · unfold In.ok; decide
          generalize chk (ins.set m ⟨5, 0, 0, 4294967295⟩) = q at *
          generalize chk ins = p at *
          obtain ⟨p1, p2⟩ := p
          obtain ⟨q1, q2⟩ := q
          go_enter Try.func8, Try.ntmps8
          go_wp2_with fail
          refine (awake_any _).mono ?_
          rintro e w1 ⟨rfl, b1⟩
          have h1 := h.below b1
          have hown : (w1.alloc (.cells #[] 36)).ownsRow w1.heap.size 36 4 (.slice (some ⟨w1.heap.size, 0, none⟩) 0 0) 0 (cellsI []) := World.ownsRow_lit w1 _ 0 (Nat.le_refl _) (by unfold maxLen; decide) rfl
          have hB := (Below.refl w1.heap.size w1).alloc (Nat.le_refl _) (Obj.cells #[] 36)
          have h2 := h1.below hB
          go_wp2_with (at_builtin; refine append_ins rfl (.tmp 32) (.tmp 33) rfl w1.heap.size _ 0 [] rfl hown _ len cap ins rfl (fun h => by cases h) h2 (by have := HL.out; omega) (by rw [size_alloc']; omega) ?_; intro v4 w4 ho4 hg4; rw [List.nil_append, Nat.zero_add] at ho4; have B4 := hB.grown hg4 hB.size (owns_block hown); obtain ⟨g, cap4, rfl, hgb, o4⟩ := owns_some ho4 (by omega); obtain ⟨f0, f1, f2, f3⟩ := owns_frozen o4 m; obtain ⟨k0, k1, k2, k3⟩ := owns_cells o4 m (by rw [h.1]; exact hm))
          have o5 := owns_set o4 m ⟨255, 0, 0, 0⟩ (by omega)
          have B5 := (((B4.setCell (p := ⟨g, m * 4, none⟩) hgb (.int .u16 255)).setCell (p := ⟨g, m * 4 + 1, none⟩) hgb (.int .u8 0)).setCell (p := ⟨g, m * 4 + 2, none⟩) hgb (.int .u8 0)).setCell (p := ⟨g, m * 4 + 3, none⟩) hgb (.int .u32 0)
          have o6 := owns_set o5 m ⟨5, 0, 0, 4294967295⟩ (by rw [List.length_set]; omega)
          rw [List.set_set] at o6
          have B6 := (((B5.setCell (p := ⟨g, m * 4, none⟩) hgb (.int .u16 5)).setCell (p := ⟨g, m * 4 + 1, none⟩) hgb (.int .u8 0)).setCell (p := ⟨g, m * 4 + 2, none⟩) hgb (.int .u8 0)).setCell (p := ⟨g, m * 4 + 3, none⟩) hgb (.int .u32 4294967295)
          obtain ⟨a5, c5, e5, i5⟩ := owns_ins o6 hok.out
          cases e5
          have h3 := h1.below B6
          have c1 := b1.trans (B6.mono b1.size)
          refine (HD.out _ _ _ i5).mono ?_
          rintro e w5 ⟨rfl, b5⟩
          have h5 := h3.below b5
          have c2 := c1.trans (b5.mono c1.size)
          clear o4 ho4 hg4 hown f0 f1 f2 f3 k0 k1 k2 k3
          go_wp2_with fail
          refine (HC.out _ h5).mono ?_
          rintro e w6 ⟨rfl, b6⟩
          have c3 := c2.trans (b6.mono c2.size)
          clear HC HD
          by_cases hq : p1 ≠ 0 ∧ p2 < (m : Int)
          · have e1 := HS.out
            rw [if_pos hq] at e1
            cases e1
            have n1 : (p1 == 0) = false := by rw [beq_eq_false_iff_ne]; exact hq.1
            have n2 : decide (p2 < (m : Int)) = true := by simp [hq.2]
            have HQ : Hid (p1 ≠ 0 ∧ p2 < (m : Int)) := hq
            clear hq HS
            go_wp2
            all_goals
              go_ret
              first
              | (exfalso; have hq := HQ.out; omega)
              | exact ⟨by simp, c3⟩
          · have e1 := HS.out
            rw [if_neg hq] at e1
            cases e1
            clear HS
            by_cases hp : p1 = 0
            · subst hp
              go_wp2
              all_goals
                go_ret
                exact ⟨by simp, c3⟩
            · have n1 : (p1 == 0) = false := by rw [beq_eq_false_iff_ne]; exact hp
              have n2 : decide (p2 < (m : Int)) = false := by simp; omega
              clear hq
              go_wp2
              all_goals
                go_ret
                exact ⟨by simp, c3⟩

end Go.Proofs.Ytfdnhdijogphiaa
