/-
  The document's answer: where blanks end.
-/
import Derived.Test.YtdjjlccpmfhkiaaDoorRef
namespace Go.Proofs.YtdjjlccpmfhkiaaDoor
open Go.RowKit

/-- blanks alone stand from one place to another. -/
def Gone (s : ByteArray) (p n : Nat) : Prop := p ≤ n ∧ n ≤ s.size ∧ go 0 p ((lst s).drop p) = go 0 n ((lst s).drop n)

/-- .. and no further. -/
def Skp (s : ByteArray) (p n : Nat) : Prop := Gone s p n ∧ ∀ h : n < s.size, blN (s[n]'h).toNat = false ∧ ¬ (s[n]'h).toNat = 35

/-- within a note. -/
def InNote (s : ByteArray) (p k j : Nat) : Prop := Gone s p k ∧ k ≤ j ∧ j ≤ s.size ∧ go 0 k ((lst s).drop k) = go (((lst s).drop j).takeWhile ofN).length j ((lst s).drop j)

theorem Gone.blank {s : ByteArray} {p n : Nat} (h : Gone s p n) (hn : n < s.size) (hb : blN (s[n]'hn).toNat = true) : Gone s p (n + 1) := by
  refine ⟨by have := h.1; omega, hn, ?_⟩
  rw [h.2.2, drop_cons s n hn, go_blank hb]

theorem Gone.note {s : ByteArray} {p n : Nat} (h : Gone s p n) (hn : n < s.size) (hb : (s[n]'hn).toNat = 35) : InNote s p n n := by
  refine ⟨h, Nat.le_refl _, h.2.1, ?_⟩
  rw [drop_cons s n hn, go_note hb]

theorem InNote.step {s : ByteArray} {p k j : Nat} (h : InNote s p k j) (hj : j < s.size) (hb : noN (s[j]'hj).toNat = true) : InNote s p k (j + 1) := by
  refine ⟨h.1, by have := h.2.1; omega, hj, ?_⟩
  rw [h.2.2.2, drop_cons s j hj, List.takeWhile_cons, if_pos (show ofN _ = true from hb), List.length_cons, go_over (Nat.succ_pos _)]
  rfl

theorem InNote.fin {s : ByteArray} {p k j : Nat} (h : InNote s p k j) (hb : ∀ hj : j < s.size, noN (s[j]'hj).toNat = false) : Gone s p j := by
  refine ⟨Nat.le_trans h.1.1 h.2.1, h.2.2.1, ?_⟩
  rw [h.1.2.2, h.2.2.2]
  rcases Nat.lt_or_ge j s.size with hj | hj
  · rw [drop_cons s j hj, List.takeWhile_cons, if_neg (by show ¬ noN _ = true; rw [hb hj]; decide)]
    rfl
  · rw [List.drop_eq_nil_of_le (by rw [lst_length]; exact hj)]
    rfl

set_option maxHeartbeats 2000000 in
theorem skip_any (s : ByteArray) (p : Nat) (w : World) (hs : s.size ≤ 100000000) (hp : p ≤ s.size) :
    Calls Tryd.prog 34 #[.string s, .int .i64 p] w fun e w' => (∃ n : Nat, e = .returned (.int .i64 n) ∧ Skp s p n) ∧ w' = w := by
  go_enter Tryd.func34, Tryd.ntmps34
  go_wp2
  go_loop [1, 4] (fun i r => ∃ k : Nat, i = .int .i64 k ∧ k ≤ s.size ∧ Hid (Gone s p k)) (fun i _ => s.size - (intOf i).toNat)
  case atStart => exact ⟨p, rfl, hp, Nat.le_refl _, hp, rfl⟩
  case round =>
    obtain ⟨k, rfl, hk, HG⟩ := hrel
    by_cases hlt : k < s.size
    · by_cases h35 : (s[k]'hlt).toNat = 35
      · have HN : Hid (InNote s p k k) := HG.out.note hlt h35
        have e35 : (((s[k]'hlt).toNat : Int) == 35) = true := by rw [h35]; rfl
        have H35 : Hid (noN (s[k]'hlt).toNat = true) := by show _ = _; rw [h35]; rfl
        clear h35
        go_wp2
        go_loop [1] (fun i => ∃ j : Nat, i = .int .i64 j ∧ j ≤ s.size ∧ Hid (InNote s p k j)) (fun i => s.size - (intOf i).toNat)
        case atStart => exact ⟨k, rfl, hk, HN⟩
        case round =>
          obtain ⟨j, rfl, hj, HJ⟩ := hrel
          by_cases hjl : j < s.size
          · rcases Bool.eq_false_or_eq_true (noN (s[j]'hjl).toNat) with hq | hq
            · have e10 : (((s[j]'hjl).toNat : Int) == 10) = false := by
                exact (ib (k := 10) (m := 10) rfl).trans (by simpa [noN] using hq)
              have HQ : Hid (InNote s p k (j + 1)) := HJ.out.step hjl hq
              clear hq
              go_wp2
              go_round
              case rel => exact ⟨j + 1, by go_num, by omega, HQ⟩
              case measure => simp [intOf]; omega
            · have e10 : (((s[j]'hjl).toNat : Int) == 10) = true := by
                exact (ib (k := 10) (m := 10) rfl).trans (by simpa [noN] using hq)
              have HQ : Hid (Gone s p j) := HJ.out.fin (fun _ => hq)
              have hkj : k < j := by
                have := HJ.out.2.1
                rcases Nat.lt_or_ge k j with h | h
                · exact h
                · obtain rfl : j = k := by omega
                  have := H35.out
                  rw [hq] at this
                  cases this
              clear hq
              go_wp2
              go_round
              case rel => exact ⟨j, rfl, hj, HQ⟩
              case measure => simp [intOf]; omega
          · have HQ : Hid (Gone s p j) := HJ.out.fin (fun h => absurd h hjl)
            have hjl2 : ¬ (j : Int) < s.size := by omega
            go_wp2
            go_round
            case rel => exact ⟨j, rfl, hj, HQ⟩
            case measure => simp [intOf]; omega
      · have e35 : (((s[k]'hlt).toNat : Int) == 35) = false := by
          exact (ib (k := 35) (m := 35) rfl).trans (by simpa using h35)
        rcases Bool.eq_false_or_eq_true (blN (s[k]'hlt).toNat) with hq | hq
        · have HQ : Hid (Gone s p (k + 1)) := HG.out.blank hlt hq
          unfold blN at hq
          by_cases h1 : (s[k]'hlt).toNat = 9
          · have e9 : ((s[k]'hlt).toNat : Int) = 9 := by omega
            clear h1 e35
            clear hq h35
            go_wp2
            go_round
            case rel => exact ⟨k + 1, by go_num, by omega, HQ⟩
            case measure => simp [intOf]; omega
          · have f9 : ¬ ((s[k]'hlt).toNat : Int) = 9 := by omega
            by_cases h2 : (s[k]'hlt).toNat = 10
            · have e10 : ((s[k]'hlt).toNat : Int) = 10 := by omega
              clear h1 h2 e35 f9
              clear hq h35
              go_wp2
              go_round
              case rel => exact ⟨k + 1, by go_num, by omega, HQ⟩
              case measure => simp [intOf]; omega
            · have f10 : ¬ ((s[k]'hlt).toNat : Int) = 10 := by omega
              by_cases h3 : (s[k]'hlt).toNat = 13
              · have e13 : ((s[k]'hlt).toNat : Int) = 13 := by omega
                clear h1 h2 h3 e35 f9 f10
                clear hq h35
                go_wp2
                go_round
                case rel => exact ⟨k + 1, by go_num, by omega, HQ⟩
                case measure => simp [intOf]; omega
              · have e32 : ((s[k]'hlt).toNat : Int) = 32 := by
                  simp [h1, h2, h3] at hq
                  omega
                clear h1 h2 h3 e35 f9 f10
                clear hq h35
                go_wp2
                go_round
                case rel => exact ⟨k + 1, by go_num, by omega, HQ⟩
                case measure => simp [intOf]; omega
        · have HQ : Hid (Skp s p k) := ⟨HG.out, fun _ => ⟨hq, h35⟩⟩
          unfold blN at hq
          simp at hq
          obtain ⟨⟨⟨h1, h2⟩, h3⟩, h4⟩ := hq
          have f9 : ¬ ((s[k]'hlt).toNat : Int) = 9 := by omega
          have g9 : (((s[k]'hlt).toNat : Int) != 9) = true := by rw [bne_iff_ne]; exact f9
          have f10 : ¬ ((s[k]'hlt).toNat : Int) = 10 := by omega
          have g10 : (((s[k]'hlt).toNat : Int) != 10) = true := by rw [bne_iff_ne]; exact f10
          have f13 : ¬ ((s[k]'hlt).toNat : Int) = 13 := by omega
          have g13 : (((s[k]'hlt).toNat : Int) != 13) = true := by rw [bne_iff_ne]; exact f13
          have f32 : ¬ ((s[k]'hlt).toNat : Int) = 32 := by omega
          have g32 : (((s[k]'hlt).toNat : Int) != 32) = true := by rw [bne_iff_ne]; exact f32
          clear h1 h2 h3 h4 h35
          go_wp2
          go_ret
          exact ⟨⟨k, rfl, HQ.out⟩, rfl⟩
    · have hl2 : ¬ (k : Int) < s.size := by omega
      go_wp2
      go_ret
      exact ⟨⟨k, rfl, HG.out, fun h => absurd h hlt⟩, rfl⟩

end Go.Proofs.YtdjjlccpmfhkiaaDoor
