/-
  Calls that come in: are they few?
-/
import Derived.Test.YtljceoojbppaeaaLkOpen
namespace Go.Proofs.Ytljceoojbppaeaa
open Go.ChangeShapes Go.WideShapes Go.ChangeAt Go.RowKit Go.Deep D

/-- calls, no more than a slice can have. -/
def CalS (w : World) (v : Value) (cs : List Cal) : Prop := CalR w v cs ∧ cs.length ≤ 9223372036854775807
theorem CalS.over {w w' : World} {v : Value} {cs : List Cal} (h : CalS w v cs) (hb : Below w.heap.size w w') : CalS w' v cs := ⟨h.1.over hb, h.2⟩
theorem open_calls {H : Type} {enc : TypeId × Value → H} {w : World} {base : Nat} {spare : Nat → Bool} {held : Bool} {n : Nat} {x : DataW H × List MemPlace} {v : Value} (h : DataW.trod enc Try.prog w base spare held n 22 [v] = some x) : ∃ cs, CalS w v cs := by
  obtain ⟨cs, hc⟩ := open_cals h
  refine ⟨cs, hc, ?_⟩
  obtain ⟨a, cap, rfl, _⟩ := hc
  rcases open_slice Try.underlying22 h with ⟨h0, _⟩ | ⟨a', len', cap', m, n, D, Pl, hcs, hb, hl, hm, _⟩
  · simp at h0
    rw [h0.2.1]
    decide
  · simp at hcs
    rw [hcs.2.1]
    unfold maxLen at hm
    omega
theorem calR_at {w : World} {p : Option Addr} {n c i : Nat} {cs : List Cal} (h : CalR w (.slice p n c) cs) (hi : i < cs.length) : ∃ b o u, p = some ⟨b, o, none⟩ ∧ CalV w b (o + i * 5) u cs[i] := by
  obtain ⟨a, cap, e, hc⟩ := h
  cases e
  obtain ⟨b, o, hb, hx⟩ := hc (by omega)
  obtain ⟨u, hu⟩ := hx i _ (List.getElem?_eq_getElem hi)
  exact ⟨b, o, u, hb, hu⟩

/-- what 'few' tells. -/
def FewR (w : World) (cs : List Cal) (e : Ending) (w' : World) : Prop := ∃ bb : Bool, e = .returned (.bool bb) ∧ w' = w ∧ (bb = true → cs.length ≤ 200)
set_option maxRecDepth 8000 in
set_option maxHeartbeats 2000000 in
theorem few_any (w : World) (v : Value) (cs : List Cal) (h : CalS w v cs) :
    Calls Try.prog 9 #[v] w fun e w' => FewR w cs e w' := by
  obtain ⟨p1, c1, rfl⟩ : ∃ p c, v = .slice p cs.length c := by obtain ⟨⟨p, c, e, _⟩, _⟩ := h; exact ⟨p, c, e⟩
  have HF : Hid (CalR w (.slice p1 cs.length c1) cs) := h.1
  have hlen : (cs.length : Int) ≤ 9223372036854775807 := by have := h.2; omega
  clear h
  go_enter Try.func9, Try.ntmps9
  go_wp2_with fail
  go_loopg [3] cs.length (fun g vi wr => ∃ i : Nat, vi = .int .i64 i ∧ i + g = cs.length ∧ wr = w)
  case atStart => exact ⟨0, rfl, Nat.zero_add _, rfl⟩
  case round =>
    obtain ⟨i, rfl, hig, hwr⟩ := hrel
    subst hwr
    by_cases hlt : i < cs.length
    · have hi1 : (i : Int) < (cs.length : Int) := by omega
      obtain ⟨b, o, u, rfl, hc⟩ := calR_at HF.out hlt
      have x4 := hc.c4
      obtain ⟨a', c', rfl, hbb, _⟩ := hc.pc
      clear hbb
      have hgk : Hid (i + gk = cs.length ∧ i < cs.length) := ⟨hig, hlt⟩
      clear hc hig
      generalize cs[i].b.length = n at *
      clear hlt
      generalize cs.length = len at *
      by_cases hn : 1100 < n
      · have hn1 : (1100 : Int) < (n : Int) := by omega
        go_wp2
        go_ret
        exact ⟨_, rfl, rfl, fun e => by cases e⟩
      · have hn1 : ¬ (1100 : Int) < (n : Int) := by omega
        go_wp2
        go_roundg (gk - 1)
        case measure => (have := hgk.out; omega)
        case rel => exact ⟨i + 1, by go_num, by have := hgk.out; omega, rfl⟩
    · have hi1 : ¬ (i : Int) < (cs.length : Int) := by omega
      by_cases h200 : cs.length ≤ 200
      · have h201 : (cs.length : Int) ≤ 200 := by omega
        go_wp2
        go_ret
        exact ⟨_, rfl, rfl, fun _ => h200⟩
      · have h201 : ¬ (cs.length : Int) ≤ 200 := by omega
        go_wp2
        go_ret
        exact ⟨_, rfl, rfl, fun e => by simp at e⟩

end Go.Proofs.Ytljceoojbppaeaa
