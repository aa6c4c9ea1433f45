/-
  Names as texts, each but the last with its comma.
-/
import Derived.Test.YtcllgpbgikidjaaDoorSTxt
import Derived.Laws.Concat
namespace Go.Proofs.YtcllgpbgikidjaaDoor
open Go.RowKit

/-- names' texts. -/
def comma (s : ByteArray) : List UInt8 := lst s ++ [44]
def namesT : List ByteArray → List (List UInt8)
  | [] => []
  | [s] => [lst s]
  | s :: r => comma s :: namesT r

theorem namesT_snoc : ∀ (l : List ByteArray) (s : ByteArray), namesT (l ++ [s]) = l.map comma ++ [lst s] := by
  intro l
  induction l with
  | nil => intro s; rfl
  | cons x l ih =>
    intro s
    cases l with
    | nil => rfl
    | cons y l =>
      show comma x :: namesT (y :: l ++ [s]) = _
      rw [ih s]
      rfl

theorem namesT_at {ns : List ByteArray} {i : Nat} (h : i + 1 = ns.length) : namesT ns = (ns.take i).map comma ++ [lst (ns[i]'(by omega))] := by
  have e : ns = ns.take i ++ [ns[i]'(by omega)] := by
    rw [← List.take_succ_eq_append_getElem (by omega), h, List.take_length]
  conv => lhs; rw [e]
  exact namesT_snoc _ _

theorem comma_eq (s : ByteArray) : s ++ ⟨#[44]⟩ = bar (comma s) := by
  apply ByteArray.ext
  show (s ++ (⟨#[44]⟩ : ByteArray)).data = (lst s ++ [44]).toArray
  rw [ByteArray.data_append]
  apply Array.ext'
  simp [lst]

set_option maxHeartbeats 1000000 in
theorem namesT_any (w : World) (v : Value) (ns : List ByteArray) (h : StrR w v ns) (h1 : 1 ≤ ns.length) (h16 : ns.length ≤ 16) (hs : ∀ s ∈ ns, s.size ≤ 100000) :
    Calls Tryd.prog 110 #[v] w fun e w' => Row w w' e (namesT ns) := by
  obtain ⟨p1, c1, rfl⟩ : ∃ p c, v = .slice p ns.length c := by obtain ⟨p, c, e, _⟩ := h; exact ⟨p, c, e⟩
  obtain ⟨hcap, hcm⟩ : ns.length ≤ c1 ∧ c1 ≤ 9223372036854775807 := by obtain ⟨p, c, e, g1, g2, _⟩ := h; cases e; exact ⟨g1, g2⟩
  obtain ⟨b, o, rfl⟩ : ∃ b o, p1 = some ⟨b, o, none⟩ := by obtain ⟨b, o, e, _⟩ := strR_at h (i := 0) (by omega); exact ⟨b, o, e⟩
  obtain ⟨n, hn⟩ : ∃ n, ns.length = n + 1 := ⟨ns.length - 1, by omega⟩
  have HS : Hid (StrR w (.slice (some ⟨b, o, none⟩) ns.length c1) ns) := h
  have HZ : Hid (∀ s ∈ ns, s.size ≤ 100000) := hs
  have HN : Hid (ns.length = n + 1) := hn
  have hn16 : n ≤ 15 := by omega
  have hncap : n + 1 ≤ c1 := by omega
  clear h hs hcap
  rw [hn]
  clear hn h1 h16
  go_enter Tryd.func110, Tryd.ntmps110
  go_wp2
  go_loopw [3, 14] (fun v3 vi wr => ∃ (va : Value) (i : Nat), va = v3 ∧ vi = .int .i64 i ∧ i ≤ n ∧ wr.ownsRow w.heap.size 9 1 va ((ns.take i).map comma).length (cellsT' ((ns.take i).map comma)) ∧ Below w.heap.size w wr) (fun _ vi _ => n - (intOf vi).toNat)
  case atStart => exact ⟨_, 0, rfl, rfl, Nat.zero_le _, World.ownsRow_nil _ _ _ _, Below.refl _ _⟩
  case round =>
    obtain ⟨va, i, rfl, rfl, hi, ho, hb⟩ := hrel
    have HB : Hid (Below w.heap.size w wr) := hb
    have hlt' : i < ns.length := by have := HN.out; omega
    obtain ⟨b1, o1, e0, e1⟩ := strR_at (HS.out.below hb) hlt'
    cases e0
    have hz : ns[i].size ≤ 100000 := HZ.out _ (List.getElem_mem hlt')
    have hlen : ((ns.take i).map comma).length ≤ 1000 := by simp; omega
    have HA : Hid (App w.heap.size w (wr.alloc (Obj.cells #[.string (bar (comma ns[i]))] 9)) va wr.heap.size 1 1 ((ns.take i).map comma ++ [comma ns[i]])) := app_one (comma ns[i]) hb hb.size ho hlen
    have HA2 : Hid (App w.heap.size w (wr.alloc (Obj.cells #[.string ns[i]] 9)) va wr.heap.size 1 1 ((ns.take i).map comma ++ [lst ns[i]])) := by
      have := app_one (lst ns[i]) hb hb.size ho hlen
      rw [bar_lst] at this
      exact this
    have HT : Hid ((ns.take (i + 1)).map comma = (ns.take i).map comma ++ [comma ns[i]]) := by
      show (ns.take (i + 1)).map comma = _
      rw [List.take_succ_eq_append_getElem hlt', List.map_append]
      rfl
    have HE : Hid (i = n → namesT ns = (ns.take i).map comma ++ [lst ns[i]]) := fun e => namesT_at (by have := HN.out; omega)
    have hcm' := comma_eq ns[i]
    clear hb ho hlen
    generalize ns[i] = x at *
    by_cases hlt : i < n
    · have hi1 : (i : Int) < (n : Int) := by omega
      have hi2 : (i : Int) < (n : Int) + 1 := by omega
      clear HA2 HE
      go_wp2_with (at_builtin; refine AppG.list HA.out (.tmp 18) (.tmp 21) rfl rfl rfl rfl ?_; intro v' w5 h5 b5)
      go_roundw
      case rel => exact ⟨_, i + 1, rfl, by go_num, hlt, by rw [HT.out]; exact h5, b5⟩
      case measure => simp [intOf]; omega
    · obtain rfl : i = n := by omega
      have hge : ¬ (i : Int) < (i : Int) := by omega
      clear HA
      go_wp2_with (at_builtin; refine AppG.list HA2.out (.tmp 24) (.tmp 29) rfl rfl rfl rfl ?_; intro v' w5 h5 b5)
      go_ret
      exact ⟨_, rfl, by rw [HE.out trivial]; exact h5, b5⟩

end Go.Proofs.YtcllgpbgikidjaaDoor
