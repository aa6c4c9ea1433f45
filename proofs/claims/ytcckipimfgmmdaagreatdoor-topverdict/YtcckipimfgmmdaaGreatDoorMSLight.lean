/-
  Rules that are not too great.
-/
import Derived.Test.YtcckipimfgmmdaaGreatDoorMSAll
namespace Go.Proofs.YtcckipimfgmmdaaGreatDoor.M
open Go.RowKit

/-- rules that are not too great. -/
def Lx1 (x : Xl) : Prop := x.names.length ≤ 40 ∧ x.conds.length ≤ 40 ∧ ∀ s ∈ x.names, s.size ≤ 500
def Lt (l : List Xr) : Prop := l.length ≤ 70 ∧ ∀ x ∈ l, Lx1 x.r

theorem lt_step {l : List Xr} {i : Nat} (h : i < l.length) (h1 : ∀ x ∈ l.take i, Lx1 x.r) (h2 : Lx1 l[i].r) : ∀ x ∈ l.take (i + 1), Lx1 x.r := by
  rw [List.take_succ_eq_append_getElem h]
  intro x hx
  rcases List.mem_append.1 hx with h3 | h3
  · exact h1 x h3
  · have : x = l[i] := by simpa using h3
    subst this
    exact h2
theorem sz_step {l : List ByteArray} {i : Nat} (h : i < l.length) (h1 : ∀ x ∈ l.take i, x.size ≤ 500) (h2 : l[i].size ≤ 500) : ∀ x ∈ l.take (i + 1), x.size ≤ 500 := by
  rw [List.take_succ_eq_append_getElem h]
  intro x hx
  rcases List.mem_append.1 hx with h3 | h3
  · exact h1 x h3
  · have : x = l[i] := by simpa using h3
    subst this
    exact h2

/-- what is told of rules' size. -/
def LightR (w : World) (l : List Xr) (e : Ending) (w' : World) : Prop := ∃ bb : Bool, e = .returned (.bool bb) ∧ Below w.heap.size w w' ∧ (bb = true → Lt l)

set_option maxRecDepth 4000 in
set_option maxHeartbeats 2000000 in
theorem light_any (w : World) (k a : Int) (v : Value) (l : List Xr) (h : RlR w v l) :
    Calls Tryz.prog 15 #[.agg #[.int .i64 k, .int .i64 a, v]] w fun e w' => LightR w l e w' := by
  obtain ⟨p1, c1, rfl⟩ : ∃ p c, v = .slice p l.length c := by obtain ⟨p, c, e, _⟩ := h; exact ⟨p, c, e⟩
  have hmax : l.length ≤ 9223372036854775807 := by obtain ⟨p, c, e, g1, g2, _⟩ := h; omega
  have be : Below w.heap.size w (w.alloc (Obj.cells #[.int .i64 k, .int .i64 a, .slice p1 l.length c1] 39)) := (Below.refl _ _).alloc (Nat.le_refl _) _
  have BE : Hid (Below w.heap.size w (w.alloc (Obj.cells #[.int .i64 k, .int .i64 a, .slice p1 l.length c1] 39))) := be
  have HK : Hid (Blk (w.alloc (Obj.cells #[.int .i64 k, .int .i64 a, .slice p1 l.length c1] 39)) w.heap.size 39 [.int .i64 k, .int .i64 a, .slice p1 l.length c1]) := blk_new w _ _
  have SN : Hid (RlR (w.alloc (Obj.cells #[.int .i64 k, .int .i64 a, .slice p1 l.length c1] 39)) (.slice p1 l.length c1) l) := h.below be
  clear h be
  by_cases g70 : 70 < l.length
  · have hd : 70 < (l.length : Int) := by omega
    go_enter Tryz.func15, Tryz.ntmps15
    go_wp2
    go_ret
    exact ⟨false, rfl, BE.out, fun h => by cases h⟩
  · have hd : ¬ 70 < (l.length : Int) := by omega
    go_enter Tryz.func15, Tryz.ntmps15
    go_wp2
    have t2 : (w.alloc (Obj.cells #[.int .i64 k, .int .i64 a, .slice p1 l.length c1] 39)).cell? ⟨w.heap.size, 2, none⟩ = some (.slice p1 l.length c1) := HK.out.cell 2
    generalize (w.alloc (Obj.cells #[.int .i64 k, .int .i64 a, .slice p1 l.length c1] 39)) = X at *
    go_loop [3] (fun vi => ∃ i : Nat, vi = .int .i64 i ∧ i ≤ l.length ∧ ∀ x ∈ l.take i, Lx1 x.r) (fun vi => l.length - (intOf vi).toNat)
    case atStart => exact ⟨0, rfl, Nat.zero_le _, fun x hx => by simp at hx⟩
    case round =>
      obtain ⟨i, rfl, hi, hall⟩ := hrel
      have HALL : Hid (∀ x ∈ l.take i, Lx1 x.r) := hall
      clear hall
      by_cases hlt : i < l.length
      · have hi1 : (i : Int) < (l.length : Int) := by omega
        obtain ⟨b1, o1, rfl, e1⟩ := rlR_at SN.out hlt
        have hmem : l[i] ∈ l := List.getElem_mem hlt
        have hSx : StrR X l[i].vn l[i].r.names ∧ CdR X l[i].vc l[i].r.conds := by obtain ⟨_, _, _, _, _, _, hr⟩ := SN.out; exact hr _ hmem
        have HST : Hid (Lx1 l[i].r → ∀ x ∈ l.take (i + 1), Lx1 x.r) := fun h2 => lt_step hlt HALL.out h2
        clear hmem
        generalize l[i] = x at *
        obtain ⟨⟨xk, xa, ns, cs⟩, vn, vc⟩ := x
        obtain ⟨q0, q1, q2, q3⟩ := e1
        dsimp only at q0 q1 q2 q3 hSx HST
        obtain ⟨p3, c3, rfl⟩ : ∃ p c, vn = .slice p ns.length c := by obtain ⟨p, c, e, _⟩ := hSx.1; exact ⟨p, c, e⟩
        obtain ⟨p4, c4, rfl⟩ : ∃ p c, vc = .slice p cs.length c := by obtain ⟨p, c, e, _⟩ := hSx.2; exact ⟨p, c, e⟩
        have SS : Hid (StrR X (.slice p3 ns.length c3) ns) := hSx.1
        clear hSx
        by_cases g1 : 40 < ns.length
        · have g1' : decide (40 < (ns.length : Int)) = true := decide_eq_true (by omega)
          go_wp2
          go_ret
          exact ⟨false, rfl, BE.out, fun h => by cases h⟩
        · have g1' : decide (40 < (ns.length : Int)) = false := decide_eq_false (by omega)
          by_cases g2 : 40 < cs.length
          · have g2' : decide (40 < (cs.length : Int)) = true := decide_eq_true (by omega)
            go_wp2
            go_ret
            exact ⟨false, rfl, BE.out, fun h => by cases h⟩
          · have g2' : decide (40 < (cs.length : Int)) = false := decide_eq_false (by omega)
            go_wp2
            go_loop [4] (fun vj => ∃ j : Nat, vj = .int .i64 j ∧ j ≤ ns.length ∧ ∀ x ∈ ns.take j, x.size ≤ 500) (fun vj => ns.length - (intOf vj).toNat)
            case atStart => exact ⟨0, rfl, Nat.zero_le _, fun x hx => by simp at hx⟩
            case round =>
              obtain ⟨j, rfl, hj, hall⟩ := hrel
              have HALL2 : Hid (∀ x ∈ ns.take j, x.size ≤ 500) := hall
              clear hall
              by_cases hlt2 : j < ns.length
              · have hj1 : (j : Int) < (ns.length : Int) := by omega
                obtain ⟨b3, o3, rfl, e3⟩ := strR_at SS.out hlt2
                have HST2 : Hid (ns[j].size ≤ 500 → ∀ x ∈ ns.take (j + 1), x.size ≤ 500) := fun h2 => sz_step hlt2 HALL2.out h2
                generalize ns[j] = s at *
                by_cases g3 : 500 < s.size
                · have g3' : 500 < (s.size : Int) := by omega
                  go_wp2
                  go_ret
                  exact ⟨false, rfl, BE.out, fun h => by cases h⟩
                · have g3' : ¬ 500 < (s.size : Int) := by omega
                  go_wp2
                  go_round
                  case rel => exact ⟨j + 1, by go_num, hlt2, HST2.out (by omega)⟩
                  case measure => simp [intOf]; omega
              · have hge2 : ¬ (j : Int) < (ns.length : Int) := by omega
                have HQ : Hid (Lx1 ⟨xk, xa, ns, cs⟩) := ⟨by show ns.length ≤ 40; omega, by show cs.length ≤ 40; omega, fun s hs => HALL2.out s (by rw [List.take_of_length_le (by omega)]; exact hs)⟩
                go_wp2
                go_round
                case rel => exact ⟨i + 1, by go_num, hlt, HST.out HQ.out⟩
                case measure => simp [intOf]; omega
      · have hge : ¬ (i : Int) < (l.length : Int) := by omega
        go_wp2
        go_ret
        exact ⟨true, rfl, BE.out, fun _ => ⟨by omega, fun x hx => HALL.out x (by rw [List.take_of_length_le (by omega)]; exact hx)⟩⟩

end Go.Proofs.YtcckipimfgmmdaaGreatDoor.M
