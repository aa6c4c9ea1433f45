/-
  Timers in memory of a call's own.
-/
import Derived.Test.YtifddbfcongepaaAwake
namespace Go.Proofs.Ytifddbfcongepaa
open Go.RowKit Go.Maps

structure TmF (w0 w : World) (b B : Nat) (v : Int) (T : Tm) (n : Nat) : Prop where
  tm : TmV w b B v T
  bel : Below w0.heap.size w0 w
  b0 : w0.heap.size ≤ b
  B0 : w0.heap.size ≤ B
  ok : Okt T v n
section
variable {w0 w : World} {b B n : Nat} {v : Int} {T : Tm}
theorem TmF.re {m : Nat} (h : TmF w0 w b B v T n) (hk : Okt T v m) : TmF w0 w b B v T m := ⟨h.tm, h.bel, h.b0, h.B0, hk⟩
theorem TmF.over {w' : World} (h : TmF w0 w b B v T n) (hb : Below w.heap.size w w') : TmF w0 w' b B v T n := ⟨h.tm.over hb, h.bel.trans (hb.mono h.bel.size), h.b0, h.B0, h.ok⟩
theorem TmF.drewN (h : TmF w0 w b B v T n) (m : Nat) : TmF w0 (w.drewN m) b B v T n := h.over (below_drewN w m)
def NewF (w0 : World) (v : Int) (e : Ending) (w' : World) : Prop := ∃ b B, e = .returned (.tuple #[.pointer (some ⟨b, 0, none⟩), .int .i64 0]) ∧ TmF w0 w' b B v [] 0
theorem new_f (h : Below w0.heap.size w0 w) (h1 : 1 ≤ v) (h2 : v ≤ 1000) : Calls Try.prog 9 #[.int .i64 v] w fun e w' => NewF w0 v e w' := by
  refine (new_any v w h1 h2).mono ?_
  rintro e w' ⟨b, B, hb, hB, rfl, ht, hw⟩
  have := h.size
  exact ⟨b, B, rfl, ht, h.trans (hw.mono h.size), by omega, by omega, Okt.nil h1 h2 0⟩
def SetF (w0 : World) (b B : Nat) (v : Int) (T : Tm) (n : Nat) (e : Ending) (w' : World) : Prop := e = .returned (.tuple #[]) ∧ TmF w0 w' b B v T n
theorem grown_bel {w' : World} (h : Below w0.heap.size w0 w) (hg : w.grownBy w' (some B)) (hB : w0.heap.size ≤ B) : Below w0.heap.size w0 w' := h.grown hg h.size (fun j hj => by cases hj; exact hB)
theorem set_f (h : TmF w0 w b B v T n) (z : Int) (hz : U64 z) (hn : n ≤ 1000) : Calls Try.prog 11 #[.pointer (some ⟨b, 0, none⟩), .int .u64 z] w fun e w' => SetF w0 b B v (setT T z v) (n + 1) e w' := by
  refine (set_any b B v z T w h.tm h.ok.nd (Nat.le_trans h.ok.len (by omega)) h.ok.v1 h.ok.v2 hz).mono ?_
  rintro e w' ⟨rfl, h1, h2⟩
  exact ⟨rfl, h1, grown_bel h.bel h2 h.B0, h.b0, h.B0, h.ok.set hz⟩
def StopF (w0 : World) (b B : Nat) (v : Int) (T : Tm) (z : Int) (n : Nat) (e : Ending) (w' : World) : Prop := e = .returned (.bool (decide (z ∈ keys T))) ∧ TmF w0 w' b B v (stopT T z) n
theorem stop_f (h : TmF w0 w b B v T n) (z : Int) (hz : U64 z) : Calls Try.prog 13 #[.pointer (some ⟨b, 0, none⟩), .int .u64 z] w fun e w' => StopF w0 b B v T z n e w' := by
  refine (stop_any b B v z T w h.tm h.ok hz).mono ?_
  rintro e w' ⟨rfl, h1, h2⟩
  exact ⟨rfl, h1, grown_bel h.bel h2 h.B0, h.b0, h.B0, h.ok.stop z⟩
/-- a rising row of one's own. -/
def RowF (base : Nat) (w : World) (v : Value) (ts l : List Int) : Prop := w.ownsRow base 31 1 v ts.length (cellsZ ts) ∧ Rise ts ∧ ∀ z, z ∈ ts ↔ z ∈ l
def TickF (w0 w : World) (b B : Nat) (v : Int) (T : Tm) (n : Nat) (e : Ending) (w' : World) : Prop := ∃ v' ts, e = .returned v' ∧ RowF w.heap.size w' v' ts (offs T) ∧ TmF w0 w' b B v (tickT T v) n ∧ w.grownBy w' (some B)
theorem tick_f (h : TmF w0 w b B v T n) (hn : n ≤ 1000) : Calls Try.prog 16 #[.pointer (some ⟨b, 0, none⟩)] w fun e w' => TickF w0 w b B v T n e w' := by
  refine (tick_any b B v T w h.tm h.ok hn).mono ?_
  rintro e w' ⟨v', ts, rfl, h1, h2, h3, h4, h5⟩
  exact ⟨v', ts, rfl, ⟨h1, h2, h3⟩, ⟨h4, grown_bel h.bel h5 h.B0, h.b0, h.B0, h.ok.tick⟩, h5⟩
def IdsF (w0 w : World) (b B : Nat) (v : Int) (T : Tm) (n : Nat) (e : Ending) (w' : World) : Prop := ∃ v' ts, e = .returned v' ∧ RowF w.heap.size w' v' ts (keys T) ∧ TmF w0 w' b B v T n ∧ Below w.heap.size w w'
theorem ids_f (h : TmF w0 w b B v T n) (hn : n ≤ 1000) : Calls Try.prog 18 #[.pointer (some ⟨b, 0, none⟩)] w fun e w' => IdsF w0 w b B v T n e w' := by
  refine (ids_any b B v T w h.tm h.ok hn).mono ?_
  rintro e w' ⟨v', ts, rfl, h1, h2, h3, h4⟩
  exact ⟨v', ts, rfl, ⟨h1, h2, h3⟩, h.over h4, h4⟩
end
theorem RowF.nil {base : Nat} {w : World} {v : Value} {ts l : List Int} (h : RowF base w v ts l) (hl : l = []) : ∃ p c, v = .slice p 0 c := by
  obtain ⟨h1, h2, h3⟩ := h
  subst hl
  obtain rfl := nil_of h3
  exact row_slice h1
theorem RowF.one {base : Nat} {w : World} {v : Value} {ts l : List Int} {z : Int} (h : RowF base w v ts l) (hl : l = [z]) : ∃ g c, v = .slice (some ⟨g, 0, none⟩) 1 c ∧ base ≤ g ∧ w.cell? ⟨g, 0, none⟩ = some (.int .u64 z) := by
  obtain ⟨h1, h2, h3⟩ := h
  subst hl
  obtain rfl := one_of h2 h3
  obtain ⟨p, c, rfl⟩ := row_slice h1
  obtain ⟨g, rfl, hg, hc⟩ := row_at h1 (k := 0) (by simp)
  exact ⟨g, c, rfl, hg, hc⟩
theorem off_one {z x : Int} (h : x ≠ 1) : offs [(z, x)] = [] := by
  unfold offs offT decT
  simp
  omega
theorem off_now (z : Int) : offs [(z, 1)] = [z] := rfl
theorem tick_one {z x v : Int} (h : x ≠ 1) : tickT [(z, x)] v = [(z, x - 1)] := by
  unfold tickT resT decT
  simp
  omega
theorem tick_now (z v : Int) : tickT [(z, 1)] v = [(z, v)] := rfl
theorem set_one (z x v : Int) : setT [(z, x)] z v = [(z, v)] := by
  unfold setT stopT
  simp
theorem stop_one (z x : Int) : stopT [(z, x)] z = [] := by
  unfold stopT
  simp
theorem okt_one {z x v : Int} (hz : U64 z) (h1 : 1 ≤ x) (h2 : x ≤ v) (h3 : v ≤ 1000) : Okt [(z, x)] v 1 := ⟨by simp [keys], (by intro p hp; rw [List.mem_singleton] at hp; subst hp; exact ⟨hz, h1, h2⟩), by omega, h3, Nat.le_refl _⟩

end Go.Proofs.Ytifddbfcongepaa
