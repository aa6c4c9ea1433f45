/-
  A number's digits, laid two by two from the end; one byte for what is left at an odd front.
-/
import Derived.Test.YtcllgpbgikidjaaSRight
import Derived.Test.YtcllgpbgikidjaaShelf
import Derived.Lib.ItoaWalk
import Derived.Lib.ItoaMem
import Derived.Lib.ItoaLen
namespace Go.Proofs.Ytcllgpbgikidjaa
open Go.RowKit

/-- the byte at a place, as a number. -/
def gdN (nd u t : Nat) : Nat := if t = 0 ∧ nd % 2 = 1 then 48 + u / 10 ^ (nd - 1) else 48 + u / 10 ^ (nd - 1 - t) % 10

def upd (g : Nat → Int) (i : Nat) (x : Int) : Nat → Int := fun t => if t = i then x else g t
theorem upd_same (g : Nat → Int) (i : Nat) (x : Int) : upd g i x i = x := by unfold upd; rw [if_pos rfl]
theorem upd_other (g : Nat → Int) {i t : Nat} (x : Int) (h : ¬ t = i) : upd g i x t = g t := by unfold upd; rw [if_neg h]

/-- digits so far. -/
structure Dd (nd u off k v : Nat) (g : Nat → Int) : Prop where
  le : k ≤ nd
  ev : (nd - k) % 2 = 0
  rest : v = u / 10 ^ (nd - k)
  small : v < 10 ^ (k + 1)
  done : ∀ t, k ≤ t → t < nd → g (off + t) = (gdN nd u t : Int)

theorem dd_new {nd u off : Nat} (h : u < 10 ^ (nd + 1)) (g : Nat → Int) : Dd nd u off nd u g := ⟨Nat.le_refl _, by omega, by simp, h, fun t h1 h2 => by omega⟩

theorem Dd.two {nd u off k v : Nat} {g : Nat → Int} (h : Dd nd u off (k + 2) v g) : Dd nd u off k (v / 100) (upd (upd g (off + (k + 1)) ((48 + v % 10 : Nat) : Int)) (off + k) ((48 + v % 100 / 10 : Nat) : Int)) := by
  have le := h.le
  have ev := h.ev
  have e1 : nd - k = nd - (k + 2) + 2 := by omega
  refine ⟨by omega, by omega, ?_, ?_, fun t h1 h2 => ?_⟩
  · rw [h.rest, e1, Nat.pow_add, Nat.div_div_eq_div_mul]
  · have := h.small
    rw [show k + 2 + 1 = (k + 1) + 2 from by omega, Nat.pow_add] at this
    exact Nat.div_lt_of_lt_mul (by rw [Nat.mul_comm]; exact this)
  · by_cases ht : t = k
    · subst ht
      rw [upd_same]
      unfold gdN
      rw [if_neg (by omega)]
      have : u / 10 ^ (nd - 1 - t) = v / 10 := by
        rw [h.rest, Nat.div_div_eq_div_mul, ← Nat.pow_succ, show (nd - (t + 2)).succ = nd - 1 - t from by omega]
      rw [this]
      omega
    · rw [upd_other _ _ (by omega)]
      by_cases ht2 : t = k + 1
      · subst ht2
        rw [upd_same]
        unfold gdN
        rw [if_neg (by omega)]
        have : u / 10 ^ (nd - 1 - (k + 1)) = v := by
          rw [h.rest, show nd - (k + 2) = nd - 1 - (k + 1) from by omega]
        rw [this]
      · rw [upd_other _ _ (by omega)]
        exact h.done t (by omega) h2

theorem Dd.one {nd u off v : Nat} {g : Nat → Int} (h : Dd nd u off 1 v g) : ∀ t, t < nd → upd g off ((48 + v : Nat) : Int) (off + t) = (gdN nd u t : Int) := by
  intro t ht
  have ev := h.ev
  have le := h.le
  by_cases h0 : t = 0
  · subst h0
    rw [Nat.add_zero, upd_same]
    unfold gdN
    rw [if_pos ⟨rfl, by omega⟩, h.rest]
  · rw [upd_other _ _ (by omega)]
    exact h.done t (by omega) ht

theorem gdN_range {nd u t : Nat} (h : u < 10 ^ (nd + 1)) (hn : 1 ≤ nd) : 48 ≤ gdN nd u t ∧ gdN nd u t < 148 := by
  unfold gdN
  split
  · have : u / 10 ^ (nd - 1) < 100 := by
      refine Nat.div_lt_of_lt_mul ?_
      rw [show nd + 1 = nd - 1 + 2 from by omega, Nat.pow_add] at h
      exact h
    exact ⟨Nat.le_add_right _ _, by omega⟩
  · have := Nat.mod_lt (u / 10 ^ (nd - 1 - t)) (show 0 < 10 by decide)
    omega

/-- the bytes. -/
def fmtG (nd u : Nat) : List UInt8 := (List.range nd).map fun t => UInt8.ofNat (gdN nd u t)

/-- how many bytes there are, by a table. -/
def ndT (T : List Int) (n : Nat) : Nat := Lib.l10 (Lib.bitLen n) + (if T.getD (Lib.l10 (Lib.bitLen n)) 0 ≤ (n : Int) then 1 else 0)

theorem l10_of {n : Nat} (h1 : 100 ≤ n) (h2 : n < 18446744073709551616) : 2 ≤ Lib.l10 (Lib.bitLen n) ∧ Lib.l10 (Lib.bitLen n) ≤ 19 ∧ n < 10 ^ (Lib.l10 (Lib.bitLen n) + 1) ∧ Lib.bitLen n ≤ 64 := by
  obtain ⟨a, b, c⟩ := Lib.bitLenAux_bounds 64 n h2 (by omega)
  have hL : Lib.bitLenAux 64 n ≤ 64 := Lib.bitLen_le n 64 (Nat.le_refl _) h2
  unfold Lib.bitLen
  generalize Lib.bitLenAux 64 n = L at a b c hL ⊢
  obtain ⟨t1, t2, t3⟩ := Lib.l10_tab ⟨L, by omega⟩ a
  simp only at t1 t2 t3
  have hL7 : 7 ≤ L := by
    rcases Nat.lt_or_ge L 7 with h | h
    · have : 2 ^ L ≤ 2 ^ 6 := Nat.pow_le_pow_right (by decide) (by omega)
      omega
    · exact h
  refine ⟨?_, t3, by omega, hL⟩
  unfold Lib.l10
  omega

theorem ndT_of {T : List Int} {n : Nat} (h1 : 100 ≤ n) (h2 : n < 18446744073709551616) : 2 ≤ ndT T n ∧ ndT T n ≤ 20 ∧ n < 10 ^ (ndT T n + 1) := by
  obtain ⟨a, b, c, _⟩ := l10_of h1 h2
  unfold ndT
  split
  · refine ⟨by omega, by omega, Nat.lt_of_lt_of_le c (Nat.pow_le_pow_right (by decide) (by omega))⟩
  · exact ⟨by omega, by omega, c⟩

/-- the table's cells. -/
def Tb (T : List Int) (w : World) : Prop := ∀ i, i < 20 → w.cell? ⟨1, i, none⟩ = some (.int .u64 (T.getD i 0))

theorem Tb.below {T : List Int} {w w' : World} (h : Tb T w) (hb : Below w.heap.size w w') : Tb T w' := fun i hi => cellS (h i hi) (hb.block _ (World.block_lt_of_cell? w _ (h i hi)))

/-- a number's text. -/
def dec (T : List Int) (n : Nat) : List UInt8 := if n < 100 then Lib.decDigits n else fmtG (ndT T n) n

theorem dec_small {T : List Int} {n : Nat} (h : n < 100) : dec T n = Lib.decDigits n := by unfold dec; rw [if_pos h]
theorem dec_great {T : List Int} {n : Nat} (h : ¬ n < 100) : dec T n = fmtG (ndT T n) n := by unfold dec; rw [if_neg h]

theorem dec_len (T : List Int) (n : Nat) (hn : n < 18446744073709551616) : (dec T n).length ≤ 100 := by
  by_cases h : n < 100
  · rw [dec_small h, Lib.decDigits_length]
    have := Lib.nDigits_le20 n hn
    omega
  · rw [dec_great h]
    unfold fmtG
    rw [List.length_map, List.length_range]
    have := (ndT_of (T := T) (by omega) hn).2.1
    omega
theorem dec_one (T : List Int) {n : Nat} (h : n < 10) : dec T n = [UInt8.ofNat (48 + n)] := by rw [dec_small (by omega)]; exact Lib.decDigits_one h
theorem dec_two (T : List Int) {n : Nat} (h1 : ¬ n < 10) (h2 : n < 100) : dec T n = [UInt8.ofNat (48 + n / 10), UInt8.ofNat (48 + n % 10)] := by rw [dec_small h2]; exact Lib.decDigits_two h1 h2

theorem byte_ne : ∀ d : Fin 100, ¬ UInt8.ofNat (48 + d.val) = 10 := by decide

theorem dec_no10 (T : List Int) (n : Nat) (hn : n < 18446744073709551616) : ∀ c ∈ dec T n, ¬ c = 10 := by
  by_cases h : n < 10
  · rw [dec_one T h]
    intro c hc
    have : c = UInt8.ofNat (48 + n) := by simpa using hc
    subst this
    exact byte_ne ⟨n, by omega⟩
  · by_cases h2 : n < 100
    · rw [dec_two T h h2]
      intro c hc
      simp only [List.mem_cons, List.not_mem_nil, or_false] at hc
      rcases hc with rfl | rfl
      · exact byte_ne ⟨n / 10, by omega⟩
      · exact byte_ne ⟨n % 10, by omega⟩
    · rw [dec_great h2]
      intro c hc
      obtain ⟨b1, b2, b3⟩ := ndT_of (T := T) (n := n) (by omega) hn
      unfold fmtG at hc
      obtain ⟨t, _, rfl⟩ := List.mem_map.1 hc
      have hr := gdN_range (t := t) b3 (by omega)
      have := byte_ne ⟨gdN (ndT T n) n t - 48, by omega⟩
      rw [show 48 + (gdN (ndT T n) n t - 48) = gdN (ndT T n) n t from by omega] at this
      exact this

/-- a row of bytes under way. -/
structure Fm (w : World) (b : Nat) (W : World) (g : Nat → Int) : Prop where
  c : ∀ t, t < 24 → W.cell? ⟨b, t, none⟩ = some (.int .u8 (g t))
  f : ∀ t, W.frozen? ⟨b, t, none⟩ = false
  be : Below b w W

theorem Fm.set {w : World} {b : Nat} {W : World} {g : Nat → Int} (h : Fm w b W g) {i : Nat} (hi : i < 24) (x : Int) : Fm w b (W.setCell ⟨b, i, none⟩ (.int .u8 x)) (upd g i x) := by
  refine ⟨fun t ht => ?_, fun t => ?_, h.be.setCell (p := ⟨b, i, none⟩) (Nat.le_refl _) _⟩
  · by_cases e : t = i
    · subst e
      rw [upd_same]
      exact World.cell?_setCell_same _ _ _ (h.c t ht)
    · rw [upd_other _ _ e, World.cell?_setCell_other _ _ _ _ (by simp)]
      exact h.c t ht
  · have := h.f t
    simpa using this
theorem Fm.drew {w : World} {b : Nat} {W : World} {g : Nat → Int} (h : Fm w b W g) : Fm w b W.drew g := ⟨h.c, h.f, h.be.drew⟩

end Go.Proofs.Ytcllgpbgikidjaa
