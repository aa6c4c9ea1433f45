/-
  IDs rise, and are never used again: the law's walk, over any interface.
-/
import Derived.Test.YtlckconhhhllkaaAwake
import Derived.Test.YtlckconhhhllkaaPlay
import Derived.Test.YtlckconhhhllkaaMath2
namespace Go.Proofs.Ytlckconhhhllkaa
open Go.RowKit

theorem agg_two (x y : Int) : (Value.agg #[.int .i64 x, .int .i64 y]).cells = #[.int .i64 x, .int .i64 y] := rfl
theorem wrap_u {z : Int} (h : U64 z) : IntKind.u64.wrap z = z := by
  obtain ⟨h1, h2⟩ := h
  have h3 : IntKind.u64.wrap z = z % 18446744073709551616 := by simp [IntKind.wrap, IntKind.signed, IntKind.bits]
  rw [h3]
  omega
theorem take_u {w : World} {a : Option Addr} {len : Nat} {l : List Do} (h : OpsR w a len l) (n : Nat) : ∀ o ∈ l.take n, U64 o.i := fun o ho => h.2.2.1 o (List.mem_of_mem_take ho)

set_option maxHeartbeats 8000000 in
set_option maxRecDepth 8000 in
theorem rises_walk {F : World → World → Nat → Nt → Prop} (I : Ifc F) (w : World) (x y first : Int) (a : Option Addr) (len cap : Nat) (l : List Do) (hu : U64 first) (h : OpsR w a len l) :
    Calls Try.prog 4 #[.agg #[.int .i64 x, .int .i64 y], .int .u64 first, .slice a len cap] w fun e w' => e = .returned (.bool true) ∧ Below w.heap.size w w' := by
  have HU : Hid (U64 first) := hu
  have HB0 : Hid (Below w.heap.size w (w.alloc (.cells #[.int .i64 x, .int .i64 y] 22))) := below_new w _
  have HX : Hid (Blk (w.alloc (.cells #[.int .i64 x, .int .i64 y] 22)) w.heap.size 22 [.int .i64 x, .int .i64 y]) := blk_new w _ _
  have HR : Hid (OpsR w a len l) := h
  clear hu h
  go_enter Try.func4, Try.ntmps4
  go_upto_region 1 with fail
  obtain ⟨b0, hb0⟩ : ∃ k, w.heap.size = k := ⟨_, rfl⟩
  have HS0 : Hid (w.heap.size = b0) := hb0
  rw [hb0] at HX ⊢
  clear hb0
  generalize w.alloc (.cells #[.int .i64 x, .int .i64 y] 22) = w0 at *
  go_wp2_with fail
  refine (awake_any I w0).mono ?_
  rintro e w1 ⟨rfl, hb1⟩
  have H1 : Hid (Below w.heap.size w w1 ∧ Blk w1 b0 22 [.int .i64 x, .int .i64 y]) := ⟨HB0.out.trans (hb1.mono HB0.out.size), HX.out.over hb1⟩
  have c0 := H1.out.2.cell 0
  have c1 := H1.out.2.cell 1
  clear hb1 HX
  cases hn : newE x y with
  | true =>
    have HN : Hid (newE x y = true) := hn
    clear hn
    go_wp2_with fail
    refine (I.newNot HN.out).mono ?_
    rintro e w2 ⟨rfl, hb2⟩
    have H2 : Hid (Below w.heap.size w w2) := H1.out.1.trans (hb2.mono H1.out.1.size)
    clear hb2
    go_wp2_with fail
    go_ret
    exact ⟨rfl, H2.out⟩
  | false =>
    have HN : Hid (newE x y = false) := hn
    clear hn
    go_wp2_with fail
    refine (I.new H1.out.1 HN.out HU.out).mono ?_
    rintro e w2 ⟨p, rfl, h2, _⟩
    have H2 : Hid (F w w2 p (newS x y first)) := h2
    clear h2
    go_wp2_with fail
    refine (play_any I w w2 p _ a len cap l H2.out (fun X hX => HR.out.below ((I.bel H2.out).trans hX.bel))).mono ?_
    rintro e w3 ⟨v3, rfl, h3⟩
    obtain ⟨ids, hids⟩ : ∃ t, playI (newS x y first) (l.take 200) = t := ⟨_, rfl⟩
    have HI : Hid (∀ (i : Nat) (z : Int), ids[i]? = some z → z = first + i ∧ z < 18446744073709551615) := by
      rw [← hids]
      exact rises _ _ (Ok.new HN.out HU.out) (take_u HR.out 200)
    obtain ⟨po, co, rfl⟩ := rowU_slice h3.row
    have H3 : Hid (Below w.heap.size w w3 ∧ w3.ownsRow w2.heap.size 23 1 (.slice po ids.length co) ids.length (cellsU ids)) := by
      refine ⟨I.bel h3.f, ?_⟩
      have := h3.row
      rw [hids] at this
      exact this
    have HLN : Hid (ids.length ≤ 200) := by
      have h4 := playI_len (newS x y first) (l.take 200)
      rw [hids, List.length_take] at h4
      show _ ≤ _
      omega
    rw [hids]
    clear h3 H2 hids c0 c1 H1
    go_wp2_with fail
    go_loopw [11] (fun v11 wr => ∃ i : Nat, v11 = .int .i64 i ∧ i ≤ ids.length ∧ wr = w3) (fun v11 _ => ids.length - (intOf v11).toNat)
    case atStart => exact ⟨0, rfl, Nat.zero_le _, rfl⟩
    case round =>
      obtain ⟨i, rfl, hi, hw⟩ := hrel
      subst hw
      by_cases hil : i < ids.length
      · have hil1 : (i : Int) < (ids.length : Int) := by omega
        obtain ⟨g, rfl, _, cj⟩ := rowU_at H3.out.2 hil
        have hz := HI.out i _ (List.getElem?_eq_getElem hil)
        obtain ⟨z, hzz⟩ : ∃ z, ids[i] = z := ⟨_, rfl⟩
        rw [hzz] at cj hz
        have hln := HLN.out
        have w1' : IntKind.u64.wrap (i : Int) = (i : Int) := wrap_u ⟨by omega, by omega⟩
        have w2' : IntKind.u64.wrap (first + (i : Int)) = z := by rw [← hz.1]; exact wrap_u ⟨by have := HU.out.1; omega, by omega⟩
        have r1 : (z != z) = false := by simp
        have r2 : (z == 18446744073709551615) = false := by simp; omega
        clear hz hzz
        go_wp2_with fail
        go_roundw
        case rel => exact ⟨i + 1, by go_num, hil, by trivial⟩
        case measure => simp [intOf]; omega
      · have hil1 : ¬ (i : Int) < (ids.length : Int) := by omega
        go_wp2_with fail
        go_ret
        exact ⟨rfl, H3.out.1⟩

end Go.Proofs.Ytlckconhhhllkaa
