/-
  The instruction of bytes, by package insn and by the document, proved of every slice of bytes.
-/
import Derived.Test.YtonhkohfogpflaaRead
namespace Go.Proofs.Ytonhkohfogpflaa
open Go.RowKit

theorem decOf_eq (l : List Int) (h : l.length = 8) : decOf l = dec l := by unfold decOf; rw [if_pos h]
theorem decOf_ne (l : List Int) (h : l.length ≠ 8) : decOf l = In.zero := by unfold decOf; rw [if_neg h]

/-- a block of four cells that nobody froze. -/
def Four (w : World) (b : Nat) (u0 u1 u2 u3 : Value) : Prop := w.heap[b]? = some (.cells #[u0, u1, u2, u3] 27 (0, 0))

section
variable {w : World} {b : Nat} {u0 u1 u2 u3 : Value}
theorem Four.c0 (h : Four w b u0 u1 u2 u3) : w.cell? ⟨b, 0, none⟩ = some u0 := by unfold Four at h; simp [World.cell?, h]
theorem Four.c1 (h : Four w b u0 u1 u2 u3) : w.cell? ⟨b, 1, none⟩ = some u1 := by unfold Four at h; simp [World.cell?, h]
theorem Four.c2 (h : Four w b u0 u1 u2 u3) : w.cell? ⟨b, 2, none⟩ = some u2 := by unfold Four at h; simp [World.cell?, h]
theorem Four.c3 (h : Four w b u0 u1 u2 u3) : w.cell? ⟨b, 3, none⟩ = some u3 := by unfold Four at h; simp [World.cell?, h]
theorem Four.f (h : Four w b u0 u1 u2 u3) (i : Nat) : w.frozen? ⟨b, i, none⟩ = false := by unfold Four at h; simp [World.frozen?, h]
theorem Four.lt (h : Four w b u0 u1 u2 u3) : b < w.heap.size := lt_of_block h
theorem Four.below {w' : World} {B : Nat} (h : Four w b u0 u1 u2 u3) (hb : Below B w w') (hB : b < B) : Four w' b u0 u1 u2 u3 := by unfold Four; rw [hb.block b hB]; exact h
end

theorem four_new (w : World) (u0 u1 u2 u3 : Value) : Four (w.alloc (Obj.cells #[u0, u1, u2, u3] 27)) w.heap.size u0 u1 u2 u3 := by
  unfold Four
  show (w.heap.push _)[w.heap.size]? = _
  simp

set_option maxHeartbeats 400000 in
theorem decode_any (a : Option Addr) (len cap : Nat) (l : List Int) (w : World) (hb : Bs w a len l) :
    Calls Try.prog 16 #[.slice a len cap] w fun e w' => e = .returned (.tuple #[(decOf l).val, .int .i64 (errOf len)]) ∧ Below w.heap.size w w' := by
  have e1 : ∀ o, Below w.heap.size w (w.alloc o) := fun o => (Below.refl _ _).alloc (Nat.le_refl _) _
  have hll := hb.1
  rcases Nat.lt_trichotomy len 8 with h | h | h
  · have hd : decOf l = In.zero := decOf_ne l (by omega)
    have he : errOf len = 2 := by unfold errOf; rw [if_pos h]
    rw [hd, he]
    clear hb hll hd he
    go_enter Try.func16, Try.ntmps16
    go_wp2
    refine bodyPost_ret (v := .tuple #[.agg #[.int .u16 0, .int .u8 0, .int .u8 0, .int .u32 0], .int .i64 2]) (by simp [results, Try.results16, go_sem]) rfl ⟨rfl, ?_⟩
    exact e1 _
  · subst h
    have hd : decOf l = dec l := decOf_eq l hll
    have he : errOf 8 = 0 := rfl
    rw [hd, he]
    have hb1 := hb.below (e1 (Obj.cells #[.int .u16 0, .int .u8 0, .int .u8 0, .int .u32 0] 27))
    have hf := four_new w (.int .u16 0) (.int .u8 0) (.int .u8 0) (.int .u32 0)
    clear hb hll hd he
    have HR : Hid (∀ W : World, Bs W a 8 l → Calls Try.prog 32 #[.slice a 8 cap] W fun e w' => e = .returned (dec l).val ∧ Below W.heap.size W w') := fun W h => read_any a cap l W h
    generalize dec l = x at *
    obtain ⟨xc, xt, xf, xk⟩ := x
    unfold In.val at *
    dsimp only at *
    go_enter Try.func16, Try.ntmps16
    go_wp2_with (go_at_call 32; refine (HR.out _ hb1).mono ?_; rintro e w2 ⟨rfl, hb2⟩; have hf2 := hf.below hb2 (by rw [World.size_alloc]; exact Nat.lt_succ_self _); have s0 := hf2.c0; have s1 := hf2.c1; have s2 := hf2.c2; have s3 := hf2.c3; have f0 := hf2.f 0; have f1 := hf2.f 1; have f2 := hf2.f 2; have f3 := hf2.f 3)
    refine bodyPost_ret (v := .tuple #[.agg #[.int .u16 xc, .int .u8 xt, .int .u8 xf, .int .u32 xk], .int .i64 0]) (by simp [results, Try.results16, go_sem, s0, s1, s2, s3]) rfl ⟨rfl, ?_⟩
    have e2 := (e1 _).trans (hb2.mono (e1 _).size)
    exact ((((e2.setCell (Nat.le_refl _) _).setCell (Nat.le_refl _) _).setCell (Nat.le_refl _) _).setCell (Nat.le_refl _) _)
  · have hd : decOf l = In.zero := decOf_ne l (by omega)
    have he : errOf len = 3 := by unfold errOf; rw [if_neg (by omega), if_pos h]
    rw [hd, he]
    clear hb hll hd he
    go_enter Try.func16, Try.ntmps16
    go_wp2
    refine bodyPost_ret (v := .tuple #[.agg #[.int .u16 0, .int .u8 0, .int .u8 0, .int .u32 0], .int .i64 3]) (by simp [results, Try.results16, go_sem]) rfl ⟨rfl, ?_⟩
    exact e1 _

end Go.Proofs.Ytonhkohfogpflaa
