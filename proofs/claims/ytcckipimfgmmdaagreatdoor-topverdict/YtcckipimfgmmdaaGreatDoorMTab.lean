/-
  The calls that are known: their names and numbers, one by one.
-/
import Derived.Test.YtcckipimfgmmdaaGreatDoorMSAll
namespace Go.Proofs.YtcckipimfgmmdaaGreatDoor.M
open Go.RowKit

/-- the calls. -/
def tab : List (ByteArray × Nat) := [
  (⟨#[114, 101, 97, 100]⟩, 0),
  (⟨#[119, 114, 105, 116, 101]⟩, 1),
  (⟨#[111, 112, 101, 110]⟩, 2),
  (⟨#[99, 108, 111, 115, 101]⟩, 3),
  (⟨#[115, 116, 97, 116]⟩, 4),
  (⟨#[102, 115, 116, 97, 116]⟩, 5),
  (⟨#[108, 115, 116, 97, 116]⟩, 6),
  (⟨#[112, 111, 108, 108]⟩, 7),
  (⟨#[108, 115, 101, 101, 107]⟩, 8),
  (⟨#[109, 109, 97, 112]⟩, 9),
  (⟨#[109, 112, 114, 111, 116, 101, 99, 116]⟩, 10),
  (⟨#[109, 117, 110, 109, 97, 112]⟩, 11),
  (⟨#[98, 114, 107]⟩, 12),
  (⟨#[105, 111, 99, 116, 108]⟩, 16),
  (⟨#[97, 99, 99, 101, 115, 115]⟩, 21),
  (⟨#[112, 105, 112, 101]⟩, 22),
  (⟨#[100, 117, 112]⟩, 32),
  (⟨#[103, 101, 116, 112, 105, 100]⟩, 39),
  (⟨#[115, 111, 99, 107, 101, 116]⟩, 41),
  (⟨#[99, 111, 110, 110, 101, 99, 116]⟩, 42),
  (⟨#[102, 111, 114, 107]⟩, 57),
  (⟨#[101, 120, 101, 99, 118, 101]⟩, 59),
  (⟨#[101, 120, 105, 116]⟩, 60),
  (⟨#[119, 97, 105, 116, 52]⟩, 61),
  (⟨#[107, 105, 108, 108]⟩, 62),
  (⟨#[117, 110, 97, 109, 101]⟩, 63),
  (⟨#[109, 107, 100, 105, 114]⟩, 83),
  (⟨#[117, 110, 108, 105, 110, 107]⟩, 87),
  (⟨#[111, 112, 101, 110, 97, 116]⟩, 257),
  (⟨#[115, 101, 99, 99, 111, 109, 112]⟩, 317)]

/-- the calls, as cells. -/
def tabC : List Value := tab.flatMap fun p => [.string p.1, .int .u32 p.2]

/-- are two texts the same? -/
def eqS (a b : ByteArray) : Bool := lst a == lst b

theorem eqS_to (a b : ByteArray) : (a.toList == b.toList) = eqS a b := by
  rw [ByteArray.toList_eq, ByteArray.toList_eq]
  rfl
theorem eqS_iff {a b : ByteArray} : eqS a b = true ↔ a = b := by
  unfold eqS
  rw [beq_iff_eq]
  constructor
  · intro h
    rw [← bar_lst a, h, bar_lst]
  · rintro rfl; rfl
theorem eqS_self (a : ByteArray) : eqS a a = true := eqS_iff.2 rfl
theorem eqS_comm (a b : ByteArray) : eqS a b = eqS b a := by
  rw [Bool.eq_iff_iff, eqS_iff, eqS_iff]
  exact eq_comm

/-- the number of a name, the name of a number. -/
def nrOf (s : ByteArray) : Option Nat := (tab.find? fun p => eqS p.1 s).map (·.2)
def nameOf (z : Int) : Option ByteArray := (tab.find? fun p => ((p.2 : Int) == z)).map (·.1)

def nrI (s : ByteArray) : Int := ((nrOf s).getD 0 : Nat)
def knB (s : ByteArray) : Bool := (nrOf s).isSome
def nmS (z : Int) : ByteArray := (nameOf z).getD ⟨#[]⟩
def isNr (z : Int) : Bool := (nameOf z).isSome

theorem tab_len : tab.length = 30 := rfl

/-- the first of a list that is so. -/
theorem find_at {α : Type} {p : α → Bool} {l : List α} {i : Nat} (h : i < l.length) (hp : p l[i] = true) (ha : ∀ j (hj : j < i), p (l[j]'(by omega)) = false) : l.find? p = some l[i] := by
  induction l generalizing i with
  | nil => simp at h
  | cons x l ih =>
    cases i with
    | zero => simp only [List.getElem_cons_zero] at hp ⊢; rw [List.find?_cons_of_pos hp]
    | succ i =>
      have h0 := ha 0 (by omega)
      simp only [List.getElem_cons_zero] at h0
      rw [List.find?_cons_of_neg (by rw [h0]; decide)]
      simp only [List.getElem_cons_succ] at hp ⊢
      exact ih (by simpa using h) hp (fun j hj => by have := ha (j + 1) (by omega); simpa using this)
theorem find_none {α : Type} {p : α → Bool} {l : List α} (ha : ∀ j (hj : j < l.length), p (l[j]'hj) = false) : l.find? p = none := by
  rw [List.find?_eq_none]
  intro x hx
  obtain ⟨j, hj, rfl⟩ := List.getElem_of_mem hx
  rw [ha j hj]
  decide

theorem index_tab (i : Nat) (hi : i < tab.length) (W : World) : (Instr.index 172 (.agg tabC.toArray) (.int .i64 i)).run Tryz.prog W = .ok (.agg #[.string tab[i].1, .int .u32 tab[i].2]) W := by
  match i, hi with
  | 0, _ => show _ = _; kernel_rfl
  | 1, _ => show _ = _; kernel_rfl
  | 2, _ => show _ = _; kernel_rfl
  | 3, _ => show _ = _; kernel_rfl
  | 4, _ => show _ = _; kernel_rfl
  | 5, _ => show _ = _; kernel_rfl
  | 6, _ => show _ = _; kernel_rfl
  | 7, _ => show _ = _; kernel_rfl
  | 8, _ => show _ = _; kernel_rfl
  | 9, _ => show _ = _; kernel_rfl
  | 10, _ => show _ = _; kernel_rfl
  | 11, _ => show _ = _; kernel_rfl
  | 12, _ => show _ = _; kernel_rfl
  | 13, _ => show _ = _; kernel_rfl
  | 14, _ => show _ = _; kernel_rfl
  | 15, _ => show _ = _; kernel_rfl
  | 16, _ => show _ = _; kernel_rfl
  | 17, _ => show _ = _; kernel_rfl
  | 18, _ => show _ = _; kernel_rfl
  | 19, _ => show _ = _; kernel_rfl
  | 20, _ => show _ = _; kernel_rfl
  | 21, _ => show _ = _; kernel_rfl
  | 22, _ => show _ = _; kernel_rfl
  | 23, _ => show _ = _; kernel_rfl
  | 24, _ => show _ = _; kernel_rfl
  | 25, _ => show _ = _; kernel_rfl
  | 26, _ => show _ = _; kernel_rfl
  | 27, _ => show _ = _; kernel_rfl
  | 28, _ => show _ = _; kernel_rfl
  | 29, _ => show _ = _; kernel_rfl
  | n + 30, h => exact absurd h (by rw [tab_len]; omega)

end Go.Proofs.YtcckipimfgmmdaaGreatDoor.M
