/-
  What the calls make of the list, as stores at an ID and takings out.
-/
import Derived.Test.YtlckconhhhllkaaMath3
import Derived.Test.YtlckconhhhllkaaMapE
namespace Go.Proofs.Ytlckconhhhllkaa

theorem putL_set {L : List En} (h : L.Pairwise fun x y => x.id < y.id) {i : Nat} (hi : i < L.length) {y : En} (hy : y.id = (L[i]).id) : putL L y = L.set i y := by
  unfold putL
  have := map_set (g := fun q => if q.id = y.id then y else q) hi fun k hk hne => if_neg (by rw [hy]; exact ids_ne h hi hk hne)
  rw [this, if_pos hy.symm]
/-- the least that is Init is sent. -/
theorem send_put {L : List En} (h : L.Pairwise fun x y => x.id < y.id) {x : En} (hx : x ∈ L) (h1 : x.st = 1) (hl : ∀ y ∈ L, y.st = 1 → x.id ≤ y.id) : sendL L = putL L x.sent ∧ sendO L = some x.sent := by
  obtain ⟨i, hi, rfl⟩ := List.getElem_of_mem hx
  obtain ⟨e1, e2⟩ := send_first hi (fun k hk hki e => by
    have h3 := List.pairwise_iff_getElem.1 h k i hk hi hki
    have h4 := hl _ (List.getElem_mem hk) e
    omega) h1
  exact ⟨by rw [e1, putL_set (y := (L[i]).sent) h hi rfl], e2⟩
theorem kill_put {s : Nt} (h : Ok s) {x : En} (hx : x ∈ s.L) : killS s x.ta = { s with L := putL s.L (goneW 4 x) } ∧ killB s x.ta = x.waits := by
  obtain ⟨i, hi, rfl⟩ := List.getElem_of_mem hx
  refine ⟨?_, kill_any h hi rfl⟩
  unfold killS
  rw [kill_set h hi rfl, putL_set h.up hi (keeps_goneW 4 _).1]
theorem reply_put {s : Nt} (h : Ok s) {x : En} (hx : x ∈ s.L) (k v : Int) : (s.L.map fun y => if y.id = x.id then y.told k v else y) = putL s.L (x.told k v) := by
  obtain ⟨i, hi, rfl⟩ := List.getElem_of_mem hx
  rw [reply_set h hi, putL_set (y := (s.L[i]).told k v) h.up hi rfl]
/-- one taken out. -/
theorem end_del {s : Nt} (h : Ok s) {x : En} (hx : x ∈ s.L) (hw : x.waits = false) : endS s x.ta = { s with L := delL s.L x.id } ∧ endO s.L x.ta = some x := by
  refine ⟨?_, endO_of h.one hx hw⟩
  unfold endS endL delL
  congr 1
  refine List.filter_congr fun y hy => ?_
  obtain ⟨i, hi, rfl⟩ := List.getElem_of_mem hx
  obtain ⟨k, hk, rfl⟩ := List.getElem_of_mem hy
  by_cases e : k = i
  · subst e
    simp [hw]
  · have h1 := ids_ne h.up hi hk e
    have h2 := tas_ne h.one hi hk e
    have h3 : ((s.L[k]).ta == (s.L[i]).ta) = false := by simpa using h2
    have h4 : ((s.L[k]).id != (s.L[i]).id) = true := by simpa using h1
    rw [h3, h4]
    rfl
/-- all stores of a round over the map: those met are turned, the others not yet. -/
def turnL (f : En → En) (p : Int → Bool) (L : List En) : List En := L.map fun x => if p x.id then f x else x
theorem turnL_none {f : En → En} {p : Int → Bool} {L : List En} (h : ∀ x ∈ L, p x.id = false) : turnL f p L = L := by
  unfold turnL
  conv => rhs; rw [← List.map_id L]
  exact List.map_congr_left fun x hx => by rw [h x hx]; rfl
theorem turnL_all {f : En → En} {p : Int → Bool} {L : List En} (h : ∀ x ∈ L, p x.id = true) : turnL f p L = L.map f := by
  unfold turnL
  exact List.map_congr_left fun x hx => by rw [h x hx]; rfl
theorem turnL_put {f : En → En} (hf : Keeps f) {p : Int → Bool} {L : List En} (h : L.Pairwise fun x y => x.id < y.id) {x : En} (hx : x ∈ L) : putL (turnL f p L) (f x) = turnL f (fun z => p z || z == x.id) L := by
  unfold putL turnL
  rw [List.map_map]
  refine List.map_congr_left fun y hy => ?_
  show (if (if p y.id = true then f y else y).id = (f x).id then f x else if p y.id = true then f y else y) = _
  have e1 : (if p y.id = true then f y else y).id = y.id := by
    split
    · exact (hf y).1
    · rfl
  rw [e1, (hf x).1]
  by_cases e : y.id = x.id
  · have e2 := findI_of h hx
    have e3 := findI_of h hy
    rw [e, e2] at e3
    cases e3
    simp
  · simp [e]

end Go.Proofs.Ytlckconhhhllkaa
