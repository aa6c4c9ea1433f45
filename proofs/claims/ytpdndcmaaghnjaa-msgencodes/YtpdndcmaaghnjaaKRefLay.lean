/-
  What the document's own bytes of a number and of a text are, each proved of every argument.
-/
import Derived.Test.YtpdndcmaaghnjaaKNumR
namespace Go.Proofs.Ytpdndcmaaghnjaa.K
open Go.RowKit

/-- a number's bytes, and what is wrong. -/
def layF (n size : Int) : List Int × Int := if 1 ≤ size ∧ size ≤ 8 ∧ n < pow256 size.toNat then (digs size.toNat n, 0) else ([], 1)

/-- a text's bytes, and what is wrong. -/
def textL (s : ByteArray) : List Int × Int := if 65535 < s.size then ([], 4) else (digs 2 s.size ++ bytesOf s, 0)

/-- a slice of bytes that was just made, or nil. -/
def Made (w : World) (v : Value) (l : List Int) : Prop := ∃ a cap, v = .slice a l.length cap ∧ Bs w a l.length l ∧ (a = none → cap = 0)

theorem made_nil (w : World) : Made w (.slice none 0 0) [] := ⟨none, 0, rfl, bs_none, fun _ => rfl⟩

theorem made_row {w : World} {b size : Nat} {n : Int} (h : w.rowIs b 5 size (filled n size 0)) : Made w (.slice (some ⟨b, 0, none⟩) size size) (digs size n) := by
  refine ⟨some ⟨b, 0, none⟩, size, ?_, ?_, fun e => by cases e⟩
  · rw [digs_length]
  · rw [digs_length]; exact rowIs_bs h

theorem lay_all (n size : Int) (w : World) (h0 : 0 ≤ n) (h1 : n ≤ 18446744073709551615) :
    Calls Try.prog 17 #[.int .u64 n, .int .i64 size] w fun e w' => Below w.heap.size w w' ∧ ∃ v, e = .returned (.tuple #[v, .int .i64 (layF n size).2]) ∧ Made w' v (layF n size).1 := by
  by_cases hs : 1 ≤ size ∧ size ≤ 8
  · obtain ⟨m, rfl⟩ : ∃ m : Nat, size = (m : Int) := ⟨size.toNat, by omega⟩
    refine (lay_any n m w h0 h1 (by omega) (by omega)).mono ?_
    rintro e w' ⟨hb, ⟨hlt, rfl, hrow⟩ | ⟨hge, rfl⟩⟩
    · have e : layF n m = (digs m n, 0) := by unfold layF; rw [if_pos ⟨hs.1, hs.2, hlt⟩]; rfl
      rw [e]
      exact ⟨hb, _, rfl, made_row hrow⟩
    · have e : layF n m = ([], 1) := by unfold layF; rw [if_neg (fun hx => by have := hx.2.2; rw [Int.toNat_natCast] at this; omega)]
      rw [e]
      exact ⟨hb, _, rfl, made_nil _⟩
  · refine (lay_wrong n size w hs).mono ?_
    rintro e w' ⟨rfl, rfl⟩
    have e : layF n size = ([], 1) := by unfold layF; rw [if_neg (fun hx => hs ⟨hx.1, hx.2.1⟩)]
    rw [e]
    exact ⟨Below.refl _ _, _, rfl, made_nil _⟩

theorem byteCells_eq (s : ByteArray) : byteCells s = cellsB (bytesOf s) := by
  unfold byteCells cellsB bytesOf
  rw [List.map_map]
  rfl

theorem cellsB_one (l : List Int) : ∀ u ∈ cellsB l, u.oneCell' = true := by
  intro u hu
  simp [cellsB] at hu
  obtain ⟨z, _, rfl⟩ := hu
  rfl

theorem row_block {w : World} {b size : Nat} {f : Nat → Value} (h : w.rowIs b 5 size f) : ∃ C : Array Value, w.heap[b]? = some (.cells C 5 (0, 0)) ∧ C.size = size := by
  obtain ⟨c, hb, hn, _⟩ := h
  exact ⟨c, hb, hn⟩

/-- a text's bytes, appended to a row of two that is full. -/
theorem append_str {w : World} {ops : Array Oper} {rest : List Oper} {o : Oper} {a : Act} {Q : Exit → Act → World → Prop} (hgd : o.guard = none) (s x : Operand)
    (ho : o.op = .call { callee := .builtin .append, args := #[s, x], argTypes := #[30, 9] })
    (g : Nat) (n : Int) (hs : a.eval s = .slice (some ⟨g, 0, none⟩) 2 2) (hrow : w.rowIs g 5 2 (filled n 2 0))
    (t : ByteArray) (hx : a.eval x = .string t) (ht : t.size ≤ 65535)
    (h : ∀ v' w', Made w' v' (digs 2 n ++ bytesOf t) → Below w.heap.size w w' → wpList Try.prog ops Q rest (a.put o.dst v') w') : wpList Try.prog ops Q (o :: rest) a w := by
  obtain ⟨i0, hi, hz0, hz1, hz2⟩ := info_parts Try.info5
  have hsrc : Src Try.prog i0.size 9 (.string t) t.size (byteCells t) w := by rw [hz1]; exact Src.ofString w Try.underlying9 t
  have hbs := rowIs_bs hrow
  have hrun : ∃ v' w', (Builtin.append_ #[30, 9] o.type #[.slice (some ⟨g, 0, none⟩) 2 2, .string t]).run Try.prog w = .ok v' w' ∧ Made w' v' (digs 2 n ++ bytesOf t) ∧ Below w.heap.size w w' := by
    rcases Nat.eq_zero_or_pos t.size with h0 | h0
    · have hb0 : bytesOf t = [] := List.eq_nil_of_length_eq_zero (by rw [bytesOf_length, h0])
      have hc0 : byteCells t = [] := List.eq_nil_of_length_eq_zero (by rw [byteCells_length, h0])
      have hr := run_append_room_src (P := Try.prog) w 30 9 o.type 5 i0 Try.underlying30 hi g 0 2 2 (.string t) t.size (byteCells t) hsrc (by omega) (by rw [hc0]; simp) (by rw [hc0]; simp)
      rw [hc0] at hr
      refine ⟨_, _, hr, ?_, ?_⟩
      · rw [hb0, List.append_nil, h0]
        exact made_row hrow
      · exact Below.refl _ _
    · have hold : (Builtin.firstCells i0.size 2 (.slice (some ⟨g, 0, none⟩) 2 2)).run Try.prog w.drew = .ok (cellsB (digs 2 n)).toArray w.drew := by
        rw [hz1]
        exact run_firstCells_some w.drew 1 2 ⟨g, 0, none⟩ 2 2 (cellsB (digs 2 n)) (by simp [cellsB, digs_length]) (by simpa using hbs.news)
      have hr := run_append_grow_src (P := Try.prog) w 30 9 o.type 5 i0 (.int .u8 0) Try.underlying30 hi hz0 (some ⟨g, 0, none⟩) 2 2 (cellsB (digs 2 n)) hold (.string t) t.size (byteCells t) hsrc (by omega) (by omega) (growslice_fits (by omega) (by rw [hz2]; omega))
      refine ⟨_, _, hr, ?_, ((Below.refl _ _).drew).alloc (Nat.le_refl _) _⟩
      refine ⟨_, _, by rw [List.length_append, digs_length, bytesOf_length], ?_, by simp⟩
      refine ⟨rfl, ?_, fun _ => ⟨w.heap.size, 0, rfl, fun i hi => ?_⟩⟩
      · intro z hz
        rcases List.mem_append.1 hz with hz | hz
        · exact digs_bd _ _ z hz
        · exact bytesOf_bd t z hz
      · rw [Nat.zero_add, byteCells_eq, ← cellsB_app]
        show World.cell? (w.drew.alloc _) ⟨w.drew.heap.size, i, none⟩ = _
        rw [World.cell?_alloc_mark, Array.getElem?_append_left (by simpa [cellsB] using hi)]
        rw [List.getElem?_toArray]
        unfold cellsB
        rw [List.getElem?_map, List.getElem?_eq_getElem hi, List.getD_eq_getElem?_getD, List.getElem?_eq_getElem hi]
        rfl
  obtain ⟨v', w', hr, h2, h3⟩ := hrun
  refine wpList_plain hgd fun K hK => ?_
  unfold Oper.wp execOp
  simp only [ho, resolve, invoke, builtin, Sem.run_bind, Sem.run_pure, Result.andThen_ok, List.map_toArray, List.map_cons, List.map_nil, hs, hx, hr]
  exact hK _ _ (h v' w' h2 h3)

set_option maxHeartbeats 800000 in
theorem text_all (s : ByteArray) (w : World) :
    Calls Try.prog 19 #[.string s] w fun e w' => Below w.heap.size w w' ∧ ∃ v, e = .returned (.tuple #[v, .int .i64 (textL s).2]) ∧ Made w' v (textL s).1 := by
  by_cases hl : 65535 < s.size
  · have e : textL s = ([], 4) := by unfold textL; rw [if_pos hl]
    rw [e]
    go_enter Try.func19, Try.ntmps19
    go_wp2
    go_ret2
    exact ⟨Below.refl _ _, _, rfl, made_nil _⟩
  · have HE : Hid (textL s = (digs 2 s.size ++ bytesOf s, 0)) := by unfold Hid textL; rw [if_neg hl]
    obtain ⟨m, hm⟩ : ∃ m, s.size = m := ⟨_, rfl⟩
    rw [hm] at HE hl
    have HM : Hid (s.size ≤ 65535) := by unfold Hid; omega
    have hl2 : m ≤ 65535 := by omega
    clear hl
    go_enter Try.func19, Try.ntmps19
    go_wp2_with fail
    refine (lay_any m 2 _ (by omega) (by omega) (by decide) (by decide)).mono ?_
    rintro e w2 ⟨hb2, ⟨_, rfl, hrow⟩ | ⟨hge, rfl⟩⟩
    · go_wp2_with (at_builtin; refine append_str rfl (.tmp 16) (.tmp 17) rfl w.heap.size m rfl hrow s rfl HM.out ?_; intro v3 w3 hm3 hb3)
      go_ret2
      rw [HE.out]
      exact ⟨hb2.trans (hb3.mono hb2.size), v3, rfl, hm3⟩
    · rw [show pow256 2 = 65536 from by decide] at hge
      omega

end Go.Proofs.Ytpdndcmaaghnjaa.K
