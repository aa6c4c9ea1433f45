/-
  What is wrong with a rule's names, and with rules.
-/
import Derived.Test.YtcckipimfgmmdaaGreatDoorMNames
namespace Go.Proofs.YtcckipimfgmmdaaGreatDoor.M
open Go.RowKit

/-- does the name at a place stand ahead of it, too? does some? -/
def twAt (l : List ByteArray) (i : Nat) : Bool := match l[i]? with | some x => (l.take i).any fun s => eqS x s | none => false
def twB (l : List ByteArray) : Bool := (List.range l.length).any (twAt l)

/-- what is wrong with a rule's names. -/
def wrongN (l : List ByteArray) : Int := if (l.any fun s => !knB s) = true then 8 else if twB l = true then 9 else 0

theorem twAt_eq {l : List ByteArray} {i : Nat} (h : i < l.length) : twAt l i = (l.take i).any fun s => eqS l[i] s := by
  unfold twAt
  rw [List.getElem?_eq_getElem h]
theorem twB_hit {l : List ByteArray} {i : Nat} (h : i < l.length) (ht : twAt l i = true) : twB l = true := by
  unfold twB
  rw [List.any_eq_true]
  exact ⟨i, List.mem_range.2 h, ht⟩
theorem twB_none {l : List ByteArray} (h : ∀ i, i < l.length → twAt l i = false) : twB l = false := by
  unfold twB
  rw [List.any_eq_false]
  intro i hi
  rw [h i (List.mem_range.1 hi)]
  decide

theorem StrR.take {w : World} {p : Option Addr} {l : List ByteArray} {c i : Nat} (h : StrR w (.slice p l.length c) l) (hi : i ≤ l.length) : StrR w (.slice p i c) (l.take i) := by
  obtain ⟨a, cap, e, h1, h2, hc⟩ := h
  cases e
  have hlen : (l.take i).length = i := by rw [List.length_take]; omega
  refine ⟨p, c, by rw [hlen], by omega, h2, fun h0 => ?_⟩
  obtain ⟨b, o, rfl, hx⟩ := hc (by omega)
  refine ⟨b, o, rfl, fun j s hj => hx j s ?_⟩
  rw [List.getElem?_take] at hj
  split at hj
  · exact hj
  · cases hj

set_option maxHeartbeats 1000000 in
theorem wrong_any (w : World) (v : Value) (l : List ByteArray) (h : StrR w v l) (hl : l.length ≤ 9000000) :
    Calls Tryz.prog 48 #[v] w fun e w' => e = .returned (.int .i64 (wrongN l)) ∧ Below w.heap.size w w' := by
  obtain ⟨p1, c1, rfl⟩ : ∃ p c, v = .slice p l.length c := by obtain ⟨p, c, e, _⟩ := h; exact ⟨p, c, e⟩
  have hlc : l.length ≤ c1 := by obtain ⟨p, c, e, h1, _⟩ := h; cases e; exact h1
  have S1 : Hid (StrR w (.slice p1 l.length c1) l) := h
  have HU : Hid (Calls Tryz.prog 84 #[.slice p1 l.length c1, .func (.func 85) #[] #[]] w fun e w' => e = .returned (.bool (l.any fun s => !knB s)) ∧ Below w.heap.size w w') := containsF_any w _ l h hl
  have HE : Hid (wrongN l = if (l.any fun s => !knB s) = true then 8 else if twB l = true then 9 else 0) := rfl
  clear h
  generalize wrongN l = R at *
  generalize (l.any fun s => !knB s) = U at *
  cases U with
  | true =>
    go_enter Tryz.func48, Tryz.ntmps48
    go_wp2_with (go_at_call 84; refine HU.out.mono ?_; rintro e w1 ⟨rfl, b1⟩)
    go_ret
    exact ⟨ret_int HE.out.symm, b1⟩
  | false =>
    go_enter Tryz.func48, Tryz.ntmps48
    go_wp2_with (go_at_call 84; refine HU.out.mono ?_; rintro e w1 ⟨rfl, b1⟩)
    have S2 : Hid (StrR w1 (.slice p1 l.length c1) l) := S1.out.below b1
    have B1 : Hid (Below w.heap.size w w1) := b1
    clear b1 S1
    go_loop [9] (fun vi => ∃ i : Nat, vi = .int .i64 i ∧ i ≤ l.length ∧ ∀ j, j < i → twAt l j = false) (fun vi => l.length - (intOf vi).toNat)
    case atStart => exact ⟨0, rfl, Nat.zero_le _, fun j hj => absurd hj (Nat.not_lt_zero _)⟩
    case round =>
      obtain ⟨i, rfl, hi, ht⟩ := hrel
      have HT : Hid (∀ j, j < i → twAt l j = false) := ht
      clear ht
      by_cases hlt : i < l.length
      · have hi1 : (i : Int) < (l.length : Int) := by omega
        have S3 : Hid (StrR w1 (.slice p1 i c1) (l.take i)) := S2.out.take (Nat.le_of_lt hlt)
        obtain ⟨b1, o1, rfl, e1⟩ := strR_at S2.out hlt
        have HX : Hid (Calls Tryz.prog 54 #[.slice (some ⟨b1, o1, none⟩) i c1, .string l[i]] w1 fun e w' => e = .returned (.bool (twAt l i)) ∧ w' = w1) := by
          rw [twAt_eq hlt]
          exact contains_any w1 _ _ _ S3.out (by rw [List.length_take]; omega)
        have HS : Hid (twAt l i = false → ∀ j, j < i + 1 → twAt l j = false) := fun hq j hj => by
          rcases Nat.lt_or_ge j i with h | h
          · exact HT.out j h
          · obtain rfl : j = i := by omega
            exact hq
        have HF : Hid (twAt l i = true → twB l = true) := fun hq => twB_hit hlt hq
        clear S2 S3 HT
        generalize l[i] = s at *
        generalize twAt l i = q at *
        have hic : (i : Int) ≤ (c1 : Int) := by omega
        cases q with
        | true =>
          go_wp2_with (go_at_call 54; refine HX.out.mono ?_; rintro e w2 ⟨rfl, rfl⟩)
          go_ret
          exact ⟨ret_int (by rw [HE.out, if_neg (by decide), if_pos (HF.out trivial)]), B1.out⟩
        | false =>
          go_wp2_with (go_at_call 54; refine HX.out.mono ?_; rintro e w2 ⟨rfl, rfl⟩)
          go_round
          case rel => exact ⟨i + 1, by go_num, hlt, HS.out trivial⟩
          case measure => simp [intOf]; omega
      · have hge : ¬ (i : Int) < (l.length : Int) := by omega
        go_wp2
        go_ret
        exact ⟨ret_int (by rw [HE.out, if_neg (by decide), if_neg (by rw [twB_none fun j hj => HT.out j (by omega)]; decide)]), B1.out⟩

/-- the first rule of which something is wrong, from a place on. -/
def wrongFrom : Nat → List Xl → Int × Int
  | _, [] => (0, -1)
  | i, x :: r => if wrongN x.names = 0 then wrongFrom (i + 1) r else (wrongN x.names, i)

/-- why rules mean nothing. -/
def checkP (k a : Int) (l : List Xl) : Int × Int := if rulesB k a l = true then wrongFrom 0 l else (1, -1)

theorem wrongFrom_step {l : List Xr} {i : Nat} (h : i < l.length) : wrongFrom i ((l.drop i).map Xr.r) = if wrongN l[i].r.names = 0 then wrongFrom (i + 1) ((l.drop (i + 1)).map Xr.r) else (wrongN l[i].r.names, (i : Int)) := by
  rw [List.drop_eq_getElem_cons h]
  rfl
theorem wrongFrom_end {l : List Xr} {i : Nat} (h : ¬ i < l.length) : wrongFrom i ((l.drop i).map Xr.r) = (0, -1) := by
  rw [List.drop_eq_nil_of_le (by omega)]
  rfl

theorem ret_ints {k k' : IntKind} {a b : Int} {c d : Int} (h : a = b) (h' : c = d) : Ending.returned (.tuple #[.int k a, .int k' c]) = .returned (.tuple #[.int k b, .int k' d]) := by rw [h, h']

set_option maxHeartbeats 1000000 in
theorem check_any (w : World) (k a : Int) (v : Value) (l : List Xr) (h : RlR w v l) (hl : l.length ≤ 1000) (hs : ∀ x ∈ l, x.r.names.length ≤ 9000000 ∧ x.r.conds.length ≤ 9000000) :
    Calls Tryz.prog 24 #[.agg #[.int .i64 k, .int .i64 a, v]] w fun e w' => e = .returned (.tuple #[.int .i64 (checkP k a (l.map Xr.r)).1, .int .i64 (checkP k a (l.map Xr.r)).2]) ∧ Below w.heap.size w w' := by
  obtain ⟨p1, c1, rfl⟩ : ∃ p c, v = .slice p l.length c := by obtain ⟨p, c, e, _⟩ := h; exact ⟨p, c, e⟩
  have be : Below w.heap.size w (w.alloc (Obj.cells #[.int .i64 k, .int .i64 a, .slice p1 l.length c1] 39)) := (Below.refl _ _).alloc (Nat.le_refl _) _
  have BE : Hid (Below w.heap.size w (w.alloc (Obj.cells #[.int .i64 k, .int .i64 a, .slice p1 l.length c1] 39))) := be
  have HK : Hid (Blk (w.alloc (Obj.cells #[.int .i64 k, .int .i64 a, .slice p1 l.length c1] 39)) w.heap.size 39 [.int .i64 k, .int .i64 a, .slice p1 l.length c1]) := blk_new w _ _
  have SN : Hid (RlR (w.alloc (Obj.cells #[.int .i64 k, .int .i64 a, .slice p1 l.length c1] 39)) (.slice p1 l.length c1) l) := h.below be
  have HA : Hid (∀ W, RlR W (.slice p1 l.length c1) l → Calls Tryz.prog 31 #[.agg #[.int .i64 k, .int .i64 a, .slice p1 l.length c1]] W fun e w' => e = .returned (.bool (rulesB k a (l.map Xr.r))) ∧ Below W.heap.size W w') := fun W h => right_any W k a _ l h hl hs
  have HE : Hid (checkP k a (l.map Xr.r) = if rulesB k a (l.map Xr.r) = true then wrongFrom 0 ((l.drop 0).map Xr.r) else (1, -1)) := rfl
  have HM : Hid (∀ x ∈ l, x.r.names.length ≤ 9000000 ∧ x.r.conds.length ≤ 9000000) := hs
  clear h be hs
  generalize checkP k a (l.map Xr.r) = R at *
  generalize rulesB k a (l.map Xr.r) = RB at *
  cases RB with
  | false =>
    go_enter Tryz.func24, Tryz.ntmps24
    go_wp2_with fail
    generalize (w.alloc (Obj.cells #[.int .i64 k, .int .i64 a, .slice p1 l.length c1] 39)) = X at *
    refine (HA.out _ SN.out).mono ?_
    rintro e w1 ⟨rfl, b1⟩
    go_wp2_with fail
    go_ret2
    exact ⟨ret_ints (by rw [HE.out]; rfl) (by rw [HE.out]; rfl), BE.out.trans (b1.mono BE.out.size)⟩
  | true =>
    go_enter Tryz.func24, Tryz.ntmps24
    go_wp2_with fail
    generalize (w.alloc (Obj.cells #[.int .i64 k, .int .i64 a, .slice p1 l.length c1] 39)) = X at *
    refine (HA.out _ SN.out).mono ?_
    rintro e w1 ⟨rfl, b1⟩
    have t2 : w1.cell? ⟨w.heap.size, 2, none⟩ = some (.slice p1 l.length c1) := (HK.out.over b1).cell 2
    have S1 : Hid (RlR w1 (.slice p1 l.length c1) l) := SN.out.below b1
    have B1 : Hid (Below w.heap.size w w1) := BE.out.trans (b1.mono BE.out.size)
    have HE2 : Hid (R = wrongFrom 0 ((l.drop 0).map Xr.r)) := HE.out.trans (if_pos trivial)
    clear b1 BE HE SN HA HK
    go_wp2_with fail
    clear t2
    go_loopw [13] (fun vi wr => ∃ i : Nat, vi = .int .i64 i ∧ i ≤ l.length ∧ R = wrongFrom i ((l.drop i).map Xr.r) ∧ Below w1.heap.size w1 wr) (fun vi _ => l.length - (intOf vi).toNat)
    case atStart => exact ⟨0, rfl, Nat.zero_le _, HE2.out, Below.refl _ _⟩
    case round =>
      obtain ⟨i, rfl, hi, ht, hb⟩ := hrel
      have HT : Hid (R = wrongFrom i ((l.drop i).map Xr.r)) := ht
      have HB : Hid (Below w1.heap.size w1 wr) := hb
      clear ht
      by_cases hlt : i < l.length
      · have hi1 : (i : Int) < (l.length : Int) := by omega
        obtain ⟨b1, o1, rfl, e1⟩ := rlR_at (S1.out.below hb) hlt
        have hmem : l[i] ∈ l := List.getElem_mem hlt
        have HX : Hid (∀ W, Below w1.heap.size w1 W → Calls Tryz.prog 48 #[l[i].vn] W fun e w' => e = .returned (.int .i64 (wrongN l[i].r.names)) ∧ Below W.heap.size W w') := fun W hW => by
          obtain ⟨_, _, _, _, _, _, hr⟩ := S1.out.below hW
          exact wrong_any W _ _ (hr _ hmem).1 (HM.out _ hmem).1
        have HS : Hid (R = if wrongN l[i].r.names = 0 then wrongFrom (i + 1) ((l.drop (i + 1)).map Xr.r) else (wrongN l[i].r.names, (i : Int))) := HT.out.trans (wrongFrom_step hlt)
        obtain ⟨p3, n3, c3, e3⟩ : ∃ p n c, l[i].vn = .slice p n c := by obtain ⟨_, _, _, _, _, _, hr⟩ := S1.out; obtain ⟨p, c, e, _⟩ := (hr _ hmem).1; exact ⟨p, _, c, e⟩
        obtain ⟨p4, n4, c4, e4⟩ : ∃ p n c, l[i].vc = .slice p n c := by obtain ⟨_, _, _, _, _, _, hr⟩ := S1.out; obtain ⟨p, c, e, _⟩ := (hr _ hmem).2; exact ⟨p, _, c, e⟩
        clear hmem HT
        generalize l[i] = x at *
        obtain ⟨⟨xk, xa, ns, cs⟩, vn, vc⟩ := x
        obtain ⟨q0, q1, q2, q3⟩ := e1
        dsimp only at q0 q1 q2 q3 HX HS e3 e4
        subst e3 e4
        have BE : Hid (Below w1.heap.size w1 (wr.alloc (Obj.cells #[.int .i64 xk, .int .i64 xa, .slice p3 n3 c3, .slice p4 n4 c4] 87))) := HB.out.alloc HB.out.size _
        clear hb
        generalize wrongN ns = WN at *
        rcases Bool.eq_false_or_eq_true (WN == 0) with hq | hq
        · obtain rfl : WN = 0 := by simpa using hq
          go_wp2_with (go_at_call 48; refine (HX.out _ BE.out).mono ?_; rintro e w2 ⟨rfl, b2⟩)
          go_roundw
          case rel => exact ⟨i + 1, by go_num, hlt, HS.out.trans (if_pos trivial), BE.out.trans (b2.mono BE.out.size)⟩
          case measure => simp [intOf]; omega
        · have hn : ¬ WN = 0 := by simpa using hq
          have hn' : (WN != 0) = true := by simpa using hn
          have HS2 : Hid (R = (WN, (i : Int))) := HS.out.trans (if_neg hn)
          clear HS
          go_wp2_with (go_at_call 48; refine (HX.out _ BE.out).mono ?_; rintro e w2 ⟨rfl, b2⟩)
          go_ret2
          exact ⟨ret_ints (by rw [HS2.out]) (by rw [HS2.out]), B1.out.trans ((BE.out.trans (b2.mono BE.out.size)).mono B1.out.size)⟩
      · have hge : ¬ (i : Int) < (l.length : Int) := by omega
        have HS2 : Hid (R = (0, -1)) := HT.out.trans (wrongFrom_end hlt)
        clear hb
        go_wp2
        go_ret2
        exact ⟨ret_ints (by rw [HS2.out]) (by rw [HS2.out]), B1.out.trans (HB.out.mono B1.out.size)⟩

end Go.Proofs.YtcckipimfgmmdaaGreatDoor.M
