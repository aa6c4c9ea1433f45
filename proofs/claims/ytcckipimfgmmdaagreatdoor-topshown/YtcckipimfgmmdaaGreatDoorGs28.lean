/-
  MSrt9 MNumbM MSLight MWgt MApp MNumb MSOpen.
-/
import Derived.Test.YtcckipimfgmmdaaGreatDoorGs27
import Derived.Maps.RangeWalk
import Derived.Maps.AppendAt
import Derived.Sort.OwnSorted
import Derived.OpenShut
import Derived.ProofKit
import Derived.Deep.Fields
set_option maxHeartbeats 2000000
namespace Go.Proofs.YtcckipimfgmmdaaGreatDoor.M
open P (Blk)
open Go.RowKit
open Go.Sort (PermIn SortedIn)
theorem sort_any (g n cap : Nat) (tl : List Value) (d : Array Int) (w : World) (h : Blk w g 23 (cellsA d ++ tl)) (hd : d.size = n) (hn : n <= 49) (hD : Dst 0 n d) :
  Calls Tryz.prog 87 #[.slice (some ⟨g, 0, none⟩) n cap] w fun e w' => Srd w g 0 n tl d e w' := by
 have HP : Hid (∀ l : Int, Calls Tryz.prog 123 #[.slice (some ⟨g, 0, none⟩) n cap, .int .i64 0, .int .i64 n, .int .i64 l] w fun e w' => Srd w g 0 n tl d e w') := fun l => pdq_any g n cap tl hn n 0 n l d w (by omega) h hd (Nat.zero_le _) (Nat.le_refl _) hD (.inl rfl)
 have HL : Hid (∀ W, Calls Tryz.prog 124 #[.int .u64 (n : Int)] W fun e w' => e = .returned (.int .i64 (Lib.bitLen (n : Int).toNat)) /\ w' = W) := fun W => Tryz.bits_Len n W (by omega) (by omega)
 clear h hD
 go_enter Tryz.func87, Tryz.ntmps87
 go_wp2_with (first | (go_at_call 124; refine (HL.out _).mono ?_; rintro e w1 ⟨rfl, hw⟩; subst w1))
 refine (HP.out _).mono ?_
 rintro e w1 ⟨rfl, hr⟩
 have HR : Hid (∃ d', PermIn 0 n d d' /\ SortedIn ltZ 0 n d' /\ Sw w g tl d' w1) := hr
 clear hr
 go_wp2_with fail
 go_end0
 exact ⟨rfl, HR.out⟩
theorem ins_nil (w : World) : Calls Tryz.prog 141 #[.slice none 0 0, .int .i64 0, .int .i64 0] w fun e w' => e = .returned (.tuple #[]) /\ w' = w := by
 go_enter Tryz.func141, Tryz.ntmps141
 go_wp2
 go_loopw [6] (fun vi wr => vi = .int .i64 1 /\ wr = w) (fun _ _ => 0)
 case atStart => exact ⟨rfl, rfl⟩
 case round =>
  obtain ⟨rfl, hw⟩ := hrel
  subst hw
  go_wp2_with fail
  go_end0
  exact ⟨rfl, rfl⟩
theorem pdq_nil (l : Int) (w : World) : Calls Tryz.prog 123 #[.slice none 0 0, .int .i64 0, .int .i64 0, .int .i64 l] w fun e w' => e = .returned (.tuple #[]) /\ w' = w := by
 have HI : Hid (∀ W, Calls Tryz.prog 141 #[.slice none 0 0, .int .i64 0, .int .i64 0] W fun e w' => e = .returned (.tuple #[]) /\ w' = W) := ins_nil
 go_enter Tryz.func123, Tryz.ntmps123
 go_wp2_with fail
 go_loopw [1, 2] (fun v v2 wr => v = .int .i64 0 /\ v2 = .int .i64 0 /\ wr = w) (fun _ _ _ => 0)
 case atStart => exact ⟨rfl, rfl, rfl⟩
 case round =>
  obtain ⟨rfl, rfl, hw⟩ := hrel
  subst hw
  go_wp2_with fail
  refine (HI.out _).mono ?_
  rintro e w1 ⟨rfl, rfl⟩
  go_wp2_with fail
  (try simp only [Exit.inBlock, Exit.then])
  refine bodyPost_ret (results_none rfl _ _ _) rfl ?_
  exact ⟨rfl, rfl⟩
theorem sort_nil (w : World) : Calls Tryz.prog 87 #[.slice none 0 0] w fun e w' => e = .returned (.tuple #[]) /\ w' = w := by
 have HP : Hid (∀ (l : Int) W, Calls Tryz.prog 123 #[.slice none 0 0, .int .i64 0, .int .i64 0, .int .i64 l] W fun e w' => e = .returned (.tuple #[]) /\ w' = W) := pdq_nil
 have HL : Hid (∀ W, Calls Tryz.prog 124 #[.int .u64 0] W fun e w' => e = .returned (.int .i64 (Lib.bitLen (0 : Int).toNat)) /\ w' = W) := fun W => Tryz.bits_Len 0 W (by omega) (by omega)
 go_enter Tryz.func87, Tryz.ntmps87
 go_wp2_with (first | (go_at_call 124; refine (HL.out _).mono ?_; rintro e w1 ⟨rfl, rfl⟩))
 refine (HP.out _ _).mono ?_
 rintro e w1 ⟨rfl, rfl⟩
 go_wp2_with fail
 go_end0
 exact ⟨rfl, rfl⟩
open P (Xr cellS)
open Go.RowKit Go.Maps
abbrev setN (acc : List Int) : DataW Unit := setOf (.agg []) (acc.map litN)
theorem key_litN (acc : List Int) : ∀ x ∈ acc.map litN, WideAt.IsKeyLit x := by
 intro x hx
 obtain ⟨z, _, rfl⟩ := List.mem_map.1 hx
 exact trivial
theorem same_litN (x y : Int) : (litN x).sameKey (litN y) = decide (x = y) := by
 simp [litN, Lit.sameKey]
theorem has_setN (acc : List Int) (z : Int) : has (setN acc) (litN z) = true ↔ z ∈ acc := by
 rw [has_setOf _ _ _ (key_litN acc), List.any_map, List.any_eq_true]
 constructor
 ·rintro ⟨x, hx, h⟩
  have h2 : (litN x).sameKey (litN z) = true := h
  rw [same_litN] at h2
  exact of_decide_eq_true h2 ▸ hx
 ·intro h
  exact ⟨z, h, by show (litN z).sameKey (litN z) = true; rw [same_litN]; simp⟩
def ColN (acc : List Int) (left : Lit -> Bool) (ss : List Int) : Prop := ss.Nodup /\ ∀ x, x ∈ ss ↔ (x ∈ acc /\ left (litN x) = false)
theorem ColN.start (acc : List Int) : ColN acc (has (setN acc)) [] := ⟨List.nodup_nil, fun x => by
 constructor
 ·intro h; cases h
 ·rintro ⟨h1, h2⟩
  rw [(has_setN acc x).2 h1] at h2
  cases h2⟩
theorem ColN.step {acc ss : List Int} {left : Lit -> Bool} {x : Int} (h : ColN acc left ss) (hl : left (litN x) = true) (hx : x ∈ acc) : ColN acc (fun z => left z && !z.sameKey (litN x)) (ss ++ [x]) := by
 have hn : x ∉ ss := fun hm => by have := ((h.2 x).1 hm).2; rw [hl] at this; cases this
 refine ⟨List.nodup_append.2 ⟨h.1, by simp, fun a ha b hb => by rw [List.mem_singleton] at hb; subst hb; intro e; subst e; exact hn ha⟩, fun z => ?_⟩
 rw [List.mem_append, List.mem_singleton, h.2 z]
 show _ ↔ z ∈ acc /\ (left (litN z) && !(litN z).sameKey (litN x)) = false
 rw [same_litN]
 by_cases e : z = x
 ·subst e
  simp [hx]
 ·simp [e]
theorem ColN.done {acc ss : List Int} {left : Lit -> Bool} (h : ColN acc left ss) (hl : ∀ k, left k = false) (x : Int) : x ∈ ss ↔ x ∈ acc := by
 rw [h.2 x]
 exact ⟨fun h => h.1, fun h => ⟨h, hl _⟩⟩
theorem nodup_le : ∀ (l m : List Int), l.Nodup -> (∀ x ∈ l, x ∈ m) -> l.length <= m.length
 | [], _, _, _ => Nat.zero_le _
 | x :: l, m, hn, hs => by
  have hx : x ∈ m := hs x (List.mem_cons_self ..)
  have h1 := nodup_le l (m.erase x) (List.nodup_cons.1 hn).2 fun y hy => by
   have hne : y ≠ x := fun e => (List.nodup_cons.1 hn).1 (e ▸ hy)
   exact (List.mem_erase_of_ne hne).2 (hs y (List.mem_cons_of_mem _ hy))
  rw [List.length_erase_of_mem hx] at h1
  have h2 := List.length_pos_of_mem hx
  rw [List.length_cons]
  omega
def tabI : List Int := tab.map fun p => ((p.2 : Nat) : Int)
theorem nums_tab {ns : List ByteArray} {z : Int} (h : z ∈ nums ns) : z ∈ tabI := by
 unfold nums at h
 obtain ⟨s, hs, rfl⟩ := List.mem_map.1 h
 have hk := (List.mem_filter.1 hs).2
 unfold knB nrOf at hk
 unfold nrI nrOf
 cases hq : tab.find? fun p => eqS p.1 s with
 | none => rw [hq] at hk; cases hk
 | some p => exact List.mem_map.2 ⟨p, List.mem_of_find?_eq_some hq, rfl⟩
theorem numsR_tab {l : List Xr} {z : Int} (h : z ∈ numsR l) : z ∈ tabI := by
 obtain ⟨x, _, hx⟩ := List.mem_flatMap.1 h
 exact nums_tab hx
theorem tabI_len : tabI.length = 30 := rfl
theorem col_len {l : List Xr} {left : Lit -> Bool} {ss : List Int} (h : ColN (numsR l) left ss) : ss.length <= 30 :=
 tabI_len ▸ nodup_le ss tabI h.1 fun x hx => numsR_tab ((h.2 x).1 hx).1
def Rise (ts : List Int) : Prop := ts.Pairwise (· < ·)
theorem dst_of_nodup {ss : List Int} (h : ss.Nodup) : Dst 0 ss.length ss.toArray := by
 intro i j _ hij hj
 have h1 := List.pairwise_iff_getElem.1 h i j (by omega) hj hij
 rw [getElem!_pos ss.toArray i (by simpa using Nat.lt_trans hij hj), getElem!_pos ss.toArray j (by simpa using hj)]
 simpa using h1
theorem rise_of {ss : List Int} {d' : Array Int} (hn : ss.Nodup) (hp : PermIn 0 ss.length ss.toArray d') (hs : SortedIn ltZ 0 ss.length d') : Rise d'.toList /\ d'.toList.Perm ss /\ d'.size = ss.length := by
 have hsz : d'.size = ss.length := by have := hp.1; simpa using this
 have hD : Dst 0 ss.length d' := (dst_of_nodup hn).perm hp (by simp)
 refine ⟨List.pairwise_iff_getElem.2 fun i j hi hj hij => ?_, ?_, hsz⟩
 ·have hi' : i < d'.size := by simpa using hi
  have hj' : j < d'.size := by simpa using hj
  have h1 := hs i j (Nat.zero_le _) hij (by omega)
  have h2 := hD i j (Nat.zero_le _) hij (by omega)
  rw [getElem!_pos d' i hi', getElem!_pos d' j hj'] at h1 h2
  have h3 := ltZ_false.1 h1
  simp only [Array.getElem_toList]
  omega
 ·have h1 := hp.2.2
  rw [show d'.extract 0 ss.length = d' from by rw [<- hsz]; simp, show ss.toArray.extract 0 ss.length = ss.toArray from by simp] at h1
  exact h1
def NzR (w : World) (v : Value) (l : List Int) : Prop :=
 ∃ a cap, v = .slice a l.length cap /\ l.length <= cap /\ cap <= 9223372036854775807 /\ (0 < l.length -> ∃ b o, a = some ⟨b, o, none⟩ /\ ∀ (i : Nat) (x : Int), l[i]? = some x -> w.cell? ⟨b, o + i, none⟩ = some (.int .u32 x))
theorem NzR.below {w w' : World} {v : Value} {l : List Int} (h : NzR w v l) (hb : Below w.heap.size w w') : NzR w' v l := by
 obtain ⟨a, cap, rfl, h1, h2, hc⟩ := h
 refine ⟨a, cap, rfl, h1, h2, fun h0 => ?_⟩
 obtain ⟨b, o, e, hx⟩ := hc h0
 refine ⟨b, o, e, fun i x hi => ?_⟩
 have h3 := hx i x hi
 exact cellS h3 (hb.block b (World.block_lt_of_cell? w _ h3))
open P (CdR RlR StrR Xl blk_new rlR_at strR_at)
def Lx1 (x : Xl) : Prop := x.names.length <= 40 /\ x.conds.length <= 40 /\ ∀ s ∈ x.names, s.size <= 500
def Lt (l : List Xr) : Prop := l.length <= 70 /\ ∀ x ∈ l, Lx1 x.r
theorem lt_step {l : List Xr} {i : Nat} (h : i < l.length) (h1 : ∀ x ∈ l.take i, Lx1 x.r) (h2 : Lx1 l[i].r) : ∀ x ∈ l.take (i + 1), Lx1 x.r := by
 rw [List.take_succ_eq_append_getElem h]
 intro x hx
 rcases List.mem_append.1 hx with h3 | h3
 ·exact h1 x h3
 ·have : x = l[i] := by simpa using h3
  subst this
  exact h2
theorem sz_step {l : List ByteArray} {i : Nat} (h : i < l.length) (h1 : ∀ x ∈ l.take i, x.size <= 500) (h2 : l[i].size <= 500) : ∀ x ∈ l.take (i + 1), x.size <= 500 := by
 rw [List.take_succ_eq_append_getElem h]
 intro x hx
 rcases List.mem_append.1 hx with h3 | h3
 ·exact h1 x h3
 ·have : x = l[i] := by simpa using h3
  subst this
  exact h2
def LightR (w : World) (l : List Xr) (e : Ending) (w' : World) : Prop := ∃ bb : Bool, e = .returned (.bool bb) /\ Below w.heap.size w w' /\ (bb = true -> Lt l)
set_option maxRecDepth 4000 in
theorem light_any (w : World) (k a : Int) (v : Value) (l : List Xr) (h : RlR w v l) :
  Calls Tryz.prog 15 #[.agg #[.int .i64 k, .int .i64 a, v]] w fun e w' => LightR w l e w' := by
 obtain ⟨p1, c1, rfl⟩ : ∃ p c, v = .slice p l.length c := by obtain ⟨p, c, e, _⟩ := h; exact ⟨p, c, e⟩
 have hmax : l.length <= 9223372036854775807 := by obtain ⟨p, c, e, g1, g2, _⟩ := h; omega
 have be : Below w.heap.size w (w.alloc (Obj.cells #[.int .i64 k, .int .i64 a, .slice p1 l.length c1] 39)) := (Below.refl _ _).alloc (Nat.le_refl _) _
 have BE : Hid (Below w.heap.size w (w.alloc (Obj.cells #[.int .i64 k, .int .i64 a, .slice p1 l.length c1] 39))) := be
 have HK : Hid (Blk (w.alloc (Obj.cells #[.int .i64 k, .int .i64 a, .slice p1 l.length c1] 39)) w.heap.size 39 [.int .i64 k, .int .i64 a, .slice p1 l.length c1]) := blk_new w _ _
 have SN : Hid (RlR (w.alloc (Obj.cells #[.int .i64 k, .int .i64 a, .slice p1 l.length c1] 39)) (.slice p1 l.length c1) l) := h.below be
 clear h be
 by_cases g70 : 70 < l.length
 ·have hd : 70 < (l.length : Int) := by omega
  go_enter Tryz.func15, Tryz.ntmps15
  go_wp2
  go_ret
  exact ⟨false, rfl, BE.out, fun h => by cases h⟩
 ·have hd : ¬ 70 < (l.length : Int) := by omega
  go_enter Tryz.func15, Tryz.ntmps15
  go_wp2
  have t2 : (w.alloc (Obj.cells #[.int .i64 k, .int .i64 a, .slice p1 l.length c1] 39)).cell? ⟨w.heap.size, 2, none⟩ = some (.slice p1 l.length c1) := HK.out.cell 2
  generalize (w.alloc (Obj.cells #[.int .i64 k, .int .i64 a, .slice p1 l.length c1] 39)) = X at *
  go_loop [3] (fun vi => ∃ i : Nat, vi = .int .i64 i /\ i <= l.length /\ ∀ x ∈ l.take i, Lx1 x.r) (fun vi => l.length - (intOf vi).toNat)
  case atStart => exact ⟨0, rfl, Nat.zero_le _, fun x hx => by simp at hx⟩
  case round =>
   obtain ⟨i, rfl, hi, hall⟩ := hrel
   have HALL : Hid (∀ x ∈ l.take i, Lx1 x.r) := hall
   clear hall
   by_cases hlt : i < l.length
   ·have hi1 : (i : Int) < (l.length : Int) := by omega
    obtain ⟨b1, o1, rfl, e1⟩ := rlR_at SN.out hlt
    have hmem : l[i] ∈ l := List.getElem_mem hlt
    have hSx : StrR X l[i].vn l[i].r.names /\ CdR X l[i].vc l[i].r.conds := by obtain ⟨_, _, _, _, _, _, hr⟩ := SN.out; exact hr _ hmem
    have HST : Hid (Lx1 l[i].r -> ∀ x ∈ l.take (i + 1), Lx1 x.r) := fun h2 => lt_step hlt HALL.out h2
    clear hmem
    generalize l[i] = x at *
    obtain ⟨⟨xk, xa, ns, cs⟩, vn, vc⟩ := x
    obtain ⟨q0, q1, q2, q3⟩ := e1
    dsimp only at q0 q1 q2 q3 hSx HST
    obtain ⟨p3, c3, rfl⟩ : ∃ p c, vn = .slice p ns.length c := by obtain ⟨p, c, e, _⟩ := hSx.1; exact ⟨p, c, e⟩
    obtain ⟨p4, c4, rfl⟩ : ∃ p c, vc = .slice p cs.length c := by obtain ⟨p, c, e, _⟩ := hSx.2; exact ⟨p, c, e⟩
    have SS : Hid (StrR X (.slice p3 ns.length c3) ns) := hSx.1
    clear hSx
    by_cases g1 : 40 < ns.length
    ·have g1' : decide (40 < (ns.length : Int)) = true := decide_eq_true (by omega)
     go_wp2
     go_ret
     exact ⟨false, rfl, BE.out, fun h => by cases h⟩
    ·have g1' : decide (40 < (ns.length : Int)) = false := decide_eq_false (by omega)
     by_cases g2 : 40 < cs.length
     ·have g2' : decide (40 < (cs.length : Int)) = true := decide_eq_true (by omega)
      go_wp2
      go_ret
      exact ⟨false, rfl, BE.out, fun h => by cases h⟩
     ·have g2' : decide (40 < (cs.length : Int)) = false := decide_eq_false (by omega)
      go_wp2
      go_loop [4] (fun vj => ∃ j : Nat, vj = .int .i64 j /\ j <= ns.length /\ ∀ x ∈ ns.take j, x.size <= 500) (fun vj => ns.length - (intOf vj).toNat)
      case atStart => exact ⟨0, rfl, Nat.zero_le _, fun x hx => by simp at hx⟩
      case round =>
       obtain ⟨j, rfl, hj, hall⟩ := hrel
       have HALL2 : Hid (∀ x ∈ ns.take j, x.size <= 500) := hall
       clear hall
       by_cases hlt2 : j < ns.length
       ·have hj1 : (j : Int) < (ns.length : Int) := by omega
        obtain ⟨b3, o3, rfl, e3⟩ := strR_at SS.out hlt2
        have HST2 : Hid (ns[j].size <= 500 -> ∀ x ∈ ns.take (j + 1), x.size <= 500) := fun h2 => sz_step hlt2 HALL2.out h2
        generalize ns[j] = s at *
        by_cases g3 : 500 < s.size
        ·have g3' : 500 < (s.size : Int) := by omega
         go_wp2
         go_ret
         exact ⟨false, rfl, BE.out, fun h => by cases h⟩
        ·have g3' : ¬ 500 < (s.size : Int) := by omega
         go_wp2
         go_round
         case rel => exact ⟨j + 1, by go_num, hlt2, HST2.out (by omega)⟩
         case measure => simp [intOf]; omega
       ·have hge2 : ¬ (j : Int) < (ns.length : Int) := by omega
        have HQ : Hid (Lx1 ⟨xk, xa, ns, cs⟩) := ⟨by show ns.length <= 40; omega, by show cs.length <= 40; omega, fun s hs => HALL2.out s (by rw [List.take_of_length_le (by omega)]; exact hs)⟩
        go_wp2
        go_round
        case rel => exact ⟨i + 1, by go_num, hlt, HST.out HQ.out⟩
        case measure => simp [intOf]; omega
   ·have hge : ¬ (i : Int) < (l.length : Int) := by omega
    go_wp2
    go_ret
    exact ⟨true, rfl, BE.out, fun _ => ⟨by omega, fun x hx => HALL.out x (by rw [List.take_of_length_le (by omega)]; exact hx)⟩⟩
def wg1 (x : Xl) : Nat := x.names.length * (8 * x.conds.length + 8)
def wgt (l : List Xr) : Nat := 8 + (l.map fun x => wg1 x.r).sum
theorem info_parts {t : TypeId} {z : Option Value} {s b : Nat} (h : (Tryz.prog.info? t).map (fun i => (i.zero, i.size, i.bytes)) = some (z, s, b)) : ∃ i, Tryz.prog.info? t = some i /\ i.zero = z /\ i.size = s /\ i.bytes = b := by
 cases hi : Tryz.prog.info? t with
 | none => rw [hi] at h; cases h
 | some i =>
  rw [hi] at h
  simp at h
  exact ⟨i, rfl, h.1, h.2.1, h.2.2⟩
section
variable {t sz B b n n' : Nat} {t' : TypeId} {a X Y : World} {v v' : Value} {xs xs' l : List Value}
end
theorem Tryz.infoU : (Tryz.prog.info? 23).map (fun i => (i.zero, i.size, i.bytes)) = some (some (.int .u32 0), 1, 4) := by kernel_rfl
def cellsZ (l : List Int) : List Value := l.map (Value.int .u32)
def NbL (w : World) (B r n base : Nat) (acc : List Int) (v : Value) (wr : World) : Prop :=
 ∃ (left : Lit -> Bool) (cnt : Nat) (ss : List Int), wr.ranges Tryz.prog 23 (unitElem (H := Unit)) B r n (setN acc) left cnt /\ ColN acc left ss /\ wr.ownsRow base 23 1 v ss.length (cellsZ ss) /\ Below w.heap.size w wr /\ base <= wr.heap.size
def NmbR (w : World) (l : List Xr) (e : Ending) (w' : World) : Prop :=
 ∃ v' ts, e = .returned v' /\ NzR w' v' ts /\ Rise ts /\ (∀ z, z ∈ ts ↔ z ∈ numsR l) /\ Below w.heap.size w w'
theorem nbl_end {w wr w' : World} {l : List Xr} {g cap : Nat} {ss : List Int} {d' : Array Int} {tl : List Value} (hs : ∀ z, z ∈ ss ↔ z ∈ numsR l) (hn : ss.Nodup) (hp : PermIn 0 ss.length ss.toArray d') (hso : SortedIn ltZ 0 ss.length d') (hsw : Sw wr g tl d' w')
  (hc1 : ss.length <= cap) (hc2 : cap <= maxLen) (hg : w.heap.size <= g) (hb : Below w.heap.size w wr) : NmbR w l (.returned (.slice (some ⟨g, 0, none⟩) ss.length cap)) w' := by
 obtain ⟨h1, h2, h3⟩ := rise_of hn hp hso
 refine ⟨_, d'.toList, rfl, ⟨some ⟨g, 0, none⟩, cap, by rw [Array.length_toList]; exact congrArg (fun n => Value.slice (some ⟨g, 0, none⟩) n cap) h3.symm, by rw [Array.length_toList, h3]; exact hc1, by have := hc2; unfold maxLen at this; omega, fun _ => ⟨g, 0, rfl, fun i x hi => ?_⟩⟩, h1, fun z => (h2.mem_iff).trans (hs z), ?_⟩
 ·have hi2 : i < d'.size := by have := (List.getElem?_eq_some_iff.1 hi).1; simpa using this
  have h4 := hsw.cell i hi2
  rw [Nat.zero_add, h4]
  rw [getElem!_pos d' i hi2]
  have h5 := (List.getElem?_eq_some_iff.1 hi).2
  simp only [Array.getElem_toList] at h5
  rw [h5]
 ·exact hb.grown hsw.grow hb.size (fun j hj => by cases hj; exact hg)
theorem blk_of_row {w : World} {g : Nat} {cur : Array Value} {ss : List Int} (hb : w.heap[g]? = some (.cells cur 23 (0, 0))) (ht : cur.toList.take (ss.length * 1) = cellsZ ss) : Blk w g 23 (cellsA ss.toArray ++ cur.toList.drop (ss.length * 1)) := by
 unfold Blk
 rw [hb]
 have h1 : cellsA ss.toArray = cellsZ ss := rfl
 rw [h1, <- ht, List.take_append_drop]
set_option maxRecDepth 100000 in
theorem numbers_any (w : World) (k a : Int) (v : Value) (l : List Xr) (h : RlR w v l) (hl : l.length <= 1000) (hs : ∀ x ∈ l, x.r.names.length <= 9000000) (hN : (numsR l).length <= 9000000) :
  Calls Tryz.prog 50 #[.agg #[.int .i64 k, .int .i64 a, v]] w fun e w' => NmbR w l e w' := by
 obtain ⟨p1, c1, rfl⟩ : ∃ p c, v = .slice p l.length c := by obtain ⟨p, c, e, _⟩ := h; exact ⟨p, c, e⟩
 have B0 : Hid (Below w.heap.size w (w.alloc (Obj.cells #[.int .i64 k, .int .i64 a, .slice p1 l.length c1] 39))) := below_new w _
 have HG : Hid (Calls Tryz.prog 86 #[.slice p1 l.length c1] (w.alloc (Obj.cells #[.int .i64 k, .int .i64 a, .slice p1 l.length c1] 39)) fun e w' => GthR (w.alloc (Obj.cells #[.int .i64 k, .int .i64 a, .slice p1 l.length c1] 39)) l e w') := gathered_any _ _ l (h.below (below_new w _)) hl hs hN
 have t2 : (w.alloc (Obj.cells #[.int .i64 k, .int .i64 a, .slice p1 l.length c1] 39)).cell? ⟨w.heap.size, 2, none⟩ = some (.slice p1 l.length c1) := (blk_new w _ _).cell 2
 obtain ⟨i0, hi, hz0, hz1, hz2⟩ := info_parts Tryz.infoU
 have HSrt : Hid (∀ (g n cap : Nat) (tl : List Value) (d : Array Int) (W : World), Blk W g 23 (cellsA d ++ tl) -> d.size = n -> n <= 49 -> Dst 0 n d -> Calls Tryz.prog 87 #[.slice (some ⟨g, 0, none⟩) n cap] W fun e w' => Srd W g 0 n tl d e w') := sort_any
 have HSn : Hid (∀ W, Calls Tryz.prog 87 #[.slice none 0 0] W fun e w' => e = .returned (.tuple #[]) /\ w' = W) := sort_nil
 clear h hs
 go_enter Tryz.func50, Tryz.ntmps50
 go_wp2_with fail
 generalize (w.alloc (Obj.cells #[.int .i64 k, .int .i64 a, .slice p1 l.length c1] 39)) = X at *
 refine HG.out.mono ?_
 rintro e w1 ⟨B, hBX, rfl, hmp, hb1⟩
 have HB1 : Hid (Below w.heap.size w w1) := B0.out.trans (hb1.mono B0.out.size)
 have HBX : Hid (w.heap.size <= B /\ B < w1.heap.size) := ⟨Nat.le_trans B0.out.size hBX, hmp.lt⟩
 clear hb1 HG B0 t2 hBX
 go_wp2_with (first | (at_range; refine wpList_range_own _ rfl _ 160 rfl 23 195 lawU Tryz.underlying160 _ B _ _ rfl hmp ?_; intro w2 hrg0 hg0 hs0) | go_in)
 go_frame
 go_loopw [3] (fun v wr => NbL w B w1.heap.size (numsR l).length w2.heap.size (numsR l) v wr) (fun _ wr => wr.rangeLeft B w1.heap.size)
 case atStart => exact ⟨_, _, [], hrg0, ColN.start _, ⟨rfl, .inl ⟨rfl, rfl⟩⟩, HB1.out.grown hg0 HB1.out.size (fun j hj => by cases hj), Nat.le_refl _⟩
 case round =>
  obtain ⟨left, cnt, ss, hrg, hC, hrow, hnx, hbs⟩ := hrel
  have HC : Hid (ColN (numsR l) left ss) := hC
  have HNX : Hid (Below w.heap.size w wr) := hnx
  have HW2 : Hid (w.heap.size <= w1.heap.size /\ w2.heap.size = w1.heap.size + 1) := ⟨HB1.out.size, hs0⟩
  have hlen : ss.length <= 30 := col_len hC
  clear hC hnx hrg0 hg0 hs0
  go_wp2_with (first
   | (at_next; refine wpList_next_ranges _ rfl _ rfl 23 lawU (unitElem (H := Unit)) (Value.int .u32) (fun _ : Unit => Value.agg #[]) (fun key kl hk => by obtain ⟨x, hx, _⟩ := Maps.keyOf_int_inv Tryz.underlying23 hk; exact ⟨x, hx⟩) (fun v y hv => ⟨(), (unitElem_inv hv).1⟩) B w1.heap.size (numsR l).length _ _ _ rfl hrg ?_ ?_)
   | go_in)
  ·intro hc0 hl0
   have HD : Hid (∀ z, z ∈ ss ↔ z ∈ numsR l) := HC.out.done hl0
   rcases hrow.2 with ⟨rfl, h0⟩ | ⟨g, cap, cur, rfl, hbase, hb, h1, h2, h3, h4⟩
   ·obtain rfl : ss = [] := List.eq_nil_of_length_eq_zero h0
    clear hrow hrg h0 hc0 hl0
    go_wp2_with (first | (go_at_call 87; refine (HSn.out _).mono ?_; rintro e w3 ⟨rfl, hw3⟩; subst w3))
    go_ret
    exact ⟨_, [], rfl, ⟨none, 0, rfl, Nat.le_refl _, by decide, fun h => absurd h (by decide)⟩, List.Pairwise.nil, HD.out, HNX.out⟩
   ·have HQ : Hid (Calls Tryz.prog 87 #[.slice (some ⟨g, 0, none⟩) ss.length cap] wr fun e w' => Srd wr g 0 ss.length (cur.toList.drop (ss.length * 1)) ss.toArray e w') := HSrt.out g ss.length cap _ ss.toArray wr (blk_of_row hb h4) (by simp) (by omega) (dst_of_nodup HC.out.1)
    have HE : Hid (ss.length <= cap /\ cap <= maxLen /\ w.heap.size <= g) := ⟨h1, h2, by have := HW2.out; omega⟩
    clear hrow hrg hc0 hl0 hb h1 h2 h3 h4 hbase
    go_wp2_with (first | (go_at_call 87; refine HQ.out.mono ?_; rintro e w3 ⟨rfl, d', hp, hso, hsw⟩))
    go_ret
    exact nbl_end HD.out HC.out.1 hp hso hsw HE.out.1 HE.out.2.1 HE.out.2.2 HNX.out
  ·intro x kl yd yp w3 cnt3 hkey hlk hv hat hrg3 hlt hg3 hs3 hen
   obtain ⟨x', ex, rfl, _⟩ := Maps.keyOf_int_inv Tryz.underlying23 hkey
   cases ex
   have hx : x ∈ numsR l := (has_setN _ _).1 (has_true_of_atKey hat)
   have HC3 : Hid (ColN (numsR l) (fun z => left z && !z.sameKey (litN x)) (ss ++ [x])) := HC.out.step hlk hx
   have hrow3 := hrow.kept hg3 (Or.inr (row_ne_iter hrow hrg).symm)
   have hbs3 : w2.heap.size <= w3.heap.size := Nat.le_trans hbs hg3.size
   have HNX3 : Hid (Below w.heap.size w w3) := HNX.out.grown hg3 HNX.out.size (fun j hj => by cases hj; exact HW2.out.1)
   have HN3 : Hid (wr.rangeLeft B w1.heap.size = cnt) := hrg.left_eq
   clear hs3 hlk hv hat hx hkey hrow hbs hg3
   go_wp2_with (first
    | (at_builtin; refine wpList_append_own _ rfl _ _ 34 rfl w2.heap.size 23 i0 (.int .u32 0) 1 4 Tryz.underlying34 hi hz0 hz1 hz2 rfl (by decide) _ _ _ rfl (hrow3.alloc _) ⟨w3.heap.size, 0, none⟩ 1 1 [.int .u32 x] rfl rfl (cell_one_new _ _ _) (by simp [Value.oneCell']) (by unfold maxLen; omega) (by omega) (by simp; omega) ?_; intro v' w4 hown' hg4 hnil4; go_frame)
    | go_in)
   have hrg4 := (hrg3.alloc (.cells #[.int .u32 x] 23)).kept hg4 (row_ne_low hrow3 (by have := HW2.out; have := HBX.out; omega)) (row_ne_iter hrow3 hrg3)
   go_roundw
   case rel => exact ⟨_, cnt3, ss ++ [x], hrg4, HC3.out, by simpa [cellsZ] using hown', (HNX3.out.alloc HNX3.out.size _).grown hg4 (by have := HNX3.out.size; simp; omega) (fun j hj => by have := (hrow3.lt j hj).1; have := HW2.out; omega), by have := hg4.size; simp at this; omega⟩
   case measure => rw [hrg4.left_eq, HN3.out]; exact hlt
end Go.Proofs.YtcckipimfgmmdaaGreatDoor.M
namespace Go.Proofs.YtcckipimfgmmdaaGreatDoor.P
open Go.ChangeShapes Go.WideShapes Go.ChangeAt Go.RowKit Go.Deep
def Xr.okIn (y : Xr) (w : World) : Prop := StrR w y.vn y.r.names /\ CdR w y.vc y.r.conds /\ ∀ c ∈ y.r.conds, V.U64 c.mask /\ V.U64 c.val
end Go.Proofs.YtcckipimfgmmdaaGreatDoor.P
namespace Go.Proofs.YtcckipimfgmmdaaGreatDoor.M
open P (CdR RlR StrR Xc Xr)
open V (Da Da.val U64)
open Go.ChangeShapes Go.WideShapes Go.ChangeAt Go.RowKit Go.Deep
theorem cellsOf3 : Tryz.prog.cellsOf 3 = 1 := by kernel_rfl
theorem cellsOf9 : Tryz.prog.cellsOf 9 = 1 := by kernel_rfl
theorem cellsOfU : Tryz.prog.cellsOf 24 = 1 := by kernel_rfl
theorem cellsOfC : Tryz.prog.cellsOf 139 = 4 := by kernel_rfl
theorem cellsOfA : Tryz.prog.cellsOf 36 = 2 := by kernel_rfl
theorem cellsOfR : Tryz.prog.cellsOf 87 = 4 := by kernel_rfl
theorem cellsOfN : Tryz.prog.cellsOf 22 = 1 := by kernel_rfl
theorem cellsOfD : Tryz.prog.cellsOf 85 = 1 := by kernel_rfl
theorem cellsOfL : Tryz.prog.cellsOf 37 = 1 := by kernel_rfl
theorem cellsOfX : Tryz.prog.cellsOf 39 = 3 := by kernel_rfl
theorem u64_of {a : Int} (h : (Lit.int .u64 a).wf = true) : U64 a := bounds_u64 h
section
variable {H : Type} {enc : TypeId × Value -> H} {w : World} {base : Nat} {spare : Nat -> Bool} {held : Bool} {n : Nat} {x : DataW H × List MemPlace}
set_option maxRecDepth 8000 in
theorem open_xc {cs : List Value} (hl : cs.length = 4) (h : DataW.trod enc Tryz.prog w base spare held n 139 cs = some x) :
  ∃ y : Xc, (U64 y.mask /\ U64 y.val) /\ cs = [.int .i64 y.arg, .int .i64 y.op, .int .u64 y.mask, .int .u64 y.val] := by
 obtain ⟨xs, k, _, _, _, hxl, hf⟩ := DataW.trod_struct Tryz.underlying139 h
 match xs, hxl, cs, hl with
 | [y0, y1, y2, y3], _, [v0, v1, v2, v3], _ =>
  have g0 := hf 0 _ rfl
  have g1 := hf 1 _ rfl
  have g2 := hf 2 _ rfl
  have g3 := hf 3 _ rfl
  simp [cellsOf3, cellsOfU] at g0 g1 g2 g3
  obtain ⟨a, ha, _, wa⟩ := DataW.trod_int Tryz.underlying3 g0
  obtain ⟨b, hb, _, wb⟩ := DataW.trod_int Tryz.underlying3 g1
  obtain ⟨c, hc, _, wc⟩ := DataW.trod_int Tryz.underlying24 g2
  obtain ⟨e, he, _, we⟩ := DataW.trod_int Tryz.underlying24 g3
  simp at ha hb hc he
  subst ha hb hc he
  exact ⟨⟨a, b, c, e⟩, ⟨u64_of wc, u64_of we⟩, rfl⟩
theorem open_names {v : Value} (h : DataW.trod enc Tryz.prog w base spare held n 22 [v] = some x) : ∃ l, StrR w v l := by
 rcases open_slice Tryz.underlying22 h with ⟨h0, _⟩ | ⟨a', len', cap', m, n, D, Pl, hcs, hb, hl, hm, hmm, _, hx⟩
 ·simp at h0
  subst h0
  exact ⟨[], none, 0, rfl, Nat.le_refl _, by decide, fun h => absurd h (by decide)⟩
 ·simp at hcs
  subst hcs
  have hlm : len' <= m := by rw [hmm]; split <;> omega
  obtain ⟨f, hf⟩ := choose_lt (α := ByteArray) (n := len') (p := fun i y => w.cells? base (a'.add (i * 1)) 1 = some [.string y]) (fun i hi => by
   obtain ⟨cs', h1, h2⟩ := hx i (by omega)
   rw [cellsOf9] at h1
   obtain ⟨_, hlen, _⟩ := World.cells?_some h1
   match cs', hlen with
   | [u], _ =>
    obtain ⟨d, hd, _, _⟩ := DataW.trod_string Tryz.underlying9 h2
    simp at hd
    subst hd
    exact ⟨d, h1⟩)
  refine ⟨(List.range len').map f, a', cap', by simp, by simpa using hl, by unfold maxLen at hm; omega, fun h0 => ?_⟩
  have h0' : 0 < len' := by simpa using h0
  obtain ⟨b, off, spot⟩ := a'
  have c0 := (World.cells?_some (hf 0 h0')).2.2 0 (by decide)
  have hspot : spot = none := by
   have : (({ block := b, off := off, spot := spot } : Addr).add (0 * 1)).add 0 = ⟨b, off, spot⟩ := by cases spot <;> simp [Addr.add]
   rw [this] at c0
   simpa using World.cell?_spot c0
  subst hspot
  refine ⟨b, off, rfl, fun i y hi => ?_⟩
  have hil : i < len' := by
   have := (List.getElem?_eq_some_iff.1 hi).1
   simpa using this
  simp [hil] at hi
  subst hi
  obtain ⟨_, _, hc⟩ := World.cells?_some (hf i hil)
  have k0 := hc 0 (by decide)
  rw [Addr.add_lit, Addr.add_lit] at k0
  simpa using k0
theorem open_conds {v : Value} (h : DataW.trod enc Tryz.prog w base spare held n 85 [v] = some x) : ∃ l, CdR w v l /\ ∀ c ∈ l, U64 c.mask /\ U64 c.val := by
 rcases open_slice Tryz.underlying85 h with ⟨h0, _⟩ | ⟨a', len', cap', m, n, D, Pl, hcs, hb, hl, hm, hmm, _, hx⟩
 ·simp at h0
  subst h0
  exact ⟨[], ⟨none, 0, rfl, Nat.le_refl _, by decide, fun h => absurd h (by decide)⟩, fun c hc => by cases hc⟩
 ·simp at hcs
  subst hcs
  have hlm : len' <= m := by rw [hmm]; split <;> omega
  haveI : Inhabited Xc := ⟨⟨0, 0, 0, 0⟩⟩
  obtain ⟨f, hf⟩ := choose_lt (α := Xc) (n := len') (p := fun i y => (U64 y.mask /\ U64 y.val) /\ w.cells? base (a'.add (i * 4)) 4 = some [.int .i64 y.arg, .int .i64 y.op, .int .u64 y.mask, .int .u64 y.val]) (fun i hi => by
   obtain ⟨cs', h1, h2⟩ := hx i (by omega)
   rw [cellsOfC] at h1
   obtain ⟨_, hlen, _⟩ := World.cells?_some h1
   obtain ⟨y, hy, rfl⟩ := open_xc hlen h2
   exact ⟨y, hy, h1⟩)
  refine ⟨(List.range len').map f, ⟨a', cap', by simp, by simpa using hl, by unfold maxLen at hm; omega, fun h0 => ?_⟩, fun c hc => ?_⟩
  ·have h0' : 0 < len' := by simpa using h0
   obtain ⟨b, off, spot⟩ := a'
   have c0 := (World.cells?_some (hf 0 h0').2).2.2 0 (by decide)
   have hspot : spot = none := by
    have : (({ block := b, off := off, spot := spot } : Addr).add (0 * 4)).add 0 = ⟨b, off, spot⟩ := by cases spot <;> simp [Addr.add]
    rw [this] at c0
    simpa using World.cell?_spot c0
   subst hspot
   refine ⟨b, off, rfl, fun i y hi => ?_⟩
   have hil : i < len' := by
    have := (List.getElem?_eq_some_iff.1 hi).1
    simpa using this
   simp [hil] at hi
   subst hi
   obtain ⟨_, _, hc⟩ := World.cells?_some (hf i hil).2
   have key : ∀ c, (({ block := b, off := off, spot := none } : Addr).add (i * 4)).add c = ⟨b, off + i * 4 + c, none⟩ := by intro c; rw [Addr.add_lit, Addr.add_lit]
   have k0 := hc 0 (by decide)
   have k1 := hc 1 (by decide)
   have k2 := hc 2 (by decide)
   have k3 := hc 3 (by decide)
   rw [key] at k0 k1 k2 k3
   exact ⟨k0, k1, k2, k3⟩
  ·obtain ⟨i, hi, rfl⟩ := List.mem_map.1 hc
   exact (hf i (by simpa using hi)).1
open P (Xr.okIn)
set_option maxRecDepth 8000 in
theorem open_rule {cs : List Value} (hl : cs.length = 4) (h : DataW.trod enc Tryz.prog w base spare held n 87 cs = some x) :
  ∃ y : Xr, y.okIn w /\ cs = [.int .i64 y.r.k, .int .i64 y.r.a, y.vn, y.vc] := by
 obtain ⟨xs, k, _, _, _, hxl, hf⟩ := DataW.trod_struct Tryz.underlying87 h
 match xs, hxl, cs, hl with
 | [y0, y1, y2], _, [v0, v1, v2, v3], _ =>
  have g0 := hf 0 _ rfl
  have g1 := hf 1 _ rfl
  have g2 := hf 2 _ rfl
  simp [cellsOfA, cellsOfN, cellsOfD] at g0 g1 g2
  obtain ⟨zs, k2, _, _, _, hzl, hz⟩ := DataW.trod_struct Tryz.underlying36 g0
  match zs, hzl with
  | [z0, z1], _ =>
   have i0 := hz 0 _ rfl
   have i1 := hz 1 _ rfl
   simp [cellsOf3] at i0 i1
   obtain ⟨a, ha, _, _⟩ := DataW.trod_int Tryz.underlying3 i0
   obtain ⟨b, hb, _, _⟩ := DataW.trod_int Tryz.underlying3 i1
   simp at ha hb
   subst ha hb
   obtain ⟨ns, hns⟩ := open_names g1
   obtain ⟨cs, hcs, hu⟩ := open_conds g2
   exact ⟨⟨⟨a, b, ns, cs⟩, v2, v3⟩, ⟨hns, hcs, hu⟩, rfl⟩
def RlIn (w : World) (v : Value) (l : List Xr) : Prop := RlR w v l /\ ∀ y ∈ l, ∀ c ∈ y.r.conds, U64 c.mask /\ U64 c.val
theorem open_list {v : Value} (h : DataW.trod enc Tryz.prog w base spare held n 37 [v] = some x) : ∃ l, RlIn w v l := by
 rcases open_slice Tryz.underlying37 h with ⟨h0, _⟩ | ⟨a', len', cap', m, n, D, Pl, hcs, hb, hl, hm, hmm, _, hx⟩
 ·simp at h0
  subst h0
  exact ⟨[], ⟨none, 0, rfl, Nat.le_refl _, by decide, fun h => absurd h (by decide), fun y hy => by cases hy⟩, fun y hy => by cases hy⟩
 ·simp at hcs
  subst hcs
  have hlm : len' <= m := by rw [hmm]; split <;> omega
  haveI : Inhabited Xr := ⟨⟨⟨0, 0, [], []⟩, .bool false, .bool false⟩⟩
  obtain ⟨f, hf⟩ := choose_lt (α := Xr) (n := len') (p := fun i y => y.okIn w /\ w.cells? base (a'.add (i * 4)) 4 = some [.int .i64 y.r.k, .int .i64 y.r.a, y.vn, y.vc]) (fun i hi => by
   obtain ⟨cs', h1, h2⟩ := hx i (by omega)
   rw [cellsOfR] at h1
   obtain ⟨_, hlen, _⟩ := World.cells?_some h1
   obtain ⟨y, hy, rfl⟩ := open_rule hlen h2
   exact ⟨y, hy, h1⟩)
  have hok : ∀ y ∈ (List.range len').map f, y.okIn w := by
   intro y hy
   obtain ⟨i, hi, rfl⟩ := List.mem_map.1 hy
   exact (hf i (by simpa using hi)).1
  refine ⟨(List.range len').map f, ⟨a', cap', by simp, by simpa using hl, by unfold maxLen at hm; omega, fun h0 => ?_, fun y hy => ⟨(hok y hy).1, (hok y hy).2.1⟩⟩, fun y hy => (hok y hy).2.2⟩
  have h0' : 0 < len' := by simpa using h0
  obtain ⟨b, off, spot⟩ := a'
  have c0 := (World.cells?_some (hf 0 h0').2).2.2 0 (by decide)
  have hspot : spot = none := by
   have : (({ block := b, off := off, spot := spot } : Addr).add (0 * 4)).add 0 = ⟨b, off, spot⟩ := by cases spot <;> simp [Addr.add]
   rw [this] at c0
   simpa using World.cell?_spot c0
  subst hspot
  refine ⟨b, off, rfl, fun i y hi => ?_⟩
  have hil : i < len' := by
   have := (List.getElem?_eq_some_iff.1 hi).1
   simpa using this
  simp [hil] at hi
  subst hi
  obtain ⟨_, _, hc⟩ := World.cells?_some (hf i hil).2
  have key : ∀ c, (({ block := b, off := off, spot := none } : Addr).add (i * 4)).add c = ⟨b, off + i * 4 + c, none⟩ := by intro c; rw [Addr.add_lit, Addr.add_lit]
  have k0 := hc 0 (by decide)
  have k1 := hc 1 (by decide)
  have k2 := hc 2 (by decide)
  have k3 := hc 3 (by decide)
  rw [key] at k0 k1 k2 k3
  exact ⟨k0, k1, k2, k3⟩
end
structure Xin where
 k : Int
 a : Int
 v : Value
 l : List Xr
set_option maxRecDepth 8000 in
theorem open_rules {H : Type} {enc : TypeId × Value -> H} {w : World} {base b0 : Nat} {spare : Nat -> Bool} {held : Bool} {r : Reach} {v : Value} {d : DataW H} {p : List MemPlace}
  (hv : Value.okWide Tryz.prog w r b0 39 v) (h : DataW.Trod enc Tryz.prog w base spare held 39 v d p) : ∃ y : Xin, v = .agg #[.int .i64 y.k, .int .i64 y.a, y.v] /\ RlIn w y.v y.l := by
 unfold Value.okWide at hv
 rw [Tryz.underlying39] at hv
 obtain ⟨cs, rfl, hsz, _⟩ := hv
 obtain ⟨fuel, hf⟩ := h
 rw [cellsOfX] at hsz
 obtain ⟨cl⟩ := cs
 match cl, hsz with
 | [v0, v1, v2], _ =>
  obtain ⟨xs, k, _, _, _, hxl, hf⟩ := DataW.trod_struct Tryz.underlying39 hf
  match xs, hxl with
  | [y0, y1], _ =>
   have g0 := hf 0 _ rfl
   have g1 := hf 1 _ rfl
   simp [cellsOfA, cellsOfL, Value.cells] at g0 g1
   obtain ⟨zs, k2, _, _, _, hzl, hz⟩ := DataW.trod_struct Tryz.underlying36 g0
   match zs, hzl with
   | [z0, z1], _ =>
    have i0 := hz 0 _ rfl
    have i1 := hz 1 _ rfl
    simp [cellsOf3] at i0 i1
    obtain ⟨a, ha, _, _⟩ := DataW.trod_int Tryz.underlying3 i0
    obtain ⟨b, hb, _, _⟩ := DataW.trod_int Tryz.underlying3 i1
    simp at ha hb
    subst ha hb
    obtain ⟨l, hl⟩ := open_list g1
    exact ⟨⟨a, b, v2, l⟩, rfl, hl⟩
theorem cellsOfW : Tryz.prog.cellsOf 23 = 1 := by kernel_rfl
theorem cellsOfG : Tryz.prog.cellsOf 25 = 6 := by kernel_rfl
theorem cellsOfDa : Tryz.prog.cellsOf 27 = 9 := by kernel_rfl
set_option maxRecDepth 20000 in
theorem open_dcells {H : Type} {enc : TypeId × Value -> H} {w : World} {base : Nat} {spare : Nat -> Bool} {held : Bool} {n : Nat} {cs : List Value} {x : DataW H × List MemPlace} (hl : cs.length = 9) (h : DataW.trod enc Tryz.prog w base spare held n 27 cs = some x) :
  ∃ y : Da, y.ok /\ cs = y.cells := by
 obtain ⟨xs, k, _, _, _, hxl, hf⟩ := DataW.trod_struct Tryz.underlying27 h
 match xs, hxl, cs, hl with
 | [y0, y1, y2, y3], _, [v0, v1, v2, v3, v4, v5, v6, v7, v8], _ =>
  have g0 := hf 0 _ rfl
  have g1 := hf 1 _ rfl
  have g2 := hf 2 _ rfl
  have g3 := hf 3 _ rfl
  simp [cellsOfW, cellsOfU, cellsOfG] at g0 g1 g2 g3
  obtain ⟨a, ha, _, wa⟩ := DataW.trod_int Tryz.underlying23 g0
  obtain ⟨b, hb, _, wb⟩ := DataW.trod_int Tryz.underlying23 g1
  obtain ⟨c, hc, _, wc⟩ := DataW.trod_int Tryz.underlying24 g2
  obtain ⟨zs, m, _, _, _, hlen, hi⟩ := DataW.trod_array Tryz.underlying25 g3
  have i0 := hi 0 (by omega)
  have i1 := hi 1 (by omega)
  have i2 := hi 2 (by omega)
  have i3 := hi 3 (by omega)
  have i4 := hi 4 (by omega)
  have i5 := hi 5 (by omega)
  rw [cellsOfU] at i0 i1 i2 i3 i4 i5
  match zs, hlen with
  | [z0, z1, z2, z3, z4, z5], _ =>
   obtain ⟨x0, e0, _, w0⟩ := DataW.trod_int Tryz.underlying24 (by simpa using i0)
   obtain ⟨x1, e1, _, w1⟩ := DataW.trod_int Tryz.underlying24 (by simpa using i1)
   obtain ⟨x2, e2, _, w2⟩ := DataW.trod_int Tryz.underlying24 (by simpa using i2)
   obtain ⟨x3, e3, _, w3⟩ := DataW.trod_int Tryz.underlying24 (by simpa using i3)
   obtain ⟨x4, e4, _, w4⟩ := DataW.trod_int Tryz.underlying24 (by simpa using i4)
   obtain ⟨x5, e5, _, w5⟩ := DataW.trod_int Tryz.underlying24 (by simpa using i5)
   simp at ha hb hc e0 e1 e2 e3 e4 e5
   subst ha hb hc e0 e1 e2 e3 e4 e5
   refine ⟨⟨a, b, c, [x0, x1, x2, x3, x4, x5]⟩, ⟨bounds_u32 wa, bounds_u32 wb, bounds_u64 wc, rfl, ?_⟩, rfl⟩
   intro z hz
   simp only [List.mem_cons, List.not_mem_nil, or_false] at hz
   rcases hz with rfl | rfl | rfl | rfl | rfl | rfl
   ·exact bounds_u64 w0
   ·exact bounds_u64 w1
   ·exact bounds_u64 w2
   ·exact bounds_u64 w3
   ·exact bounds_u64 w4
   ·exact bounds_u64 w5
set_option maxRecDepth 8000 in
theorem open_da {H : Type} {enc : TypeId × Value -> H} {w : World} {base b0 : Nat} {spare : Nat -> Bool} {held : Bool} {r : Reach} {v : Value} {d : DataW H} {p : List MemPlace}
  (hv : Value.okWide Tryz.prog w r b0 27 v) (h : DataW.Trod enc Tryz.prog w base spare held 27 v d p) : ∃ y : Da, v = y.val /\ y.ok := by
 unfold Value.okWide at hv
 rw [Tryz.underlying27] at hv
 obtain ⟨cs, rfl, hsz, _⟩ := hv
 obtain ⟨fuel, hf⟩ := h
 rw [cellsOfDa] at hsz
 obtain ⟨y, hy, e⟩ := open_dcells (cs := cs.toList) (by simpa using hsz) hf
 refine ⟨y, ?_, hy⟩
 unfold Da.val
 rw [<- e]
end Go.Proofs.YtcckipimfgmmdaaGreatDoor.M
