/-
  Sorting by a heap.
-/
import Derived.Test.YtifddbfcongepaaSrt2
namespace Go.Proofs.Ytifddbfcongepaa
open Go.RowKit
open Go.Sort (swp size_swp heapBuild heapPop)

theorem sift_size {hi F : Nat} : ∀ (m r : Nat) (d : Array Int), hi - r ≤ m → (Go.Sort.siftDown ltZ hi F r d).size = d.size := by
  intro m
  induction m with
  | zero => intro r d h; rw [sift_out (by omega)]
  | succ m ih =>
    intro r d h
    by_cases h0 : hi ≤ 2 * r + 1
    · rw [sift_out h0]
    · by_cases h1 : 2 * r + 2 < hi ∧ ltZ d[F + (2 * r + 1)]! d[F + (2 * r + 1) + 1]! = true
      · rw [sift_right h1.1 h1.2]
        split
        · rw [ih _ _ (by omega), size_swp]
        · rfl
      · rw [sift_left (by omega) (by by_cases h2 : 2 * r + 2 < hi; exact .inr (by simpa [h2] using h1); exact .inl h2)]
        split
        · rw [ih _ _ (by omega), size_swp]
        · rfl

set_option maxHeartbeats 8000000 in
set_option maxRecDepth 8000 in
theorem heap_any (g n cap a b : Nat) (tl : List Value) (d : Array Int) (w : World) (h : Blk w g 31 (cellsA d ++ tl)) (hd : d.size = n) (hab : a < b) (hb : b ≤ n) (hn : n ≤ 1000) :
    Calls Try.prog 29 #[.slice (some ⟨g, 0, none⟩) n cap, .int .i64 a, .int .i64 b] w fun e w' => e = .returned (.tuple #[]) ∧ Sw w g tl (Go.Sort.heapSort ltZ d a b) w' := by
  obtain ⟨m, hm⟩ : ∃ m, b - a = m := ⟨_, rfl⟩
  have S0 : Hid (Sw w g tl d w) := Sw.refl h
  have HP : Hid (Go.Sort.heapSort ltZ d a b = heapPop ltZ a m (heapBuild ltZ m a ((m - 1) / 2 + 1) d)) := by
    show _ = _
    unfold Go.Sort.heapSort
    rw [hm]
  have HSF : Hid (∀ (lo hi : Nat) (dk : Array Int) W, Blk W g 31 (cellsA dk ++ tl) → dk.size = n → a + hi ≤ n → lo ≤ 1000 → Calls Try.prog 39 #[.slice (some ⟨g, 0, none⟩) n cap, .int .i64 lo, .int .i64 hi, .int .i64 a] W fun e w' => e = .returned (.tuple #[]) ∧ Sw W g tl (Go.Sort.siftDown ltZ hi a lo dk) w') := fun lo hi dk W h1 h2 h3 h4 => sift_any g n cap lo hi a tl dk W h1 h2 h3 h4 hn
  clear h
  generalize Go.Sort.heapSort ltZ d a b = R at *
  generalize hK : (m - 1) / 2 = K at *
  have hKm : K ≤ m := by omega
  go_enter Try.func29, Try.ntmps29
  go_wp2
  have e8 : (b : Int) - (a : Int) = (m : Int) := by omega
  have e9 : ((m : Int) - 1) / 2 = (K : Int) := by omega
  simp only [e8, e9]
  clear e8 e9
  go_loopw [9] (fun vi wr => ∃ (z : Int) (k : Nat) (dk : Array Int), vi = .int .i64 z ∧ z + 1 = (k : Int) ∧ k ≤ K + 1 ∧ dk.size = n ∧ Sw w g tl dk wr ∧ heapBuild ltZ m a k dk = heapBuild ltZ m a (K + 1) d) (fun vi _ => (intOf vi + 1).toNat)
  case atStart => exact ⟨_, K + 1, d, rfl, by omega, Nat.le_refl _, hd, S0.out, rfl⟩
  case round =>
    obtain ⟨z, k, dk, rfl, hz, hk, hsk, hsw, hO⟩ := hrel
    have HO : Hid (heapBuild ltZ m a k dk = heapBuild ltZ m a (K + 1) d) := hO
    have S1 : Hid (Sw w g tl dk wr) := hsw
    clear hO hsw
    cases k with
    | succ k =>
      obtain rfl : z = (k : Int) := by omega
      have hz1 : (0 : Int) ≤ (k : Int) := by omega
      clear hz
      have HC : Hid (Calls Try.prog 39 #[.slice (some ⟨g, 0, none⟩) n cap, .int .i64 k, .int .i64 m, .int .i64 a] wr fun e w' => e = .returned (.tuple #[]) ∧ Sw wr g tl (Go.Sort.siftDown ltZ m a k dk) w') := HSF.out k m dk wr S1.out.blk hsk (by omega) (by omega)
      have HSS : Hid ((Go.Sort.siftDown ltZ m a k dk).size = n) := (sift_size _ _ _ (Nat.le_refl _)).trans hsk
      have HO2 : Hid (heapBuild ltZ m a k (Go.Sort.siftDown ltZ m a k dk) = heapBuild ltZ m a (K + 1) d) := HO.out
      go_wp2_with (go_at_call 39; refine HC.out.mono ?_; rintro e w1 ⟨rfl, s1⟩)
      go_roundw
      case rel => exact ⟨_, k, _, rfl, by omega, by omega, HSS.out, S1.out.trans s1, HO2.out⟩
      case measure => simp [intOf] <;> omega
    | zero =>
      obtain rfl : z = -1 := by omega
      have HO2 : Hid (dk = heapBuild ltZ m a (K + 1) d) := HO.out
      have HP2 : Hid (R = heapPop ltZ a m dk) := by show _ = _; rw [HP.out, ← HO2.out]
      have HBa : Hid (Sw w g tl dk wr) := S1.out
      clear hz HO HO2 HP S1
      go_wp2_with fail
      go_loopw [10] (fun vi wz => ∃ (z : Int) (k : Nat) (dj : Array Int), vi = .int .i64 z ∧ z + 1 = (k : Int) ∧ k ≤ m ∧ dj.size = n ∧ Sw w g tl dj wz ∧ heapPop ltZ a k dj = R) (fun vi _ => (intOf vi + 1).toNat)
      case atStart => exact ⟨_, m, dk, rfl, by omega, Nat.le_refl _, hsk, HBa.out, HP2.out.symm⟩
      case round =>
        obtain ⟨z, k, dj, rfl, hz, hk, hsj, hsw, hO⟩ := hrel
        have HO : Hid (heapPop ltZ a k dj = R) := hO
        have S1 : Hid (Sw w g tl dj wr) := hsw
        clear hO
        cases k with
        | succ k =>
          obtain rfl : z = (k : Int) := by omega
          have hz1 : (0 : Int) ≤ (k : Int) := by omega
          clear hz
          have iwk : IntKind.i64.wrap ((a : Int) + (k : Int)) = (a : Int) + (k : Int) := by rw [IntKind.wrap_i64]; omega
          have ipk : (0 : Int) ≤ (a : Int) + (k : Int) := by omega
          have ibk : (a : Int) + (k : Int) < (n : Int) := by omega
          have iek : ((a : Int) + (k : Int)).toNat = a + k := by omega
          have ca : wr.cell? ⟨g, a, none⟩ = some (.int .u64 dj[a]!) := hsw.cell a (by omega)
          have ck : wr.cell? ⟨g, a + k, none⟩ = some (.int .u64 dj[a + k]!) := hsw.cell (a + k) (by omega)
          have fa : wr.frozen? ⟨g, a, none⟩ = false := hsw.f _
          have fk : wr.frozen? ⟨g, a + k, none⟩ = false := hsw.f _
          have ba : (a : Int) < (n : Int) := by omega
          have SZ : Hid (Sw w g tl (swp dj a (a + k)) (((wr.setCell ⟨g, a, none⟩ (.int .u64 dj[a + k]!)).setCell ⟨g, a + k, none⟩ (.int .u64 dj[a]!)).drew)) := (hsw.swap a (a + k) (by omega) (by omega)).drew
          obtain ⟨u2, c2⟩ : ∃ u, (wr.setCell ⟨g, a, none⟩ (.int .u64 dj[a + k]!)).cell? ⟨g, a + k, none⟩ = some u := ⟨_, (hsw.set a _ (by omega)).cell (a + k) (by simp; omega)⟩
          have f2 : (wr.setCell ⟨g, a, none⟩ (.int .u64 dj[a + k]!)).frozen? ⟨g, a + k, none⟩ = false := (hsw.set a _ (by omega)).f _
          have HO2 : Hid (heapPop ltZ a k (Go.Sort.siftDown ltZ k a 0 (swp dj a (a + k))) = R) := HO.out
          have HSS : Hid ((Go.Sort.siftDown ltZ k a 0 (swp dj a (a + k))).size = n) := (sift_size _ _ _ (Nat.le_refl _)).trans (by rw [size_swp]; exact hsj)
          clear hsw HO
          generalize hx1 : dj[a]! = x1 at *
          generalize hx2 : dj[a + k]! = x2 at *
          clear hx1 hx2
          go_wp2_with fail
          go_big_region
          go_wp2_with fail
          generalize ((wr.setCell ⟨g, a, none⟩ (.int .u64 x2)).setCell ⟨g, a + k, none⟩ (.int .u64 x1)).drew = w2 at *
          have HC : Hid (Calls Try.prog 39 #[.slice (some ⟨g, 0, none⟩) n cap, .int .i64 0, .int .i64 k, .int .i64 a] w2 fun e w' => e = .returned (.tuple #[]) ∧ Sw w2 g tl (Go.Sort.siftDown ltZ k a 0 (swp dj a (a + k))) w') := HSF.out 0 k _ w2 SZ.out.blk (by rw [size_swp]; exact hsj) (by omega) (by omega)
          refine HC.out.mono ?_
          rintro e w3 ⟨rfl, s3⟩
          have S3 : Hid (Sw w g tl (Go.Sort.siftDown ltZ k a 0 (swp dj a (a + k))) w3) := SZ.out.trans s3
          clear s3 c2 f2 ca ck fa fk
          go_wp2_with fail
          go_roundw
          case rel => exact ⟨_, k, _, rfl, by omega, by omega, HSS.out, S3.out, HO2.out⟩
          case measure => simp [intOf] <;> omega
        | zero =>
          obtain rfl : z = -1 := by omega
          have HO2 : Hid (dj = R) := HO.out
          clear hz hsw
          go_wp2_with fail
          go_end0
          exact ⟨rfl, by rw [← HO2.out]; exact S1.out⟩

end Go.Proofs.Ytifddbfcongepaa
