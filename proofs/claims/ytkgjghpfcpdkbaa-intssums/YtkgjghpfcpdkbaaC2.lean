/- Contracts of ints.Floor, ints.Ceil, ints.Gcd. -/
import Derived.Test.YtkgjghpfcpdkbaaC1
namespace Go.Proofs.Ytkgjghpfcpdkbaa
open Go.ChangeShapes Go.WideShapes Go.ChangeAt Go.RowKit

theorem Floor_any (a b : Int) (w : World) : Calls Try.prog 22 #[.int .i64 a, .int .i64 b] w fun e w' => e = .returned (.tuple #[.int .i64 (flV a b), .int .i64 (cq a b)]) ∧ w = w' := by
  cases hq : cq a b != 0
  · have hq0 : cq a b = 0 := by simpa using hq
    obtain ⟨ha, hb, hn⟩ := cq_ok hq0
    rw [show flV a b = fl a b from if_pos hq0, hq0]
    have hz : (b == 0) = false := beq_eq_false_iff_ne.2 hn
    have HQ : Hid (cq a b = 0) := hq0
    obtain ⟨ha1, ha2⟩ := sm_true ha
    obtain ⟨hb1, hb2⟩ := sm_true hb
    obtain ⟨hd1, hd2⟩ := tdiv_bd b ha
    clear hq hq0 ha hb
    cases ht : a.tmod b != 0
    · rw [fl_exact (by simpa using ht)]
      go_enter Try.func22, Try.ntmps22
      go_wp2_with (go_at_call 32; refine (checkQuotient_any _ _ _).mono ?_; rw [HQ.out]; rintro e w' ⟨rfl, rfl⟩)
      go_ret2
      exact ⟨rfl, rfl⟩
    · have hne : a.tmod b ≠ 0 := by simpa using ht
      by_cases hs : (a < 0 ↔ b < 0)
      · rw [fl_same hn hne hs]
        have hx : (decide (a < 0) != decide (b < 0)) = false := by simp [hs]
        have hy : (decide (a < 0) == decide (b < 0)) = true := by simp [hs]
        clear hs hne
        go_enter Try.func22, Try.ntmps22
        go_wp2_with (go_at_call 32; refine (checkQuotient_any _ _ _).mono ?_; rw [HQ.out]; rintro e w' ⟨rfl, rfl⟩)
        go_ret2
        exact ⟨rfl, rfl⟩
      · rw [fl_down hn hne hs]
        have hx : (decide (a < 0) != decide (b < 0)) = true := by simp [hs]
        have hy : (decide (a < 0) == decide (b < 0)) = false := by simp [hs]
        clear hs hne
        go_enter Try.func22, Try.ntmps22
        go_wp2_with (go_at_call 32; refine (checkQuotient_any _ _ _).mono ?_; rw [HQ.out]; rintro e w' ⟨rfl, rfl⟩)
        go_ret2
        exact ⟨rfl, rfl⟩
  · rw [show flV a b = 0 from if_neg (by simpa using hq)]
    go_enter Try.func22, Try.ntmps22
    go_wp2_with (go_at_call 32; refine (checkQuotient_any _ _ _).mono ?_; rintro e w' ⟨rfl, rfl⟩)
    go_ret2
    exact ⟨rfl, rfl⟩

theorem Ceil_any (a b : Int) (w : World) : Calls Try.prog 24 #[.int .i64 a, .int .i64 b] w fun e w' => e = .returned (.tuple #[.int .i64 (clV a b), .int .i64 (cq a b)]) ∧ w = w' := by
  cases hq : cq a b != 0
  · have hq0 : cq a b = 0 := by simpa using hq
    obtain ⟨ha, hb, hn⟩ := cq_ok hq0
    rw [show clV a b = cl a b from if_pos hq0, hq0]
    have hz : (b == 0) = false := beq_eq_false_iff_ne.2 hn
    have HQ : Hid (cq a b = 0) := hq0
    obtain ⟨ha1, ha2⟩ := sm_true ha
    obtain ⟨hb1, hb2⟩ := sm_true hb
    obtain ⟨hd1, hd2⟩ := tdiv_bd b ha
    clear hq hq0 ha hb
    cases ht : a.tmod b != 0
    · rw [cl_exact (by simpa using ht)]
      go_enter Try.func24, Try.ntmps24
      go_wp2_with (go_at_call 32; refine (checkQuotient_any _ _ _).mono ?_; rw [HQ.out]; rintro e w' ⟨rfl, rfl⟩)
      go_ret2
      exact ⟨rfl, rfl⟩
    · have hne : a.tmod b ≠ 0 := by simpa using ht
      by_cases hs : (a < 0 ↔ b < 0)
      · rw [cl_up hn hne hs]
        have hx : (decide (a < 0) != decide (b < 0)) = false := by simp [hs]
        have hy : (decide (a < 0) == decide (b < 0)) = true := by simp [hs]
        clear hs hne
        go_enter Try.func24, Try.ntmps24
        go_wp2_with (go_at_call 32; refine (checkQuotient_any _ _ _).mono ?_; rw [HQ.out]; rintro e w' ⟨rfl, rfl⟩)
        go_ret2
        exact ⟨rfl, rfl⟩
      · rw [cl_same hn hne hs]
        have hx : (decide (a < 0) != decide (b < 0)) = true := by simp [hs]
        have hy : (decide (a < 0) == decide (b < 0)) = false := by simp [hs]
        clear hs hne
        go_enter Try.func24, Try.ntmps24
        go_wp2_with (go_at_call 32; refine (checkQuotient_any _ _ _).mono ?_; rw [HQ.out]; rintro e w' ⟨rfl, rfl⟩)
        go_ret2
        exact ⟨rfl, rfl⟩
  · rw [show clV a b = 0 from if_neg (by simpa using hq)]
    go_enter Try.func24, Try.ntmps24
    go_wp2_with (go_at_call 32; refine (checkQuotient_any _ _ _).mono ?_; rintro e w' ⟨rfl, rfl⟩)
    go_ret2
    exact ⟨rfl, rfl⟩

theorem Gcd_any (a b : Int) (w : World) : Calls Try.prog 26 #[.int .i64 a, .int .i64 b] w fun e w' => e = .returned (.tuple #[.int .i64 (gcV a b), .int .i64 (bg a b)]) ∧ Below w.heap.size w w' := by
  cases ha : sm a
  · rw [show gcV a b = 0 from if_neg (by simp [ha]), show bg a b = 10 from if_neg (by simp [ha])]
    go_enter Try.func26, Try.ntmps26
    go_wp2_with (go_at_call 30; refine (small_any _ _).mono ?_; rintro e w' ⟨rfl, rfl⟩)
    go_ret2
    exact ⟨rfl, Below.refl _ _⟩
  · cases hb : sm b
    · rw [show gcV a b = 0 from if_neg (by simp [hb]), show bg a b = 10 from if_neg (by simp [hb])]
      go_enter Try.func26, Try.ntmps26
      go_wp2_with (go_at_call 30; refine (small_any _ _).mono ?_; rintro e w' ⟨rfl, rfl⟩)
      go_ret2
      exact ⟨rfl, Below.refl _ _⟩
    · rw [show gcV a b = (Int.gcd a b : Int) from if_pos ⟨ha, hb⟩, show bg a b = 0 from if_pos ⟨ha, hb⟩]
      have hsa : Hid (sm a = true) := ha
      have hsb : Hid (sm b = true) := hb
      have ea : Hid (sz a = (a.natAbs : Int)) := sz_natAbs a
      have eb : Hid (sz b = (b.natAbs : Int)) := sz_natAbs b
      have ba := (sm_natAbs a).1 ha
      have bb := (sm_natAbs b).1 hb
      go_enter Try.func26, Try.ntmps26
      go_wp2_with (first | (go_at_call 30; refine (small_any _ _).mono ?_; rintro e w' ⟨rfl, rfl⟩) | (go_at_call 31; refine (size_any _ _ (by first | exact hsa.out | exact hsb.out)).mono ?_; rintro e w' ⟨rfl, rfl⟩))
      rw [ea.out, eb.out]
      go_loopw [0, 1] (fun x y wr => ∃ m n : Nat, m ≤ 4611686018427387904 ∧ n ≤ 4611686018427387904 ∧ x = .int .i64 m ∧ y = .int .i64 n ∧ Nat.gcd m n = Int.gcd a b ∧ Below w.heap.size w wr) (fun _ y _ => (intOf y).toNat)
      case atStart => exact ⟨a.natAbs, b.natAbs, ba, bb, rfl, rfl, rfl, Below.refl _ _⟩
      case round =>
        obtain ⟨m, n, hm, hn, rfl, rfl, hg, hB⟩ := hrel
        have HG : Hid (Nat.gcd m n = Int.gcd a b) := hg
        clear hg
        by_cases hz : n = 0
        · subst hz
          go_wp2
          go_ret2
          rw [← HG.out]
          exact ⟨by simp, hB⟩
        · have hnz : ((n : Int) != 0) = true := by simpa using hz
          have hnz' : ((n : Int) == 0) = false := by simpa using hz
          go_wp2
          go_region
          go_wp2
          have hlt : m % n < n := Nat.mod_lt _ (by omega)
          refine ⟨⟨n, m % n, hn, by omega, rfl, by rw [Int.natCast_emod], ?_, hB.drew⟩, ?_⟩
          · rw [← HG.out, Nat.gcd_comm n, ← Nat.gcd_rec, Nat.gcd_comm]
          · simp [intOf]; omega

/-! ### The same, where the answers are known -/
theorem Add_is {a b s : Int} {k : Bool} (w : World) (h1 : pr (add2 a b) = s) (h2 : ok (add2 a b) = k) : Calls Try.prog 13 #[.int .i64 a, .int .i64 b] w fun e w' => e = .returned (.tuple #[.int .i64 s, .bool k]) ∧ Below w.heap.size w w' := by
  subst h1 h2; exact Add_any a b w
theorem Sub_is {a b s : Int} {k : Bool} (w : World) (hb : i64 b) (h1 : pr (sub2 a b) = s) (h2 : ok (sub2 a b) = k) : Calls Try.prog 15 #[.int .i64 a, .int .i64 b] w fun e w' => e = .returned (.tuple #[.int .i64 s, .bool k]) ∧ Below w.heap.size w w' := by
  subst h1 h2; exact Sub_any a b w hb
theorem Mul_is {a b s : Int} {k : Bool} (w : World) (h1 : pr (mul2 a b) = s) (h2 : ok (mul2 a b) = k) : Calls Try.prog 17 #[.int .i64 a, .int .i64 b] w fun e w' => e = .returned (.tuple #[.int .i64 s, .bool k]) ∧ w = w' := by
  subst h1 h2; exact Mul_any a b w
theorem Floor_is {a b s k : Int} (w : World) (h1 : flV a b = s) (h2 : cq a b = k) : Calls Try.prog 22 #[.int .i64 a, .int .i64 b] w fun e w' => e = .returned (.tuple #[.int .i64 s, .int .i64 k]) ∧ w = w' := by
  subst h1 h2; exact Floor_any a b w
theorem Ceil_is {a b s k : Int} (w : World) (h1 : clV a b = s) (h2 : cq a b = k) : Calls Try.prog 24 #[.int .i64 a, .int .i64 b] w fun e w' => e = .returned (.tuple #[.int .i64 s, .int .i64 k]) ∧ w = w' := by
  subst h1 h2; exact Ceil_any a b w
theorem Gcd_is {a b s k : Int} (w : World) (h1 : gcV a b = s) (h2 : bg a b = k) : Calls Try.prog 26 #[.int .i64 a, .int .i64 b] w fun e w' => e = .returned (.tuple #[.int .i64 s, .int .i64 k]) ∧ Below w.heap.size w w' := by
  subst h1 h2; exact Gcd_any a b w
end Go.Proofs.Ytkgjghpfcpdkbaa
