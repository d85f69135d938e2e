/- Contracts of the document's own answers: secateurref01.Floor, Ceil, Gcd. -/
import Derived.Test.YtkgjghpfcpdkbaaR1
namespace Go.Proofs.Ytkgjghpfcpdkbaa
open Go.ChangeShapes Go.WideShapes Go.ChangeAt Go.RowKit

theorem rFloor_any (a b : Int) (w : World) : Calls Try.prog 23 #[.int .i64 a, .int .i64 b] w fun e w' => e = .returned (.tuple #[.int .i64 (flV a b), .int .i64 (cq a b)]) ∧ w = w' := by
  cases ha : sm a
  · have hq : cq a b = 10 := by simp [cq, ha]
    rw [show flV a b = 0 from if_neg (by rw [hq]; decide), hq]
    clear hq
    go_enter Try.func23, Try.ntmps23
    go_wp2_with (go_at_call 29; refine (rSmall_any _ _).mono ?_; rintro e w' ⟨rfl, rfl⟩)
    go_ret2
    exact ⟨rfl, rfl⟩
  · cases hb : sm b
    · have hq : cq a b = 10 := by simp [cq, hb]
      rw [show flV a b = 0 from if_neg (by rw [hq]; decide), hq]
      clear hq
      go_enter Try.func23, Try.ntmps23
      go_wp2_with (go_at_call 29; refine (rSmall_any _ _).mono ?_; rintro e w' ⟨rfl, rfl⟩)
      go_ret2
      exact ⟨rfl, rfl⟩
    · cases hz : b == 0
      · have hn : b ≠ 0 := beq_eq_false_iff_ne.1 hz
        have hq : cq a b = 0 := cq_mk ha hb hn
        rw [show flV a b = fl a b from if_pos hq, hq]
        clear hq
        obtain ⟨ha1, ha2⟩ := sm_true ha
        obtain ⟨hb1, hb2⟩ := sm_true hb
        by_cases h0 : b < 0
        · rw [← fl_neg_neg]
          go_enter Try.func23, Try.ntmps23
          go_wp2_with (go_at_call 29; refine (rSmall_any _ _).mono ?_; rintro e w' ⟨rfl, rfl⟩)
          go_ret2
          rw [fl_negs ha hb h0]
          exact ⟨rfl, rfl⟩
        · obtain ⟨t1, t2⟩ := tmod_bd (a := a) (b := b) (by omega)
          have hd : decide (b < 0) = false := by simp; omega
          go_enter Try.func23, Try.ntmps23
          go_wp2_with (go_at_call 29; refine (rSmall_any _ _).mono ?_; rintro e w' ⟨rfl, rfl⟩)
          go_ret2
          rw [fl_pos ha hb (by omega)]
          exact ⟨rfl, rfl⟩
      · have hq : cq a b = 1 := by unfold cq; rw [if_pos ⟨ha, hb⟩, if_pos (beq_iff_eq.1 hz)]
        rw [show flV a b = 0 from if_neg (by rw [hq]; decide), hq]
        clear hq
        go_enter Try.func23, Try.ntmps23
        go_wp2_with (go_at_call 29; refine (rSmall_any _ _).mono ?_; rintro e w' ⟨rfl, rfl⟩)
        go_ret2
        exact ⟨rfl, rfl⟩

theorem rCeil_any (a b : Int) (w : World) : Calls Try.prog 25 #[.int .i64 a, .int .i64 b] w fun e w' => e = .returned (.tuple #[.int .i64 (clV a b), .int .i64 (cq a b)]) ∧ w = w' := by
  cases ha : sm a
  · have hq : cq a b = 10 := by simp [cq, ha]
    rw [show clV a b = 0 from if_neg (by rw [hq]; decide), hq]
    clear hq
    go_enter Try.func25, Try.ntmps25
    go_wp2_with (go_at_call 29; refine (rSmall_any _ _).mono ?_; rintro e w' ⟨rfl, rfl⟩)
    go_ret2
    exact ⟨rfl, rfl⟩
  · cases hb : sm b
    · have hq : cq a b = 10 := by simp [cq, hb]
      rw [show clV a b = 0 from if_neg (by rw [hq]; decide), hq]
      clear hq
      go_enter Try.func25, Try.ntmps25
      go_wp2_with (go_at_call 29; refine (rSmall_any _ _).mono ?_; rintro e w' ⟨rfl, rfl⟩)
      go_ret2
      exact ⟨rfl, rfl⟩
    · obtain ⟨ha1, ha2⟩ := sm_true ha
      have hc := cl_ref (b := b) ha
      have hq : cq (-a) b = cq a b := by unfold cq; rw [sm_neg]
      rw [← hq]
      have HC : Hid (wrap64 (-flV (-a) b) = clV a b) := hc
      clear hc hq
      go_enter Try.func25, Try.ntmps25
      go_wp2_with (first | (go_at_call 29; refine (rSmall_any _ _).mono ?_; rintro e w' ⟨rfl, rfl⟩) | (go_at_call 23; refine (rFloor_any _ _ _).mono ?_; rintro e w' ⟨rfl, rfl⟩))
      go_ret2
      rw [HC.out]
      exact ⟨rfl, rfl⟩

theorem rGcd_any (a b : Int) (w : World) : Calls Try.prog 27 #[.int .i64 a, .int .i64 b] w fun e w' => e = .returned (.tuple #[.int .i64 (gcV a b), .int .i64 (bg a b)]) ∧ w = w' := by
  cases ha : sm a
  · rw [show gcV a b = 0 from if_neg (by simp [ha]), show bg a b = 10 from if_neg (by simp [ha])]
    go_enter Try.func27, Try.ntmps27
    go_wp2_with (go_at_call 29; refine (rSmall_any _ _).mono ?_; rintro e w' ⟨rfl, rfl⟩)
    go_ret2
    exact ⟨rfl, rfl⟩
  · cases hb : sm b
    · rw [show gcV a b = 0 from if_neg (by simp [hb]), show bg a b = 10 from if_neg (by simp [hb])]
      go_enter Try.func27, Try.ntmps27
      go_wp2_with (go_at_call 29; refine (rSmall_any _ _).mono ?_; rintro e w' ⟨rfl, rfl⟩)
      go_ret2
      exact ⟨rfl, rfl⟩
    · rw [show gcV a b = (Int.gcd a b : Int) from if_pos ⟨ha, hb⟩, show bg a b = 0 from if_pos ⟨ha, hb⟩]
      obtain ⟨ha1, ha2⟩ := sm_true ha
      obtain ⟨hb1, hb2⟩ := sm_true hb
      go_enter Try.func27, Try.ntmps27
      go_wp2_with (go_at_call 29; refine (rSmall_any _ _).mono ?_; rintro e w' ⟨rfl, rfl⟩)
      all_goals
        go_loop [6, 7] (fun x y => ∃ m n : Nat, m ≤ 4611686018427387904 ∧ n ≤ 4611686018427387904 ∧ x = .int .i64 m ∧ y = .int .i64 n ∧ Nat.gcd m n = Int.gcd a b) (fun x y => (intOf x).toNat + (intOf y).toNat)
        case atStart => exact ⟨a.natAbs, b.natAbs, by omega, by omega, congrArg (Value.int .i64) (by omega), congrArg (Value.int .i64) (by omega), rfl⟩
        case round =>
          obtain ⟨m, n, hm, hn, rfl, rfl, hg⟩ := hrel
          have HG : Hid (Nat.gcd m n = Int.gcd a b) := hg
          clear hg
          by_cases hz : m = 0
          · subst hz
            go_wp2
            go_ret2
            rw [← HG.out]
            exact ⟨by simp, rfl⟩
          · have hmz : ((m : Int) != 0) = true := by simpa using hz
            have hmz' : ((m : Int) == 0) = false := by simpa using hz
            by_cases hy : n = 0
            · subst hy
              go_wp2
              go_ret2
              rw [← HG.out]
              exact ⟨by simp, rfl⟩
            · have hnz : ((n : Int) != 0) = true := by simpa using hy
              have hnz' : ((n : Int) == 0) = false := by simpa using hy
              by_cases hle : n ≤ m
              · have hlt : m % n < n := Nat.mod_lt _ (by omega)
                have HL : Hid (m % n < n) := hlt
                clear hlt
                go_wp2
                refine ⟨⟨m % n, n, by have := HL.out; omega, hn, by rw [Int.natCast_emod], rfl, ?_⟩, ?_⟩
                · rw [← HG.out, ← Nat.gcd_rec, Nat.gcd_comm]
                · have := HL.out; simp [intOf]; omega
              · have hlt : n % m < m := Nat.mod_lt _ (by omega)
                have HL : Hid (n % m < m) := hlt
                clear hlt
                go_wp2
                refine ⟨⟨m, n % m, hm, by have := HL.out; omega, rfl, by rw [Int.natCast_emod], ?_⟩, ?_⟩
                · rw [← HG.out, Nat.gcd_comm, ← Nat.gcd_rec]
                · have := HL.out; simp [intOf]; omega
end Go.Proofs.Ytkgjghpfcpdkbaa
