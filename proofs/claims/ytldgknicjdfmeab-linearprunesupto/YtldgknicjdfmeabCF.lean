
/- Contracts of ints.Floor, ints.Ceil, over few texts. -/
import Derived.Test.YtldgknicjdfmeabCI
namespace Go.Proofs.Ytldgknicjdfmeab
open Go.ChangeShapes Go.WideShapes Go.ChangeAt Go.RowKit

theorem Floor_any (a b : Int) (w : World) : Calls Try.prog 84 #[.int .i64 a, .int .i64 b] w fun e w' => e = .returned (.tuple #[.int .i64 (flV a b), .int .i64 (cq a b)]) ∧ w = w' := by
  cases hq : cq a b != 0
  · have hq0 : cq a b = 0 := by simpa using hq
    obtain ⟨ha, hb, hn⟩ := cq_ok hq0
    rw [show flV a b = fl a b from if_pos hq0, hq0]
    have hz : (b == 0) = false := beq_eq_false_iff_ne.2 hn
    have HQ : Hid (cq a b = 0) := hq0
    obtain ⟨ha1, ha2⟩ := sm_true ha
    obtain ⟨hb1, hb2⟩ := sm_true hb
    obtain ⟨hd1, hd2⟩ := tdiv_bd b ha
    clear hq hq0 ha hb
    cases ht : a.tmod b != 0
    · rw [fl_exact (by simpa using ht)]
      go_enter Try.func84, Try.ntmps84
      go_wp2_with (go_at_call 86; refine (checkQuotient_any _ _ _).mono ?_; rw [HQ.out]; rintro e w' ⟨rfl, rfl⟩)
      go_ret2
      exact ⟨rfl, rfl⟩
    · have hne : a.tmod b ≠ 0 := by simpa using ht
      by_cases hs : (a < 0 ↔ b < 0)
      · rw [fl_same hn hne hs]
        have hx : (decide (a < 0) != decide (b < 0)) = false := by simp [hs]
        have hy : (decide (a < 0) == decide (b < 0)) = true := by simp [hs]
        clear hs hne
        go_enter Try.func84, Try.ntmps84
        go_wp2_with (go_at_call 86; refine (checkQuotient_any _ _ _).mono ?_; rw [HQ.out]; rintro e w' ⟨rfl, rfl⟩)
        go_ret2
        exact ⟨rfl, rfl⟩
      · rw [fl_down hn hne hs]
        have hx : (decide (a < 0) != decide (b < 0)) = true := by simp [hs]
        have hy : (decide (a < 0) == decide (b < 0)) = false := by simp [hs]
        clear hs hne
        go_enter Try.func84, Try.ntmps84
        go_wp2_with (go_at_call 86; refine (checkQuotient_any _ _ _).mono ?_; rw [HQ.out]; rintro e w' ⟨rfl, rfl⟩)
        go_ret2
        exact ⟨rfl, rfl⟩
  · rw [show flV a b = 0 from if_neg (by simpa using hq)]
    go_enter Try.func84, Try.ntmps84
    go_wp2_with (go_at_call 86; refine (checkQuotient_any _ _ _).mono ?_; rintro e w' ⟨rfl, rfl⟩)
    go_ret2
    exact ⟨rfl, rfl⟩

theorem Ceil_any (a b : Int) (w : World) : Calls Try.prog 82 #[.int .i64 a, .int .i64 b] w fun e w' => e = .returned (.tuple #[.int .i64 (clV a b), .int .i64 (cq a b)]) ∧ w = w' := by
  cases hq : cq a b != 0
  · have hq0 : cq a b = 0 := by simpa using hq
    obtain ⟨ha, hb, hn⟩ := cq_ok hq0
    rw [show clV a b = cl a b from if_pos hq0, hq0]
    have hz : (b == 0) = false := beq_eq_false_iff_ne.2 hn
    have HQ : Hid (cq a b = 0) := hq0
    obtain ⟨ha1, ha2⟩ := sm_true ha
    obtain ⟨hb1, hb2⟩ := sm_true hb
    obtain ⟨hd1, hd2⟩ := tdiv_bd b ha
    clear hq hq0 ha hb
    cases ht : a.tmod b != 0
    · rw [cl_exact (by simpa using ht)]
      go_enter Try.func82, Try.ntmps82
      go_wp2_with (go_at_call 86; refine (checkQuotient_any _ _ _).mono ?_; rw [HQ.out]; rintro e w' ⟨rfl, rfl⟩)
      go_ret2
      exact ⟨rfl, rfl⟩
    · have hne : a.tmod b ≠ 0 := by simpa using ht
      by_cases hs : (a < 0 ↔ b < 0)
      · rw [cl_up hn hne hs]
        have hx : (decide (a < 0) != decide (b < 0)) = false := by simp [hs]
        have hy : (decide (a < 0) == decide (b < 0)) = true := by simp [hs]
        clear hs hne
        go_enter Try.func82, Try.ntmps82
        go_wp2_with (go_at_call 86; refine (checkQuotient_any _ _ _).mono ?_; rw [HQ.out]; rintro e w' ⟨rfl, rfl⟩)
        go_ret2
        exact ⟨rfl, rfl⟩
      · rw [cl_same hn hne hs]
        have hx : (decide (a < 0) != decide (b < 0)) = true := by simp [hs]
        have hy : (decide (a < 0) == decide (b < 0)) = false := by simp [hs]
        clear hs hne
        go_enter Try.func82, Try.ntmps82
        go_wp2_with (go_at_call 86; refine (checkQuotient_any _ _ _).mono ?_; rw [HQ.out]; rintro e w' ⟨rfl, rfl⟩)
        go_ret2
        exact ⟨rfl, rfl⟩
  · rw [show clV a b = 0 from if_neg (by simpa using hq)]
    go_enter Try.func82, Try.ntmps82
    go_wp2_with (go_at_call 86; refine (checkQuotient_any _ _ _).mono ?_; rintro e w' ⟨rfl, rfl⟩)
    go_ret2
    exact ⟨rfl, rfl⟩

end Go.Proofs.Ytldgknicjdfmeab
