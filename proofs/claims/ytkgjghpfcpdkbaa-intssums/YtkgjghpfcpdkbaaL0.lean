/- Contract of the law's own 'fixed': calls whose answers the document fixes. -/
import Derived.Test.YtkgjghpfcpdkbaaC2
import Derived.Test.YtkgjghpfcpdkbaaC3
namespace Go.Proofs.Ytkgjghpfcpdkbaa
open Go.ChangeShapes Go.WideShapes Go.ChangeAt Go.RowKit

theorem fx_add (w : World) : Calls Try.prog 13 #[.int .i64 4611686018427387904, .int .i64 1] w fun e w' => e = .returned (.tuple #[.int .i64 0, .bool false]) ∧ Below w.heap.size w w' := by
  have h := Add_any 4611686018427387904 1 w
  rwa [show add2 4611686018427387904 1 = none from by decide] at h
theorem fx_mul (w : World) : Calls Try.prog 17 #[.int .i64 (-3), .int .i64 7] w fun e w' => e = .returned (.tuple #[.int .i64 (-21), .bool true]) ∧ w = w' := by
  have h := Mul_any (-3) 7 w
  rwa [show mul2 (-3) 7 = some (-21) from by decide] at h
theorem fx_floor (w : World) : Calls Try.prog 22 #[.int .i64 (-7), .int .i64 2] w fun e w' => e = .returned (.tuple #[.int .i64 (-4), .int .i64 0]) ∧ w = w' := by
  have h := Floor_any (-7) 2 w
  rwa [show flV (-7) 2 = -4 from by decide, show cq (-7) 2 = 0 from by decide] at h
theorem fx_ceil (w : World) : Calls Try.prog 24 #[.int .i64 (-7), .int .i64 2] w fun e w' => e = .returned (.tuple #[.int .i64 (-3), .int .i64 0]) ∧ w = w' := by
  have h := Ceil_any (-7) 2 w
  rwa [show clV (-7) 2 = -3 from by decide, show cq (-7) 2 = 0 from by decide] at h
theorem fx_gcd (w : World) : Calls Try.prog 26 #[.int .i64 12, .int .i64 (-18)] w fun e w' => e = .returned (.tuple #[.int .i64 6, .int .i64 0]) ∧ Below w.heap.size w w' := by
  have h := Gcd_any 12 (-18) w
  rwa [show gcV 12 (-18) = 6 from by decide, show bg 12 (-18) = 0 from by decide] at h
theorem fx_zero (w : World) : Calls Try.prog 22 #[.int .i64 1, .int .i64 0] w fun e w' => e = .returned (.tuple #[.int .i64 0, .int .i64 1]) ∧ w = w' := by
  have h := Floor_any 1 0 w
  rwa [show flV 1 0 = 0 from by decide, show cq 1 0 = 1 from by decide] at h
theorem fx_big (w : World) : Calls Try.prog 26 #[.int .i64 4611686018427387905, .int .i64 1] w fun e w' => e = .returned (.tuple #[.int .i64 0, .int .i64 10]) ∧ Below w.heap.size w w' := by
  have h := Gcd_any 4611686018427387905 1 w
  rwa [show gcV 4611686018427387905 1 = 0 from by decide, show bg 4611686018427387905 1 = 10 from by decide] at h

/-- two rows of two that the caller has just laid -/
theorem two_rows (w : World) (a b c d : Int) : Sl ((w.alloc (.cells #[.int .i64 a, .int .i64 b] 3)).alloc (.cells #[.int .i64 c, .int .i64 d] 3)) (some ⟨w.heap.size, 0, none⟩) [a, b] ∧
    Sl ((w.alloc (.cells #[.int .i64 a, .int .i64 b] 3)).alloc (.cells #[.int .i64 c, .int .i64 d] 3)) (some ⟨w.heap.size + 1, 0, none⟩) [c, d] := by
  refine ⟨.inr ⟨_, _, rfl, by simp; omega, ?_⟩, .inr ⟨_, _, rfl, by simp, ?_⟩⟩
  · intro i hi
    match i, hi with
    | 0, _ => simp [go_sem]
    | 1, _ => simp [go_sem]
  · intro i hi
    match i, hi with
    | 0, _ => simp [go_sem]
    | 1, _ => simp [go_sem]
theorem fx_dot (w : World) : Calls Try.prog 20 #[.slice (some ⟨w.heap.size, 0, none⟩) 2 2, .slice (some ⟨w.heap.size + 1, 0, none⟩) 2 2] ((w.alloc (.cells #[.int .i64 1, .int .i64 2] 3)).alloc (.cells #[.int .i64 3, .int .i64 (-4)] 3)) fun e w' => e = .returned (.tuple #[.int .i64 (-5), .bool true]) ∧ Below w.heap.size w w' := by
  have h := Dot_any _ _ 2 2 [1, 2] [3, -4] _ (two_rows w 1 2 3 (-4)).1 (two_rows w 1 2 3 (-4)).2 (by simp)
  rw [show dot [1, 2] [3, -4] = some (-5) from by decide] at h
  exact h.mono fun e w' ⟨he, hb⟩ => ⟨he, (((Below.refl _ _).alloc (Nat.le_refl _) _).alloc (by simp) _).trans (hb.mono (by simp; omega))⟩

theorem fixed_any (w : World) : Calls Try.prog 19 #[] w fun e w' => e = .returned (.bool true) ∧ Below w.heap.size w w' := by
  go_enter Try.func19, Try.ntmps19
  go_wp2_with fail
  refine (fx_add _).mono ?_
  rintro e w1 ⟨rfl, hb1⟩
  go_wp2_with fail
  refine (fx_mul _).mono ?_
  rintro e w2 ⟨rfl, rfl⟩
  go_wp2_with fail
  refine (fx_floor _).mono ?_
  rintro e w2 ⟨rfl, rfl⟩
  go_wp2_with fail
  refine (fx_ceil _).mono ?_
  rintro e w2 ⟨rfl, rfl⟩
  go_wp2_with fail
  refine (fx_gcd _).mono ?_
  rintro e w2 ⟨rfl, hb2⟩
  go_wp2_with fail
  refine (fx_zero _).mono ?_
  rintro e w3 ⟨rfl, rfl⟩
  go_wp2_with fail
  refine (fx_dot _).mono ?_
  rintro e w3 ⟨rfl, hb3⟩
  go_wp2_with fail
  refine (fx_big _).mono ?_
  rintro e w4 ⟨rfl, hb4⟩
  go_wp2
  go_ret
  exact ⟨rfl, ((hb1.trans (hb2.mono hb1.size)).trans (hb3.mono (Nat.le_trans hb1.size hb2.size))).trans (hb4.mono (Nat.le_trans (Nat.le_trans hb1.size hb2.size) hb3.size))⟩
end Go.Proofs.Ytkgjghpfcpdkbaa
