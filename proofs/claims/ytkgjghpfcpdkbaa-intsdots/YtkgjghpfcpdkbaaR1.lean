/- Contracts of the document's own answers: secateurref01.Small, Add, Sub. -/
import Derived.Test.YtkgjghpfcpdkbaaC1
namespace Go.Proofs.Ytkgjghpfcpdkbaa
open Go.ChangeShapes Go.WideShapes Go.ChangeAt Go.RowKit

theorem rSmall_any (n : Int) (w : World) : Calls Try.prog 29 #[.int .i64 n] w fun e w' => e = .returned (.bool (sm n)) ∧ w = w' := by
  by_cases h1 : -4611686018427387904 ≤ n
  · by_cases h2 : n ≤ 4611686018427387904
    · rw [sm_mk ⟨h1, h2⟩]
      go_enter Try.func29, Try.ntmps29
      go_wp2
      go_ret
      exact ⟨rfl, rfl⟩
    · rw [sm_no (by omega)]
      go_enter Try.func29, Try.ntmps29
      go_wp2
      go_ret
      exact ⟨rfl, rfl⟩
  · rw [sm_no (by omega)]
    go_enter Try.func29, Try.ntmps29
    go_wp2
    go_ret
    exact ⟨rfl, rfl⟩

theorem rAdd_any (a b : Int) (w : World) : Calls Try.prog 14 #[.int .i64 a, .int .i64 b] w fun e w' => e = .returned (.tuple #[.int .i64 (pr (add2 a b)), .bool (ok (add2 a b))]) ∧ w = w' := by
  cases ha : sm a
  · rw [show add2 a b = none from by simp [add2, ha]]
    go_enter Try.func14, Try.ntmps14
    go_wp2_with (go_at_call 29; refine (rSmall_any _ _).mono ?_; rintro e w' ⟨rfl, rfl⟩)
    go_ret2
    exact ⟨rfl, rfl⟩
  · cases hb : sm b
    · rw [show add2 a b = none from by simp [add2, hb]]
      go_enter Try.func14, Try.ntmps14
      go_wp2_with (go_at_call 29; refine (rSmall_any _ _).mono ?_; rintro e w' ⟨rfl, rfl⟩)
      go_ret2
      exact ⟨rfl, rfl⟩
    · obtain ⟨⟨a1, a2⟩, ⟨a3, a4⟩, a5⟩ := half_bd ha
      obtain ⟨⟨b1, b2⟩, ⟨b3, b4⟩, b5⟩ := half_bd hb
      have HA : Hid (a = 2 * a.tdiv 2 + a.tmod 2 ∧ (a.tmod 2 < 0 → a.tdiv 2 ≤ 0) ∧ (0 < a.tmod 2 → 0 ≤ a.tdiv 2)) := a5
      have HB : Hid (b = 2 * b.tdiv 2 + b.tmod 2 ∧ (b.tmod 2 < 0 → b.tdiv 2 ≤ 0) ∧ (0 < b.tmod 2 → 0 ≤ b.tdiv 2)) := b5
      obtain ⟨a6, a7⟩ := sm_true ha
      obtain ⟨b6, b7⟩ := sm_true hb
      clear a5 b5
      by_cases c1 : 2305843009213693952 < a.tdiv 2 + b.tdiv 2
      · rw [show add2 a b = none from if_neg (fun c => by have := sm_true c.2.2; have := HA.out; have := HB.out; omega)]
        go_enter Try.func14, Try.ntmps14
        go_wp2_with (go_at_call 29; refine (rSmall_any _ _).mono ?_; rintro e w' ⟨rfl, rfl⟩)
        go_ret2
        exact ⟨rfl, rfl⟩
      · by_cases c2 : a.tdiv 2 + b.tdiv 2 < -2305843009213693952
        · rw [show add2 a b = none from if_neg (fun c => by have := sm_true c.2.2; have := HA.out; have := HB.out; omega)]
          go_enter Try.func14, Try.ntmps14
          go_wp2_with (go_at_call 29; refine (rSmall_any _ _).mono ?_; rintro e w' ⟨rfl, rfl⟩)
          go_ret2
          exact ⟨rfl, rfl⟩
        · cases c3 : (a.tdiv 2 + b.tdiv 2 == 2305843009213693952)
          · have d3 : a.tdiv 2 + b.tdiv 2 ≠ 2305843009213693952 := beq_eq_false_iff_ne.1 c3
            cases c4 : (a.tdiv 2 + b.tdiv 2 == -2305843009213693952)
            · have d4 : a.tdiv 2 + b.tdiv 2 ≠ -2305843009213693952 := beq_eq_false_iff_ne.1 c4
              rw [show add2 a b = some (2 * (a.tdiv 2 + b.tdiv 2) + (a.tmod 2 + b.tmod 2)) from by
                have e : a + b = 2 * (a.tdiv 2 + b.tdiv 2) + (a.tmod 2 + b.tmod 2) := by have := HA.out; have := HB.out; omega
                unfold add2; rw [if_pos ⟨ha, hb, sm_mk (by have := HA.out; have := HB.out; omega)⟩, e]]
              go_enter Try.func14, Try.ntmps14
              go_wp2_with (go_at_call 29; refine (rSmall_any _ _).mono ?_; rintro e w' ⟨rfl, rfl⟩)
              go_ret2
              exact ⟨rfl, rfl⟩
            · have d4 : a.tdiv 2 + b.tdiv 2 = -2305843009213693952 := beq_iff_eq.1 c4
              by_cases c5 : a.tmod 2 + b.tmod 2 < 0
              · rw [show add2 a b = none from if_neg (fun c => by have := sm_true c.2.2; have := HA.out; have := HB.out; omega)]
                clear d4
                go_enter Try.func14, Try.ntmps14
                go_wp2_with (go_at_call 29; refine (rSmall_any _ _).mono ?_; rintro e w' ⟨rfl, rfl⟩)
                go_ret2
                exact ⟨rfl, rfl⟩
              · rw [show add2 a b = some (2 * (a.tdiv 2 + b.tdiv 2) + (a.tmod 2 + b.tmod 2)) from by
                  have e : a + b = 2 * (a.tdiv 2 + b.tdiv 2) + (a.tmod 2 + b.tmod 2) := by have := HA.out; have := HB.out; omega
                  unfold add2; rw [if_pos ⟨ha, hb, sm_mk (by have := HA.out; have := HB.out; omega)⟩, e]]
                clear d4
                go_enter Try.func14, Try.ntmps14
                go_wp2_with (go_at_call 29; refine (rSmall_any _ _).mono ?_; rintro e w' ⟨rfl, rfl⟩)
                go_ret2
                exact ⟨rfl, rfl⟩
          · have d3 : a.tdiv 2 + b.tdiv 2 = 2305843009213693952 := beq_iff_eq.1 c3
            have c4 : (a.tdiv 2 + b.tdiv 2 == -2305843009213693952) = false := beq_eq_false_iff_ne.2 (by omega)
            by_cases c5 : 0 < a.tmod 2 + b.tmod 2
            · rw [show add2 a b = none from if_neg (fun c => by have := sm_true c.2.2; have := HA.out; have := HB.out; omega)]
              clear d3
              go_enter Try.func14, Try.ntmps14
              go_wp2_with (go_at_call 29; refine (rSmall_any _ _).mono ?_; rintro e w' ⟨rfl, rfl⟩)
              go_ret2
              exact ⟨rfl, rfl⟩
            · rw [show add2 a b = some (2 * (a.tdiv 2 + b.tdiv 2) + (a.tmod 2 + b.tmod 2)) from by
                have e : a + b = 2 * (a.tdiv 2 + b.tdiv 2) + (a.tmod 2 + b.tmod 2) := by have := HA.out; have := HB.out; omega
                unfold add2; rw [if_pos ⟨ha, hb, sm_mk (by have := HA.out; have := HB.out; omega)⟩, e]]
              clear d3
              go_enter Try.func14, Try.ntmps14
              go_wp2_with (go_at_call 29; refine (rSmall_any _ _).mono ?_; rintro e w' ⟨rfl, rfl⟩)
              go_ret2
              exact ⟨rfl, rfl⟩

theorem rSub_any (a b : Int) (w : World) : Calls Try.prog 16 #[.int .i64 a, .int .i64 b] w fun e w' => e = .returned (.tuple #[.int .i64 (pr (sub2 a b)), .bool (ok (sub2 a b))]) ∧ w = w' := by
  cases ha : sm a
  · rw [show sub2 a b = none from by simp [sub2, ha]]
    go_enter Try.func16, Try.ntmps16
    go_wp2_with (go_at_call 29; refine (rSmall_any _ _).mono ?_; rintro e w' ⟨rfl, rfl⟩)
    go_ret2
    exact ⟨rfl, rfl⟩
  · cases hb : sm b
    · rw [show sub2 a b = none from by simp [sub2, hb]]
      go_enter Try.func16, Try.ntmps16
      go_wp2_with (go_at_call 29; refine (rSmall_any _ _).mono ?_; rintro e w' ⟨rfl, rfl⟩)
      go_ret2
      exact ⟨rfl, rfl⟩
    · rw [show sub2 a b = add2 a (-b) from by unfold sub2 add2; rw [sm_neg, Int.sub_eq_add_neg]]
      obtain ⟨b1, b2⟩ := sm_true hb
      go_enter Try.func16, Try.ntmps16
      go_wp2_with (first | (go_at_call 29; refine (rSmall_any _ _).mono ?_; rintro e w' ⟨rfl, rfl⟩) | (go_at_call 14; refine (rAdd_any _ _ _).mono ?_; rintro e w' ⟨rfl, rfl⟩))
      go_ret2
      exact ⟨rfl, rfl⟩
end Go.Proofs.Ytkgjghpfcpdkbaa
