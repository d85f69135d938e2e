
/- Over layer 2's words: contracts of ints.small, ints.size, ints.checkQuotient, ints.sum, ints.Add, ints.Sub, ints.Mul. -/
import Derived.Test.YtldgknicjdfmeabRows
import Derived.Test.YtldgknicjdfmeabZA
import Derived.Test.YtldgknicjdfmeabD1
import Derived.WalkKit
import Derived.ProofKit
import Derived.OpenShut
import Derived.Below
namespace Go.Proofs.Ytldgknicjdfmeab
open Go.ChangeShapes Go.WideShapes Go.ChangeAt Go.RowKit

theorem small_any (n : Int) (w : World) : Calls Try.prog 87 #[.int .i64 n] w fun e w' => e = .returned (.bool (sm n)) ∧ w = w' := by
  by_cases h1 : -4611686018427387904 ≤ n
  · by_cases h2 : n ≤ 4611686018427387904
    · rw [sm_mk ⟨h1, h2⟩]
      go_enter Try.func87, Try.ntmps87
      go_wp2
      go_ret
      exact ⟨rfl, rfl⟩
    · rw [sm_no (by omega)]
      go_enter Try.func87, Try.ntmps87
      go_wp2
      go_ret
      exact ⟨rfl, rfl⟩
  · rw [sm_no (by omega)]
    go_enter Try.func87, Try.ntmps87
    go_wp2
    go_ret
    exact ⟨rfl, rfl⟩

theorem checkQuotient_any (a b : Int) (w : World) : Calls Try.prog 86 #[.int .i64 a, .int .i64 b] w fun e w' => e = .returned (.int .i64 (cq a b)) ∧ w = w' := by
  cases ha : sm a
  · rw [show cq a b = 10 from by simp [cq, ha]]
    go_enter Try.func86, Try.ntmps86
    go_wp2_with (go_at_call 87; refine (small_any _ _).mono ?_; rintro e w' ⟨rfl, rfl⟩)
    go_ret
    exact ⟨rfl, rfl⟩
  · cases hb : sm b
    · rw [show cq a b = 10 from by simp [cq, hb]]
      go_enter Try.func86, Try.ntmps86
      go_wp2_with (go_at_call 87; refine (small_any _ _).mono ?_; rintro e w' ⟨rfl, rfl⟩)
      go_ret
      exact ⟨rfl, rfl⟩
    · cases hz : b == 0
      · rw [show cq a b = 0 from cq_mk ha hb (beq_eq_false_iff_ne.1 hz)]
        go_enter Try.func86, Try.ntmps86
        go_wp2_with (go_at_call 87; refine (small_any _ _).mono ?_; rintro e w' ⟨rfl, rfl⟩)
        go_ret
        exact ⟨rfl, rfl⟩
      · rw [show cq a b = 1 from by unfold cq; rw [if_pos ⟨ha, hb⟩, if_pos (beq_iff_eq.1 hz)]]
        go_enter Try.func86, Try.ntmps86
        go_wp2_with (go_at_call 87; refine (small_any _ _).mono ?_; rintro e w' ⟨rfl, rfl⟩)
        go_ret
        exact ⟨rfl, rfl⟩

end Go.Proofs.Ytldgknicjdfmeab
