
/- Contracts of model.areRows, keepsRow's closures, isBig. -/
import Derived.Test.YtldgknicjdfmeabN3
import Derived.Test.YtldgknicjdfmeabCI
import Derived.Test.YtldgknicjdfmeabD6
import Derived.Lib.MinMax
namespace Go.Proofs.Ytldgknicjdfmeab
open Go.ChangeShapes Go.WideShapes Go.ChangeAt Go.RowKit Go.Shelf
set_option linter.unusedVariables false
set_option maxRecDepth 100000

theorem vb01 : Vb [((0 : Int), (1 : Int))] := by intro r hr; simp at hr; subst hr; simp
/-! ### isBig -/
def growOk (t n : Int) : Bool := decide (t + absI n ≤ 4611686018427387904)
theorem grow_add {t n : Int} (h0 : 0 ≤ t) (h1 : t ≤ 4611686018427387904) (hn : i64 n) : ok (add2 t (max n (wrap64 (-n)))) = growOk t n ∧ (growOk t n = true → pr (add2 t (max n (wrap64 (-n)))) = t + absI n) := by
  unfold growOk absI
  unfold i64 at hn
  by_cases e : n = -9223372036854775808
  · subst e
    have hw : wrap64 (-(-9223372036854775808)) = -9223372036854775808 := by unfold wrap64; rfl
    rw [hw]
    have hs : add2 t (max (-9223372036854775808) (-9223372036854775808)) = none := by
      rw [Int.max_self]
      unfold add2
      rw [if_neg]
      rintro ⟨_, h, _⟩
      have := sm_true h
      omega
    rw [hs]
    constructor
    · rw [if_pos (by omega), decide_eq_false (by omega)]; rfl
    · rw [if_pos (by omega), decide_eq_false (by omega)]; intro h; cases h
  · rw [wrap64_id (by omega)]
    have hm : max n (-n) = (if n < 0 then -n else n) := by split <;> omega
    rw [hm]
    have ha : 0 ≤ (if n < 0 then -n else n) := by split <;> omega
    generalize (if n < 0 then -n else n) = a at *
    by_cases hle : t + a ≤ 4611686018427387904
    · have : add2 t a = some (t + a) := if_pos ⟨sm_mk (by omega), sm_mk (by omega), sm_mk (by omega)⟩
      rw [this, decide_eq_true hle]
      exact ⟨rfl, fun _ => rfl⟩
    · have : add2 t a = none := if_neg (fun h => by have := sm_true h.2.2; omega)
      rw [this, decide_eq_false hle]
      exact ⟨rfl, fun h => by cases h⟩
theorem sizes_small {coefs : List Int} {rhs : Int} {k : Nat} (h : 4611686018427387904 < sizes (coefs.take k)) : bigV coefs rhs = true := by
  unfold bigV
  have := sizes_le (l := coefs) k
  have := absI_nn rhs
  exact decide_eq_true (by omega)
theorem mul_big {a : Int} (h : ok (mul2 a 1048576) = false) : 4611686018427387904 < absI a * 1048576 := by
  unfold mul2 at h
  split at h
  · cases h
  · rename_i hn
    unfold absI
    by_cases h1 : sm a = true
    · have h2 : ¬ sm (a * 1048576) = true := fun e => hn ⟨h1, by decide, e⟩
      have h3 := sm_false (by simpa using h2)
      split <;> omega
    · have h3 := sm_false (by simpa using h1)
      split <;> omega
theorem mul_fine {a : Int} (h : ok (mul2 a 1048576) = true) : pr (mul2 a 1048576) = a * 1048576 ∧ i64 (a * 1048576) ∧ absI (a * 1048576) = absI a * 1048576 := by
  unfold mul2 at h ⊢
  split at h
  · rename_i hs
    rw [if_pos hs]
    refine ⟨rfl, sm_i64 hs.2.2, ?_⟩
    unfold absI
    split <;> split <;> omega
  · cases h
end Go.Proofs.Ytldgknicjdfmeab
