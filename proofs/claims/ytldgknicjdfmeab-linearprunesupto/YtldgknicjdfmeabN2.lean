
/- Contracts of model.Name and of the reference's Name. -/
import Derived.Test.YtldgknicjdfmeabN1
import Derived.Laws.RangeAny
namespace Go.Proofs.Ytldgknicjdfmeab
open Go.ChangeShapes Go.WideShapes Go.ChangeAt Go.RowKit Go.Shelf
set_option linter.unusedVariables false
set_option maxRecDepth 100000

theorem get_at {s : ByteArray} {k : Nat} (h : k < s.size) : s.get! k = s[k]'h := by
  show s.get! k = _
  simp [ByteArray.get!, getElem!_pos, h]
  rfl
theorem nameTo_succ (s : ByteArray) (k : Nat) : nameTo s (k + 1) = (nameTo s k && nameB (k == 0) (s.get! k)) := by
  unfold nameTo
  rw [List.range_succ, List.all_append]
  simp
theorem nameTo_stop {s : ByteArray} {k n : Nat} (h : k < n) (h0 : nameB (k == 0) (s.get! k) = false) : nameTo s n = false := by
  unfold nameTo
  rw [List.all_eq_false]
  exact ⟨k, List.mem_range.2 h, by rw [h0]; simp⟩
theorem nameB_iff (f : Bool) (b : UInt8) : nameB f b = decide ((97 ≤ b.toNat ∧ b.toNat ≤ 122) ∨ (f = false ∧ (b.toNat = 95 ∨ (48 ≤ b.toNat ∧ b.toNat ≤ 57)))) := by
  unfold nameB
  cases f <;> simp [Bool.decide_or, Bool.decide_and]
theorem nameV_mid {s : ByteArray} (h1 : 1 ≤ s.size) (h2 : s.size ≤ 16) : nameV s = nameTo s s.size := by
  unfold nameV
  rw [decide_eq_true (show 0 < s.size by omega), decide_eq_true h2]
  simp
theorem iter_below (w : World) (s : ByteArray) (pos : Nat) : Below w.heap.size w (w.iter s pos) := (Below.refl _ _).alloc (Nat.le_refl _) _

end Go.Proofs.Ytldgknicjdfmeab
