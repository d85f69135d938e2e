
/- Contracts of the reference's Line and Back. -/
import Derived.Test.YtklgkkfkdeggeaaE6
namespace Go.Proofs.Ytklgkkfkdeggeaa
open Go.ChangeShapes Go.WideShapes Go.ChangeAt Go.RowKit
set_option linter.unusedVariables false

def lineV (a b x : Int) : Int := a * x + b
def lineL (a b : Int) (l : List Int) : List Int := l.map (lineV a b)
def backV (a b v : Int) : Option Int := if a * (v - b).tdiv a = v - b ∧ vl ((v - b).tdiv a) = true then some ((v - b).tdiv a) else none
def backL (a b : Int) (l : List Int) : List Int := l.filterMap (backV a b)
def lineRes (ds : List (Int × Int)) (a b : Int) : List (Int × Int) := if lineErr a b = 0 then ofRes (lineL a b (vals ds)) else []
def lineE (ds : List (Int × Int)) (a b : Int) : Int := if lineErr a b = 0 then ofErr (lineL a b (vals ds)) else lineErr a b
def backRes (ds : List (Int × Int)) (a b : Int) : List (Int × Int) := if lineErr a b = 0 then ofRes (backL a b (vals ds)) else []
def backE (ds : List (Int × Int)) (a b : Int) : Int := if lineErr a b = 0 then ofErr (backL a b (vals ds)) else lineErr a b
theorem lineErr_zero {a b : Int} (h : lineErr a b = 0) : a ≠ 0 ∧ (-1048576 ≤ a ∧ a ≤ 1048576) ∧ (-1048576 ≤ b ∧ b ≤ 1048576) := by
  unfold lineErr at h
  by_cases h0 : a = 0
  · rw [if_pos h0] at h; omega
  · rw [if_neg h0] at h
    by_cases h1 : vl a = true ∧ vl b = true
    · exact ⟨h0, vl_true h1.1, vl_true h1.2⟩
    · rw [if_neg h1] at h; omega
theorem lineErr_01 (a b : Int) : 0 ≤ lineErr a b ∧ lineErr a b ≤ 20 := by
  unfold lineErr; split
  · omega
  · split <;> omega
theorem mul_bd {a x : Int} {m n : Int} (ha : -m ≤ a ∧ a ≤ m) (hx : -n ≤ x ∧ x ≤ n) : -(m * n) ≤ a * x ∧ a * x ≤ m * n := by
  have h1 : a.natAbs ≤ m.toNat := by omega
  have h2 : x.natAbs ≤ n.toNat := by omega
  have h3 : (a * x).natAbs ≤ m.toNat * n.toNat := by rw [Int.natAbs_mul]; exact Nat.mul_le_mul h1 h2
  have h4 : ((m.toNat * n.toNat : Nat) : Int) = m * n := by
    rw [Int.natCast_mul, Int.toNat_of_nonneg (by omega), Int.toNat_of_nonneg (by omega)]
  omega
theorem line_bd {a b x : Int} (ha : -1048576 ≤ a ∧ a ≤ 1048576) (hx : -1048576 ≤ x ∧ x ≤ 1048576) : -1099511627776 ≤ a * x ∧ a * x ≤ 1099511627776 := by
  have := mul_bd (m := 1048576) (n := 1048576) ha hx
  omega
theorem tdiv_bd7 {n a : Int} (m : Int) (h : -m ≤ n ∧ n ≤ m) : (-m ≤ n.tdiv a ∧ n.tdiv a ≤ m) ∧ (-m ≤ a * n.tdiv a ∧ a * n.tdiv a ≤ m) := by
  have h1 : (n.tdiv a).natAbs ≤ n.natAbs := by rw [Int.natAbs_tdiv]; exact Nat.div_le_self _ _
  have h2 : (a * n.tdiv a).natAbs ≤ n.natAbs := by rw [Int.natAbs_mul, Int.natAbs_tdiv]; exact Nat.mul_div_le _ _
  omega
theorem map_snoc {f : Int → Int} {l : List Int} {k : Nat} (h : k < l.length) : (l.take (k + 1)).map f = (l.take k).map f ++ [f (l.getD k 0)] := by
  rw [List.take_succ_eq_append_getElem h, List.map_append, List.getD_eq_getElem?_getD, List.getElem?_eq_getElem h]
  rfl
theorem fmap_snoc {f : Int → Option Int} {l : List Int} {k : Nat} (h : k < l.length) : (l.take (k + 1)).filterMap f = (l.take k).filterMap f ++ (f (l.getD k 0)).toList := by
  rw [List.take_succ_eq_append_getElem h, List.filterMap_append, List.getD_eq_getElem?_getD, List.getElem?_eq_getElem h]
  simp only [Option.getD_some, List.filterMap_cons, List.filterMap_nil]
  cases f l[k] <;> rfl
theorem fmap_take_len (f : Int → Option Int) (l : List Int) (k : Nat) : ((l.take k).filterMap f).length ≤ k := by
  have := List.length_filterMap_le f (l.take k)
  rw [List.length_take] at this
  omega
end Go.Proofs.Ytklgkkfkdeggeaa
