
/- Contracts of linear.termEnds, left, Ends, openPlace, isSo: sums over domains that are read. -/
import Derived.Test.YtkoenibdkgchhaaGreatZA
import Derived.Test.YtkoenibdkgchhaaGreatQ3
namespace Go.Proofs.YtkoenibdkgchhaaGreat
open Go.ChangeShapes Go.WideShapes Go.ChangeAt Go.RowKit
set_option linter.unusedVariables false
set_option linter.unusedSimpArgs false
set_option maxRecDepth 100000

/-! ### Plain facts -/
theorem zip_atT {vars coefs : List Int} {n k : Nat} (hn : vars.length = n) (hm : coefs.length = n) (hk : k < n) : (vars.zip coefs)[k]? = some (vars.getD k 0, coefs.getD k 0) := by
  rw [List.getD_eq_getElem?_getD, List.getD_eq_getElem?_getD, List.getElem?_eq_getElem (by simp; omega), List.getElem?_eq_getElem (by omega), List.getElem?_eq_getElem (by omega), List.getElem_zip]
  rfl
theorem zip_lenT {vars coefs : List Int} {n : Nat} (hn : vars.length = n) (hm : coefs.length = n) : (vars.zip coefs).length = n := by simp; omega
theorem lo_snoc {D : List (List (Int × Int))} {ts : List Term} {k : Nat} {t : Term} (h : ts[k]? = some t) : loT D (ts.take (k + 1)) = loT D (ts.take k) + tLo t.2 (domAt D t.1) := by rw [take_snoc ts h, lo_app]; simp [loT]
theorem hi_snoc {D : List (List (Int × Int))} {ts : List Term} {k : Nat} {t : Term} (h : ts[k]? = some t) : hiT D (ts.take (k + 1)) = hiT D (ts.take k) + tHi t.2 (domAt D t.1) := by rw [take_snoc ts h, hi_app]; simp [hiT]
theorem full_snoc {D : List (List (Int × Int))} {ts : List Term} {k : Nat} {t : Term} (h : ts[k]? = some t) : fullT D (ts.take (k + 1)) = (fullT D (ts.take k) && !(domAt D t.1).isEmpty) := by rw [take_snoc ts h]; simp [fullT]
theorem full_stop {D : List (List (Int × Int))} {ts : List Term} {k : Nat} {t : Term} (h : ts[k]? = some t) (he : (domAt D t.1).isEmpty = true) : fullT D ts = false := by
  unfold fullT
  rw [List.all_eq_false]
  exact ⟨t, List.mem_of_getElem? h, by rw [he]; simp⟩
theorem sz_take_le (ts : List Term) (k : Nat) : szT (ts.take k) ≤ szT ts := by
  have e : szT ts = szT (ts.take k) + szT (ts.drop k) := by rw [← sz_app, List.take_append_drop]
  have := szT_nn (ts.drop k)
  omega
theorem someR_e (d : List (Int × Int)) : someR d = !d.isEmpty := by cases d <;> simp [someR]
theorem absI_le_sizes {l : List Int} {k : Nat} (h : k < l.length) : absI (l.getD k 0) * 1048576 ≤ sizes l := by
  induction l generalizing k with
  | nil => simp at h
  | cons a l ih =>
    have h1 := sizes_nn l
    have h2 := absI_nn a
    unfold sizes
    cases k with
    | zero => simp; omega
    | succ k => have := ih (k := k) (by simpa using h); rw [List.getD_cons_succ]; omega
def endLo (D : List (List (Int × Int))) (ts : List Term) : Int := if fullT D ts = true then loT D ts else 0
def endHi (D : List (List (Int × Int))) (ts : List Term) : Int := if fullT D ts = true then hiT D ts else 0

/-! ### termEnds, left -/
/-! ### Ends -/
/-! ### openPlace -/
end Go.Proofs.YtkoenibdkgchhaaGreat
