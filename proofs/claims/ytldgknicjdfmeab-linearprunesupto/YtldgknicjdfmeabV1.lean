
/- Contracts of ints.Dot, meaning.at, pick, sum, number, sumHolds, isAt, oneIsSo. -/
import Derived.Test.YtldgknicjdfmeabZA
import Derived.Test.YtldgknicjdfmeabN4
namespace Go.Proofs.Ytldgknicjdfmeab
open Go.ChangeShapes Go.WideShapes Go.ChangeAt Go.RowKit Go.Shelf
set_option linter.unusedVariables false
set_option maxRecDepth 100000
set_option linter.unusedSimpArgs false

/-! ### A row of numbers that is filled -/
def Row (w wr : World) (n : Nat) (ps : List Int) : Prop :=
  wr.ownsRow w.heap.size 3 1 (.slice (some ⟨w.heap.size, 0, none⟩) n n) n ((ps ++ List.replicate (n - ps.length) 0).map (Value.int .i64))
theorem Row.cell {w wr : World} {n : Nat} {ps : List Int} (h : Row w wr n ps) {k : Nat} (hk : k < n) : ∃ z, wr.cell? ⟨w.heap.size, k, none⟩ = some (.int .i64 z) := by
  have h1 := World.ownsRow.cellAt h k (by omega)
  have hl := h.1
  rw [List.length_map] at hl
  refine ⟨(ps ++ List.replicate (n - ps.length) 0)[k]'(by omega), ?_⟩
  rw [h1, List.getElem?_eq_getElem (by rw [List.length_map]; omega), List.getElem_map]
theorem Row.free {w wr : World} {n : Nat} {ps : List Int} (h : Row w wr n ps) (k : Nat) : wr.frozen? ⟨w.heap.size, k, none⟩ = false := World.ownsRow.frozenAt h k
theorem Row.snoc {w wr : World} {n : Nat} {ps : List Int} (h : Row w wr n ps) (hk : ps.length < n) (p : Int) : Row w (wr.setCell ⟨w.heap.size, ps.length, none⟩ (.int .i64 p)) n (ps ++ [p]) := by
  have h1 := (World.ownsRow.stored h ps.length (.int .i64 p)).1
  unfold Row
  refine cast (congrArg _ ?_) h1
  rw [← List.map_set]
  congr 1
  rw [List.set_append_right _ _ (Nat.le_refl _), Nat.sub_self, List.length_append, List.length_singleton]
  obtain ⟨m, hm⟩ : ∃ m, n - ps.length = m + 1 := ⟨n - ps.length - 1, by omega⟩
  rw [hm, show n - (ps.length + 1) = m from by omega, List.replicate_succ, List.set_cons_zero, List.append_assoc]
  rfl
theorem Row.start (w : World) (n : Nat) (hn : n ≤ 1099511627776) : Row w (w.alloc (.cells (madeCells #[.int .i64 0] n) 3)) n [] := by
  have h := World.ownsRow_lit (base := w.heap.size) (e := 3) (size := 1) w (madeCells #[.int .i64 0] n) n (Nat.le_refl _) (by unfold maxLen; omega) (by rw [size_madeCells]; omega)
  unfold Row
  rw [toList_madeCells_one] at h
  simpa using h
theorem Row.own {w wr : World} {n : Nat} {ps : List Int} (h : Row w wr n ps) (hl : ps.length = n) : OI wr w.heap.size (some ⟨w.heap.size, 0, none⟩) n ps := by
  subst hl
  unfold Row at h
  rw [Nat.sub_self, List.replicate_zero, List.append_nil] at h
  exact h
theorem Row.full {w wr : World} {n : Nat} {ps : List Int} (h : Row w wr n ps) (hl : ps.length = n) : ∀ k, k < ps.length → wr.cell? ⟨w.heap.size, k, none⟩ = some (.int .i64 (ps.getD k 0)) := by
  intro k hk
  have h1 := World.ownsRow.cellAt h k (by omega)
  rw [h1]
  subst hl
  simp [hk]
theorem Row.below {w wr w' : World} {n : Nat} {ps : List Int} (h : Row w wr n ps) (hb : Below wr.heap.size wr w') : Row w w' n ps := Ow.below (A := some ⟨w.heap.size, 0, none⟩) h hb

/-! ### ints.Dot -/
/-! ### at, pick, sum -/
theorem pick_snoc {vars a : List Int} {k : Nat} (h : k < vars.length) : pickV (vars.take (k + 1)) a = pickV (vars.take k) a ++ [atV a (vars.getD k 0)] := by
  unfold pickV
  rw [List.take_succ_eq_append_getElem h, List.map_append, List.getD_eq_getElem?_getD, List.getElem?_eq_getElem h]
  rfl
/-- what a constraint's sum must be for it to be told -/
structure SumOk (vars coefs : List Int) : Prop where
  len : vars.length = coefs.length
  pos : 0 < vars.length
  big : sizes coefs ≤ 4611686018427387904
/-! ### oneIsSo -/
theorem clause_step {vars coefs a : List Int} {k : Nat} (h1 : k < vars.length) (h2 : k < coefs.length) : clauseV ((pickV vars a).drop k) (coefs.drop k) = (decide (atV a (vars.getD k 0) = num (decide (coefs.getD k 0 = 1))) || clauseV ((pickV vars a).drop (k + 1)) (coefs.drop (k + 1))) := by
  have hp : k < (pickV vars a).length := by rw [pick_len]; exact h1
  rw [List.drop_eq_getElem_cons hp, List.drop_eq_getElem_cons h2]
  show (decide _ || _) = _
  rw [List.getD_eq_getElem?_getD, List.getD_eq_getElem?_getD, List.getElem?_eq_getElem h1, List.getElem?_eq_getElem h2]
  simp [pickV]
end Go.Proofs.Ytldgknicjdfmeab
