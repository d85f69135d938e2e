
/- Plain facts on models without constraints, and on all values. -/
import Derived.Test.YtkoenibdkgchhaaGreatX5
import Derived.Test.YtkoenibdkgchhaaGreatV9
import Derived.Test.YtkoenibdkgchhaaGreatZE
import Derived.Test.YtkoenibdkgchhaaGreatQ8
import Derived.Test.YtkoenibdkgchhaaGreatW5
namespace Go.Proofs.YtkoenibdkgchhaaGreat
open Go.ChangeShapes Go.WideShapes Go.ChangeAt Go.RowKit Go.Shelf
set_option linter.unusedVariables false
set_option maxRecDepth 100000
set_option linter.unusedSimpArgs false

theorem over_mono' {m1 m2 : Int} (h : m1 ≤ m2) : ∀ (l : List Int) (n : Int), overV m1 n l = false → overV m2 n l = false
  | [], _, _ => rfl
  | s :: l, n, ho => by
    simp only [overV, Bool.or_eq_false_iff, decide_eq_false_iff_not] at ho ⊢
    exact ⟨by omega, over_mono' h l _ ho.2⟩
theorem in_grow' {m : ModV} {a : List Int} (hl : a.length = m.vars.length) : a ∈ growV (valsV m) ↔ inV m.vars a = true := by
  rw [mem_grow]
  unfold valsV inV
  rw [List.length_map, List.all_eq_true]
  have e : (m.vars.map fun v => vals v.d).zip a = (m.vars.zip a).map fun p => (vals p.1.d, p.2) := by
    rw [List.zip_map_left]; rfl
  rw [e]
  constructor
  · rintro ⟨_, h⟩ p hp
    exact hasL_iff.2 (h _ (List.mem_map_of_mem hp))
  · intro h
    refine ⟨hl, fun p hp => ?_⟩
    obtain ⟨q, hq, rfl⟩ := List.mem_map.1 hp
    exact hasL_iff.1 (h q hq)
theorem foldr_mul (l1 l2 : List Nat) : (l1 ++ l2).foldr (· * ·) 1 = l1.foldr (· * ·) 1 * l2.foldr (· * ·) 1 := by
  induction l1 with
  | nil => simp
  | cons x l ih => simp only [List.cons_append, List.foldr_cons, ih, Nat.mul_assoc]
theorem foldr_pos {l : List Nat} (h : ∀ x ∈ l, 0 < x) : 0 < l.foldr (· * ·) 1 := by
  induction l with
  | nil => simp
  | cons x l ih =>
    rw [List.foldr_cons]
    exact Nat.mul_pos (h x List.mem_cons_self) (ih fun y hy => h y (List.mem_cons_of_mem _ hy))
theorem grow_take_le {vs : List (List Int)} (h : UpL vs) (k : Nat) : (growV (vs.take k)).length ≤ (growV vs).length := by
  rw [grow_len, grow_len]
  conv => rhs; rw [← List.take_append_drop k vs]
  rw [List.map_append, foldr_mul]
  have : 0 < ((vs.drop k).map List.length).foldr (· * ·) 1 := foldr_pos fun x hx => by
    obtain ⟨l, hl, rfl⟩ := List.mem_map.1 hx
    exact List.length_pos_iff.2 (h l (List.mem_of_mem_drop hl)).1
  exact Nat.le_mul_of_pos_right _ this
theorem grow_right {m : ModV} (h : rightR m 2000 = true) : (growV (valsV m)).length ≤ 65536 ∧ (∀ k, (growV ((valsV m).take k)).length ≤ 1048576) ∧ overV 65536 1 (sizesV m.vars) = false ∧ checkE m = 0 := by
  unfold rightR at h
  rw [Bool.and_eq_true] at h
  have hE := of_decide_eq_true h.1
  have hO : overV 65536 1 (sizesV m.vars) = false := over_mono' (m1 := 2000) (m2 := 65536) (by decide) _ _ (by simpa using h.2)
  have hok := check_ok hE
  have hl := grow_small hok.doms hO
  exact ⟨hl, fun k => Nat.le_trans (grow_take_le (upL_of hok.doms) k) (Nat.le_trans hl (by decide)), hO, hE⟩
/-- a right model without its constraints and its goal -/
theorem free_all {m : ModV} (h : rightR m 2000 = true) : allE ⟨m.vars, [], ⟨0, [], []⟩⟩ = 0 ∧ allV ⟨m.vars, [], ⟨0, [], []⟩⟩ = growV (valsV m) ∧ (growV (valsV m)).length ≤ 65536 ∧ (∀ k, (growV ((valsV m).take k)).length ≤ 1048576) := by
  obtain ⟨h1, h2, h3, h4⟩ := grow_right h
  have hok := check_ok h4
  have hc : checkE ⟨m.vars, [], ⟨0, [], []⟩⟩ = 0 := by
    unfold checkE at h4 ⊢
    split at h4
    · cases h4
    · rename_i g1
      split at h4
      · rename_i g2; exact absurd h4 g2
      · rename_i g2
        rw [if_neg (by simp at g1 ⊢; omega), if_neg g2]
        simp [consE, goalE]
  have ha : allE ⟨m.vars, [], ⟨0, [], []⟩⟩ = 0 := by
    unfold allE
    rw [hc, h3]
    rfl
  refine ⟨ha, ?_, h1, h2⟩
  unfold allV
  rw [if_pos ha]
  refine List.filter_eq_self.2 fun a hm => ?_
  have hl := (small_grow hok.doms hm).2
  unfold solvesV
  rw [decide_eq_true hl, Bool.true_and, Bool.and_eq_true]
  exact ⟨(in_grow' hl).1 hm, rfl⟩
end Go.Proofs.YtkoenibdkgchhaaGreat
