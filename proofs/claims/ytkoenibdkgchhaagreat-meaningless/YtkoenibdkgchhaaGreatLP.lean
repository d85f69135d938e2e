
/- Plain facts for the laws of models. -/
import Derived.Test.YtkoenibdkgchhaaGreatLO
namespace Go.Proofs.YtkoenibdkgchhaaGreat
open Go.ChangeShapes Go.WideShapes Go.ChangeAt Go.RowKit
set_option linter.unusedVariables false
set_option maxRecDepth 100000

theorem len_take {α : Type} (l : List α) (n M : Nat) (h : n ≤ M) : (l.take n).length ≤ M := by rw [List.length_take]; omega
/-- what Bound tells is small -/
theorem bM_sz {N : Nat} {w : World} {m : Mm} (h : MmOk N w m) : SzM 1048576 (bM m.v) := by
  refine ⟨?_, ?_, ?_, ?_, len_take _ _ _ (by decide), len_take _ _ _ (by decide)⟩
  · show ((m.v.vars.take 10).map bV).length ≤ _
    rw [List.length_map]; exact len_take _ _ _ (by decide)
  · intro v hv
    obtain ⟨x, _, rfl⟩ := List.mem_map.1 hv
    exact len_take _ _ _ (by decide)
  · show ((m.v.cons.take 16).map bC).length ≤ _
    rw [List.length_map]; exact len_take _ _ _ (by decide)
  · intro c hc
    obtain ⟨x, hx, rfl⟩ := List.mem_map.1 hc
    have hx' := List.mem_of_mem_take hx
    obtain ⟨q, hq, rfl⟩ := List.mem_map.1 hx'
    refine ⟨len_take _ _ _ (by decide), len_take _ _ _ (by decide), ?_, ?_, (h.cs q hq).rhs⟩
    · show ((q.v.rows.take 20).map (·.take 14)).length ≤ _
      rw [List.length_map]; exact len_take _ _ _ (by decide)
    · intro r hr
      obtain ⟨s, _, rfl⟩ := List.mem_map.1 hr
      exact len_take _ _ _ (by decide)
/-- a right model's constraints: their variables are the model's -/
theorem check_uses {m : ModV} (h : checkE m = 0) {c : ConV} (hc : c ∈ m.cons) : (usesV c).any (outV m.vars.length) = false := by
  unfold checkE at h
  split at h
  · cases h
  · split at h
    · rename_i h2; exact absurd h h2
    · split at h
      · rename_i h2; exact absurd h h2
      · rename_i h2
        have h3 : consE (domsV m) m.cons = 0 := Classical.byContradiction h2
        have key : ∀ cs : List ConV, consE (domsV m) cs = 0 → ∀ c ∈ cs, conE (domsV m) c = 0 := by
          intro cs
          induction cs with
          | nil => intro _ c hc; cases hc
          | cons a cs ih =>
            intro hz c hc
            rw [consE] at hz
            split at hz
            · rcases List.mem_cons.1 hc with rfl | hc
              · assumption
              · exact ih hz c hc
            · rename_i hne; exact absurd hz hne
        have h4 := key m.cons h3 c hc
        have e : (domsV m).length = m.vars.length := by simp [domsV]
        unfold conE at h4
        rw [e] at h4
        split at h4
        · cases h4
        · split at h4
          · cases h4
          · rename_i h5; simpa using h5
end Go.Proofs.YtkoenibdkgchhaaGreat
