
/- Contracts of the reference's Ends and Next. -/
import Derived.Test.YtklgkkfkdeggeaaE4
namespace Go.Proofs.Ytklgkkfkdeggeaa
open Go.ChangeShapes Go.WideShapes Go.ChangeAt Go.RowKit
set_option linter.unusedVariables false

theorem rng_cons {lo hi : Int} (h : lo ≤ hi) : (rng lo hi).getD 0 0 = lo := by
  unfold rng
  obtain ⟨m, hm⟩ : ∃ m, (hi - lo + 1).toNat = m + 1 := ⟨(hi - lo).toNat, by omega⟩
  rw [hm]
  simp
theorem vals_head {r : Int × Int} {d : List (Int × Int)} (h : r.1 ≤ r.2) : (vals (r :: d)).getD 0 0 = r.1 := by
  show (rng r.1 r.2 ++ vals d).getD 0 0 = r.1
  have hl : 0 < (rng r.1 r.2).length := by rw [rng_len]; omega
  rw [List.getD_eq_getElem?_getD, List.getElem?_append_left hl, ← List.getD_eq_getElem?_getD, rng_cons h]
theorem vals_last {r : Int × Int} {d : List (Int × Int)} (h : r.1 ≤ r.2) : (vals (d ++ [r])).getD ((vals (d ++ [r])).length - 1) 0 = r.2 := by
  have e : vals (d ++ [r]) = (vals d ++ rng r.1 (r.2 - 1)) ++ [r.2] := by
    unfold vals
    rw [List.flatMap_append]
    simp only [List.flatMap_cons, List.flatMap_nil, List.append_nil]
    rw [rng_snoc h, List.append_assoc]
  rw [e, List.length_append]
  simp
theorem vals_nil {d : List (Int × Int)} (hw : Wf d) : (vals d).length = 0 ↔ d.length = 0 := by
  have h1 := sizeR_vals hw.lohi
  have h2 := wf_len hw
  constructor
  · intro h; omega
  · intro h
    rw [List.length_eq_zero_iff] at h
    subst h; rfl
theorem ends_head {d : List (Int × Int)} (hw : Wf d) (h : 0 < (vals d).length) : (vals d).getD 0 0 = leastR d ∧ (vals d).getD ((vals d).length - 1) 0 = mostR d ∧ someR d = true := by
  have h0 := vals_nil hw
  have hd : ¬ d.length = 0 := fun e => by have := h0.2 e; omega
  unfold leastR mostR someR
  rw [if_neg hd, if_neg hd]
  refine ⟨?_, ?_, decide_eq_true (by omega)⟩
  · cases d with
    | nil => simp at hd
    | cons r d => exact vals_head hw.1
  · rcases nil_or_snoc d with rfl | ⟨d', r, rfl⟩
    · simp at hd
    · rw [lastR_snoc]
      exact vals_last (hw.lohi r (by simp))
theorem ends_none {d : List (Int × Int)} (hw : Wf d) (h : (vals d).length = 0) : leastR d = 0 ∧ mostR d = 0 ∧ someR d = false := by
  have h0 := (vals_nil hw).1 h
  unfold leastR mostR someR
  rw [if_pos h0, if_pos h0]
  exact ⟨rfl, rfl, decide_eq_false (by omega)⟩
theorem nextV_take {l : List Int} {v : Int} {k : Nat} (h : k < l.length) (hk : ∀ x ∈ l.take k, ¬ v < x) (hv : v < l.getD k 0) : nextV l v = some (l.getD k 0) := by
  unfold nextV
  rw [List.find?_eq_some_iff_append]
  refine ⟨decide_eq_true hv, l.take k, l.drop (k + 1), ?_, fun x hx => ?_⟩
  · rw [← drop_consI h, List.take_append_drop]
  · rw [decide_eq_false (hk x hx)]; rfl
end Go.Proofs.Ytklgkkfkdeggeaa
