
/- Plain facts for the law of a sum of one term. -/
import Derived.Test.YtlggdgoimkobmaaL9
namespace Go.Proofs.Ytlggdgoimkobmaa
set_option linter.unusedVariables false
set_option linter.unusedSimpArgs false

/-- what a sum of one term lets stay -/
theorem one_prune {D : List (List (Int × Int))} {v c r : Int} (hD : GD D) (hv : 0 ≤ v ∧ v < (D.length : Int)) :
    pruneV D [(v, c)] 0 r = if D.any (·.isEmpty) = true then none else if (vals (domAt D v)).filter (fun z => decide (c * z ≤ r)) = [] then none else some (D.set v.toNat (keepR (domAt D v) fun z => decide (c * z ≤ r))) := by
  unfold pruneV
  by_cases h0 : D.any (·.isEmpty) = true
  · rw [if_pos h0, if_pos h0]
  · rw [if_neg h0, if_neg h0, if_pos rfl]
    have hF := full_of (Bool.eq_false_iff.2 h0)
    have hb : bndT D [(v, c)] r (v, c) = r := by unfold bndT; simp [loT]
    have hcut : cutT D [(v, c)] r (v, c) = keepR (domAt D v) fun z => decide (c * z ≤ r) := by unfold cutT; rw [hb]
    have hne := hF.at hv
    have hlow := cut_low (ts := [(v, c)]) (rhs := r) (t := (v, c)) hD hne
    rw [hcut] at hlow
    have hk := keep_vals (p := fun z => decide (c * z ≤ r)) (hD.at v).1
    have hiff : keepR (domAt D v) (fun z => decide (c * z ≤ r)) = [] ↔ (vals (domAt D v)).filter (fun z => decide (c * z ≤ r)) = [] := by
      rw [← hk]
      constructor
      · intro e; rw [e]; rfl
      · intro e
        have := packL_vals (keep_spec (hD.at v).1 (fun z => decide (c * z ≤ r))).1
        rw [e] at this
        exact this.symm
    unfold amV
    by_cases h1 : lowT D [(v, c)] r (v, c) = true
    · rw [if_pos (by simp [h1]), if_pos (hiff.1 (hlow.2 h1))]; rfl
    · rw [if_neg (by simp [h1]), if_neg (fun e => h1 (hlow.1 (hiff.2 e)))]
      simp [mostTo, hcut]
theorem one_lin {nD : Nat} {v c r : Int} (hv : ∃ k : Nat, v = k ∧ k < nD) (hc : c ≠ 0) (hb : absI c * 1048576 ≤ 4611686018427387904) (hr : -4611686018427387905 ≤ r ∧ r ≤ 4611686018427387905) : LinOk nD [v] [c] r := by
  refine ⟨rfl, by simp, by simp, fun x hx => ?_, by simp, fun k hk => ?_, by simp [sizes]; exact hb, hr⟩
  · simp at hx; subst hx; exact hv
  · simp at hk; subst hk; exact hc
theorem tm_bd (k : Int) : -999 ≤ k.tmod 1000 ∧ k.tmod 1000 ≤ 999 := by
  have h := Int.natAbs_tmod k 1000
  have h2 : k.natAbs % 1000 < 1000 := Nat.mod_lt _ (by omega)
  have h3 : (1000 : Int).natAbs = 1000 := rfl
  rw [h3] at h
  omega
theorem filter_snocT {p : Int → Bool} {l : List Int} {k : Nat} (h : k < l.length) : (l.take (k + 1)).filter p = (l.take k).filter p ++ (if p (l.getD k 0) = true then [l.getD k 0] else []) := by
  rw [List.take_succ_eq_append_getElem h, List.filter_append, List.getD_eq_getElem?_getD, List.getElem?_eq_getElem h]
  simp only [List.filter_cons, List.filter_nil, Option.getD_some]
/-- D with one domain less, read at that place -/
theorem set_at {D : List (List (Int × Int))} {v : Nat} {d : List (Int × Int)} (h : v < D.length) : (D.set v d)[v]? = some d := by rw [List.getElem?_set_self h]
end Go.Proofs.Ytlggdgoimkobmaa
