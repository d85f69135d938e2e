
/- Contracts of model.rising, areOthers, Uses, isSum, isHeldSum. -/
import Derived.Test.YtfdjaggdcknpmabN1
import Derived.Test.YtfdjaggdcknpmabSP
import Derived.Test.YtfdjaggdcknpmabSC
import Derived.Sort.OwnSortedInts
import Derived.Lib.LazyBuf
namespace Go.Proofs.Ytfdjaggdcknpmab
open Go.ChangeShapes Go.WideShapes Go.ChangeAt Go.RowKit Go.Shelf Go.Sort
set_option linter.unusedVariables false
set_option maxRecDepth 100000

/-! ### Sorted, each once -/
theorem bang {zs : List Int} {m : Nat} (h : m < zs.length) : zs.toArray[m]! = zs[m] := by simp [getElem!_pos, h]
theorem compact_spec (zs : List Int) (hs : zs.Pairwise (· ≤ ·)) : Up (Lib.compact zs) ∧ ∀ v, v ∈ Lib.compact zs ↔ v ∈ zs := by
  have key : ∀ m, m ≤ zs.length → Up (Lib.compactUpTo zs.toArray m) ∧ (∀ v, v ∈ Lib.compactUpTo zs.toArray m ↔ v ∈ zs.take m) := by
    intro m
    induction m with
    | zero => intro _; exact ⟨List.Pairwise.nil, fun v => by simp [Lib.compactUpTo]⟩
    | succ m ih =>
      intro hm
      obtain ⟨h1, h2⟩ := ih (by omega)
      have hlt : m < zs.length := by omega
      rw [Lib.compactUpTo_succ, List.take_succ_eq_append_getElem hlt]
      have hle : ∀ v ∈ zs.take m, v ≤ zs[m] := by
        intro v hv
        obtain ⟨i, hi, rfl⟩ := List.getElem_of_mem hv
        simp only [List.length_take] at hi
        rw [List.getElem_take]
        exact List.pairwise_iff_getElem.1 hs i m (by omega) hlt (by omega)
      by_cases hk : Lib.keeps zs.toArray m = true
      · rw [if_pos hk, bang hlt]
        refine ⟨?_, fun v => by rw [List.mem_append, List.mem_append, h2 v]⟩
        unfold Up at *
        rw [List.pairwise_append]
        refine ⟨h1, List.pairwise_singleton _ _, fun a ha b hb => ?_⟩
        simp at hb
        subst hb
        have hav := (h2 a).1 ha
        by_cases h0 : m = 0
        · subst h0; simp at hav
        · have hne : zs[m] ≠ zs[m - 1]'(by omega) := by
            have := of_decide_eq_true hk
            rcases this with h | h
            · exact absurd h h0
            · rwa [bang hlt, bang (show m - 1 < zs.length by omega)] at h
          have h3 : a ≤ zs[m - 1]'(by omega) := by
            obtain ⟨i, hi, rfl⟩ := List.getElem_of_mem hav
            simp only [List.length_take] at hi
            rw [List.getElem_take]
            by_cases e : i = m - 1
            · subst e; exact Int.le_refl _
            · exact List.pairwise_iff_getElem.1 hs i (m - 1) (by omega) (by omega) (by omega)
          have h4 := List.pairwise_iff_getElem.1 hs (m - 1) m (by omega) hlt (by omega)
          omega
      · rw [if_neg hk]
        refine ⟨by simpa using h1, fun v => ?_⟩
        have h0 : ¬ m = 0 := fun e => hk (by simp [Lib.keeps, e])
        have he : zs[m] = zs[m - 1]'(by omega) := by
          by_cases e : zs[m] = zs[m - 1]'(by omega)
          · exact e
          · exact absurd (decide_eq_true (.inr (by rwa [bang hlt, bang (show m - 1 < zs.length by omega)]))) hk
        have hmem : zs[m] ∈ zs.take m := by
          rw [he]
          exact List.mem_iff_getElem.2 ⟨m - 1, by simp; omega, by rw [List.getElem_take]⟩
        simp only [List.append_nil, List.mem_append, List.mem_singleton, h2 v]
        constructor
        · intro h; exact .inl h
        · rintro (h | rfl)
          · exact h
          · exact hmem
  have := key zs.length (Nat.le_refl _)
  rw [List.take_length] at this
  exact this
def msI (zs : List Int) : List Int := zs.mergeSort fun x y => decide (x ≤ y)
theorem msI_len (zs : List Int) : (msI zs).length = zs.length := by simp [msI]
theorem msI_spec (zs : List Int) : (msI zs).Pairwise (· ≤ ·) ∧ ∀ v, v ∈ msI zs ↔ v ∈ zs := by
  refine ⟨?_, fun v => List.mem_mergeSort⟩
  have := List.pairwise_mergeSort (le := fun x y : Int => decide (x ≤ y)) (fun a b c h1 h2 => by simp at *; omega) (fun a b => by simp; omega) zs
  exact this.imp fun h => of_decide_eq_true h
theorem risen (zs : List Int) : Lib.compact (msI zs) = sortedL zs := by
  obtain ⟨h1, h2⟩ := msI_spec zs
  obtain ⟨h3, h4⟩ := compact_spec _ h1
  obtain ⟨h5, h6⟩ := sortedL_spec zs
  exact Up.eq h3 h5 fun v => by rw [h4, h2, h6]

def RetS (zs : List Int) (B : Nat) (w : World) (e : Ending) (w' : World) : Prop := ∃ A c, e = .returned (.slice A zs.length c) ∧ Rd w' A (cI zs) ∧ (A = none → c = 0) ∧ zs.length ≤ c ∧ c ≤ 9223372036854775807 ∧ Below B w w'
/-! ### A constraint in a box -/
theorem Cm.box {m : Cm} {w : World} {b : Nat} (h : w.heap[b]? = some (.cells m.cells.toArray 25 (0, 0))) :
    w.cell? ⟨b, 0, none⟩ = some (.int .i64 m.kind) ∧ w.cell? ⟨b, 1, none⟩ = some (.slice m.vars.A m.vars.l.length m.vars.c) ∧ w.cell? ⟨b, 2, none⟩ = some (.slice m.coefs.A m.coefs.l.length m.coefs.c) ∧ w.cell? ⟨b, 3, none⟩ = some (.int .i64 m.op) ∧ w.cell? ⟨b, 4, none⟩ = some (.int .i64 m.rhs) ∧ w.cell? ⟨b, 5, none⟩ = some (.slice m.Ar m.rows.length m.cr) ∧ w.cell? ⟨b, 6, none⟩ = some (.int .i64 m.b) := by
  simp [World.cell?, h, Cm.cells, Sn.val]
/-- the arguments' value, written out -/
def Cm.arg (m : Cm) : Value := .agg #[.int .i64 m.kind, .slice m.vars.A m.vars.l.length m.vars.c, .slice m.coefs.A m.coefs.l.length m.coefs.c, .int .i64 m.op, .int .i64 m.rhs, .slice m.Ar m.rows.length m.cr, .int .i64 m.b]
end Go.Proofs.Ytfdjaggdcknpmab
