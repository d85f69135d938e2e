
/- Contract of dom.Values. -/
import Derived.Test.YtfdjaggdcknpmabG1
import Derived.Maps.AppendAt
namespace Go.Proofs.Ytfdjaggdcknpmab
open Go.ChangeShapes Go.WideShapes Go.ChangeAt Go.RowKit Go.Shelf
set_option linter.unusedVariables false
attribute [local go_sem] Oper.semAt_some

/-- the box B holds a slice of the call's own, in blocks from n0 on, with the numbers zs -/
def Hold (B n0 : Nat) (zs : List Int) (W : World) : Prop := ∃ v, Boxed W B 23 v ∧ W.ownsRow n0 3 1 v zs.length (cI zs) ∧ True
theorem hold_own (B n0 : Nat) (f : List Vv → List Int) : Own (fun (pre : List Vv) W => Hold B n0 (f pre) W) := holdsRow_own n0 B 23 3 1 (fun pre => (f pre).length) (fun pre => cI (f pre)) (fun _ _ => True)
/-- behind an append and the store of its answer -/
theorem hold_app {W w1 : World} {B n0 : Nat} {v v' : Value} {zs : List Int} {x : Int} {tmp : Obj} (hv : Boxed W B 23 v) (hrow : W.ownsRow n0 3 1 v zs.length (cI zs)) (hn0 : n0 ≤ W.heap.size) (hB : n0 ≤ B)
    (hown' : w1.ownsRow n0 3 1 v' (zs.length + 1) (cI zs ++ [.int .i64 x])) (hgrow : (W.alloc tmp).grownBy w1 v.ownBlock) :
    Boxed w1 B 23 v ∧ Hold B n0 (zs ++ [x]) (w1.setCell ⟨B, 0, none⟩ v') ∧ KeepsOthers W (w1.setCell ⟨B, 0, none⟩ v') ∧ Kp n0 W (w1.setCell ⟨B, 0, none⟩ v') := by
  obtain ⟨h1, h2, h3, h4, h5⟩ := hv.appended (by decide) hrow hn0 hB hown' hgrow
  refine ⟨h1, ⟨v', h2, by rw [List.length_append, cI_app]; exact h3, trivial⟩, h4, h5, ?_⟩
  refine ((KR.alloc W tmp).trans (KR.grown hgrow ?_)).trans (KR.grown (grownBy_setCell' w1 B v') ?_)
  · intro b cs e hb
    rcases (hrow.alloc tmp).2 with ⟨rfl, _⟩ | ⟨g, cap, cur, rfl, _, hgb, _⟩
    · simp [Value.ownBlock] at e
    · obtain rfl : g = b := by simpa [Value.ownBlock] using e
      rw [hgb] at hb
      injection hb with hb
      injection hb with _ hb
      cases hb
  · intro b cs e hb
    injection e with e
    subst e
    rw [show w1.heap[B]? = _ from h1] at hb
    injection hb with hb
    injection hb with _ hb
    cases hb
theorem Rb.of {w : World} {A : Option Addr} {xs : List Value} (h : Rd w A xs) : Rb w w.heap.size A xs := h
def RetVs (zs : List Int) (w : World) (e : Ending) (w' : World) : Prop := ∃ v, e = .returned v ∧ w'.ownsRow w.heap.size 3 1 v zs.length (cI zs) ∧ Below w.heap.size w w'
theorem RetVs.ret {zs : List Int} {w : World} {e : Ending} {w' : World} (h : RetVs zs w e w') : RetI zs w e w' := by
  obtain ⟨v, he, ho, hb⟩ := h
  rcases ho.2 with ⟨rfl, hz⟩ | ⟨g, cap, cur, rfl, r⟩
  · exact ⟨none, 0, by rw [he, hz], by unfold OI Ow; rw [hz] at ho ⊢; exact ho, hb⟩
  · exact ⟨_, cap, he, ho, hb⟩
end Go.Proofs.Ytfdjaggdcknpmab
