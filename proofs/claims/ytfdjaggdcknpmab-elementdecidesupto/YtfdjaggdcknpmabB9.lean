
/- Contract of the reference's Sorted of layer 9. -/
import Derived.Test.YtfdjaggdcknpmabB4
import Derived.Test.YtfdjaggdcknpmabX5
import Derived.Test.YtfdjaggdcknpmabX1
import Derived.Deep.RegionHeld3
import Derived.Deep.Cut
namespace Go.Proofs.Ytfdjaggdcknpmab
open Go.ChangeShapes Go.WideShapes Go.ChangeAt Go.RowKit Go.Deep
set_option linter.unusedVariables false
set_option linter.unusedSimpArgs false
set_option maxRecDepth 100000

def insS (x : Sn) : Bool → List Sn → List Sn
  | p, [] => if p = true then [] else [x]
  | p, y :: l => if (p || ordV x.l y.l == 0) = true then y :: insS x true l else if ordV x.l y.l < 0 then x :: y :: insS x true l else y :: insS x false l
theorem insS_l (x : Sn) : ∀ (p : Bool) (l : List Sn), (insS x p l).map (·.l) = insC x.l p (l.map (·.l))
  | p, [] => by simp only [insS, insC, List.map_nil]; split <;> rfl
  | p, y :: l => by
    simp only [insS, insC, List.map_cons]
    split
    · rw [List.map_cons, insS_l x true l]
    · split
      · rw [List.map_cons, List.map_cons, insS_l x true l]
      · rw [List.map_cons, insS_l x false l]
theorem insS_len (x : Sn) (p : Bool) (l : List Sn) : (insS x p l).length ≤ l.length + 1 := by
  have h1 := congrArg List.length (insS_l x p l)
  have h2 := insC_len x.l p (l.map (·.l))
  simp only [List.length_map] at h1 h2
  omega
theorem insS_mem (x : Sn) : ∀ (p : Bool) (l : List Sn) (s : Sn), s ∈ insS x p l → s = x ∨ s ∈ l
  | p, [], s, h => by
    simp only [insS] at h
    split at h
    · cases h
    · simp at h; exact .inl h
  | p, y :: l, s, h => by
    simp only [insS] at h
    split at h
    · rcases List.mem_cons.1 h with e | e
      · exact .inr (e ▸ List.mem_cons_self)
      · exact (insS_mem x true l s e).imp id (List.mem_cons_of_mem _)
    · split at h
      · rcases List.mem_cons.1 h with e | e
        · exact .inl e
        · rcases List.mem_cons.1 e with e | e
          · exact .inr (e ▸ List.mem_cons_self)
          · exact (insS_mem x true l s e).imp id (List.mem_cons_of_mem _)
      · rcases List.mem_cons.1 h with e | e
        · exact .inr (e ▸ List.mem_cons_self)
        · exact (insS_mem x false l s e).imp id (List.mem_cons_of_mem _)
def sortS (l : List Sn) : List Sn := l.foldl (fun out x => insS x false out) []
theorem sortS_l (l : List Sn) : (sortS l).map (·.l) = sortC (l.map (·.l)) := by
  have h : ∀ (l out : List Sn), (l.foldl (fun out x => insS x false out) out).map (·.l) = (l.map (·.l)).foldl (fun out x => insC x false out) (out.map (·.l)) := by
    intro l
    induction l with
    | nil => intro out; rfl
    | cons x l ih => intro out; rw [List.foldl_cons, ih, insS_l]; rfl
  exact h l []
theorem sortS_snoc {l : List Sn} {k : Nat} {x : Sn} (h : l[k]? = some x) : sortS (l.take (k + 1)) = insS x false (sortS (l.take k)) := by
  have e : l.take (k + 1) = l.take k ++ [x] := by rw [List.take_add_one, h]; rfl
  rw [e]; simp [sortS]
theorem sortS_mem : ∀ (l : List Sn) (s : Sn), s ∈ sortS l → s ∈ l := by
  have h : ∀ (l out : List Sn) (s : Sn), s ∈ l.foldl (fun out x => insS x false out) out → s ∈ out ∨ s ∈ l := by
    intro l
    induction l with
    | nil => intro out s hs; exact .inl hs
    | cons x l ih =>
      intro out s hs
      rcases ih _ s hs with h | h
      · rcases insS_mem x false out s h with h | h
        · exact .inr (h ▸ List.mem_cons_self)
        · exact .inl h
      · exact .inr (List.mem_cons_of_mem _ h)
  intro l s hs
  exact (h l [] s hs).elim (fun h => by cases h) id
theorem sortS_len (l : List Sn) : (sortS l).length ≤ l.length := by
  have h1 := congrArg List.length (sortS_l l)
  have h2 := sortC_len (l.map (·.l))
  simp only [List.length_map] at h1 h2
  omega
theorem sortS_take_len (l : List Sn) (k : Nat) : (sortS (l.take k)).length ≤ k := by
  have := sortS_len (l.take k)
  rw [List.length_take] at this
  omega
theorem insS_step {x y : Sn} {p : Bool} {out : List Sn} {k : Nat} (h : out[k]? = some y) : insS x p (out.drop k) = (if (p || ordV x.l y.l == 0) = true then y :: insS x true (out.drop (k + 1)) else if ordV x.l y.l < 0 then x :: y :: insS x true (out.drop (k + 1)) else y :: insS x false (out.drop (k + 1))) := by
  have hk := (List.getElem?_eq_some_iff.1 h).1
  rw [List.drop_eq_getElem_cons hk, (List.getElem?_eq_some_iff.1 h).2]
  rfl
theorem _root_.Go.RowKit.Below.drewQ {B : Nat} {w w' : World} (h : Below B w w') (n : Nat) : Below B w (w'.drewN n) := below_drewN h n
def RetSs9 (l : List Sn) (w : World) (e : Ending) (w' : World) : Prop := ∃ (A : Option Addr) (c : Nat), e = .returned (.slice A (sortS l).length c) ∧ Ow w' w.heap.size 23 1 A (sortS l).length c (cN (sortS l)) ∧ Below w.heap.size w w'
end Go.Proofs.Ytfdjaggdcknpmab
