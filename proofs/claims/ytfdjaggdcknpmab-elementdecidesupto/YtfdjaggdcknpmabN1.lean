
/- Contracts of model.own, slices.Equal, Index, Contains, IndexFunc, ContainsFunc, model.all, model.first. -/
import Derived.Test.YtfdjaggdcknpmabMR
import Derived.Test.YtfdjaggdcknpmabZC
import Derived.Shelf.Abstract
namespace Go.Proofs.Ytfdjaggdcknpmab
open Go.ChangeShapes Go.WideShapes Go.ChangeAt Go.RowKit Go.Shelf
set_option linter.unusedVariables false
set_option maxRecDepth 100000

/-! ### Function values -/
def Gives (w : World) (g : Nat) (args : Array Value) (b : Bool) : Prop := ∀ w', Below w.heap.size w w' → Calls Try.prog g args w' fun e w'' => e = .returned (.bool b) ∧ Below w'.heap.size w' w''
def Ent (g : Nat) : Prop := ∀ args w, (callFunc g args).run Try.prog w = .ok (.enter g args) w
theorem Gives.keep {w w1 : World} {g : Nat} {args : Array Value} {b : Bool} (h : Gives w g args b) (hb : Below w.heap.size w w1) : Gives w1 g args b := fun w' h' => h w' (bstep hb h')
theorem any_take {α : Type} {l : List α} {p : α → Bool} {k : Nat} {x : α} (h : l[k]? = some x) (h0 : (l.take k).any p = false) (hx : p x = false) : (l.take (k + 1)).any p = false := by
  obtain ⟨hk, e⟩ := List.getElem?_eq_some_iff.1 h
  rw [List.take_succ_eq_append_getElem hk, List.any_append, h0, e]
  simp [hx]
theorem any_stop {α : Type} {l : List α} {p : α → Bool} {k : Nat} {x : α} (h : l[k]? = some x) (hx : p x = true) : l.any p = true := List.any_eq_true.2 ⟨x, List.mem_of_getElem? h, hx⟩
/-! ### first -/
structure Fl where
  e : Int
  g : Nat
  cb : Array Value
  b : Bool
def Fl.cells (f : Fl) : List Value := [.int .i64 f.e, .func (.func f.g) #[] f.cb]
def firstE : List Fl → Int
  | [] => 0
  | f :: fs => if f.b = true then f.e else firstE fs
theorem firstE_none {fs : List Fl} (h : ∀ f ∈ fs, f.b = false) : firstE fs = 0 := by
  induction fs with
  | nil => rfl
  | cons f fs ih => rw [firstE, h f (List.mem_cons_self ..)]; exact ih fun f' hf => h f' (List.mem_cons_of_mem _ hf)
theorem firstE_at {fs : List Fl} {k : Nat} {f : Fl} (hk : fs[k]? = some f) (h : ∀ f ∈ fs.take k, f.b = false) (hf : f.b = true) : firstE fs = f.e := by
  induction fs generalizing k with
  | nil => simp at hk
  | cons a fs ih =>
    cases k with
    | zero => simp at hk; subst hk; rw [firstE, if_pos hf]
    | succ k =>
      rw [firstE, h a (by simp)]
      exact ih (by simpa using hk) fun f' hf' => h f' (by simp [hf'])
end Go.Proofs.Ytfdjaggdcknpmab
