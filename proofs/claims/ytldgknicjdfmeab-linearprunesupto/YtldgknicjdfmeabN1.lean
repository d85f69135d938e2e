
/- Contracts of model.own, slices.Equal, Index, Contains, IndexFunc, ContainsFunc, model.all, model.first. -/
import Derived.Test.YtldgknicjdfmeabMR
import Derived.Test.YtldgknicjdfmeabD2
import Derived.Test.YtldgknicjdfmeabD4
import Derived.Shelf.Abstract
namespace Go.Proofs.Ytldgknicjdfmeab
open Go.ChangeShapes Go.WideShapes Go.ChangeAt Go.RowKit Go.Shelf
set_option linter.unusedVariables false
set_option maxRecDepth 100000

theorem IndexI_any (A : Option Addr) (c n : Nat) (l : List Int) (x : Int) (w : World) (h : Rd w A (cI l)) (hn : l.length = n) (hl : n ≤ 4294967296) :
    Calls Try.prog 62 #[.slice A n c, .int .i64 x] w fun e w' => (∃ i : Int, e = .returned (.int .i64 i) ∧ decide (0 ≤ i) = hasL l x) ∧ w = w' := by
  have H := hid h
  have HN := hid hn
  clear h hn
  go_enter Try.func62, Try.ntmps62
  go_wp2
  go_loop [8] (fun i => ∃ k : Nat, k ≤ n ∧ i = .int .i64 k ∧ Hid (hasL (l.take k) x = false)) (fun i => n - (intOf i).toNat)
  case atStart => exact ⟨0, Nat.zero_le _, rfl, rfl⟩
  case round =>
    obtain ⟨k, hk, rfl, HT⟩ := hrel
    by_cases hlt : k < n
    · have ha : k < l.length := by rw [HN.out]; exact hlt
      obtain ⟨b1, o1, hg1, hi1, hc1⟩ := H.out.atI ha
      have hi1 := fun w' => hi1 n c w' hlt
      have HE : Hid (l.getD k 0 ≠ x → hasL (l.take (k + 1)) x = false) := fun e => by rw [hasL_take ha, HT.out]; simpa using e
      have HF : Hid (l.getD k 0 = x → hasL l x = true) := fun e => hasL_stop ha e
      generalize l.getD k 0 = y at *
      by_cases e1 : y = x
      · have HF2 := hid (HF.out e1)
        subst e1
        clear HF HE
        go_wp2
        go_ret
        exact ⟨⟨k, rfl, by rw [HF2.out]; exact decide_eq_true (by omega)⟩, rfl⟩
      · have hq : (x == y) = false := by simpa using fun e : x = y => e1 e.symm
        have HE2 := hid (HE.out e1)
        clear HE HF
        go_wp2
        go_round
        case rel => exact ⟨k + 1, by omega, by go_num, HE2.out⟩
        case measure => simp [intOf]; omega
    · obtain rfl : k = n := by omega
      go_wp2
      go_ret
      have := HT.out
      rw [take_all HN.out] at this
      exact ⟨⟨-1, rfl, by rw [this]; rfl⟩, rfl⟩
/-! ### Function values -/
def Gives (w : World) (g : Nat) (args : Array Value) (b : Bool) : Prop := ∀ w', Below w.heap.size w w' → Calls Try.prog g args w' fun e w'' => e = .returned (.bool b) ∧ Below w'.heap.size w' w''
def Ent (g : Nat) : Prop := ∀ args w, (callFunc g args).run Try.prog w = .ok (.enter g args) w
theorem Gives.keep {w w1 : World} {g : Nat} {args : Array Value} {b : Bool} (h : Gives w g args b) (hb : Below w.heap.size w w1) : Gives w1 g args b := fun w' h' => h w' (bstep hb h')
theorem any_take {α : Type} {l : List α} {p : α → Bool} {k : Nat} {x : α} (h : l[k]? = some x) (h0 : (l.take k).any p = false) (hx : p x = false) : (l.take (k + 1)).any p = false := by
  obtain ⟨hk, e⟩ := List.getElem?_eq_some_iff.1 h
  rw [List.take_succ_eq_append_getElem hk, List.any_append, h0, e]
  simp [hx]
theorem any_stop {α : Type} {l : List α} {p : α → Bool} {k : Nat} {x : α} (h : l[k]? = some x) (hx : p x = true) : l.any p = true := List.any_eq_true.2 ⟨x, List.mem_of_getElem? h, hx⟩
/-! ### first -/
structure Fl where
  e : Int
  g : Nat
  cb : Array Value
  b : Bool
def Fl.cells (f : Fl) : List Value := [.int .i64 f.e, .func (.func f.g) #[] f.cb]
def firstE : List Fl → Int
  | [] => 0
  | f :: fs => if f.b = true then f.e else firstE fs
theorem firstE_none {fs : List Fl} (h : ∀ f ∈ fs, f.b = false) : firstE fs = 0 := by
  induction fs with
  | nil => rfl
  | cons f fs ih => rw [firstE, h f (List.mem_cons_self ..)]; exact ih fun f' hf => h f' (List.mem_cons_of_mem _ hf)
theorem firstE_at {fs : List Fl} {k : Nat} {f : Fl} (hk : fs[k]? = some f) (h : ∀ f ∈ fs.take k, f.b = false) (hf : f.b = true) : firstE fs = f.e := by
  induction fs generalizing k with
  | nil => simp at hk
  | cons a fs ih =>
    cases k with
    | zero => simp at hk; subst hk; rw [firstE, if_pos hf]
    | succ k =>
      rw [firstE, h a (by simp)]
      exact ih (by simpa using hk) fun f' hf' => h f' (by simp [hf'])
end Go.Proofs.Ytldgknicjdfmeab
