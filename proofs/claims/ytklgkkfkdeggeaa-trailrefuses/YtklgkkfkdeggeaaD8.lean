
/- Contracts of sort.Search, dom.Has, dom.Next. -/
import Derived.Test.YtklgkkfkdeggeaaD2
import Derived.Lib.MinMax
import Derived.Shelf.Abstract
namespace Go.Proofs.Ytklgkkfkdeggeaa
open Go.ChangeShapes Go.WideShapes Go.ChangeAt Go.RowKit Go.Shelf
set_option linter.unusedVariables false

def SeaRel (p : Nat → Bool) (n lo hi : Nat) : Prop := (∀ t, t < lo → p t = false) ∧ (∀ t, hi ≤ t → t < n → p t = true)
def SeaPost (p : Nat → Bool) (n : Nat) (w : World) (e : Ending) (w' : World) : Prop := ∃ i q : Nat, e = .returned (.int .i64 i) ∧ i ≤ n ∧ SeaRel p n i i ∧ w' = w.drewN q
theorem Wf.pw {d : List (Int × Int)} (h : Wf d) : d.Pairwise fun r s => r.2 + 2 ≤ s.1 := by
  induction d with
  | nil => exact List.Pairwise.nil
  | cons r d ih => exact List.Pairwise.cons h.2.1 (ih h.2.2)
theorem getD_get {d : List (Int × Int)} {k : Nat} (h : k < d.length) : d.getD k (0, 0) = d[k] := by
  rw [List.getD_eq_getElem?_getD, List.getElem?_eq_getElem h]; rfl
theorem Wf.idx {d : List (Int × Int)} (h : Wf d) {a b : Nat} (hab : a < b) (hb : b < d.length) : (d.getD a (0, 0)).2 + 2 ≤ (d.getD b (0, 0)).1 := by
  rw [getD_get (by omega), getD_get hb]
  exact List.pairwise_iff_getElem.1 h.pw a b (by omega) hb hab
theorem Wf.lh {d : List (Int × Int)} (h : Wf d) {a : Nat} (ha : a < d.length) : (d.getD a (0, 0)).1 ≤ (d.getD a (0, 0)).2 := h.lohi _ (getD_mem ha)
theorem inD_idx {d : List (Int × Int)} {v : Int} : inD v d ↔ ∃ k, k < d.length ∧ (d.getD k (0, 0)).1 ≤ v ∧ v ≤ (d.getD k (0, 0)).2 := by
  constructor
  · rintro ⟨r, hr, h⟩
    obtain ⟨k, hk, rfl⟩ := List.getElem_of_mem hr
    exact ⟨k, hk, by rw [getD_get hk]; exact h⟩
  · rintro ⟨k, hk, h⟩
    exact ⟨_, getD_mem hk, h⟩
theorem has_at {d : List (Int × Int)} {v : Int} {i : Nat} (hw : Wf d) (h : SeaRel (fun j => decide (v ≤ (d.getD j (0, 0)).2)) d.length i i) : (inD v d ↔ i < d.length ∧ (d.getD i (0, 0)).1 ≤ v) := by
  rw [inD_idx]
  constructor
  · rintro ⟨k, hk, h1, h2⟩
    have h3 : ¬ k < i := fun hki => by have := of_decide_eq_false (h.1 k hki); omega
    by_cases hik : i = k
    · subst hik; exact ⟨hk, h1⟩
    · have := hw.idx (a := i) (b := k) (by omega) hk
      have := hw.lh (a := i) (by omega)
      exact ⟨by omega, by omega⟩
  · rintro ⟨h1, h2⟩
    have := h.2 i (Nat.le_refl _) h1
    exact ⟨i, h1, h2, of_decide_eq_true this⟩
theorem hasD {d : List (Int × Int)} {v : Int} {b : Bool} (h : inD v d ↔ b = true) : hasL (vals d) v = b := by
  cases b with
  | true => exact hasL_iff.2 (mem_vals.2 (h.2 rfl))
  | false => exact hasL_no.2 fun e => by have := h.1 (mem_vals.1 e); cases this
/-- two boxes that a call lays -/
theorem boxes (w : World) (a b : Value) (t1 t2 : TypeId) : ((w.alloc (.cells #[a] t1)).alloc (.cells #[b] t2)).cell? ⟨w.heap.size, 0, none⟩ = some a ∧ ((w.alloc (.cells #[a] t1)).alloc (.cells #[b] t2)).cell? ⟨w.heap.size + 1, 0, none⟩ = some b := by
  constructor <;> simp [go_sem]
def nextV (l : List Int) (v : Int) : Option Int := l.find? fun x => decide (v < x)
theorem nextV_some {l : List Int} {v x : Int} (hu : Up l) (hx : x ∈ l) (hv : v < x) (hm : ∀ y ∈ l, v < y → x ≤ y) : nextV l v = some x := by
  induction l with
  | nil => cases hx
  | cons y l ih =>
    have hu' := hu
    unfold Up at hu
    rw [List.pairwise_cons] at hu
    unfold nextV
    rw [List.find?_cons]
    by_cases h : v < y
    · rw [decide_eq_true h]
      rcases List.mem_cons.1 hx with rfl | hx
      · rfl
      · have := hm y List.mem_cons_self h
        have := hu.1 x hx
        omega
    · rw [decide_eq_false h]
      rcases List.mem_cons.1 hx with rfl | hx
      · exact (h hv).elim
      · exact ih hu.2 hx fun z hz => hm z (List.mem_cons_of_mem _ hz)
theorem nextV_none {l : List Int} {v : Int} (h : ∀ y ∈ l, ¬ v < y) : nextV l v = none := by
  unfold nextV
  rw [List.find?_eq_none]
  intro y hy
  simpa using h y hy
theorem next_at {d : List (Int × Int)} {v : Int} {i : Nat} (hw : Wf d) (h : SeaRel (fun j => decide (v < (d.getD j (0, 0)).2)) d.length i i) :
    (i < d.length → nextV (vals d) v = some (max (d.getD i (0, 0)).1 (v + 1)) ∧ v < (d.getD i (0, 0)).2) ∧ (¬ i < d.length → nextV (vals d) v = none) := by
  constructor
  · intro hi
    have h1 := of_decide_eq_true (h.2 i (Nat.le_refl _) hi)
    have h2 := hw.lh hi
    refine ⟨nextV_some (vals_up hw) (mem_vals.2 (inD_idx.2 ⟨i, hi, by omega, by omega⟩)) (by omega) fun y hy hvy => ?_, h1⟩
    obtain ⟨k, hk, h3, h4⟩ := inD_idx.1 (mem_vals.1 hy)
    have h5 : ¬ k < i := fun hki => by have := of_decide_eq_false (h.1 k hki); omega
    by_cases e : i = k
    · subst e; omega
    · have := hw.idx (a := i) (b := k) (by omega) hk; omega
  · intro hi
    refine nextV_none fun y hy hvy => ?_
    obtain ⟨k, hk, h3, h4⟩ := inD_idx.1 (mem_vals.1 hy)
    have := of_decide_eq_false (h.1 k (by omega))
    omega
end Go.Proofs.Ytklgkkfkdeggeaa
