
/- Plain facts of domains that are right; contracts of model.Doms and checkVar. -/
import Derived.Test.YtldgknicjdfmeabN2
import Derived.Test.YtldgknicjdfmeabN8
import Derived.Test.YtldgknicjdfmeabD9
namespace Go.Proofs.Ytldgknicjdfmeab
open Go.ChangeShapes Go.WideShapes Go.ChangeAt Go.RowKit Go.Shelf
set_option linter.unusedVariables false
set_option maxRecDepth 100000
set_option linter.unusedSimpArgs false

def Chk (d : List (Int × Int)) : Prop := checkR d = 0
theorem Chk.form {d : List (Int × Int)} (h : Chk d) : formTo d d.length = true := by
  unfold Chk checkR at h
  split at h
  · assumption
  · cases h
theorem Chk.vb {d : List (Int × Int)} (h : Chk d) : Vb d := formTo_vb h.form
theorem Chk.size {d : List (Int × Int)} (h : Chk d) : sizeR d ≤ 4096 := by
  have h2 := h
  unfold Chk checkR at h2
  rw [if_pos h.form] at h2
  split at h2
  · cases h2
  · omega
theorem Chk.wf {d : List (Int × Int)} (h : Chk d) : Wf d := by
  have hall : ∀ k, k ≤ d.length → Wf (d.take k) ∧ ∀ r ∈ d.take k, r.2 ≤ (d.getD (k - 1) (0, 0)).2 := by
    intro k
    induction k with
    | zero => intro _; exact ⟨trivial, fun r hr => by (cases hr)⟩
    | succ k ih =>
      intro hk
      obtain ⟨h1, h2⟩ := ih (by omega)
      obtain ⟨_, _, h3, h4⟩ := okAt_true (formTo_at h.form (show k < d.length by omega))
      have e : d.take (k + 1) = d.take k ++ [d.getD k (0, 0)] := by
        rw [List.take_succ_eq_append_getElem (by omega), List.getD_eq_getElem?_getD, List.getElem?_eq_getElem (by omega)]; rfl
      rw [e]
      have hgap : ∀ r ∈ d.take k, r.2 + 2 ≤ (d.getD k (0, 0)).1 := by
        intro r hr
        rcases h4 with h4 | h4
        · subst h4; cases hr
        · have := h2 r hr; omega
      refine ⟨Wf.app h1 (Wf.one h3) (fun r hr s hs => ?_), fun r hr => ?_⟩
      · simp at hs; subst hs; have := hgap r hr; simpa using this
      · simp only [Nat.add_sub_cancel]
        rcases List.mem_append.1 hr with hr | hr
        · have := hgap r hr; omega
        · simp at hr; subst hr; simp
  have := (hall d.length (Nat.le_refl _)).1
  rwa [List.take_length] at this

theorem beq_str (a b : ByteArray) : (a.toList == b.toList) = decide (a = b) := by
  rw [ByteArray.toList_eq, ByteArray.toList_eq]
  by_cases h : a = b
  · subst h; rw [decide_eq_true rfl]; simp
  · rw [decide_eq_false h, beq_eq_false_iff_ne]
    intro e
    apply h
    cases a; cases b
    simp only at e
    congr 1
    exact Array.toList_inj.1 e
theorem pairs_map {α β γ : Type} {l : List α} {ys : List β} {f : α → γ} {g : β → γ} (hl : ys.length = l.length) (h : ∀ (i : Nat) x y, l[i]? = some x → ys[i]? = some y → g y = f x) : ys.map g = l.map f := by
  apply List.ext_getElem?
  intro i
  rw [List.getElem?_map, List.getElem?_map]
  by_cases hi : i < l.length
  · have h1 := List.getElem?_eq_getElem hi
    have h2 := List.getElem?_eq_getElem (l := ys) (i := i) (by omega)
    rw [h1, h2]
    simp only [Option.map_some]
    rw [h i _ _ h1 h2]
  · rw [List.getElem?_eq_none (by omega), List.getElem?_eq_none (by omega)]
    rfl
theorem pairs_mem {α β : Type} {l : List α} {ys : List β} {Q : β → Prop} {P : α → β → Prop} (hl : ys.length = l.length) (h : ∀ (i : Nat) x y, l[i]? = some x → ys[i]? = some y → P x y) (hq : ∀ x ∈ l, ∀ y, P x y → Q y) : ∀ y ∈ ys, Q y := by
  intro y hy
  obtain ⟨i, hi, rfl⟩ := List.getElem_of_mem hy
  exact hq _ (List.getElem_mem (by omega)) _ (h i _ _ (List.getElem?_eq_getElem (by omega)) (List.getElem?_eq_getElem hi))


def Mm.arg (m : Mm) : Value := .agg #[.slice m.Av m.vs.length m.cv, .slice m.Ac m.cs.length m.cc, .int .i64 m.g.kind, .slice m.g.vars.A m.g.vars.l.length m.g.vars.c, .slice m.g.coefs.A m.g.coefs.l.length m.g.coefs.c]

/-! ### Doms -/
def RetD (x : Vm) (B : Nat) (w : World) (e : Ending) (w' : World) : Prop := ∃ y : Sr, e = .returned (.slice y.A y.d.length y.c) ∧ (y.d = x.v.d ∧ OR w' B y.A y.c y.d) ∧ Below w.heap.size w w'
def RetDs (vs : List Vm) (B : Nat) (w : World) (e : Ending) (w' : World) : Prop := ∃ (A' : Option Addr) (c' : Nat) (ys : List Sr), e = .returned (.slice A' vs.length c') ∧ ys.length = vs.length ∧ Ow w' B 38 1 A' vs.length c' (cS ys) ∧ ys.map (·.d) = vs.map (·.v.d) ∧ (∀ y ∈ ys, OR w' B y.A y.c y.d) ∧ Below w.heap.size w w'
/-! ### checkVar -/
end Go.Proofs.Ytldgknicjdfmeab
