/-  -/
import Derived.Test.YtfdjaggdcknpmabN1
import Derived.Laws.RangeAny
import Derived.Test.YtfdjaggdcknpmabN8
import Derived.Test.YtfdjaggdcknpmabZC
/- Contracts of model.Name and of the reference's Name. -/
namespace Go.Proofs.Ytfdjaggdcknpmab
open Go.ChangeShapes Go.WideShapes Go.ChangeAt Go.RowKit Go.Shelf
set_option linter.unusedVariables false
set_option maxRecDepth 100000

theorem get_at {s : ByteArray} {k : Nat} (h : k < s.size) : s.get! k = s[k]'h := by
  show s.get! k = _
  simp [ByteArray.get!, getElem!_pos, h]
  rfl
theorem nameTo_succ (s : ByteArray) (k : Nat) : nameTo s (k + 1) = (nameTo s k && nameB (k == 0) (s.get! k)) := by
  unfold nameTo
  rw [List.range_succ, List.all_append]
  simp
theorem nameTo_stop {s : ByteArray} {k n : Nat} (h : k < n) (h0 : nameB (k == 0) (s.get! k) = false) : nameTo s n = false := by
  unfold nameTo
  rw [List.all_eq_false]
  exact ⟨k, List.mem_range.2 h, by rw [h0]; simp⟩
theorem nameB_iff (f : Bool) (b : UInt8) : nameB f b = decide ((97 ≤ b.toNat ∧ b.toNat ≤ 122) ∨ (f = false ∧ (b.toNat = 95 ∨ (48 ≤ b.toNat ∧ b.toNat ≤ 57)))) := by
  unfold nameB
  cases f <;> simp [Bool.decide_or, Bool.decide_and]
theorem nameV_mid {s : ByteArray} (h1 : 1 ≤ s.size) (h2 : s.size ≤ 16) : nameV s = nameTo s s.size := by
  unfold nameV
  rw [decide_eq_true (show 0 < s.size by omega), decide_eq_true h2]
  simp
theorem iter_below (w : World) (s : ByteArray) (pos : Nat) : Below w.heap.size w (w.iter s pos) := (Below.refl _ _).alloc (Nat.le_refl _) _

end Go.Proofs.Ytfdjaggdcknpmab
/- Plain facts of domains that are right; contracts of model.Doms and checkVar. -/
namespace Go.Proofs.Ytfdjaggdcknpmab
open Go.ChangeShapes Go.WideShapes Go.ChangeAt Go.RowKit Go.Shelf
set_option linter.unusedVariables false
set_option maxRecDepth 100000
set_option linter.unusedSimpArgs false

def Chk (d : List (Int × Int)) : Prop := checkR d = 0
theorem Chk.form {d : List (Int × Int)} (h : Chk d) : formTo d d.length = true := by
  unfold Chk checkR at h
  split at h
  · assumption
  · cases h
theorem Chk.vb {d : List (Int × Int)} (h : Chk d) : Vb d := formTo_vb h.form
theorem Chk.size {d : List (Int × Int)} (h : Chk d) : sizeR d ≤ 4096 := by
  have h2 := h
  unfold Chk checkR at h2
  rw [if_pos h.form] at h2
  split at h2
  · cases h2
  · omega
theorem Chk.wf {d : List (Int × Int)} (h : Chk d) : Wf d := by
  have hall : ∀ k, k ≤ d.length → Wf (d.take k) ∧ ∀ r ∈ d.take k, r.2 ≤ (d.getD (k - 1) (0, 0)).2 := by
    intro k
    induction k with
    | zero => intro _; exact ⟨trivial, fun r hr => by (cases hr)⟩
    | succ k ih =>
      intro hk
      obtain ⟨h1, h2⟩ := ih (by omega)
      obtain ⟨_, _, h3, h4⟩ := okAt_true (formTo_at h.form (show k < d.length by omega))
      have e : d.take (k + 1) = d.take k ++ [d.getD k (0, 0)] := by
        rw [List.take_succ_eq_append_getElem (by omega), List.getD_eq_getElem?_getD, List.getElem?_eq_getElem (by omega)]; rfl
      rw [e]
      have hgap : ∀ r ∈ d.take k, r.2 + 2 ≤ (d.getD k (0, 0)).1 := by
        intro r hr
        rcases h4 with h4 | h4
        · subst h4; cases hr
        · have := h2 r hr; omega
      refine ⟨Wf.app h1 (Wf.one h3) (fun r hr s hs => ?_), fun r hr => ?_⟩
      · simp at hs; subst hs; have := hgap r hr; simpa using this
      · simp only [Nat.add_sub_cancel]
        rcases List.mem_append.1 hr with hr | hr
        · have := hgap r hr; omega
        · simp at hr; subst hr; simp
  have := (hall d.length (Nat.le_refl _)).1
  rwa [List.take_length] at this

theorem beq_str (a b : ByteArray) : (a.toList == b.toList) = decide (a = b) := by
  rw [ByteArray.toList_eq, ByteArray.toList_eq]
  by_cases h : a = b
  · subst h; rw [decide_eq_true rfl]; simp
  · rw [decide_eq_false h, beq_eq_false_iff_ne]
    intro e
    apply h
    cases a; cases b
    simp only at e
    congr 1
    exact Array.toList_inj.1 e
theorem pairs_map {α β γ : Type} {l : List α} {ys : List β} {f : α → γ} {g : β → γ} (hl : ys.length = l.length) (h : ∀ (i : Nat) x y, l[i]? = some x → ys[i]? = some y → g y = f x) : ys.map g = l.map f := by
  apply List.ext_getElem?
  intro i
  rw [List.getElem?_map, List.getElem?_map]
  by_cases hi : i < l.length
  · have h1 := List.getElem?_eq_getElem hi
    have h2 := List.getElem?_eq_getElem (l := ys) (i := i) (by omega)
    rw [h1, h2]
    simp only [Option.map_some]
    rw [h i _ _ h1 h2]
  · rw [List.getElem?_eq_none (by omega), List.getElem?_eq_none (by omega)]
    rfl
theorem pairs_mem {α β : Type} {l : List α} {ys : List β} {Q : β → Prop} {P : α → β → Prop} (hl : ys.length = l.length) (h : ∀ (i : Nat) x y, l[i]? = some x → ys[i]? = some y → P x y) (hq : ∀ x ∈ l, ∀ y, P x y → Q y) : ∀ y ∈ ys, Q y := by
  intro y hy
  obtain ⟨i, hi, rfl⟩ := List.getElem_of_mem hy
  exact hq _ (List.getElem_mem (by omega)) _ (h i _ _ (List.getElem?_eq_getElem (by omega)) (List.getElem?_eq_getElem hi))


def Mm.arg (m : Mm) : Value := .agg #[.slice m.Av m.vs.length m.cv, .slice m.Ac m.cs.length m.cc, .int .i64 m.g.kind, .slice m.g.vars.A m.g.vars.l.length m.g.vars.c, .slice m.g.coefs.A m.g.coefs.l.length m.g.coefs.c]

/-! ### Doms -/
def RetD (x : Vm) (B : Nat) (w : World) (e : Ending) (w' : World) : Prop := ∃ y : Sr, e = .returned (.slice y.A y.d.length y.c) ∧ (y.d = x.v.d ∧ OR w' B y.A y.c y.d) ∧ Below w.heap.size w w'
def RetDs (vs : List Vm) (B : Nat) (w : World) (e : Ending) (w' : World) : Prop := ∃ (A' : Option Addr) (c' : Nat) (ys : List Sr), e = .returned (.slice A' vs.length c') ∧ ys.length = vs.length ∧ Ow w' B 39 1 A' vs.length c' (cS ys) ∧ ys.map (·.d) = vs.map (·.v.d) ∧ (∀ y ∈ ys, OR w' B y.A y.c y.d) ∧ Below w.heap.size w w'
/-! ### checkVar -/
end Go.Proofs.Ytfdjaggdcknpmab
/- Contracts of model.Same and of what it calls. -/
namespace Go.Proofs.Ytfdjaggdcknpmab
open Go.ChangeShapes Go.WideShapes Go.ChangeAt Go.RowKit Go.Shelf
set_option linter.unusedVariables false
set_option maxRecDepth 100000
set_option linter.unusedSimpArgs false

def eqF {α : Type} (p : α → α → Bool) (a b : List α) : Bool := decide (a.length = b.length) && !((a.zip b).any fun z => !p z.1 z.2)
theorem eqF_map {α β : Type} [DecidableEq β] (f : α → β) (a b : List α) : eqF (fun x y => decide (f x = f y)) a b = decide (a.map f = b.map f) := by
  unfold eqF
  induction a generalizing b with
  | nil => cases b <;> simp
  | cons x a ih =>
    cases b with
    | nil => simp
    | cons y b =>
      have := ih b
      simp only [List.zip_cons_cons, List.any_cons, List.length_cons, List.map_cons, Nat.add_right_cancel_iff, List.cons.injEq, Bool.not_or, Bool.not_not] at this ⊢
      by_cases h : f x = f y
      · simp only [h, decide_true, true_and, Bool.true_and]; exact this
      · simp [h]
theorem zip_at {α : Type} {a b : List α} {k : Nat} {x y : α} (hx : a[k]? = some x) (hy : b[k]? = some y) : (a.zip b)[k]? = some (x, y) := by
  rw [List.getElem?_zip_eq_some]; exact ⟨hx, hy⟩
end Go.Proofs.Ytfdjaggdcknpmab
/- Contracts of model.sameVar, sameCon, Same. -/
namespace Go.Proofs.Ytfdjaggdcknpmab
open Go.ChangeShapes Go.WideShapes Go.ChangeAt Go.RowKit Go.Shelf
set_option linter.unusedVariables false
set_option maxRecDepth 100000
set_option linter.unusedSimpArgs false

def sameC (x y : Cm) : Bool := decide (x.kind = y.kind) && (decide (x.op = y.op) && (decide (x.rhs = y.rhs) && (decide (x.b = y.b) && (sameL x.vars.l y.vars.l && (sameL x.coefs.l y.coefs.l && eqF (fun s t : Sn => sameL s.l t.l) x.rows y.rows)))))
theorem sameC_eq (x y : Cm) : sameC x y = decide (x.v = y.v) := by
  unfold sameC
  have e : eqF (fun s t : Sn => sameL s.l t.l) x.rows y.rows = decide (x.rows.map (·.l) = y.rows.map (·.l)) := eqF_map (fun s : Sn => s.l) x.rows y.rows
  rw [e]
  unfold sameL
  simp only [← Bool.decide_and]
  congr 1
  unfold Cm.v
  simp only [ConV.mk.injEq]
  apply propext
  constructor
  · rintro ⟨h1, h2, h3, h4, h5, h6, h7⟩; exact ⟨h1, h5, h6, h2, h3, h7, h4⟩
  · rintro ⟨h1, h5, h6, h2, h3, h7, h4⟩; exact ⟨h1, h2, h3, h4, h5, h6, h7⟩
end Go.Proofs.Ytfdjaggdcknpmab
/- Contract of model.Same. -/
namespace Go.Proofs.Ytfdjaggdcknpmab
open Go.ChangeShapes Go.WideShapes Go.ChangeAt Go.RowKit Go.Shelf
set_option linter.unusedVariables false
set_option maxRecDepth 100000
set_option linter.unusedSimpArgs false

def sameM (x y : Mm) : Bool := eqF (fun s t : Vm => decide (s.v = t.v)) x.vs y.vs && (eqF (fun s t : Cm => decide (s.v = t.v)) x.cs y.cs && (decide (x.g.kind = y.g.kind) && (sameL x.g.vars.l y.g.vars.l && sameL x.g.coefs.l y.g.coefs.l)))
theorem sameM_eq (x y : Mm) : sameM x y = decide (x.v = y.v) := by
  unfold sameM
  rw [eqF_map (fun s : Vm => s.v), eqF_map (fun s : Cm => s.v)]
  unfold sameL
  simp only [← Bool.decide_and]
  congr 1
  unfold Mm.v Gm.v
  simp only [ModV.mk.injEq, GoalV.mk.injEq]
end Go.Proofs.Ytfdjaggdcknpmab
