
/- Contract of model.Copy. -/
import Derived.Test.YtfdjaggdcknpmabZD
import Derived.Deep.RegionHeld3
import Derived.Deep.RegionLaw
namespace Go.Proofs.Ytfdjaggdcknpmab
open Go.ChangeShapes Go.WideShapes Go.ChangeAt Go.RowKit Go.Shelf
set_option linter.unusedVariables false
set_option maxRecDepth 100000
set_option linter.unusedSimpArgs false

theorem Ow.setLow {w : World} {B e sz n c : Nat} {A : Option Addr} {xs : List Value} (h : Ow w B e sz A n c xs) {b : Nat} (hb : b < B) {j : Nat} (u : Value) : Ow (w.setCell ⟨b, j, none⟩ u) B e sz A n c xs := ownsRow_setCell_below h (a := ⟨b, j, none⟩) hb u
def RetV (x : Vm) (B : Nat) (w : World) (e : Ending) (w' : World) : Prop := ∃ y : Vm, e = .returned (.agg #[.string y.v.name, .slice y.A y.v.d.length y.c]) ∧ (y.v = x.v ∧ OR w' B y.A y.c y.v.d) ∧ Below w.heap.size w w'
/-! ### copyCon -/
structure OwnC (w : World) (B : Nat) (y : Cm) : Prop where
  vars : OI w B y.vars.A y.vars.c y.vars.l
  coefs : OI w B y.coefs.A y.coefs.c y.coefs.l
  row : Ow w B 23 1 y.Ar y.rows.length y.cr (cN y.rows)
  rows : ∀ s ∈ y.rows, OI w B s.A s.c s.l
theorem OwnC.tk {w w' : World} {B : Nat} {y : Cm} {e : TypeId} (h : OwnC w B y) (hk : TK e w w') (h1 : 3 ≠ e) (h2 : 23 ≠ e) : OwnC w' B y :=
  ⟨h.vars.tk hk h1, h.coefs.tk hk h1, h.row.tk hk h2, fun s hs => (h.rows s hs).tk hk h1⟩
theorem OwnC.below {w w' : World} {B : Nat} {y : Cm} (h : OwnC w B y) (hb : Below w.heap.size w w') : OwnC w' B y :=
  ⟨h.vars.below hb, h.coefs.below hb, h.row.below hb, fun s hs => (h.rows s hs).below hb⟩
theorem OwnC.setLow {w : World} {B : Nat} {y : Cm} (h : OwnC w B y) {b : Nat} (hb : b < B) {j : Nat} (u : Value) : OwnC (w.setCell ⟨b, j, none⟩ u) B y :=
  ⟨h.vars.setLow hb u, h.coefs.setLow hb u, h.row.setLow hb u, fun s hs => (h.rows s hs).setLow hb u⟩
theorem OwnC.base {w : World} {B B' : Nat} {y : Cm} (h : OwnC w B y) (hb : B' ≤ B) : OwnC w B' y := ⟨h.vars.base hb, h.coefs.base hb, h.row.base hb, fun s hs => (h.rows s hs).base hb⟩
def RetC (x : Cm) (B : Nat) (w : World) (e : Ending) (w' : World) : Prop := ∃ y : Cm, e = .returned (.agg #[.int .i64 y.kind, .slice y.vars.A y.vars.l.length y.vars.c, .slice y.coefs.A y.coefs.l.length y.coefs.c, .int .i64 y.op, .int .i64 y.rhs, .slice y.Ar y.rows.length y.cr, .int .i64 y.b]) ∧ (y.v = x.v ∧ OwnC w' B y) ∧ Below w.heap.size w w'
end Go.Proofs.Ytfdjaggdcknpmab
