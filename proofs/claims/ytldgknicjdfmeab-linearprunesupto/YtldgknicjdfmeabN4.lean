
/- Contracts of model.isHeldSum, Uses, strays, areRows, isBig and of keepsRow's closures. -/
import Derived.Test.YtldgknicjdfmeabN3
import Derived.Test.YtldgknicjdfmeabCI
import Derived.Test.YtldgknicjdfmeabD6
import Derived.Lib.MinMax
namespace Go.Proofs.Ytldgknicjdfmeab
open Go.ChangeShapes Go.WideShapes Go.ChangeAt Go.RowKit Go.Shelf
set_option linter.unusedVariables false
set_option maxRecDepth 100000
set_option linter.unusedSimpArgs false

/-! ### A constraint in a box -/
/-- a constraint's cells lie in block b -/
def BoxC (w : World) (b : Nat) (m : Cm) : Prop := w.heap[b]? = some (.cells #[.int .i64 m.kind, .slice m.vars.A m.vars.l.length m.vars.c, .slice m.coefs.A m.coefs.l.length m.coefs.c, .int .i64 m.op, .int .i64 m.rhs, .slice m.Ar m.rows.length m.cr, .int .i64 m.b] 25 (0, 0))
theorem BoxC.cells {m : Cm} {w : World} {b : Nat} (h : BoxC w b m) :
    w.cell? ⟨b, 0, none⟩ = some (.int .i64 m.kind) ∧ w.cell? ⟨b, 1, none⟩ = some (.slice m.vars.A m.vars.l.length m.vars.c) ∧ w.cell? ⟨b, 2, none⟩ = some (.slice m.coefs.A m.coefs.l.length m.coefs.c) ∧ w.cell? ⟨b, 3, none⟩ = some (.int .i64 m.op) ∧ w.cell? ⟨b, 4, none⟩ = some (.int .i64 m.rhs) ∧ w.cell? ⟨b, 5, none⟩ = some (.slice m.Ar m.rows.length m.cr) ∧ w.cell? ⟨b, 6, none⟩ = some (.int .i64 m.b) := by
  have h : w.heap[b]? = _ := h
  refine ⟨?_, ?_, ?_, ?_, ?_, ?_, ?_⟩ <;> (simp only [World.cell?]; rw [h]; rfl)
theorem BoxC.lt {m : Cm} {w : World} {b : Nat} (h : BoxC w b m) : b < w.heap.size := (Array.getElem?_eq_some_iff.1 h).1
theorem BoxC.below {m : Cm} {w w' : World} {b : Nat} (h : BoxC w b m) (hb : Below w.heap.size w w') : BoxC w' b m := (hb.block b h.lt).trans h
theorem heap_new (w : World) (o : Obj) : (w.alloc o).heap[w.heap.size]? = some o := by
  show (w.heap.push o)[w.heap.size]? = _
  exact Array.getElem?_push_size
theorem BoxC.new (m : Cm) (w : World) : BoxC (w.alloc (.cells #[.int .i64 m.kind, .slice m.vars.A m.vars.l.length m.vars.c, .slice m.coefs.A m.coefs.l.length m.coefs.c, .int .i64 m.op, .int .i64 m.rhs, .slice m.Ar m.rows.length m.cr, .int .i64 m.b] 25)) w.heap.size m := by
  exact heap_new w _
def straysN (kind : Int) (n2 : Nat) (op rhs : Int) (n3 : Nat) (b : Int) : Bool :=
  if kind = 0 then !(decide (n3 = 0) && b == 0)
  else if kind = 2 then !(op == 0 && rhs == 0 && b == 0 && decide (n2 = 0))
  else if kind = 4 then !decide (n3 = 0)
  else if kind = 5 then !(decide (n3 = 0) && (op == 0 && rhs == 0 && b == 0))
  else !(decide (n3 = 0) && (op == 0 && rhs == 0 && b == 0 && decide (n2 = 0)))
end Go.Proofs.Ytldgknicjdfmeab
