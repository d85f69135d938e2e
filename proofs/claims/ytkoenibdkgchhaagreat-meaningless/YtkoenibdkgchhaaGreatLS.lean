
/- How a law on models begins: the bounded model lies in the box of the argument. -/
import Derived.Test.YtkoenibdkgchhaaGreatQC
import Derived.Test.YtkoenibdkgchhaaGreatLP
namespace Go.Proofs.YtkoenibdkgchhaaGreat
open Go.ChangeShapes Go.WideShapes Go.ChangeAt Go.RowKit
set_option linter.unusedVariables false
set_option maxRecDepth 100000

/-- block b holds a model -/
structure BD (b : Nat) (wr : World) (y : Mm) : Prop where
  par : wr.heap[b]? = some (.cells (par5 y) 28 (0, 0))
theorem BD.next {b : Nat} {wr w2 : World} {y : Mm} (h : BD b wr y) (hb : Below wr.heap.size wr w2) : BD b w2 y := ⟨(hb.block _ (lt_of_block h.par)).trans h.par⟩
theorem BD.cells {b : Nat} {wr : World} {y : Mm} (h : BD b wr y) : wr.cell? ⟨b, 0, none⟩ = some (.slice y.Av y.vs.length y.cv) ∧ wr.cell? ⟨b, 1, none⟩ = some (.slice y.Ac y.cs.length y.cc) ∧ wr.cell? ⟨b, 2, none⟩ = some (.int .i64 y.g.kind) ∧ wr.cell? ⟨b, 3, none⟩ = some (.slice y.g.vars.A y.g.vars.l.length y.g.vars.c) ∧ wr.cell? ⟨b, 4, none⟩ = some (.slice y.g.coefs.A y.g.coefs.l.length y.g.coefs.c) :=
  ⟨blk_cell h.par 0, blk_cell h.par 1, blk_cell h.par 2, blk_cell h.par 3, blk_cell h.par 4⟩
theorem BD.free {b : Nat} {wr : World} {y : Mm} (h : BD b wr y) : wr.frozen? ⟨b, 0, none⟩ = false ∧ wr.frozen? ⟨b, 1, none⟩ = false ∧ wr.frozen? ⟨b, 2, none⟩ = false ∧ wr.frozen? ⟨b, 3, none⟩ = false ∧ wr.frozen? ⟨b, 4, none⟩ = false :=
  ⟨blk_free h.par 0, blk_free h.par 1, blk_free h.par 2, blk_free h.par 3, blk_free h.par 4⟩
theorem BD.new (w : World) (m : Mm) : BD w.heap.size (w.alloc (.cells #[.slice m.Av m.vs.length m.cv, .slice m.Ac m.cs.length m.cc, .int .i64 m.g.kind, .slice m.g.vars.A m.g.vars.l.length m.g.vars.c, .slice m.g.coefs.A m.g.coefs.l.length m.g.coefs.c] 28)) m := ⟨heap_at w _⟩
/-- the store of a model into a box -/
def put5 (w : World) (b : Nat) (y : Mm) : World := set5 w b (.slice y.Av y.vs.length y.cv) (.slice y.Ac y.cs.length y.cc) (.int .i64 y.g.kind) (.slice y.g.vars.A y.g.vars.l.length y.g.vars.c) (.slice y.g.coefs.A y.g.coefs.l.length y.g.coefs.c)
theorem BD.put {b : Nat} {wr : World} {m y : Mm} (h : BD b wr m) : BD b (put5 wr b y) y := ⟨blk_set (blk_set (blk_set (blk_set (blk_set h.par 0 _) 1 _) 2 _) 3 _) 4 _⟩
theorem put5_size (w : World) (b : Nat) (y : Mm) : (put5 w b y).heap.size = w.heap.size := by simp [put5, set5, World.setCell]
theorem OwnM.put5 {w : World} {B b : Nat} {y z : Mm} (h : OwnM w B y) (hb : b < B) : OwnM (put5 w b z) B y := ((((h.setLow hb _).setLow hb _).setLow hb _).setLow hb _).setLow hb _
theorem below_put5 {w wr : World} {B b : Nat} (h : Below B w wr) (hb : B ≤ b) (y : Mm) : Below B w (put5 wr b y) := ((((h.setCell (by exact hb) _).setCell (by exact hb) _).setCell (by exact hb) _).setCell (by exact hb) _).setCell (by exact hb) _
theorem OwnM.ok1 {w : World} {B N : Nat} {y m : Mm} {w0 : World} (h : OwnM w B y) (hv : y.v = bM m.v) (h0 : MmOk N w0 m) : MmOk 1048576 w y := h.ok (by rw [hv]; exact bM_sz h0)
end Go.Proofs.YtkoenibdkgchhaaGreat
