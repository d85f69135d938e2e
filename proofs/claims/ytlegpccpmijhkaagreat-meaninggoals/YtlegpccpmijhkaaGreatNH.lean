
/- Contract of model.Copy. -/
import Derived.Test.YtlegpccpmijhkaaGreatNG
import Derived.Test.YtlegpccpmijhkaaGreatNC
namespace Go.Proofs.YtlegpccpmijhkaaGreat
open Go.ChangeShapes Go.WideShapes Go.ChangeAt Go.RowKit Go.Shelf
set_option linter.unusedVariables false
set_option maxRecDepth 100000
set_option linter.unusedSimpArgs false

structure OwnM (w : World) (B : Nat) (y : Mm) : Prop where
  rv : Ow w B 57 2 y.Av y.vs.length y.cv (cV y.vs)
  vs : ∀ v ∈ y.vs, OR w B v.A v.c v.v.d
  rc : Ow w B 36 7 y.Ac y.cs.length y.cc (cC y.cs)
  cs : ∀ c ∈ y.cs, OwnC w B c
  gv : OI w B y.g.vars.A y.g.vars.c y.g.vars.l
  gc : OI w B y.g.coefs.A y.g.coefs.c y.g.coefs.l
theorem OwnM.below {w w' : World} {B : Nat} {y : Mm} (h : OwnM w B y) (hb : Below w.heap.size w w') : OwnM w' B y :=
  ⟨h.rv.below hb, fun v hv => (h.vs v hv).below hb, h.rc.below hb, fun c hc => (h.cs c hc).below hb, h.gv.below hb, h.gc.below hb⟩
theorem OwnM.base {w : World} {B B' : Nat} {y : Mm} (h : OwnM w B y) (hb : B' ≤ B) : OwnM w B' y :=
  ⟨h.rv.base hb, fun v hv => (h.vs v hv).base hb, h.rc.base hb, fun c hc => (h.cs c hc).base hb, h.gv.base hb, h.gc.base hb⟩
theorem OwnM.setLow {w : World} {B : Nat} {y : Mm} (h : OwnM w B y) {b : Nat} (hb : b < B) {j : Nat} (u : Value) : OwnM (w.setCell ⟨b, j, none⟩ u) B y :=
  ⟨h.rv.setLow hb u, fun v hv => (h.vs v hv).setLow hb u, h.rc.setLow hb u, fun c hc => (h.cs c hc).setLow hb u, h.gv.setLow hb u, h.gc.setLow hb u⟩
theorem OI.ok {w : World} {B N : Nat} {s : Sn} (h : OI w B s.A s.c s.l) (hl : s.l.length ≤ N) : SnOk N w s := ⟨h.rd, h.nc, hl, h.cap, h.cm⟩
theorem OR.ok {w : World} {B N : Nat} {s : Vm} (h : OR w B s.A s.c s.v.d) (hl : s.v.d.length ≤ N) : VmOk N w s := ⟨h.rd, h.nc, hl, h.cap, h.cm⟩
/-- how long what is in a model is -/
structure SzM (N : Nat) (m : ModV) : Prop where
  lv : m.vars.length ≤ N
  vs : ∀ v ∈ m.vars, v.d.length ≤ N
  lc : m.cons.length ≤ N
  cs : ∀ c ∈ m.cons, c.vars.length ≤ N ∧ c.coefs.length ≤ N ∧ c.rows.length ≤ N ∧ (∀ r ∈ c.rows, r.length ≤ N) ∧ (-9223372036854775808 ≤ c.rhs ∧ c.rhs ≤ 9223372036854775807)
  gv : m.goal.vars.length ≤ N
  gc : m.goal.coefs.length ≤ N
theorem OwnC.ok {w : World} {B N : Nat} {y : Cm} (h : OwnC w B y) (hs : y.v.vars.length ≤ N ∧ y.v.coefs.length ≤ N ∧ y.v.rows.length ≤ N ∧ (∀ r ∈ y.v.rows, r.length ≤ N) ∧ (-9223372036854775808 ≤ y.v.rhs ∧ y.v.rhs ≤ 9223372036854775807)) : CmOk N w y :=
  ⟨OI.ok h.vars hs.1, OI.ok h.coefs hs.2.1, h.row.rd, fun s hs' => OI.ok (h.rows s hs') (hs.2.2.2.1 s.l (List.mem_map_of_mem hs')), by have := hs.2.2.1; simpa [Cm.v] using this, h.row.cap, h.row.nc, h.row.cm, hs.2.2.2.2⟩
theorem OwnM.ok {w : World} {B N : Nat} {y : Mm} (h : OwnM w B y) (hs : SzM N y.v) : MmOk N w y :=
  ⟨h.rv.rd, fun v hv => OR.ok (h.vs v hv) (hs.vs v.v (List.mem_map_of_mem hv)), by have := hs.lv; simpa [Mm.v] using this, h.rv.cap, h.rv.nc, h.rc.rd, fun c hc => (h.cs c hc).ok (hs.cs c.v (List.mem_map_of_mem hc)), by have := hs.lc; simpa [Mm.v] using this, h.rc.cap, h.rc.nc, OI.ok h.gv hs.gv, OI.ok h.gc hs.gc⟩
theorem MmOk.sz {w : World} {N : Nat} {y : Mm} (h : MmOk N w y) : SzM N y.v :=
  ⟨by have := h.lv; simpa [Mm.v] using this, fun v hv => by obtain ⟨x, hx, rfl⟩ := List.mem_map.1 hv; exact (h.vs x hx).len, by have := h.lc; simpa [Mm.v] using this,
   fun c hc => by
     obtain ⟨x, hx, rfl⟩ := List.mem_map.1 hc
     have := h.cs x hx
     exact ⟨this.vars.len, this.coefs.len, by have := this.len; simpa [Cm.v] using this, fun r hr => by obtain ⟨s, hs, rfl⟩ := List.mem_map.1 hr; exact (this.rows s hs).len, this.rhs⟩, h.g.vars.len, h.g.coefs.len⟩
def RetM (v : ModV) (w : World) (e : Ending) (w' : World) : Prop := ∃ y : Mm, e = .returned y.arg ∧ y.v = v ∧ OwnM w' w.heap.size y ∧ Below w.heap.size w w'
theorem copyI_at {s : Sn} {w : World} (h : SnOk 4294967296 w s) {W : World} (hbW : Below w.heap.size w W) {w2 : World} (h2 : Below W.heap.size W w2) :
    Calls Tryz.prog 137 #[.slice s.A s.l.length s.c] w2 fun e w' => ∃ A c, e = .returned (.slice A s.l.length c) ∧ OI w' W.heap.size A c s.l ∧ Below w2.heap.size w2 w' := by
  refine (ownI_any s.A s.c s.l.length s.l w2 (h.rd.below (bstep hbW h2)) rfl h.len h.nc).mono ?_
  rintro e w' ⟨A, c, rfl, h1, h3⟩
  exact ⟨A, c, rfl, h1.base h2.size, h3⟩
end Go.Proofs.YtlegpccpmijhkaaGreat
