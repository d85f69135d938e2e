
/- Models in memory: variables, constraints, rows of numbers, what is read of them. -/
import Derived.Test.YtfdjaggdcknpmabZA
import Derived.Test.YtfdjaggdcknpmabZB
import Derived.Laws.EntriesVeiled
namespace Go.Proofs.Ytfdjaggdcknpmab
open Go.ChangeShapes Go.WideShapes Go.ChangeAt Go.RowKit
set_option linter.unusedVariables false
set_option maxRecDepth 100000

/-! ### Rows of elements of any size -/
theorem flat_at {α : Type} {cells : α → List Value} {sz : Nat} (hcl : ∀ a, (cells a).length = sz) : ∀ (xs : List α) (i : Nat) (x : α), xs[i]? = some x → ∀ j, j < sz → (xs.flatMap cells)[i * sz + j]? = (cells x)[j]? := by
  intro xs
  induction xs with
  | nil => intro i x h; simp at h
  | cons b bs ih =>
    intro i x hi j hj
    show (cells b ++ bs.flatMap cells)[i * sz + j]? = _
    cases i with
    | zero => simp at hi; subst hi; rw [List.getElem?_append_left (by rw [hcl]; omega)]; simp
    | succ i =>
      have e1 : (i + 1) * sz + j = i * sz + j + sz := by rw [Nat.add_mul]; omega
      rw [List.getElem?_append_right (by rw [hcl, e1]; omega), hcl, e1, Nat.add_sub_cancel]
      exact ih i x (by simpa using hi) j hj
theorem flat_len {α : Type} {cells : α → List Value} {sz : Nat} (hcl : ∀ a, (cells a).length = sz) (bs : List α) : (bs.flatMap cells).length = bs.length * sz := by
  induction bs with
  | nil => simp
  | cons b bs ih => show (cells b ++ bs.flatMap cells).length = _; rw [List.length_append, ih, hcl, List.length_cons, Nat.add_mul]; omega
theorem idx_of (t e : TypeId) (sz : Nat) (ht : Try.prog.underlying t = some (.slice (Try.prog.elem t))) (he : Try.prog.elem t = e) (hs : ∀ w, (sizeOf e).run Try.prog w = .ok sz w) (b off len cap k : Nat) (hk : k < len) (w : World) : (Instr.indexAt t (.slice (some ⟨b, off, none⟩) len cap) (.int .i64 (k : Int))).run Try.prog w = .ok (.pointer (some ⟨b, off + k * sz, none⟩)) w := by
  rw [run_indexAt_slice (P := Try.prog) w t ⟨b, off, none⟩ len cap .i64 k ht, if_pos ⟨by omega, by omega⟩]
  rw [he, hs]
  simp [Result.andThen, Addr.add]
theorem Rd.atG {α : Type} {cells : α → List Value} {sz : Nat} (hcl : ∀ a, (cells a).length = sz) (hsz : 0 < sz) (t e : TypeId) (ht : Try.prog.underlying t = some (.slice (Try.prog.elem t))) (he : Try.prog.elem t = e) (hs : ∀ w, (sizeOf e).run Try.prog w = .ok sz w)
    {w : World} {A : Option Addr} {xs : List α} (h : Rd w A (xs.flatMap cells)) {k : Nat} {x : α} (hx : xs[k]? = some x) :
    ∃ b o, b < w.heap.size ∧ (∀ (len cap : Nat) (w' : World), k < len → (Instr.indexAt t (.slice A len cap) (.int .i64 (k : Int))).run Try.prog w' = .ok (.pointer (some ⟨b, o, none⟩)) w') ∧ ∀ j, j < sz → w.cell? ⟨b, o + j, none⟩ = (cells x)[j]? := by
  have hk := (List.getElem?_eq_some_iff.1 hx).1
  rcases h with h | ⟨b, off, rfl, hlt, hc⟩
  · have := congrArg List.length h
    rw [flat_len hcl, List.length_nil] at this
    have := Nat.mul_eq_zero.1 this
    omega
  · refine ⟨b, off + k * sz, hlt, fun len cap w' hl => idx_of t e sz ht he hs b off len cap k hl w', fun j hj => ?_⟩
    have e1 := flat_at hcl xs k x hx j hj
    have hq := List.getElem?_eq_getElem (l := cells x) (i := j) (by rw [hcl]; exact hj)
    rw [hq] at e1 ⊢
    rw [Nat.add_assoc]
    exact hc _ _ e1

/-! ### Slices of numbers -/
/-- a slice of numbers that is read: where, how long, its room -/
structure Sn where
  l : List Int
  A : Option Addr
  c : Nat
def Sn.val (s : Sn) : Value := .slice s.A s.l.length s.c
structure SnOk (N : Nat) (w : World) (s : Sn) : Prop where
  rd : Rd w s.A (cI s.l)
  nc : s.A = none → s.c = 0
  len : s.l.length ≤ N
  cap : s.l.length ≤ s.c
  cm : s.c ≤ 9223372036854775807
theorem SnOk.below {N : Nat} {w w' : World} {s : Sn} (h : SnOk N w s) (hb : Below w.heap.size w w') : SnOk N w' s := ⟨h.rd.below hb, h.nc, h.len, h.cap, h.cm⟩
theorem SnOk.mono {N M : Nat} {w : World} {s : Sn} (h : SnOk N w s) (hm : s.l.length ≤ M) : SnOk M w s := ⟨h.rd, h.nc, hm, h.cap, h.cm⟩
def cN (ss : List Sn) : List Value := ss.flatMap fun s => [s.val]
theorem cN_len (ss : List Sn) : (cN ss).length = ss.length := by rw [cN, flat_len (sz := 1) (fun _ => rfl)]; omega

/-! ### Variables -/
structure Vm where
  v : VarV
  A : Option Addr
  c : Nat
def Vm.cells (m : Vm) : List Value := [.string m.v.name, .slice m.A m.v.d.length m.c]
structure VmOk (N : Nat) (w : World) (m : Vm) : Prop where
  rd : Rd w m.A (cR m.v.d)
  nc : m.A = none → m.c = 0
  len : m.v.d.length ≤ N
  cap : m.v.d.length ≤ m.c
  cm : m.c ≤ 9223372036854775807
theorem VmOk.below {N : Nat} {w w' : World} {s : Vm} (h : VmOk N w s) (hb : Below w.heap.size w w') : VmOk N w' s := ⟨h.rd.below hb, h.nc, h.len, h.cap, h.cm⟩
def cV (ms : List Vm) : List Value := ms.flatMap Vm.cells
theorem cV_len (ms : List Vm) : (cV ms).length = ms.length * 2 := flat_len (cells := Vm.cells) (sz := 2) (fun _ => rfl) ms

/-! ### Constraints -/
structure Cm where
  kind : Int
  vars : Sn
  coefs : Sn
  op : Int
  rhs : Int
  rows : List Sn
  Ar : Option Addr
  cr : Nat
  b : Int
def Cm.v (m : Cm) : ConV := ⟨m.kind, m.vars.l, m.coefs.l, m.op, m.rhs, m.rows.map (·.l), m.b⟩
def Cm.cells (m : Cm) : List Value := [.int .i64 m.kind, m.vars.val, m.coefs.val, .int .i64 m.op, .int .i64 m.rhs, .slice m.Ar m.rows.length m.cr, .int .i64 m.b]
def Cm.val (m : Cm) : Value := .agg #[.int .i64 m.kind, m.vars.val, m.coefs.val, .int .i64 m.op, .int .i64 m.rhs, .slice m.Ar m.rows.length m.cr, .int .i64 m.b]
structure CmOk (N : Nat) (w : World) (m : Cm) : Prop where
  vars : SnOk N w m.vars
  coefs : SnOk N w m.coefs
  rd : Rd w m.Ar (cN m.rows)
  rows : ∀ s ∈ m.rows, SnOk N w s
  len : m.rows.length ≤ N
  cap : m.rows.length ≤ m.cr
  nc : m.Ar = none → m.cr = 0
  cm : m.cr ≤ 9223372036854775807
  rhs : -9223372036854775808 ≤ m.rhs ∧ m.rhs ≤ 9223372036854775807
theorem CmOk.below {N : Nat} {w w' : World} {s : Cm} (h : CmOk N w s) (hb : Below w.heap.size w w') : CmOk N w' s := ⟨h.vars.below hb, h.coefs.below hb, h.rd.below hb, fun s hs => (h.rows s hs).below hb, h.len, h.cap, h.nc, h.cm, h.rhs⟩
def cC (ms : List Cm) : List Value := ms.flatMap Cm.cells
theorem cC_len (ms : List Cm) : (cC ms).length = ms.length * 7 := flat_len (cells := Cm.cells) (sz := 7) (fun _ => rfl) ms

/-! ### Models -/
structure Gm where
  kind : Int
  vars : Sn
  coefs : Sn
def Gm.v (g : Gm) : GoalV := ⟨g.kind, g.vars.l, g.coefs.l⟩
def Gm.val (g : Gm) : Value := .agg #[.int .i64 g.kind, g.vars.val, g.coefs.val]
structure GmOk (N : Nat) (w : World) (g : Gm) : Prop where
  vars : SnOk N w g.vars
  coefs : SnOk N w g.coefs
theorem GmOk.below {N : Nat} {w w' : World} {s : Gm} (h : GmOk N w s) (hb : Below w.heap.size w w') : GmOk N w' s := ⟨h.vars.below hb, h.coefs.below hb⟩
structure Mm where
  vs : List Vm
  Av : Option Addr
  cv : Nat
  cs : List Cm
  Ac : Option Addr
  cc : Nat
  g : Gm
def Mm.v (m : Mm) : ModV := ⟨m.vs.map (·.v), m.cs.map Cm.v, m.g.v⟩
def Mm.val (m : Mm) : Value := .agg #[.slice m.Av m.vs.length m.cv, .slice m.Ac m.cs.length m.cc, m.g.val]
structure MmOk (N : Nat) (w : World) (m : Mm) : Prop where
  rv : Rd w m.Av (cV m.vs)
  vs : ∀ v ∈ m.vs, VmOk N w v
  lv : m.vs.length ≤ N
  kv : m.vs.length ≤ m.cv
  nv : m.Av = none → m.cv = 0
  rc : Rd w m.Ac (cC m.cs)
  cs : ∀ c ∈ m.cs, CmOk N w c
  lc : m.cs.length ≤ N
  kc : m.cs.length ≤ m.cc
  nc : m.Ac = none → m.cc = 0
  g : GmOk N w m.g
theorem MmOk.below {N : Nat} {w w' : World} {m : Mm} (h : MmOk N w m) (hb : Below w.heap.size w w') : MmOk N w' m :=
  ⟨h.rv.below hb, fun v hv => (h.vs v hv).below hb, h.lv, h.kv, h.nv, h.rc.below hb, fun c hc => (h.cs c hc).below hb, h.lc, h.kc, h.nc, h.g.below hb⟩
/-! ### Lists of domains -/
/-- a list of slices of ranges -/
structure Sr where
  d : List (Int × Int)
  A : Option Addr
  c : Nat
def Sr.val (s : Sr) : Value := .slice s.A s.d.length s.c
structure SrOk (N : Nat) (w : World) (s : Sr) : Prop where
  rd : Rd w s.A (cR s.d)
  nc : s.A = none → s.c = 0
  len : s.d.length ≤ N
  cap : s.d.length ≤ s.c
theorem SrOk.below {N : Nat} {w w' : World} {s : Sr} (h : SrOk N w s) (hb : Below w.heap.size w w') : SrOk N w' s := ⟨h.rd.below hb, h.nc, h.len, h.cap⟩
def cS (ss : List Sr) : List Value := ss.flatMap fun s => [s.val]
theorem cS_len (ss : List Sr) : (cS ss).length = ss.length := by rw [cS, flat_len (sz := 1) (fun _ => rfl)]; omega
/-! ### Loads of whole elements -/
theorem ldC {w : World} {b o : Nat} {x0 x1 x2 x3 x4 x5 x6 : Value} (h0 : w.cell? ⟨b, o, none⟩ = some x0) (h1 : w.cell? ⟨b, o + 1, none⟩ = some x1) (h2 : w.cell? ⟨b, o + 2, none⟩ = some x2) (h3 : w.cell? ⟨b, o + 3, none⟩ = some x3) (h4 : w.cell? ⟨b, o + 4, none⟩ = some x4) (h5 : w.cell? ⟨b, o + 5, none⟩ = some x5) (h6 : w.cell? ⟨b, o + 6, none⟩ = some x6) :
    (Instr.loadAt 25 (.pointer (some ⟨b, o, none⟩))).run Try.prog w = .ok (.agg #[x0, x1, x2, x3, x4, x5, x6]) w := by simp [go_sem, h0, h1, h2, h3, h4, h5, h6]
end Go.Proofs.Ytfdjaggdcknpmab
