
/- Walks of model.keepsRow, one a kind. -/
import Derived.Test.YtlggdgoimkobmaaN4
import Derived.Test.YtlggdgoimkobmaaN5
import Derived.Deep.RegionLaw
import Derived.Deep.RegionHeld3
namespace Go.Proofs.Ytlggdgoimkobmaa
open Go.ChangeShapes Go.WideShapes Go.ChangeAt Go.RowKit Go.Shelf
set_option linter.unusedVariables false
set_option maxRecDepth 100000
set_option linter.unusedSimpArgs false

/-- domains in memory, d: their slices -/
structure DsOk (w : World) (A : Option Addr) (n : Nat) (ds : List Sr) : Prop where
  rd : Rd w A (cS ds)
  len : ds.length = n
  max : n ≤ 4294967296
  ok : ∀ s ∈ ds, SrOk 1048576 w s
theorem DsOk.below {w w' : World} {A : Option Addr} {n : Nat} {ds : List Sr} (h : DsOk w A n ds) (hb : Below w.heap.size w w') : DsOk w' A n ds := ⟨h.rd.below hb, h.len, h.max, fun s hs => (h.ok s hs).below hb⟩
def dl (ds : List Sr) : List (List (Int × Int)) := ds.map (·.d)
theorem uses_in {m : Cm} {n : Nat} (h : (usesV m.v).any (outV n) = false) {v : Int} (hv : v ∈ useL m.v) : ∃ k : Nat, v = k ∧ k < n := by
  have h1 : v ∈ usesV m.v := (sortedL_spec _).2 v |>.2 hv
  have h2 := List.any_eq_false.1 h v h1
  unfold outV at h2
  simp at h2
  exact ⟨v.toNat, by omega, by omega⟩
theorem dom_at {w : World} {A : Option Addr} {n : Nat} {ds : List Sr} (h : DsOk w A n ds) {k : Nat} (hk : k < n) : ∃ s, ds[k]? = some s ∧ SrOk 1048576 w s ∧ domAt (dl ds) (k : Int) = s.d := by
  have hk' : k < ds.length := by rw [h.len]; exact hk
  refine ⟨ds[k], List.getElem?_eq_getElem hk', h.ok _ (List.getElem_mem hk'), ?_⟩
  unfold domAt dl
  rw [List.getD_eq_getElem?_getD]
  simp [hk']
def keepsN (kind : Int) (n1 : Nat) (qh q1 q3 qr qt qc qs qa qu : Bool) : Bool :=
  if kind = 0 then qh else if kind = 1 then q1 else if kind = 2 then q1 && qr else if kind = 3 then q3 else if kind = 4 then qh && qt && !qc else if kind = 5 then qs && qa && qu
  else if kind = 6 then decide (2 ≤ n1) && decide (n1 % 2 = 0) else false
section
variable (A : Option Addr) (c n : Nat) (w W : World) (kind : Int) (vA : Option Addr) (n1 vc : Nat) (cA : Option Addr) (n2 cc : Nat) (op rhs : Int) (Ar : Option Addr) (n3 cr : Nat) (b : Int)
/-- the boxes that keepsRow lays -/
def KBox : World := (w.alloc (.cells #[.slice A n c] 28)).alloc (.cells #[.int .i64 kind, .slice vA n1 vc, .slice cA n2 cc, .int .i64 op, .int .i64 rhs, .slice Ar n3 cr, .int .i64 b] 25)
def KCells (w1 : World) : Prop := Below w.heap.size w w1 ∧ w1.cell? ⟨w.heap.size + 1, 1, none⟩ = some (.slice vA n1 vc) ∧ w1.cell? ⟨w.heap.size + 1, 2, none⟩ = some (.slice cA n2 cc) ∧ w1.cell? ⟨w.heap.size + 1, 5, none⟩ = some (.slice Ar n3 cr) ∧ w1.cell? ⟨w.heap.size + 1, 6, none⟩ = some (.int .i64 b)
end
end Go.Proofs.Ytlggdgoimkobmaa
