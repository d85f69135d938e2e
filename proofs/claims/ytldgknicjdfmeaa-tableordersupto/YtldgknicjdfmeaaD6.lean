
/- Contracts of dom.Meet, dom.Minus, dom.Cut. -/
import Derived.Test.YtldgknicjdfmeaaZC
import Derived.Lib.MinMax
namespace Go.Proofs.Ytldgknicjdfmeaa
open Go.ChangeShapes Go.WideShapes Go.ChangeAt Go.RowKit
set_option linter.unusedVariables false

def MeetRel (a b x y out : List (Int × Int)) : Prop := out ++ meetG (x.length + y.length) x y = meetR a b ∧ out.length + (x.length + y.length) ≤ a.length + b.length
theorem meet_step {r s : Int × Int} {x y : List (Int × Int)} : meetG ((r :: x).length + (s :: y).length) (r :: x) (s :: y) = (if max r.1 s.1 ≤ min r.2 s.2 then [(max r.1 s.1, min r.2 s.2)] else []) ++ (if r.2 < s.2 then meetG (x.length + (s :: y).length) x (s :: y) else meetG ((r :: x).length + y.length) (r :: x) y) := by
  rw [show (r :: x).length + (s :: y).length = x.length + y.length + 1 + 1 from by simp; omega, meetG]
  rw [show x.length + (s :: y).length = x.length + y.length + 1 from by simp; omega, show (r :: x).length + y.length = x.length + y.length + 1 from by simp; omega]
def MeetInv (w : World) (a b : List (Int × Int)) (u0 u1 u5 : Value) (wr : World) : Prop :=
  ∃ (x y out : List (Int × Int)) (A1 A2 Ao : Option Addr) (c1 c2 co : Nat), u0 = .slice A1 x.length c1 ∧ u1 = .slice A2 y.length c2 ∧ u5 = .slice Ao out.length co ∧
    (x.length ≤ c1 ∧ y.length ≤ c2) ∧ Rd w A1 (cR x) ∧ Rd w A2 (cR y) ∧ MeetRel a b x y out ∧ OR wr w.heap.size Ao co out ∧ Below w.heap.size w wr
theorem meetR_len {a b : List (Int × Int)} : (meetR a b).length ≤ a.length + b.length := meetG_len _ _ _
end Go.Proofs.Ytldgknicjdfmeaa
