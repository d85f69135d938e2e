/-
  No cell of these rows narrows 'for every input' (looked for: loops, veiled, ifaces, maps, wideKeys, modest, calm, conditions, laid).
  DERIVED. THE GIVEN ROWS OF THIS SEAT. 6 by the template 'for every input the law returns true; each argument reads behind the call as it read before'; 0 by the template 'total and deterministic' (their statements: YtjhompopmnihgaaGreatTotals.lean).
  GIVEN WITH THE SEED: the statements are not yours to turn. If you find one false, say at which input.
  Laid BY PROGRAM, IN A SANDBOX (cutbox-rows.mjs): the forced cells as the released guide's own fill.sh prints them over the translation 257db35fac11a9de… (all of the seat's roots in one cut). By AI agents, Wed Nov 11 2026. No macro, syntax, notation, axiom, sorry.
-/
import Derived.Test.YtjhompopmnihgaaGreatChecked
import GoSem.Claim
import GoSem.ClaimJoined
import GoSem.ClaimMapViews
import Derived.JoinedTies
import Derived.KernelRfl
namespace Go.Proofs.YtjhompopmnihgaaGreat
/- THE CELL 'sum', in the pinned program and in every row, IS THE sha256 OF THE DUMP (.gsa) THAT YtjhompopmnihgaaGreatProg.lean LOADS. Nothing in Lean hashes anything: it is a label: what it is worth is what the hold of that sum in a sandbox is worth. -/
noncomputable def Tryz.pinned : Pinned := { name := "ytjhompopmnihgaagreat", sum := "257db35fac11a9de32ab620bd25010fd0e449a991487c24df8eedef4c8ec03da", checked := Tryz.checked }
namespace Rows
def none {H : Type} : Left H := { results := [], args := [] }

/-- 'secateurlaw04.ModelChecks': WHATEVER THE INPUT: true; the input reads as it did. -/
def modelChecksSpec : ChangeSpec := { name := "modelChecks", fn := fun _ => fun
  | [d] => { results := [.lit (.bool true)], args := [d] }
  | _ => none }
def modelChecksRow : OpenClaim := { program := "ytjhompopmnihgaagreat", sum := "257db35fac11a9de32ab620bd25010fd0e449a991487c24df8eedef4c8ec03da", func := "secateur/secateurlaw04.ModelChecks", spec := "modelChecks", unfollowed := true, recurses := true, apart := false }
def ModelChecksSaid : Prop := modelChecksRow.holds Tryz.pinned (OpenSpec.ofChange modelChecksSpec)

/-- ITS FALSE NEIGHBOUR: 'it returns false'. Refute it at one input. -/
def modelChecksWrong : ChangeSpec := { name := "modelChecks", fn := fun _ => fun
  | [d] => { results := [.lit (.bool false)], args := [d] }
  | _ => none }
def ModelChecksWrongFalsely : Prop := modelChecksRow.holds Tryz.pinned (OpenSpec.ofChange modelChecksWrong)

/-- 'secateurlaw04.ModelCons': WHATEVER THE INPUT: true; the input reads as it did. -/
def modelConsSpec : ChangeSpec := { name := "modelCons", fn := fun _ => fun
  | [d1, d2] => { results := [.lit (.bool true)], args := [d1, d2] }
  | _ => none }
def modelConsRow : OpenClaim := { program := "ytjhompopmnihgaagreat", sum := "257db35fac11a9de32ab620bd25010fd0e449a991487c24df8eedef4c8ec03da", func := "secateur/secateurlaw04.ModelCons", spec := "modelCons", unfollowed := true, recurses := true, apart := false }
def ModelConsSaid : Prop := modelConsRow.holds Tryz.pinned (OpenSpec.ofChange modelConsSpec)

/-- ITS FALSE NEIGHBOUR: 'it returns false'. Refute it at one input. -/
def modelConsWrong : ChangeSpec := { name := "modelCons", fn := fun _ => fun
  | [d1, d2] => { results := [.lit (.bool false)], args := [d1, d2] }
  | _ => none }
def ModelConsWrongFalsely : Prop := modelConsRow.holds Tryz.pinned (OpenSpec.ofChange modelConsWrong)

/-- 'secateurlaw04.ModelCopies': WHATEVER THE INPUT: true; the input reads as it did. -/
def modelCopiesSpec : ChangeSpec := { name := "modelCopies", fn := fun _ => fun
  | [d1, d2] => { results := [.lit (.bool true)], args := [d1, d2] }
  | _ => none }
def modelCopiesRow : OpenClaim := { program := "ytjhompopmnihgaagreat", sum := "257db35fac11a9de32ab620bd25010fd0e449a991487c24df8eedef4c8ec03da", func := "secateur/secateurlaw04.ModelCopies", spec := "modelCopies", unfollowed := true, recurses := true, apart := false }
def ModelCopiesSaid : Prop := modelCopiesRow.holds Tryz.pinned (OpenSpec.ofChange modelCopiesSpec)

/-- ITS FALSE NEIGHBOUR: 'it returns false'. Refute it at one input. -/
def modelCopiesWrong : ChangeSpec := { name := "modelCopies", fn := fun _ => fun
  | [d1, d2] => { results := [.lit (.bool false)], args := [d1, d2] }
  | _ => none }
def ModelCopiesWrongFalsely : Prop := modelCopiesRow.holds Tryz.pinned (OpenSpec.ofChange modelCopiesWrong)

/-- 'secateurlaw04.ModelSmaller': WHATEVER THE INPUT: true; the input reads as it did. -/
def modelSmallerSpec : ChangeSpec := { name := "modelSmaller", fn := fun _ => fun
  | [d1, d2, d3] => { results := [.lit (.bool true)], args := [d1, d2, d3] }
  | _ => none }
def modelSmallerRow : OpenClaim := { program := "ytjhompopmnihgaagreat", sum := "257db35fac11a9de32ab620bd25010fd0e449a991487c24df8eedef4c8ec03da", func := "secateur/secateurlaw04.ModelSmaller", spec := "modelSmaller", unfollowed := true, recurses := true, apart := false }
def ModelSmallerSaid : Prop := modelSmallerRow.holds Tryz.pinned (OpenSpec.ofChange modelSmallerSpec)

/-- ITS FALSE NEIGHBOUR: 'it returns false'. Refute it at one input. -/
def modelSmallerWrong : ChangeSpec := { name := "modelSmaller", fn := fun _ => fun
  | [d1, d2, d3] => { results := [.lit (.bool false)], args := [d1, d2, d3] }
  | _ => none }
def ModelSmallerWrongFalsely : Prop := modelSmallerRow.holds Tryz.pinned (OpenSpec.ofChange modelSmallerWrong)

/-- 'secateurlaw04.ModelOrder': WHATEVER THE INPUT: true; the input reads as it did. -/
def modelOrderSpec : ChangeSpec := { name := "modelOrder", fn := fun _ => fun
  | [d] => { results := [.lit (.bool true)], args := [d] }
  | _ => none }
def modelOrderRow : OpenClaim := { program := "ytjhompopmnihgaagreat", sum := "257db35fac11a9de32ab620bd25010fd0e449a991487c24df8eedef4c8ec03da", func := "secateur/secateurlaw04.ModelOrder", spec := "modelOrder", unfollowed := true, recurses := true, apart := false }
def ModelOrderSaid : Prop := modelOrderRow.holds Tryz.pinned (OpenSpec.ofChange modelOrderSpec)

/-- ITS FALSE NEIGHBOUR: 'it returns false'. Refute it at one input. -/
def modelOrderWrong : ChangeSpec := { name := "modelOrder", fn := fun _ => fun
  | [d] => { results := [.lit (.bool false)], args := [d] }
  | _ => none }
def ModelOrderWrongFalsely : Prop := modelOrderRow.holds Tryz.pinned (OpenSpec.ofChange modelOrderWrong)

/-- 'secateurlaw04.ModelUses': WHATEVER THE INPUT: true; the input reads as it did. -/
def modelUsesSpec : ChangeSpec := { name := "modelUses", fn := fun _ => fun
  | [d] => { results := [.lit (.bool true)], args := [d] }
  | _ => none }
def modelUsesRow : OpenClaim := { program := "ytjhompopmnihgaagreat", sum := "257db35fac11a9de32ab620bd25010fd0e449a991487c24df8eedef4c8ec03da", func := "secateur/secateurlaw04.ModelUses", spec := "modelUses", unfollowed := true, recurses := true, apart := false }
def ModelUsesSaid : Prop := modelUsesRow.holds Tryz.pinned (OpenSpec.ofChange modelUsesSpec)

/-- ITS FALSE NEIGHBOUR: 'it returns false'. Refute it at one input. -/
def modelUsesWrong : ChangeSpec := { name := "modelUses", fn := fun _ => fun
  | [d] => { results := [.lit (.bool false)], args := [d] }
  | _ => none }
def ModelUsesWrongFalsely : Prop := modelUsesRow.holds Tryz.pinned (OpenSpec.ofChange modelUsesWrong)

/- THE SECOND FORM. 'bulk': how many values and letters a reading holds, each counted each time it is reached (what is shared counts as often as it is met; a slice's spare places count too). A statement '..UptoSaid' is the law's where the arguments, and the package variables that the reading takes, are together of bulk at most 1048576: NARROWER than '..Said'. Prove '..Said' where nothing that the law and all that it calls make is longer than what came in: it says more and counts as full. Else prove '..UptoSaid'. A law counts once. -/
mutual
def uptoBulk {H : Type} : DataW H → Nat
  | .lit (.string bytes) => bytes.length + 1
  | .lit _ => 1
  | .nil => 1
  | .ptr d => uptoBulk d + 1
  | .slice elems spare => uptoBulkAll elems + uptoBulkAll spare + 1
  | .agg parts => uptoBulkAll parts + 1
  | .iface _ d => uptoBulk d + 1
  | .map entries => uptoBulkEntries entries + 1
  | .held _ => 1
def uptoBulkAll {H : Type} : List (DataW H) → Nat
  | [] => 0
  | d :: r => uptoBulk d + uptoBulkAll r
def uptoBulkEntries {H : Type} : List (Lit × DataW H) → Nat
  | [] => 0
  | x :: r => uptoBulkEntry x + uptoBulkEntries r
def uptoBulkEntry {H : Type} : Lit × DataW H → Nat
  | (.string bytes, d) => bytes.length + uptoBulk d + 1
  | (_, d) => uptoBulk d + 1
 end
def uptoSmall : (H : Type) → List (DataW H) → Bool := fun _ ds => decide (uptoBulkAll ds ≤ 1048576)
def OpenSpec.upto (s : _root_.Go.ChangeSpec) : _root_.Go.OpenSpec := { _root_.Go.OpenSpec.ofChange s with cond := some uptoSmall }

/-- 'secateurlaw04.ModelChecks', WHERE WHAT IT READS IS OF BULK AT MOST 1048576: true; the input reads as it did. -/
def modelChecksUptoRow : OpenClaim := { program := "ytjhompopmnihgaagreat", sum := "257db35fac11a9de32ab620bd25010fd0e449a991487c24df8eedef4c8ec03da", func := "secateur/secateurlaw04.ModelChecks", spec := "modelChecks", unfollowed := true, recurses := true, apart := false, narrowed := true }
def ModelChecksUptoSaid : Prop := modelChecksUptoRow.holds Tryz.pinned (OpenSpec.upto modelChecksSpec)

/-- 'secateurlaw04.ModelCons', WHERE WHAT IT READS IS OF BULK AT MOST 1048576: true; the input reads as it did. -/
def modelConsUptoRow : OpenClaim := { program := "ytjhompopmnihgaagreat", sum := "257db35fac11a9de32ab620bd25010fd0e449a991487c24df8eedef4c8ec03da", func := "secateur/secateurlaw04.ModelCons", spec := "modelCons", unfollowed := true, recurses := true, apart := false, narrowed := true }
def ModelConsUptoSaid : Prop := modelConsUptoRow.holds Tryz.pinned (OpenSpec.upto modelConsSpec)

/-- 'secateurlaw04.ModelCopies', WHERE WHAT IT READS IS OF BULK AT MOST 1048576: true; the input reads as it did. -/
def modelCopiesUptoRow : OpenClaim := { program := "ytjhompopmnihgaagreat", sum := "257db35fac11a9de32ab620bd25010fd0e449a991487c24df8eedef4c8ec03da", func := "secateur/secateurlaw04.ModelCopies", spec := "modelCopies", unfollowed := true, recurses := true, apart := false, narrowed := true }
def ModelCopiesUptoSaid : Prop := modelCopiesUptoRow.holds Tryz.pinned (OpenSpec.upto modelCopiesSpec)

/-- 'secateurlaw04.ModelSmaller', WHERE WHAT IT READS IS OF BULK AT MOST 1048576: true; the input reads as it did. -/
def modelSmallerUptoRow : OpenClaim := { program := "ytjhompopmnihgaagreat", sum := "257db35fac11a9de32ab620bd25010fd0e449a991487c24df8eedef4c8ec03da", func := "secateur/secateurlaw04.ModelSmaller", spec := "modelSmaller", unfollowed := true, recurses := true, apart := false, narrowed := true }
def ModelSmallerUptoSaid : Prop := modelSmallerUptoRow.holds Tryz.pinned (OpenSpec.upto modelSmallerSpec)

/-- 'secateurlaw04.ModelOrder', WHERE WHAT IT READS IS OF BULK AT MOST 1048576: true; the input reads as it did. -/
def modelOrderUptoRow : OpenClaim := { program := "ytjhompopmnihgaagreat", sum := "257db35fac11a9de32ab620bd25010fd0e449a991487c24df8eedef4c8ec03da", func := "secateur/secateurlaw04.ModelOrder", spec := "modelOrder", unfollowed := true, recurses := true, apart := false, narrowed := true }
def ModelOrderUptoSaid : Prop := modelOrderUptoRow.holds Tryz.pinned (OpenSpec.upto modelOrderSpec)

/-- 'secateurlaw04.ModelUses', WHERE WHAT IT READS IS OF BULK AT MOST 1048576: true; the input reads as it did. -/
def modelUsesUptoRow : OpenClaim := { program := "ytjhompopmnihgaagreat", sum := "257db35fac11a9de32ab620bd25010fd0e449a991487c24df8eedef4c8ec03da", func := "secateur/secateurlaw04.ModelUses", spec := "modelUses", unfollowed := true, recurses := true, apart := false, narrowed := true }
def ModelUsesUptoSaid : Prop := modelUsesUptoRow.holds Tryz.pinned (OpenSpec.upto modelUsesSpec)

end Rows
end Go.Proofs.YtjhompopmnihgaaGreat
