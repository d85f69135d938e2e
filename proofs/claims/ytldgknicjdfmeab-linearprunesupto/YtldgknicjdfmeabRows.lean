/-
  No cell of these rows narrows 'for every input' (looked for: loops, veiled, ifaces, maps, wideKeys, modest, calm, conditions, laid).
  DERIVED. THE GIVEN ROWS OF THIS SEAT. 3 by the template 'for every input the law returns true; each argument reads behind the call as it read before'; 0 by the template 'total and deterministic' (their statements: YtldgknicjdfmeabTotals.lean).
  GIVEN WITH THE SEED: the statements are not yours to turn. If you find one false, say at which input.
  Laid BY PROGRAM, IN A SANDBOX (cutbox-rows.mjs): the forced cells as the released guide's own fill.sh prints them over the translation 6e43c1ec2b504229… (all of the seat's roots in one cut). By AI agents, Wed Nov 11 2026. No macro, syntax, notation, axiom, sorry.
-/
import Derived.Test.YtldgknicjdfmeabChecked
import GoSem.Claim
import GoSem.ClaimJoined
import GoSem.ClaimMapViews
import Derived.JoinedTies
import Derived.KernelRfl
namespace Go.Proofs.Ytldgknicjdfmeab
/- THE CELL 'sum', in the pinned program and in every row, IS THE sha256 OF THE DUMP (.gsa) THAT YtldgknicjdfmeabProg.lean LOADS. Nothing in Lean hashes anything: it is a label: what it is worth is what the hold of that sum in a sandbox is worth. -/
noncomputable def Try.pinned : Pinned := { name := "ytldgknicjdfmeab", sum := "6e43c1ec2b5042293b02a181c105cfb6f8f5d135deed2e6572cf96af54192e26", checked := Try.checked }
namespace Rows
def none {H : Type} : Left H := { results := [], args := [] }

/-- 'secateurlaw07.LinearPrunes': WHATEVER THE INPUT: true; the input reads as it did. -/
def linearPrunesSpec : ChangeSpec := { name := "linearPrunes", fn := fun _ => fun
  | [d] => { results := [.lit (.bool true)], args := [d] }
  | _ => none }
def linearPrunesRow : OpenClaim := { program := "ytldgknicjdfmeab", sum := "6e43c1ec2b5042293b02a181c105cfb6f8f5d135deed2e6572cf96af54192e26", func := "secateur/secateurlaw07.LinearPrunes", spec := "linearPrunes", unfollowed := true, recurses := true, apart := false }
def LinearPrunesSaid : Prop := linearPrunesRow.holds Try.pinned (OpenSpec.ofChange linearPrunesSpec)

/-- ITS FALSE NEIGHBOUR: 'it returns false'. Refute it at one input. -/
def linearPrunesWrong : ChangeSpec := { name := "linearPrunes", fn := fun _ => fun
  | [d] => { results := [.lit (.bool false)], args := [d] }
  | _ => none }
def LinearPrunesWrongFalsely : Prop := linearPrunesRow.holds Try.pinned (OpenSpec.ofChange linearPrunesWrong)

/-- 'secateurlaw08.UnlikeHalls': WHATEVER THE INPUT: true; the input reads as it did. -/
def unlikeHallsSpec : ChangeSpec := { name := "unlikeHalls", fn := fun _ => fun
  | [d1, d2] => { results := [.lit (.bool true)], args := [d1, d2] }
  | _ => none }
def unlikeHallsRow : OpenClaim := { program := "ytldgknicjdfmeab", sum := "6e43c1ec2b5042293b02a181c105cfb6f8f5d135deed2e6572cf96af54192e26", func := "secateur/secateurlaw08.UnlikeHalls", spec := "unlikeHalls", unfollowed := true, recurses := true, apart := false }
def UnlikeHallsSaid : Prop := unlikeHallsRow.holds Try.pinned (OpenSpec.ofChange unlikeHallsSpec)

/-- ITS FALSE NEIGHBOUR: 'it returns false'. Refute it at one input. -/
def unlikeHallsWrong : ChangeSpec := { name := "unlikeHalls", fn := fun _ => fun
  | [d1, d2] => { results := [.lit (.bool false)], args := [d1, d2] }
  | _ => none }
def UnlikeHallsWrongFalsely : Prop := unlikeHallsRow.holds Try.pinned (OpenSpec.ofChange unlikeHallsWrong)

/-- 'secateurlaw08.UnlikeOne': WHATEVER THE INPUT: true; the input reads as it did. -/
def unlikeOneSpec : ChangeSpec := { name := "unlikeOne", fn := fun _ => fun
  | [d1, d2] => { results := [.lit (.bool true)], args := [d1, d2] }
  | _ => none }
def unlikeOneRow : OpenClaim := { program := "ytldgknicjdfmeab", sum := "6e43c1ec2b5042293b02a181c105cfb6f8f5d135deed2e6572cf96af54192e26", func := "secateur/secateurlaw08.UnlikeOne", spec := "unlikeOne", unfollowed := true, recurses := true, apart := false }
def UnlikeOneSaid : Prop := unlikeOneRow.holds Try.pinned (OpenSpec.ofChange unlikeOneSpec)

/-- ITS FALSE NEIGHBOUR: 'it returns false'. Refute it at one input. -/
def unlikeOneWrong : ChangeSpec := { name := "unlikeOne", fn := fun _ => fun
  | [d1, d2] => { results := [.lit (.bool false)], args := [d1, d2] }
  | _ => none }
def UnlikeOneWrongFalsely : Prop := unlikeOneRow.holds Try.pinned (OpenSpec.ofChange unlikeOneWrong)

/- THE SECOND FORM. 'bulk': how many values and letters a reading holds, each counted each time it is reached (what is shared counts as often as it is met; a slice's spare places count too). A statement '..UptoSaid' is the law's where the arguments, and the package variables that the reading takes, are together of bulk at most 1048576: NARROWER than '..Said'. Prove '..Said' where nothing that the law and all that it calls make is longer than what came in: it says more and counts as full. Else prove '..UptoSaid'. A law counts once. -/
mutual
def uptoBulk {H : Type} : DataW H → Nat
  | .lit (.string bytes) => bytes.length + 1
  | .lit _ => 1
  | .nil => 1
  | .ptr d => uptoBulk d + 1
  | .slice elems spare => uptoBulkAll elems + uptoBulkAll spare + 1
  | .agg parts => uptoBulkAll parts + 1
  | .iface _ d => uptoBulk d + 1
  | .map entries => uptoBulkEntries entries + 1
  | .held _ => 1
def uptoBulkAll {H : Type} : List (DataW H) → Nat
  | [] => 0
  | d :: r => uptoBulk d + uptoBulkAll r
def uptoBulkEntries {H : Type} : List (Lit × DataW H) → Nat
  | [] => 0
  | x :: r => uptoBulkEntry x + uptoBulkEntries r
def uptoBulkEntry {H : Type} : Lit × DataW H → Nat
  | (.string bytes, d) => bytes.length + uptoBulk d + 1
  | (_, d) => uptoBulk d + 1
 end
def uptoSmall : (H : Type) → List (DataW H) → Bool := fun _ ds => decide (uptoBulkAll ds ≤ 1048576)
def OpenSpec.upto (s : _root_.Go.ChangeSpec) : _root_.Go.OpenSpec := { _root_.Go.OpenSpec.ofChange s with cond := some uptoSmall }

/-- 'secateurlaw07.LinearPrunes', WHERE WHAT IT READS IS OF BULK AT MOST 1048576: true; the input reads as it did. -/
def linearPrunesUptoRow : OpenClaim := { program := "ytldgknicjdfmeab", sum := "6e43c1ec2b5042293b02a181c105cfb6f8f5d135deed2e6572cf96af54192e26", func := "secateur/secateurlaw07.LinearPrunes", spec := "linearPrunes", unfollowed := true, recurses := true, apart := false, narrowed := true }
def LinearPrunesUptoSaid : Prop := linearPrunesUptoRow.holds Try.pinned (OpenSpec.upto linearPrunesSpec)

/-- 'secateurlaw08.UnlikeHalls', WHERE WHAT IT READS IS OF BULK AT MOST 1048576: true; the input reads as it did. -/
def unlikeHallsUptoRow : OpenClaim := { program := "ytldgknicjdfmeab", sum := "6e43c1ec2b5042293b02a181c105cfb6f8f5d135deed2e6572cf96af54192e26", func := "secateur/secateurlaw08.UnlikeHalls", spec := "unlikeHalls", unfollowed := true, recurses := true, apart := false, narrowed := true }
def UnlikeHallsUptoSaid : Prop := unlikeHallsUptoRow.holds Try.pinned (OpenSpec.upto unlikeHallsSpec)

/-- 'secateurlaw08.UnlikeOne', WHERE WHAT IT READS IS OF BULK AT MOST 1048576: true; the input reads as it did. -/
def unlikeOneUptoRow : OpenClaim := { program := "ytldgknicjdfmeab", sum := "6e43c1ec2b5042293b02a181c105cfb6f8f5d135deed2e6572cf96af54192e26", func := "secateur/secateurlaw08.UnlikeOne", spec := "unlikeOne", unfollowed := true, recurses := true, apart := false, narrowed := true }
def UnlikeOneUptoSaid : Prop := unlikeOneUptoRow.holds Try.pinned (OpenSpec.upto unlikeOneSpec)

end Rows
end Go.Proofs.Ytldgknicjdfmeab
