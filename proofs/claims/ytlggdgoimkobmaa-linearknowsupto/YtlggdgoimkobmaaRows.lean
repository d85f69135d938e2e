/-
  No cell of these rows narrows 'for every input' (looked for: loops, veiled, ifaces, maps, wideKeys, modest, calm, conditions, laid).
  DERIVED. THE GIVEN ROWS OF THIS SEAT. 6 by the template 'for every input the law returns true; each argument reads behind the call as it read before'; 0 by the template 'total and deterministic' (their statements: YtlggdgoimkobmaaTotals.lean).
  GIVEN WITH THE SEED: the statements are not yours to turn. If you find one false, say at which input.
  Laid BY PROGRAM, IN A SANDBOX (cutbox-rows.mjs): the forced cells as the released guide's own fill.sh prints them over the translation 861588cd6ec43b31… (all of the seat's roots in one cut). By AI agents, Wed Nov 11 2026. No macro, syntax, notation, axiom, sorry.
-/
import Derived.Test.YtlggdgoimkobmaaChecked
import GoSem.Claim
import GoSem.ClaimJoined
import GoSem.ClaimMapViews
import Derived.JoinedTies
import Derived.KernelRfl
namespace Go.Proofs.Ytlggdgoimkobmaa
/- THE CELL 'sum', in the pinned program and in every row, IS THE sha256 OF THE DUMP (.gsa) THAT YtlggdgoimkobmaaProg.lean LOADS. Nothing in Lean hashes anything: it is a label: what it is worth is what the hold of that sum in a sandbox is worth. -/
noncomputable def Try.pinned : Pinned := { name := "ytlggdgoimkobmaa", sum := "861588cd6ec43b31b84ae39c9adb23d188b91c83ec4e5a29378e5bc87df5147c", checked := Try.checked }
namespace Rows
def none {H : Type} : Left H := { results := [], args := [] }

/-- 'secateurlaw07.LinearPrunes': WHATEVER THE INPUT: true; the input reads as it did. -/
def linearPrunesSpec : ChangeSpec := { name := "linearPrunes", fn := fun _ => fun
  | [d] => { results := [.lit (.bool true)], args := [d] }
  | _ => none }
def linearPrunesRow : OpenClaim := { program := "ytlggdgoimkobmaa", sum := "861588cd6ec43b31b84ae39c9adb23d188b91c83ec4e5a29378e5bc87df5147c", func := "secateur/secateurlaw07.LinearPrunes", spec := "linearPrunes", unfollowed := true, recurses := true, apart := false }
def LinearPrunesSaid : Prop := linearPrunesRow.holds Try.pinned (OpenSpec.ofChange linearPrunesSpec)

/-- ITS FALSE NEIGHBOUR: 'it returns false'. Refute it at one input. -/
def linearPrunesWrong : ChangeSpec := { name := "linearPrunes", fn := fun _ => fun
  | [d] => { results := [.lit (.bool false)], args := [d] }
  | _ => none }
def LinearPrunesWrongFalsely : Prop := linearPrunesRow.holds Try.pinned (OpenSpec.ofChange linearPrunesWrong)

/-- 'secateurlaw07.LinearKnows': WHATEVER THE INPUT: true; the input reads as it did. -/
def linearKnowsSpec : ChangeSpec := { name := "linearKnows", fn := fun _ => fun
  | [d] => { results := [.lit (.bool true)], args := [d] }
  | _ => none }
def linearKnowsRow : OpenClaim := { program := "ytlggdgoimkobmaa", sum := "861588cd6ec43b31b84ae39c9adb23d188b91c83ec4e5a29378e5bc87df5147c", func := "secateur/secateurlaw07.LinearKnows", spec := "linearKnows", unfollowed := true, recurses := true, apart := false }
def LinearKnowsSaid : Prop := linearKnowsRow.holds Try.pinned (OpenSpec.ofChange linearKnowsSpec)

/-- ITS FALSE NEIGHBOUR: 'it returns false'. Refute it at one input. -/
def linearKnowsWrong : ChangeSpec := { name := "linearKnows", fn := fun _ => fun
  | [d] => { results := [.lit (.bool false)], args := [d] }
  | _ => none }
def LinearKnowsWrongFalsely : Prop := linearKnowsRow.holds Try.pinned (OpenSpec.ofChange linearKnowsWrong)

/-- 'secateurlaw07.LinearSound': WHATEVER THE INPUT: true; the input reads as it did. -/
def linearSoundSpec : ChangeSpec := { name := "linearSound", fn := fun _ => fun
  | [d] => { results := [.lit (.bool true)], args := [d] }
  | _ => none }
def linearSoundRow : OpenClaim := { program := "ytlggdgoimkobmaa", sum := "861588cd6ec43b31b84ae39c9adb23d188b91c83ec4e5a29378e5bc87df5147c", func := "secateur/secateurlaw07.LinearSound", spec := "linearSound", unfollowed := true, recurses := true, apart := false }
def LinearSoundSaid : Prop := linearSoundRow.holds Try.pinned (OpenSpec.ofChange linearSoundSpec)

/-- ITS FALSE NEIGHBOUR: 'it returns false'. Refute it at one input. -/
def linearSoundWrong : ChangeSpec := { name := "linearSound", fn := fun _ => fun
  | [d] => { results := [.lit (.bool false)], args := [d] }
  | _ => none }
def LinearSoundWrongFalsely : Prop := linearSoundRow.holds Try.pinned (OpenSpec.ofChange linearSoundWrong)

/-- 'secateurlaw07.LinearOnes': WHATEVER THE INPUT: true; the input reads as it did. -/
def linearOnesSpec : ChangeSpec := { name := "linearOnes", fn := fun _ => fun
  | [d1, d2] => { results := [.lit (.bool true)], args := [d1, d2] }
  | _ => none }
def linearOnesRow : OpenClaim := { program := "ytlggdgoimkobmaa", sum := "861588cd6ec43b31b84ae39c9adb23d188b91c83ec4e5a29378e5bc87df5147c", func := "secateur/secateurlaw07.LinearOnes", spec := "linearOnes", unfollowed := true, recurses := true, apart := false }
def LinearOnesSaid : Prop := linearOnesRow.holds Try.pinned (OpenSpec.ofChange linearOnesSpec)

/-- ITS FALSE NEIGHBOUR: 'it returns false'. Refute it at one input. -/
def linearOnesWrong : ChangeSpec := { name := "linearOnes", fn := fun _ => fun
  | [d1, d2] => { results := [.lit (.bool false)], args := [d1, d2] }
  | _ => none }
def LinearOnesWrongFalsely : Prop := linearOnesRow.holds Try.pinned (OpenSpec.ofChange linearOnesWrong)

/-- 'secateurlaw08.UnlikePrunes': WHATEVER THE INPUT: true; the input reads as it did. -/
def unlikePrunesSpec : ChangeSpec := { name := "unlikePrunes", fn := fun _ => fun
  | [d] => { results := [.lit (.bool true)], args := [d] }
  | _ => none }
def unlikePrunesRow : OpenClaim := { program := "ytlggdgoimkobmaa", sum := "861588cd6ec43b31b84ae39c9adb23d188b91c83ec4e5a29378e5bc87df5147c", func := "secateur/secateurlaw08.UnlikePrunes", spec := "unlikePrunes", unfollowed := true, recurses := true, apart := false }
def UnlikePrunesSaid : Prop := unlikePrunesRow.holds Try.pinned (OpenSpec.ofChange unlikePrunesSpec)

/-- ITS FALSE NEIGHBOUR: 'it returns false'. Refute it at one input. -/
def unlikePrunesWrong : ChangeSpec := { name := "unlikePrunes", fn := fun _ => fun
  | [d] => { results := [.lit (.bool false)], args := [d] }
  | _ => none }
def UnlikePrunesWrongFalsely : Prop := unlikePrunesRow.holds Try.pinned (OpenSpec.ofChange unlikePrunesWrong)

/-- 'secateurlaw08.UnlikeMatches': WHATEVER THE INPUT: true; the input reads as it did. -/
def unlikeMatchesSpec : ChangeSpec := { name := "unlikeMatches", fn := fun _ => fun
  | [d] => { results := [.lit (.bool true)], args := [d] }
  | _ => none }
def unlikeMatchesRow : OpenClaim := { program := "ytlggdgoimkobmaa", sum := "861588cd6ec43b31b84ae39c9adb23d188b91c83ec4e5a29378e5bc87df5147c", func := "secateur/secateurlaw08.UnlikeMatches", spec := "unlikeMatches", unfollowed := true, recurses := true, apart := false }
def UnlikeMatchesSaid : Prop := unlikeMatchesRow.holds Try.pinned (OpenSpec.ofChange unlikeMatchesSpec)

/-- ITS FALSE NEIGHBOUR: 'it returns false'. Refute it at one input. -/
def unlikeMatchesWrong : ChangeSpec := { name := "unlikeMatches", fn := fun _ => fun
  | [d] => { results := [.lit (.bool false)], args := [d] }
  | _ => none }
def UnlikeMatchesWrongFalsely : Prop := unlikeMatchesRow.holds Try.pinned (OpenSpec.ofChange unlikeMatchesWrong)

/- THE SECOND FORM. 'bulk': how many values and letters a reading holds, each counted each time it is reached (what is shared counts as often as it is met; a slice's spare places count too). A statement '..UptoSaid' is the law's where the arguments, and the package variables that the reading takes, are together of bulk at most 1048576: NARROWER than '..Said'. Prove '..Said' where nothing that the law and all that it calls make is longer than what came in: it says more and counts as full. Else prove '..UptoSaid'. A law counts once. -/
mutual
def uptoBulk {H : Type} : DataW H → Nat
  | .lit (.string bytes) => bytes.length + 1
  | .lit _ => 1
  | .nil => 1
  | .ptr d => uptoBulk d + 1
  | .slice elems spare => uptoBulkAll elems + uptoBulkAll spare + 1
  | .agg parts => uptoBulkAll parts + 1
  | .iface _ d => uptoBulk d + 1
  | .map entries => uptoBulkEntries entries + 1
  | .held _ => 1
def uptoBulkAll {H : Type} : List (DataW H) → Nat
  | [] => 0
  | d :: r => uptoBulk d + uptoBulkAll r
def uptoBulkEntries {H : Type} : List (Lit × DataW H) → Nat
  | [] => 0
  | x :: r => uptoBulkEntry x + uptoBulkEntries r
def uptoBulkEntry {H : Type} : Lit × DataW H → Nat
  | (.string bytes, d) => bytes.length + uptoBulk d + 1
  | (_, d) => uptoBulk d + 1
 end
def uptoSmall : (H : Type) → List (DataW H) → Bool := fun _ ds => decide (uptoBulkAll ds ≤ 1048576)
def OpenSpec.upto (s : _root_.Go.ChangeSpec) : _root_.Go.OpenSpec := { _root_.Go.OpenSpec.ofChange s with cond := some uptoSmall }

/-- 'secateurlaw07.LinearPrunes', WHERE WHAT IT READS IS OF BULK AT MOST 1048576: true; the input reads as it did. -/
def linearPrunesUptoRow : OpenClaim := { program := "ytlggdgoimkobmaa", sum := "861588cd6ec43b31b84ae39c9adb23d188b91c83ec4e5a29378e5bc87df5147c", func := "secateur/secateurlaw07.LinearPrunes", spec := "linearPrunes", unfollowed := true, recurses := true, apart := false, narrowed := true }
def LinearPrunesUptoSaid : Prop := linearPrunesUptoRow.holds Try.pinned (OpenSpec.upto linearPrunesSpec)

/-- 'secateurlaw07.LinearKnows', WHERE WHAT IT READS IS OF BULK AT MOST 1048576: true; the input reads as it did. -/
def linearKnowsUptoRow : OpenClaim := { program := "ytlggdgoimkobmaa", sum := "861588cd6ec43b31b84ae39c9adb23d188b91c83ec4e5a29378e5bc87df5147c", func := "secateur/secateurlaw07.LinearKnows", spec := "linearKnows", unfollowed := true, recurses := true, apart := false, narrowed := true }
def LinearKnowsUptoSaid : Prop := linearKnowsUptoRow.holds Try.pinned (OpenSpec.upto linearKnowsSpec)

/-- 'secateurlaw07.LinearSound', WHERE WHAT IT READS IS OF BULK AT MOST 1048576: true; the input reads as it did. -/
def linearSoundUptoRow : OpenClaim := { program := "ytlggdgoimkobmaa", sum := "861588cd6ec43b31b84ae39c9adb23d188b91c83ec4e5a29378e5bc87df5147c", func := "secateur/secateurlaw07.LinearSound", spec := "linearSound", unfollowed := true, recurses := true, apart := false, narrowed := true }
def LinearSoundUptoSaid : Prop := linearSoundUptoRow.holds Try.pinned (OpenSpec.upto linearSoundSpec)

/-- 'secateurlaw07.LinearOnes', WHERE WHAT IT READS IS OF BULK AT MOST 1048576: true; the input reads as it did. -/
def linearOnesUptoRow : OpenClaim := { program := "ytlggdgoimkobmaa", sum := "861588cd6ec43b31b84ae39c9adb23d188b91c83ec4e5a29378e5bc87df5147c", func := "secateur/secateurlaw07.LinearOnes", spec := "linearOnes", unfollowed := true, recurses := true, apart := false, narrowed := true }
def LinearOnesUptoSaid : Prop := linearOnesUptoRow.holds Try.pinned (OpenSpec.upto linearOnesSpec)

/-- 'secateurlaw08.UnlikePrunes', WHERE WHAT IT READS IS OF BULK AT MOST 1048576: true; the input reads as it did. -/
def unlikePrunesUptoRow : OpenClaim := { program := "ytlggdgoimkobmaa", sum := "861588cd6ec43b31b84ae39c9adb23d188b91c83ec4e5a29378e5bc87df5147c", func := "secateur/secateurlaw08.UnlikePrunes", spec := "unlikePrunes", unfollowed := true, recurses := true, apart := false, narrowed := true }
def UnlikePrunesUptoSaid : Prop := unlikePrunesUptoRow.holds Try.pinned (OpenSpec.upto unlikePrunesSpec)

/-- 'secateurlaw08.UnlikeMatches', WHERE WHAT IT READS IS OF BULK AT MOST 1048576: true; the input reads as it did. -/
def unlikeMatchesUptoRow : OpenClaim := { program := "ytlggdgoimkobmaa", sum := "861588cd6ec43b31b84ae39c9adb23d188b91c83ec4e5a29378e5bc87df5147c", func := "secateur/secateurlaw08.UnlikeMatches", spec := "unlikeMatches", unfollowed := true, recurses := true, apart := false, narrowed := true }
def UnlikeMatchesUptoSaid : Prop := unlikeMatchesUptoRow.holds Try.pinned (OpenSpec.upto unlikeMatchesSpec)

end Rows
end Go.Proofs.Ytlggdgoimkobmaa
