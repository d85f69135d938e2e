/-
  No cell of these rows narrows 'for every input' (looked for: loops, veiled, ifaces, maps, wideKeys, modest, calm, conditions, laid).
  DERIVED. THE GIVEN ROWS OF THIS SEAT. 6 by the template 'for every input the law returns true; each argument reads behind the call as it read before'; 0 by the template 'total and deterministic' (their statements: YtfdjaggdcknpmabTotals.lean).
  GIVEN WITH THE SEED: the statements are not yours to turn. If you find one false, say at which input.
  Laid BY PROGRAM, IN A SANDBOX (cutbox-rows.mjs): the forced cells as the released guide's own fill.sh prints them over the translation 5195078d76fed75e… (all of the seat's roots in one cut). By AI agents, Wed Nov 11 2026. No macro, syntax, notation, axiom, sorry.
-/
import Derived.Test.YtfdjaggdcknpmabChecked
import GoSem.Claim
import GoSem.ClaimJoined
import GoSem.ClaimMapViews
import Derived.JoinedTies
import Derived.KernelRfl
namespace Go.Proofs.Ytfdjaggdcknpmab
/- THE CELL 'sum', in the pinned program and in every row, IS THE sha256 OF THE DUMP (.gsa) THAT YtfdjaggdcknpmabProg.lean LOADS. Nothing in Lean hashes anything: it is a label: what it is worth is what the hold of that sum in a sandbox is worth. -/
noncomputable def Try.pinned : Pinned := { name := "ytfdjaggdcknpmab", sum := "5195078d76fed75e0b6e7d6e60202c78ae133567657382dfc8f5baf87c7f60ae", checked := Try.checked }
namespace Rows
def none {H : Type} : Left H := { results := [], args := [] }

/-- 'secateurlaw09.TablePrunes': WHATEVER THE INPUT: true; the input reads as it did. -/
def tablePrunesSpec : ChangeSpec := { name := "tablePrunes", fn := fun _ => fun
  | [d] => { results := [.lit (.bool true)], args := [d] }
  | _ => none }
def tablePrunesRow : OpenClaim := { program := "ytfdjaggdcknpmab", sum := "5195078d76fed75e0b6e7d6e60202c78ae133567657382dfc8f5baf87c7f60ae", func := "secateur/secateurlaw09.TablePrunes", spec := "tablePrunes", unfollowed := true, recurses := true, apart := false }
def TablePrunesSaid : Prop := tablePrunesRow.holds Try.pinned (OpenSpec.ofChange tablePrunesSpec)

/-- ITS FALSE NEIGHBOUR: 'it returns false'. Refute it at one input. -/
def tablePrunesWrong : ChangeSpec := { name := "tablePrunes", fn := fun _ => fun
  | [d] => { results := [.lit (.bool false)], args := [d] }
  | _ => none }
def TablePrunesWrongFalsely : Prop := tablePrunesRow.holds Try.pinned (OpenSpec.ofChange tablePrunesWrong)

/-- 'secateurlaw10.ElementPrunes': WHATEVER THE INPUT: true; the input reads as it did. -/
def elementPrunesSpec : ChangeSpec := { name := "elementPrunes", fn := fun _ => fun
  | [d] => { results := [.lit (.bool true)], args := [d] }
  | _ => none }
def elementPrunesRow : OpenClaim := { program := "ytfdjaggdcknpmab", sum := "5195078d76fed75e0b6e7d6e60202c78ae133567657382dfc8f5baf87c7f60ae", func := "secateur/secateurlaw10.ElementPrunes", spec := "elementPrunes", unfollowed := true, recurses := true, apart := false }
def ElementPrunesSaid : Prop := elementPrunesRow.holds Try.pinned (OpenSpec.ofChange elementPrunesSpec)

/-- ITS FALSE NEIGHBOUR: 'it returns false'. Refute it at one input. -/
def elementPrunesWrong : ChangeSpec := { name := "elementPrunes", fn := fun _ => fun
  | [d] => { results := [.lit (.bool false)], args := [d] }
  | _ => none }
def ElementPrunesWrongFalsely : Prop := elementPrunesRow.holds Try.pinned (OpenSpec.ofChange elementPrunesWrong)

/-- 'secateurlaw10.ElementPlaces': WHATEVER THE INPUT: true; the input reads as it did. -/
def elementPlacesSpec : ChangeSpec := { name := "elementPlaces", fn := fun _ => fun
  | [d] => { results := [.lit (.bool true)], args := [d] }
  | _ => none }
def elementPlacesRow : OpenClaim := { program := "ytfdjaggdcknpmab", sum := "5195078d76fed75e0b6e7d6e60202c78ae133567657382dfc8f5baf87c7f60ae", func := "secateur/secateurlaw10.ElementPlaces", spec := "elementPlaces", unfollowed := true, recurses := true, apart := false }
def ElementPlacesSaid : Prop := elementPlacesRow.holds Try.pinned (OpenSpec.ofChange elementPlacesSpec)

/-- ITS FALSE NEIGHBOUR: 'it returns false'. Refute it at one input. -/
def elementPlacesWrong : ChangeSpec := { name := "elementPlaces", fn := fun _ => fun
  | [d] => { results := [.lit (.bool false)], args := [d] }
  | _ => none }
def ElementPlacesWrongFalsely : Prop := elementPlacesRow.holds Try.pinned (OpenSpec.ofChange elementPlacesWrong)

/-- 'secateurlaw10.ElementKnown': WHATEVER THE INPUT: true; the input reads as it did. -/
def elementKnownSpec : ChangeSpec := { name := "elementKnown", fn := fun _ => fun
  | [d1, d2] => { results := [.lit (.bool true)], args := [d1, d2] }
  | _ => none }
def elementKnownRow : OpenClaim := { program := "ytfdjaggdcknpmab", sum := "5195078d76fed75e0b6e7d6e60202c78ae133567657382dfc8f5baf87c7f60ae", func := "secateur/secateurlaw10.ElementKnown", spec := "elementKnown", unfollowed := true, recurses := true, apart := false }
def ElementKnownSaid : Prop := elementKnownRow.holds Try.pinned (OpenSpec.ofChange elementKnownSpec)

/-- ITS FALSE NEIGHBOUR: 'it returns false'. Refute it at one input. -/
def elementKnownWrong : ChangeSpec := { name := "elementKnown", fn := fun _ => fun
  | [d1, d2] => { results := [.lit (.bool false)], args := [d1, d2] }
  | _ => none }
def ElementKnownWrongFalsely : Prop := elementKnownRow.holds Try.pinned (OpenSpec.ofChange elementKnownWrong)

/-- 'secateurlaw10.ElementDecides': WHATEVER THE INPUT: true; the input reads as it did. -/
def elementDecidesSpec : ChangeSpec := { name := "elementDecides", fn := fun _ => fun
  | [d] => { results := [.lit (.bool true)], args := [d] }
  | _ => none }
def elementDecidesRow : OpenClaim := { program := "ytfdjaggdcknpmab", sum := "5195078d76fed75e0b6e7d6e60202c78ae133567657382dfc8f5baf87c7f60ae", func := "secateur/secateurlaw10.ElementDecides", spec := "elementDecides", unfollowed := true, recurses := true, apart := false }
def ElementDecidesSaid : Prop := elementDecidesRow.holds Try.pinned (OpenSpec.ofChange elementDecidesSpec)

/-- ITS FALSE NEIGHBOUR: 'it returns false'. Refute it at one input. -/
def elementDecidesWrong : ChangeSpec := { name := "elementDecides", fn := fun _ => fun
  | [d] => { results := [.lit (.bool false)], args := [d] }
  | _ => none }
def ElementDecidesWrongFalsely : Prop := elementDecidesRow.holds Try.pinned (OpenSpec.ofChange elementDecidesWrong)

/-- 'secateurlaw10.ElementFar': WHATEVER THE INPUT: true; the input reads as it did. -/
def elementFarSpec : ChangeSpec := { name := "elementFar", fn := fun _ => fun
  | [d] => { results := [.lit (.bool true)], args := [d] }
  | _ => none }
def elementFarRow : OpenClaim := { program := "ytfdjaggdcknpmab", sum := "5195078d76fed75e0b6e7d6e60202c78ae133567657382dfc8f5baf87c7f60ae", func := "secateur/secateurlaw10.ElementFar", spec := "elementFar", unfollowed := true, recurses := true, apart := false }
def ElementFarSaid : Prop := elementFarRow.holds Try.pinned (OpenSpec.ofChange elementFarSpec)

/-- ITS FALSE NEIGHBOUR: 'it returns false'. Refute it at one input. -/
def elementFarWrong : ChangeSpec := { name := "elementFar", fn := fun _ => fun
  | [d] => { results := [.lit (.bool false)], args := [d] }
  | _ => none }
def ElementFarWrongFalsely : Prop := elementFarRow.holds Try.pinned (OpenSpec.ofChange elementFarWrong)

/- THE SECOND FORM. 'bulk': how many values and letters a reading holds, each counted each time it is reached (what is shared counts as often as it is met; a slice's spare places count too). A statement '..UptoSaid' is the law's where the arguments, and the package variables that the reading takes, are together of bulk at most 1048576: NARROWER than '..Said'. Prove '..Said' where nothing that the law and all that it calls make is longer than what came in: it says more and counts as full. Else prove '..UptoSaid'. A law counts once. -/
mutual
def uptoBulk {H : Type} : DataW H → Nat
  | .lit (.string bytes) => bytes.length + 1
  | .lit _ => 1
  | .nil => 1
  | .ptr d => uptoBulk d + 1
  | .slice elems spare => uptoBulkAll elems + uptoBulkAll spare + 1
  | .agg parts => uptoBulkAll parts + 1
  | .iface _ d => uptoBulk d + 1
  | .map entries => uptoBulkEntries entries + 1
  | .held _ => 1
def uptoBulkAll {H : Type} : List (DataW H) → Nat
  | [] => 0
  | d :: r => uptoBulk d + uptoBulkAll r
def uptoBulkEntries {H : Type} : List (Lit × DataW H) → Nat
  | [] => 0
  | x :: r => uptoBulkEntry x + uptoBulkEntries r
def uptoBulkEntry {H : Type} : Lit × DataW H → Nat
  | (.string bytes, d) => bytes.length + uptoBulk d + 1
  | (_, d) => uptoBulk d + 1
 end
def uptoSmall : (H : Type) → List (DataW H) → Bool := fun _ ds => decide (uptoBulkAll ds ≤ 1048576)
def OpenSpec.upto (s : _root_.Go.ChangeSpec) : _root_.Go.OpenSpec := { _root_.Go.OpenSpec.ofChange s with cond := some uptoSmall }

/-- 'secateurlaw09.TablePrunes', WHERE WHAT IT READS IS OF BULK AT MOST 1048576: true; the input reads as it did. -/
def tablePrunesUptoRow : OpenClaim := { program := "ytfdjaggdcknpmab", sum := "5195078d76fed75e0b6e7d6e60202c78ae133567657382dfc8f5baf87c7f60ae", func := "secateur/secateurlaw09.TablePrunes", spec := "tablePrunes", unfollowed := true, recurses := true, apart := false, narrowed := true }
def TablePrunesUptoSaid : Prop := tablePrunesUptoRow.holds Try.pinned (OpenSpec.upto tablePrunesSpec)

/-- 'secateurlaw10.ElementPrunes', WHERE WHAT IT READS IS OF BULK AT MOST 1048576: true; the input reads as it did. -/
def elementPrunesUptoRow : OpenClaim := { program := "ytfdjaggdcknpmab", sum := "5195078d76fed75e0b6e7d6e60202c78ae133567657382dfc8f5baf87c7f60ae", func := "secateur/secateurlaw10.ElementPrunes", spec := "elementPrunes", unfollowed := true, recurses := true, apart := false, narrowed := true }
def ElementPrunesUptoSaid : Prop := elementPrunesUptoRow.holds Try.pinned (OpenSpec.upto elementPrunesSpec)

/-- 'secateurlaw10.ElementPlaces', WHERE WHAT IT READS IS OF BULK AT MOST 1048576: true; the input reads as it did. -/
def elementPlacesUptoRow : OpenClaim := { program := "ytfdjaggdcknpmab", sum := "5195078d76fed75e0b6e7d6e60202c78ae133567657382dfc8f5baf87c7f60ae", func := "secateur/secateurlaw10.ElementPlaces", spec := "elementPlaces", unfollowed := true, recurses := true, apart := false, narrowed := true }
def ElementPlacesUptoSaid : Prop := elementPlacesUptoRow.holds Try.pinned (OpenSpec.upto elementPlacesSpec)

/-- 'secateurlaw10.ElementKnown', WHERE WHAT IT READS IS OF BULK AT MOST 1048576: true; the input reads as it did. -/
def elementKnownUptoRow : OpenClaim := { program := "ytfdjaggdcknpmab", sum := "5195078d76fed75e0b6e7d6e60202c78ae133567657382dfc8f5baf87c7f60ae", func := "secateur/secateurlaw10.ElementKnown", spec := "elementKnown", unfollowed := true, recurses := true, apart := false, narrowed := true }
def ElementKnownUptoSaid : Prop := elementKnownUptoRow.holds Try.pinned (OpenSpec.upto elementKnownSpec)

/-- 'secateurlaw10.ElementDecides', WHERE WHAT IT READS IS OF BULK AT MOST 1048576: true; the input reads as it did. -/
def elementDecidesUptoRow : OpenClaim := { program := "ytfdjaggdcknpmab", sum := "5195078d76fed75e0b6e7d6e60202c78ae133567657382dfc8f5baf87c7f60ae", func := "secateur/secateurlaw10.ElementDecides", spec := "elementDecides", unfollowed := true, recurses := true, apart := false, narrowed := true }
def ElementDecidesUptoSaid : Prop := elementDecidesUptoRow.holds Try.pinned (OpenSpec.upto elementDecidesSpec)

/-- 'secateurlaw10.ElementFar', WHERE WHAT IT READS IS OF BULK AT MOST 1048576: true; the input reads as it did. -/
def elementFarUptoRow : OpenClaim := { program := "ytfdjaggdcknpmab", sum := "5195078d76fed75e0b6e7d6e60202c78ae133567657382dfc8f5baf87c7f60ae", func := "secateur/secateurlaw10.ElementFar", spec := "elementFar", unfollowed := true, recurses := true, apart := false, narrowed := true }
def ElementFarUptoSaid : Prop := elementFarUptoRow.holds Try.pinned (OpenSpec.upto elementFarSpec)

end Rows
end Go.Proofs.Ytfdjaggdcknpmab
