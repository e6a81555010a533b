/-
  No cell of these rows narrows 'for every input' (looked for: loops, veiled, ifaces, maps, wideKeys, modest, calm, conditions, laid).
  DERIVED. THE GIVEN ROWS OF THIS SEAT. 4 by the template 'for every input the law returns true; each argument reads behind the call as it read before'; 0 by the template 'total and deterministic' (their statements: YtgfidbjhihignaaTotals.lean).
  GIVEN WITH THE SEED: the statements are not yours to turn. If you find one false, say at which input.
  Laid BY PROGRAM, IN A SANDBOX (cutbox-rows.mjs): the forced cells as the released guide's own fill.sh prints them over the translation 5f89f2fca0ada498… (all of the seat's roots in one cut). By AI agents, Wed Nov 11 2026. No macro, syntax, notation, axiom, sorry.
-/
import Derived.Test.YtgfidbjhihignaaChecked
import GoSem.Claim
import GoSem.ClaimJoined
import GoSem.ClaimMapViews
import Derived.JoinedTies
import Derived.KernelRfl
namespace Go.Proofs.Ytgfidbjhihignaa
/- THE CELL 'sum', in the pinned program and in every row, IS THE sha256 OF THE DUMP (.gsa) THAT YtgfidbjhihignaaProg.lean LOADS. Nothing in Lean hashes anything: it is a label: what it is worth is what the hold of that sum in a sandbox is worth. -/
noncomputable def Try.pinned : Pinned := { name := "ytgfidbjhihignaa", sum := "5f89f2fca0ada498dec2ab7c1791ab8fcfd3161667b7d80f6a2d754fb29e9978", checked := Try.checked }
namespace Rows
def none {H : Type} : Left H := { results := [], args := [] }

/-- 'seisinlaw8.AccessScript': WHATEVER THE INPUT: true; the input reads as it did. -/
def accessScriptSpec : ChangeSpec := { name := "accessScript", fn := fun _ => fun
  | [d] => { results := [.lit (.bool true)], args := [d] }
  | _ => none }
def accessScriptRow : OpenClaim := { program := "ytgfidbjhihignaa", sum := "5f89f2fca0ada498dec2ab7c1791ab8fcfd3161667b7d80f6a2d754fb29e9978", func := "seisin/seisinlaw8.AccessScript", spec := "accessScript", unfollowed := true, recurses := true, apart := false }
def AccessScriptSaid : Prop := accessScriptRow.holds Try.pinned (OpenSpec.ofChange accessScriptSpec)

/-- ITS FALSE NEIGHBOUR: 'it returns false'. Refute it at one input. -/
def accessScriptWrong : ChangeSpec := { name := "accessScript", fn := fun _ => fun
  | [d] => { results := [.lit (.bool false)], args := [d] }
  | _ => none }
def AccessScriptWrongFalsely : Prop := accessScriptRow.holds Try.pinned (OpenSpec.ofChange accessScriptWrong)

/-- 'seisinlaw8.AccessFaults': WHATEVER THE INPUT: true; the input reads as it did. -/
def accessFaultsSpec : ChangeSpec := { name := "accessFaults", fn := fun _ => fun
  | [d1, d2, d3, d4] => { results := [.lit (.bool true)], args := [d1, d2, d3, d4] }
  | _ => none }
def accessFaultsRow : OpenClaim := { program := "ytgfidbjhihignaa", sum := "5f89f2fca0ada498dec2ab7c1791ab8fcfd3161667b7d80f6a2d754fb29e9978", func := "seisin/seisinlaw8.AccessFaults", spec := "accessFaults", unfollowed := true, recurses := true, apart := false }
def AccessFaultsSaid : Prop := accessFaultsRow.holds Try.pinned (OpenSpec.ofChange accessFaultsSpec)

/-- ITS FALSE NEIGHBOUR: 'it returns false'. Refute it at one input. -/
def accessFaultsWrong : ChangeSpec := { name := "accessFaults", fn := fun _ => fun
  | [d1, d2, d3, d4] => { results := [.lit (.bool false)], args := [d1, d2, d3, d4] }
  | _ => none }
def AccessFaultsWrongFalsely : Prop := accessFaultsRow.holds Try.pinned (OpenSpec.ofChange accessFaultsWrong)

/-- 'seisinlaw8.AccessBack': WHATEVER THE INPUT: true; the input reads as it did. -/
def accessBackSpec : ChangeSpec := { name := "accessBack", fn := fun _ => fun
  | [d1, d2, d3] => { results := [.lit (.bool true)], args := [d1, d2, d3] }
  | _ => none }
def accessBackRow : OpenClaim := { program := "ytgfidbjhihignaa", sum := "5f89f2fca0ada498dec2ab7c1791ab8fcfd3161667b7d80f6a2d754fb29e9978", func := "seisin/seisinlaw8.AccessBack", spec := "accessBack", unfollowed := true, recurses := true, apart := false }
def AccessBackSaid : Prop := accessBackRow.holds Try.pinned (OpenSpec.ofChange accessBackSpec)

/-- ITS FALSE NEIGHBOUR: 'it returns false'. Refute it at one input. -/
def accessBackWrong : ChangeSpec := { name := "accessBack", fn := fun _ => fun
  | [d1, d2, d3] => { results := [.lit (.bool false)], args := [d1, d2, d3] }
  | _ => none }
def AccessBackWrongFalsely : Prop := accessBackRow.holds Try.pinned (OpenSpec.ofChange accessBackWrong)

/-- 'seisinlaw8.AccessNone': WHATEVER THE INPUT: true; the input reads as it did. -/
def accessNoneSpec : ChangeSpec := { name := "accessNone", fn := fun _ => fun
  | [d1, d2, d3] => { results := [.lit (.bool true)], args := [d1, d2, d3] }
  | _ => none }
def accessNoneRow : OpenClaim := { program := "ytgfidbjhihignaa", sum := "5f89f2fca0ada498dec2ab7c1791ab8fcfd3161667b7d80f6a2d754fb29e9978", func := "seisin/seisinlaw8.AccessNone", spec := "accessNone", unfollowed := true, recurses := true, apart := false }
def AccessNoneSaid : Prop := accessNoneRow.holds Try.pinned (OpenSpec.ofChange accessNoneSpec)

/-- ITS FALSE NEIGHBOUR: 'it returns false'. Refute it at one input. -/
def accessNoneWrong : ChangeSpec := { name := "accessNone", fn := fun _ => fun
  | [d1, d2, d3] => { results := [.lit (.bool false)], args := [d1, d2, d3] }
  | _ => none }
def AccessNoneWrongFalsely : Prop := accessNoneRow.holds Try.pinned (OpenSpec.ofChange accessNoneWrong)

/- THE SECOND FORM. 'bulk': how many values and letters a reading holds, each counted each time it is reached (what is shared counts as often as it is met; a slice's spare places count too). A statement '..UptoSaid' is the law's where the arguments, and the package variables that the reading takes, are together of bulk at most 1048576: NARROWER than '..Said'. Prove '..Said' where nothing that the law and all that it calls make is longer than what came in: it says more and counts as full. Else prove '..UptoSaid'. A law counts once. -/
mutual
def uptoBulk {H : Type} : DataW H → Nat
  | .lit (.string bytes) => bytes.length + 1
  | .lit _ => 1
  | .nil => 1
  | .ptr d => uptoBulk d + 1
  | .slice elems spare => uptoBulkAll elems + uptoBulkAll spare + 1
  | .agg parts => uptoBulkAll parts + 1
  | .iface _ d => uptoBulk d + 1
  | .map entries => uptoBulkEntries entries + 1
  | .held _ => 1
def uptoBulkAll {H : Type} : List (DataW H) → Nat
  | [] => 0
  | d :: r => uptoBulk d + uptoBulkAll r
def uptoBulkEntries {H : Type} : List (Lit × DataW H) → Nat
  | [] => 0
  | x :: r => uptoBulkEntry x + uptoBulkEntries r
def uptoBulkEntry {H : Type} : Lit × DataW H → Nat
  | (.string bytes, d) => bytes.length + uptoBulk d + 1
  | (_, d) => uptoBulk d + 1
 end
def uptoSmall : (H : Type) → List (DataW H) → Bool := fun _ ds => decide (uptoBulkAll ds ≤ 1048576)
def OpenSpec.upto (s : _root_.Go.ChangeSpec) : _root_.Go.OpenSpec := { _root_.Go.OpenSpec.ofChange s with cond := some uptoSmall }

/-- 'seisinlaw8.AccessScript', WHERE WHAT IT READS IS OF BULK AT MOST 1048576: true; the input reads as it did. -/
def accessScriptUptoRow : OpenClaim := { program := "ytgfidbjhihignaa", sum := "5f89f2fca0ada498dec2ab7c1791ab8fcfd3161667b7d80f6a2d754fb29e9978", func := "seisin/seisinlaw8.AccessScript", spec := "accessScript", unfollowed := true, recurses := true, apart := false, narrowed := true }
def AccessScriptUptoSaid : Prop := accessScriptUptoRow.holds Try.pinned (OpenSpec.upto accessScriptSpec)

/-- 'seisinlaw8.AccessFaults', WHERE WHAT IT READS IS OF BULK AT MOST 1048576: true; the input reads as it did. -/
def accessFaultsUptoRow : OpenClaim := { program := "ytgfidbjhihignaa", sum := "5f89f2fca0ada498dec2ab7c1791ab8fcfd3161667b7d80f6a2d754fb29e9978", func := "seisin/seisinlaw8.AccessFaults", spec := "accessFaults", unfollowed := true, recurses := true, apart := false, narrowed := true }
def AccessFaultsUptoSaid : Prop := accessFaultsUptoRow.holds Try.pinned (OpenSpec.upto accessFaultsSpec)

/-- 'seisinlaw8.AccessBack', WHERE WHAT IT READS IS OF BULK AT MOST 1048576: true; the input reads as it did. -/
def accessBackUptoRow : OpenClaim := { program := "ytgfidbjhihignaa", sum := "5f89f2fca0ada498dec2ab7c1791ab8fcfd3161667b7d80f6a2d754fb29e9978", func := "seisin/seisinlaw8.AccessBack", spec := "accessBack", unfollowed := true, recurses := true, apart := false, narrowed := true }
def AccessBackUptoSaid : Prop := accessBackUptoRow.holds Try.pinned (OpenSpec.upto accessBackSpec)

/-- 'seisinlaw8.AccessNone', WHERE WHAT IT READS IS OF BULK AT MOST 1048576: true; the input reads as it did. -/
def accessNoneUptoRow : OpenClaim := { program := "ytgfidbjhihignaa", sum := "5f89f2fca0ada498dec2ab7c1791ab8fcfd3161667b7d80f6a2d754fb29e9978", func := "seisin/seisinlaw8.AccessNone", spec := "accessNone", unfollowed := true, recurses := true, apart := false, narrowed := true }
def AccessNoneUptoSaid : Prop := accessNoneUptoRow.holds Try.pinned (OpenSpec.upto accessNoneSpec)

end Rows
end Go.Proofs.Ytgfidbjhihignaa
