/-
  No cell of these rows narrows 'for every input' (looked for: loops, veiled, ifaces, maps, wideKeys, modest, calm, conditions, laid).
  DERIVED. THE GIVEN ROWS OF THIS SEAT. 4 by the template 'for every input the law returns true; each argument reads behind the call as it read before'; 0 by the template 'total and deterministic' (their statements: YtnaiepoaikabgaaTotals.lean).
  GIVEN WITH THE SEED: the statements are not yours to turn. If you find one false, say at which input.
  Laid BY PROGRAM, IN A SANDBOX (cutbox-rows.mjs): the forced cells as the released guide's own fill.sh prints them over the translation 4005e3878632af09… (all of the seat's roots in one cut). By AI agents, Wed Nov 11 2026. No macro, syntax, notation, axiom, sorry.
-/
import Derived.Test.YtnaiepoaikabgaaChecked
import GoSem.Claim
import GoSem.ClaimJoined
import GoSem.ClaimMapViews
import Derived.JoinedTies
import Derived.KernelRfl
namespace Go.Proofs.Ytnaiepoaikabgaa
/- THE CELL 'sum', in the pinned program and in every row, IS THE sha256 OF THE DUMP (.gsa) THAT YtnaiepoaikabgaaProg.lean LOADS. Nothing in Lean hashes anything: it is a label: what it is worth is what the hold of that sum in a sandbox is worth. -/
noncomputable def Try.pinned : Pinned := { name := "ytnaiepoaikabgaa", sum := "4005e3878632af0951a0aeb77673c21530312903957774862bf13054abf584a1", checked := Try.checked }
namespace Rows
def none {H : Type} : Left H := { results := [], args := [] }

/-- 'seisinlaw2.PhysScript': WHATEVER THE INPUT: true; the input reads as it did. -/
def physScriptSpec : ChangeSpec := { name := "physScript", fn := fun _ => fun
  | [d1, d2] => { results := [.lit (.bool true)], args := [d1, d2] }
  | _ => none }
def physScriptRow : OpenClaim := { program := "ytnaiepoaikabgaa", sum := "4005e3878632af0951a0aeb77673c21530312903957774862bf13054abf584a1", func := "seisin/seisinlaw2.PhysScript", spec := "physScript", unfollowed := true, recurses := true, apart := false }
def PhysScriptSaid : Prop := physScriptRow.holds Try.pinned (OpenSpec.ofChange physScriptSpec)

/-- ITS FALSE NEIGHBOUR: 'it returns false'. Refute it at one input. -/
def physScriptWrong : ChangeSpec := { name := "physScript", fn := fun _ => fun
  | [d1, d2] => { results := [.lit (.bool false)], args := [d1, d2] }
  | _ => none }
def PhysScriptWrongFalsely : Prop := physScriptRow.holds Try.pinned (OpenSpec.ofChange physScriptWrong)

/-- 'seisinlaw2.PhysKeeps': WHATEVER THE INPUT: true; the input reads as it did. -/
def physKeepsSpec : ChangeSpec := { name := "physKeeps", fn := fun _ => fun
  | [d1, d2, d3, d4, d5] => { results := [.lit (.bool true)], args := [d1, d2, d3, d4, d5] }
  | _ => none }
def physKeepsRow : OpenClaim := { program := "ytnaiepoaikabgaa", sum := "4005e3878632af0951a0aeb77673c21530312903957774862bf13054abf584a1", func := "seisin/seisinlaw2.PhysKeeps", spec := "physKeeps", unfollowed := true, recurses := true, apart := false }
def PhysKeepsSaid : Prop := physKeepsRow.holds Try.pinned (OpenSpec.ofChange physKeepsSpec)

/-- ITS FALSE NEIGHBOUR: 'it returns false'. Refute it at one input. -/
def physKeepsWrong : ChangeSpec := { name := "physKeeps", fn := fun _ => fun
  | [d1, d2, d3, d4, d5] => { results := [.lit (.bool false)], args := [d1, d2, d3, d4, d5] }
  | _ => none }
def PhysKeepsWrongFalsely : Prop := physKeepsRow.holds Try.pinned (OpenSpec.ofChange physKeepsWrong)

/-- 'seisinlaw2.PhysCopies': WHATEVER THE INPUT: true; the input reads as it did. -/
def physCopiesSpec : ChangeSpec := { name := "physCopies", fn := fun _ => fun
  | [d1, d2] => { results := [.lit (.bool true)], args := [d1, d2] }
  | _ => none }
def physCopiesRow : OpenClaim := { program := "ytnaiepoaikabgaa", sum := "4005e3878632af0951a0aeb77673c21530312903957774862bf13054abf584a1", func := "seisin/seisinlaw2.PhysCopies", spec := "physCopies", apart := false }
def PhysCopiesSaid : Prop := physCopiesRow.holds Try.pinned (OpenSpec.ofChange physCopiesSpec)

/-- ITS FALSE NEIGHBOUR: 'it returns false'. Refute it at one input. -/
def physCopiesWrong : ChangeSpec := { name := "physCopies", fn := fun _ => fun
  | [d1, d2] => { results := [.lit (.bool false)], args := [d1, d2] }
  | _ => none }
def PhysCopiesWrongFalsely : Prop := physCopiesRow.holds Try.pinned (OpenSpec.ofChange physCopiesWrong)

/-- 'seisinlaw2.PhysNone': WHATEVER THE INPUT: true; the input reads as it did. -/
def physNoneSpec : ChangeSpec := { name := "physNone", fn := fun _ => fun
  | [d1, d2, d3] => { results := [.lit (.bool true)], args := [d1, d2, d3] }
  | _ => none }
def physNoneRow : OpenClaim := { program := "ytnaiepoaikabgaa", sum := "4005e3878632af0951a0aeb77673c21530312903957774862bf13054abf584a1", func := "seisin/seisinlaw2.PhysNone", spec := "physNone", unfollowed := true, recurses := true, apart := false }
def PhysNoneSaid : Prop := physNoneRow.holds Try.pinned (OpenSpec.ofChange physNoneSpec)

/-- ITS FALSE NEIGHBOUR: 'it returns false'. Refute it at one input. -/
def physNoneWrong : ChangeSpec := { name := "physNone", fn := fun _ => fun
  | [d1, d2, d3] => { results := [.lit (.bool false)], args := [d1, d2, d3] }
  | _ => none }
def PhysNoneWrongFalsely : Prop := physNoneRow.holds Try.pinned (OpenSpec.ofChange physNoneWrong)

/- THE SECOND FORM. 'bulk': how many values and letters a reading holds, each counted each time it is reached (what is shared counts as often as it is met; a slice's spare places count too). A statement '..UptoSaid' is the law's where the arguments, and the package variables that the reading takes, are together of bulk at most 1048576: NARROWER than '..Said'. Prove '..Said' where nothing that the law and all that it calls make is longer than what came in: it says more and counts as full. Else prove '..UptoSaid'. A law counts once. -/
mutual
def uptoBulk {H : Type} : DataW H → Nat
  | .lit (.string bytes) => bytes.length + 1
  | .lit _ => 1
  | .nil => 1
  | .ptr d => uptoBulk d + 1
  | .slice elems spare => uptoBulkAll elems + uptoBulkAll spare + 1
  | .agg parts => uptoBulkAll parts + 1
  | .iface _ d => uptoBulk d + 1
  | .map entries => uptoBulkEntries entries + 1
  | .held _ => 1
def uptoBulkAll {H : Type} : List (DataW H) → Nat
  | [] => 0
  | d :: r => uptoBulk d + uptoBulkAll r
def uptoBulkEntries {H : Type} : List (Lit × DataW H) → Nat
  | [] => 0
  | x :: r => uptoBulkEntry x + uptoBulkEntries r
def uptoBulkEntry {H : Type} : Lit × DataW H → Nat
  | (.string bytes, d) => bytes.length + uptoBulk d + 1
  | (_, d) => uptoBulk d + 1
 end
def uptoSmall : (H : Type) → List (DataW H) → Bool := fun _ ds => decide (uptoBulkAll ds ≤ 1048576)
def OpenSpec.upto (s : _root_.Go.ChangeSpec) : _root_.Go.OpenSpec := { _root_.Go.OpenSpec.ofChange s with cond := some uptoSmall }

/-- 'seisinlaw2.PhysScript', WHERE WHAT IT READS IS OF BULK AT MOST 1048576: true; the input reads as it did. -/
def physScriptUptoRow : OpenClaim := { program := "ytnaiepoaikabgaa", sum := "4005e3878632af0951a0aeb77673c21530312903957774862bf13054abf584a1", func := "seisin/seisinlaw2.PhysScript", spec := "physScript", unfollowed := true, recurses := true, apart := false, narrowed := true }
def PhysScriptUptoSaid : Prop := physScriptUptoRow.holds Try.pinned (OpenSpec.upto physScriptSpec)

/-- 'seisinlaw2.PhysKeeps', WHERE WHAT IT READS IS OF BULK AT MOST 1048576: true; the input reads as it did. -/
def physKeepsUptoRow : OpenClaim := { program := "ytnaiepoaikabgaa", sum := "4005e3878632af0951a0aeb77673c21530312903957774862bf13054abf584a1", func := "seisin/seisinlaw2.PhysKeeps", spec := "physKeeps", unfollowed := true, recurses := true, apart := false, narrowed := true }
def PhysKeepsUptoSaid : Prop := physKeepsUptoRow.holds Try.pinned (OpenSpec.upto physKeepsSpec)

/-- 'seisinlaw2.PhysCopies', WHERE WHAT IT READS IS OF BULK AT MOST 1048576: true; the input reads as it did. -/
def physCopiesUptoRow : OpenClaim := { program := "ytnaiepoaikabgaa", sum := "4005e3878632af0951a0aeb77673c21530312903957774862bf13054abf584a1", func := "seisin/seisinlaw2.PhysCopies", spec := "physCopies", apart := false, narrowed := true }
def PhysCopiesUptoSaid : Prop := physCopiesUptoRow.holds Try.pinned (OpenSpec.upto physCopiesSpec)

/-- 'seisinlaw2.PhysNone', WHERE WHAT IT READS IS OF BULK AT MOST 1048576: true; the input reads as it did. -/
def physNoneUptoRow : OpenClaim := { program := "ytnaiepoaikabgaa", sum := "4005e3878632af0951a0aeb77673c21530312903957774862bf13054abf584a1", func := "seisin/seisinlaw2.PhysNone", spec := "physNone", unfollowed := true, recurses := true, apart := false, narrowed := true }
def PhysNoneUptoSaid : Prop := physNoneUptoRow.holds Try.pinned (OpenSpec.upto physNoneSpec)

end Rows
end Go.Proofs.Ytnaiepoaikabgaa
