/-
  No cell of these rows narrows 'for every input' (looked for: loops, veiled, ifaces, maps, wideKeys, modest, calm, conditions, laid).
  DERIVED. THE GIVEN ROWS OF THIS SEAT. 9 by the template 'for every input the law returns true; each argument reads behind the call as it read before'; 0 by the template 'total and deterministic' (their statements: YtcbpliodbmdhfaaTotals.lean).
  GIVEN WITH THE SEED: the statements are not yours to turn. If you find one false, say at which input.
  Laid BY PROGRAM, IN A SANDBOX (cutbox-rows.mjs): the forced cells as the released guide's own fill.sh prints them over the translation 8c99cfc64dfa2b3a… (all of the seat's roots in one cut). By AI agents, Wed Nov 11 2026. No macro, syntax, notation, axiom, sorry.
-/
import Derived.Test.YtcbpliodbmdhfaaChecked
import GoSem.Claim
import GoSem.ClaimJoined
import GoSem.ClaimMapViews
import Derived.JoinedTies
import Derived.KernelRfl
namespace Go.Proofs.Ytcbpliodbmdhfaa
/- THE CELL 'sum', in the pinned program and in every row, IS THE sha256 OF THE DUMP (.gsa) THAT YtcbpliodbmdhfaaProg.lean LOADS. Nothing in Lean hashes anything: it is a label: what it is worth is what the hold of that sum in a sandbox is worth. -/
noncomputable def Try.pinned : Pinned := { name := "ytcbpliodbmdhfaa", sum := "8c99cfc64dfa2b3ad93f2b387e038a22da00a3acf406538c6941e9a479a2ad7d", checked := Try.checked }
namespace Rows
def none {H : Type} : Left H := { results := [], args := [] }

/-- 'seisinlaw6.TlbNone': WHATEVER THE INPUT: true; the input reads as it did. -/
def tlbNoneSpec : ChangeSpec := { name := "tlbNone", fn := fun _ => fun
  | [d1, d2, d3] => { results := [.lit (.bool true)], args := [d1, d2, d3] }
  | _ => none }
def tlbNoneRow : OpenClaim := { program := "ytcbpliodbmdhfaa", sum := "8c99cfc64dfa2b3ad93f2b387e038a22da00a3acf406538c6941e9a479a2ad7d", func := "seisin/seisinlaw6.TlbNone", spec := "tlbNone", unfollowed := true, recurses := true, plainKeys := false, apart := false }
def TlbNoneSaid : Prop := tlbNoneRow.holds Try.pinned (OpenSpec.ofChange tlbNoneSpec)

/-- ITS FALSE NEIGHBOUR: 'it returns false'. Refute it at one input. -/
def tlbNoneWrong : ChangeSpec := { name := "tlbNone", fn := fun _ => fun
  | [d1, d2, d3] => { results := [.lit (.bool false)], args := [d1, d2, d3] }
  | _ => none }
def TlbNoneWrongFalsely : Prop := tlbNoneRow.holds Try.pinned (OpenSpec.ofChange tlbNoneWrong)

/-- 'seisinlaw7.CoresNone': WHATEVER THE INPUT: true; the input reads as it did. -/
def coresNoneSpec : ChangeSpec := { name := "coresNone", fn := fun _ => fun
  | [d1, d2] => { results := [.lit (.bool true)], args := [d1, d2] }
  | _ => none }
def coresNoneRow : OpenClaim := { program := "ytcbpliodbmdhfaa", sum := "8c99cfc64dfa2b3ad93f2b387e038a22da00a3acf406538c6941e9a479a2ad7d", func := "seisin/seisinlaw7.CoresNone", spec := "coresNone", unfollowed := true, recurses := true, plainKeys := false, apart := false }
def CoresNoneSaid : Prop := coresNoneRow.holds Try.pinned (OpenSpec.ofChange coresNoneSpec)

/-- ITS FALSE NEIGHBOUR: 'it returns false'. Refute it at one input. -/
def coresNoneWrong : ChangeSpec := { name := "coresNone", fn := fun _ => fun
  | [d1, d2] => { results := [.lit (.bool false)], args := [d1, d2] }
  | _ => none }
def CoresNoneWrongFalsely : Prop := coresNoneRow.holds Try.pinned (OpenSpec.ofChange coresNoneWrong)

/-- 'seisinlaw8.AccessNone': WHATEVER THE INPUT: true; the input reads as it did. -/
def accessNoneSpec : ChangeSpec := { name := "accessNone", fn := fun _ => fun
  | [d1, d2, d3] => { results := [.lit (.bool true)], args := [d1, d2, d3] }
  | _ => none }
def accessNoneRow : OpenClaim := { program := "ytcbpliodbmdhfaa", sum := "8c99cfc64dfa2b3ad93f2b387e038a22da00a3acf406538c6941e9a479a2ad7d", func := "seisin/seisinlaw8.AccessNone", spec := "accessNone", unfollowed := true, recurses := true, plainKeys := false, apart := false }
def AccessNoneSaid : Prop := accessNoneRow.holds Try.pinned (OpenSpec.ofChange accessNoneSpec)

/-- ITS FALSE NEIGHBOUR: 'it returns false'. Refute it at one input. -/
def accessNoneWrong : ChangeSpec := { name := "accessNone", fn := fun _ => fun
  | [d1, d2, d3] => { results := [.lit (.bool false)], args := [d1, d2, d3] }
  | _ => none }
def AccessNoneWrongFalsely : Prop := accessNoneRow.holds Try.pinned (OpenSpec.ofChange accessNoneWrong)

/-- 'seisinlaw12.ArenaNone': WHATEVER THE INPUT: true; the input reads as it did. -/
def arenaNoneSpec : ChangeSpec := { name := "arenaNone", fn := fun _ => fun
  | [d] => { results := [.lit (.bool true)], args := [d] }
  | _ => none }
def arenaNoneRow : OpenClaim := { program := "ytcbpliodbmdhfaa", sum := "8c99cfc64dfa2b3ad93f2b387e038a22da00a3acf406538c6941e9a479a2ad7d", func := "seisin/seisinlaw12.ArenaNone", spec := "arenaNone", inPlace := ["slices.overlaps[seisin/ordered.row[seisin/api.Object]]"], unfollowed := true, recurses := true, plainKeys := false, apart := false }
def ArenaNoneSaid : Prop := arenaNoneRow.holds Try.pinned (OpenSpec.ofChange arenaNoneSpec)

/-- ITS FALSE NEIGHBOUR: 'it returns false'. Refute it at one input. -/
def arenaNoneWrong : ChangeSpec := { name := "arenaNone", fn := fun _ => fun
  | [d] => { results := [.lit (.bool false)], args := [d] }
  | _ => none }
def ArenaNoneWrongFalsely : Prop := arenaNoneRow.holds Try.pinned (OpenSpec.ofChange arenaNoneWrong)

/-- 'seisinlaw17.TreeNone': WHATEVER THE INPUT: true; the input reads as it did. -/
def treeNoneSpec : ChangeSpec := { name := "treeNone", fn := fun _ => fun
  | [d1, d2] => { results := [.lit (.bool true)], args := [d1, d2] }
  | _ => none }
def treeNoneRow : OpenClaim := { program := "ytcbpliodbmdhfaa", sum := "8c99cfc64dfa2b3ad93f2b387e038a22da00a3acf406538c6941e9a479a2ad7d", func := "seisin/seisinlaw17.TreeNone", spec := "treeNone", unfollowed := true, recurses := true, plainKeys := false, apart := false }
def TreeNoneSaid : Prop := treeNoneRow.holds Try.pinned (OpenSpec.ofChange treeNoneSpec)

/-- ITS FALSE NEIGHBOUR: 'it returns false'. Refute it at one input. -/
def treeNoneWrong : ChangeSpec := { name := "treeNone", fn := fun _ => fun
  | [d1, d2] => { results := [.lit (.bool false)], args := [d1, d2] }
  | _ => none }
def TreeNoneWrongFalsely : Prop := treeNoneRow.holds Try.pinned (OpenSpec.ofChange treeNoneWrong)

/-- 'seisinlaw19.AsidNone': WHATEVER THE INPUT: true; the input reads as it did. -/
def asidNoneSpec : ChangeSpec := { name := "asidNone", fn := fun _ => fun
  | [d] => { results := [.lit (.bool true)], args := [d] }
  | _ => none }
def asidNoneRow : OpenClaim := { program := "ytcbpliodbmdhfaa", sum := "8c99cfc64dfa2b3ad93f2b387e038a22da00a3acf406538c6941e9a479a2ad7d", func := "seisin/seisinlaw19.AsidNone", spec := "asidNone", unfollowed := true, recurses := true, plainKeys := false, apart := false }
def AsidNoneSaid : Prop := asidNoneRow.holds Try.pinned (OpenSpec.ofChange asidNoneSpec)

/-- ITS FALSE NEIGHBOUR: 'it returns false'. Refute it at one input. -/
def asidNoneWrong : ChangeSpec := { name := "asidNone", fn := fun _ => fun
  | [d] => { results := [.lit (.bool false)], args := [d] }
  | _ => none }
def AsidNoneWrongFalsely : Prop := asidNoneRow.holds Try.pinned (OpenSpec.ofChange asidNoneWrong)

/-- 'seisinlaw20.ThreadNone': WHATEVER THE INPUT: true; the input reads as it did. -/
def threadNoneSpec : ChangeSpec := { name := "threadNone", fn := fun _ => fun
  | [d] => { results := [.lit (.bool true)], args := [d] }
  | _ => none }
def threadNoneRow : OpenClaim := { program := "ytcbpliodbmdhfaa", sum := "8c99cfc64dfa2b3ad93f2b387e038a22da00a3acf406538c6941e9a479a2ad7d", func := "seisin/seisinlaw20.ThreadNone", spec := "threadNone", inPlace := ["slices.overlaps[seisin/ordered.row[seisin/api.Thread]]"], unfollowed := true, recurses := true, plainKeys := false, apart := false }
def ThreadNoneSaid : Prop := threadNoneRow.holds Try.pinned (OpenSpec.ofChange threadNoneSpec)

/-- ITS FALSE NEIGHBOUR: 'it returns false'. Refute it at one input. -/
def threadNoneWrong : ChangeSpec := { name := "threadNone", fn := fun _ => fun
  | [d] => { results := [.lit (.bool false)], args := [d] }
  | _ => none }
def ThreadNoneWrongFalsely : Prop := threadNoneRow.holds Try.pinned (OpenSpec.ofChange threadNoneWrong)

/-- 'seisinlaw21.QueueNone': WHATEVER THE INPUT: true; the input reads as it did. -/
def queueNoneSpec : ChangeSpec := { name := "queueNone", fn := fun _ => fun
  | [d] => { results := [.lit (.bool true)], args := [d] }
  | _ => none }
def queueNoneRow : OpenClaim := { program := "ytcbpliodbmdhfaa", sum := "8c99cfc64dfa2b3ad93f2b387e038a22da00a3acf406538c6941e9a479a2ad7d", func := "seisin/seisinlaw21.QueueNone", spec := "queueNone", unfollowed := true, recurses := true, plainKeys := false, apart := false }
def QueueNoneSaid : Prop := queueNoneRow.holds Try.pinned (OpenSpec.ofChange queueNoneSpec)

/-- ITS FALSE NEIGHBOUR: 'it returns false'. Refute it at one input. -/
def queueNoneWrong : ChangeSpec := { name := "queueNone", fn := fun _ => fun
  | [d] => { results := [.lit (.bool false)], args := [d] }
  | _ => none }
def QueueNoneWrongFalsely : Prop := queueNoneRow.holds Try.pinned (OpenSpec.ofChange queueNoneWrong)

/-- 'seisinlaw22.EndsNone': WHATEVER THE INPUT: true; the input reads as it did. -/
def endsNoneSpec : ChangeSpec := { name := "endsNone", fn := fun _ => fun
  | [d1, d2] => { results := [.lit (.bool true)], args := [d1, d2] }
  | _ => none }
def endsNoneRow : OpenClaim := { program := "ytcbpliodbmdhfaa", sum := "8c99cfc64dfa2b3ad93f2b387e038a22da00a3acf406538c6941e9a479a2ad7d", func := "seisin/seisinlaw22.EndsNone", spec := "endsNone", inPlace := ["slices.overlaps[seisin/ordered.row[seisin/ends.end]]"], unfollowed := true, recurses := true, plainKeys := false, apart := false }
def EndsNoneSaid : Prop := endsNoneRow.holds Try.pinned (OpenSpec.ofChange endsNoneSpec)

/-- ITS FALSE NEIGHBOUR: 'it returns false'. Refute it at one input. -/
def endsNoneWrong : ChangeSpec := { name := "endsNone", fn := fun _ => fun
  | [d1, d2] => { results := [.lit (.bool false)], args := [d1, d2] }
  | _ => none }
def EndsNoneWrongFalsely : Prop := endsNoneRow.holds Try.pinned (OpenSpec.ofChange endsNoneWrong)

/- THE SECOND FORM. 'bulk': how many values and letters a reading holds, each counted each time it is reached (what is shared counts as often as it is met; a slice's spare places count too). A statement '..UptoSaid' is the law's where the arguments, and the package variables that the reading takes, are together of bulk at most 1048576: NARROWER than '..Said'. Prove '..Said' where nothing that the law and all that it calls make is longer than what came in: it says more and counts as full. Else prove '..UptoSaid'. A law counts once. -/
mutual
def uptoBulk {H : Type} : DataW H → Nat
  | .lit (.string bytes) => bytes.length + 1
  | .lit _ => 1
  | .nil => 1
  | .ptr d => uptoBulk d + 1
  | .slice elems spare => uptoBulkAll elems + uptoBulkAll spare + 1
  | .agg parts => uptoBulkAll parts + 1
  | .iface _ d => uptoBulk d + 1
  | .map entries => uptoBulkEntries entries + 1
  | .held _ => 1
def uptoBulkAll {H : Type} : List (DataW H) → Nat
  | [] => 0
  | d :: r => uptoBulk d + uptoBulkAll r
def uptoBulkEntries {H : Type} : List (Lit × DataW H) → Nat
  | [] => 0
  | x :: r => uptoBulkEntry x + uptoBulkEntries r
def uptoBulkEntry {H : Type} : Lit × DataW H → Nat
  | (.string bytes, d) => bytes.length + uptoBulk d + 1
  | (_, d) => uptoBulk d + 1
 end
def uptoSmall : (H : Type) → List (DataW H) → Bool := fun _ ds => decide (uptoBulkAll ds ≤ 1048576)
def OpenSpec.upto (s : _root_.Go.ChangeSpec) : _root_.Go.OpenSpec := { _root_.Go.OpenSpec.ofChange s with cond := some uptoSmall }

/-- 'seisinlaw6.TlbNone', WHERE WHAT IT READS IS OF BULK AT MOST 1048576: true; the input reads as it did. -/
def tlbNoneUptoRow : OpenClaim := { program := "ytcbpliodbmdhfaa", sum := "8c99cfc64dfa2b3ad93f2b387e038a22da00a3acf406538c6941e9a479a2ad7d", func := "seisin/seisinlaw6.TlbNone", spec := "tlbNone", unfollowed := true, recurses := true, plainKeys := false, apart := false, narrowed := true }
def TlbNoneUptoSaid : Prop := tlbNoneUptoRow.holds Try.pinned (OpenSpec.upto tlbNoneSpec)

/-- 'seisinlaw7.CoresNone', WHERE WHAT IT READS IS OF BULK AT MOST 1048576: true; the input reads as it did. -/
def coresNoneUptoRow : OpenClaim := { program := "ytcbpliodbmdhfaa", sum := "8c99cfc64dfa2b3ad93f2b387e038a22da00a3acf406538c6941e9a479a2ad7d", func := "seisin/seisinlaw7.CoresNone", spec := "coresNone", unfollowed := true, recurses := true, plainKeys := false, apart := false, narrowed := true }
def CoresNoneUptoSaid : Prop := coresNoneUptoRow.holds Try.pinned (OpenSpec.upto coresNoneSpec)

/-- 'seisinlaw8.AccessNone', WHERE WHAT IT READS IS OF BULK AT MOST 1048576: true; the input reads as it did. -/
def accessNoneUptoRow : OpenClaim := { program := "ytcbpliodbmdhfaa", sum := "8c99cfc64dfa2b3ad93f2b387e038a22da00a3acf406538c6941e9a479a2ad7d", func := "seisin/seisinlaw8.AccessNone", spec := "accessNone", unfollowed := true, recurses := true, plainKeys := false, apart := false, narrowed := true }
def AccessNoneUptoSaid : Prop := accessNoneUptoRow.holds Try.pinned (OpenSpec.upto accessNoneSpec)

/-- 'seisinlaw12.ArenaNone', WHERE WHAT IT READS IS OF BULK AT MOST 1048576: true; the input reads as it did. -/
def arenaNoneUptoRow : OpenClaim := { program := "ytcbpliodbmdhfaa", sum := "8c99cfc64dfa2b3ad93f2b387e038a22da00a3acf406538c6941e9a479a2ad7d", func := "seisin/seisinlaw12.ArenaNone", spec := "arenaNone", inPlace := ["slices.overlaps[seisin/ordered.row[seisin/api.Object]]"], unfollowed := true, recurses := true, plainKeys := false, apart := false, narrowed := true }
def ArenaNoneUptoSaid : Prop := arenaNoneUptoRow.holds Try.pinned (OpenSpec.upto arenaNoneSpec)

/-- 'seisinlaw17.TreeNone', WHERE WHAT IT READS IS OF BULK AT MOST 1048576: true; the input reads as it did. -/
def treeNoneUptoRow : OpenClaim := { program := "ytcbpliodbmdhfaa", sum := "8c99cfc64dfa2b3ad93f2b387e038a22da00a3acf406538c6941e9a479a2ad7d", func := "seisin/seisinlaw17.TreeNone", spec := "treeNone", unfollowed := true, recurses := true, plainKeys := false, apart := false, narrowed := true }
def TreeNoneUptoSaid : Prop := treeNoneUptoRow.holds Try.pinned (OpenSpec.upto treeNoneSpec)

/-- 'seisinlaw19.AsidNone', WHERE WHAT IT READS IS OF BULK AT MOST 1048576: true; the input reads as it did. -/
def asidNoneUptoRow : OpenClaim := { program := "ytcbpliodbmdhfaa", sum := "8c99cfc64dfa2b3ad93f2b387e038a22da00a3acf406538c6941e9a479a2ad7d", func := "seisin/seisinlaw19.AsidNone", spec := "asidNone", unfollowed := true, recurses := true, plainKeys := false, apart := false, narrowed := true }
def AsidNoneUptoSaid : Prop := asidNoneUptoRow.holds Try.pinned (OpenSpec.upto asidNoneSpec)

/-- 'seisinlaw20.ThreadNone', WHERE WHAT IT READS IS OF BULK AT MOST 1048576: true; the input reads as it did. -/
def threadNoneUptoRow : OpenClaim := { program := "ytcbpliodbmdhfaa", sum := "8c99cfc64dfa2b3ad93f2b387e038a22da00a3acf406538c6941e9a479a2ad7d", func := "seisin/seisinlaw20.ThreadNone", spec := "threadNone", inPlace := ["slices.overlaps[seisin/ordered.row[seisin/api.Thread]]"], unfollowed := true, recurses := true, plainKeys := false, apart := false, narrowed := true }
def ThreadNoneUptoSaid : Prop := threadNoneUptoRow.holds Try.pinned (OpenSpec.upto threadNoneSpec)

/-- 'seisinlaw21.QueueNone', WHERE WHAT IT READS IS OF BULK AT MOST 1048576: true; the input reads as it did. -/
def queueNoneUptoRow : OpenClaim := { program := "ytcbpliodbmdhfaa", sum := "8c99cfc64dfa2b3ad93f2b387e038a22da00a3acf406538c6941e9a479a2ad7d", func := "seisin/seisinlaw21.QueueNone", spec := "queueNone", unfollowed := true, recurses := true, plainKeys := false, apart := false, narrowed := true }
def QueueNoneUptoSaid : Prop := queueNoneUptoRow.holds Try.pinned (OpenSpec.upto queueNoneSpec)

/-- 'seisinlaw22.EndsNone', WHERE WHAT IT READS IS OF BULK AT MOST 1048576: true; the input reads as it did. -/
def endsNoneUptoRow : OpenClaim := { program := "ytcbpliodbmdhfaa", sum := "8c99cfc64dfa2b3ad93f2b387e038a22da00a3acf406538c6941e9a479a2ad7d", func := "seisin/seisinlaw22.EndsNone", spec := "endsNone", inPlace := ["slices.overlaps[seisin/ordered.row[seisin/ends.end]]"], unfollowed := true, recurses := true, plainKeys := false, apart := false, narrowed := true }
def EndsNoneUptoSaid : Prop := endsNoneUptoRow.holds Try.pinned (OpenSpec.upto endsNoneSpec)

end Rows
end Go.Proofs.Ytcbpliodbmdhfaa
