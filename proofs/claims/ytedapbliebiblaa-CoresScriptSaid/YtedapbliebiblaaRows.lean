/-
  No cell of these rows narrows 'for every input' (looked for: loops, veiled, ifaces, maps, wideKeys, modest, calm, conditions, laid).
  DERIVED. THE GIVEN ROWS OF THIS SEAT. 6 by the template 'for every input the law returns true; each argument reads behind the call as it read before'; 0 by the template 'total and deterministic' (their statements: YtedapbliebiblaaTotals.lean).
  GIVEN WITH THE SEED: the statements are not yours to turn. If you find one false, say at which input.
  Laid BY PROGRAM, IN A SANDBOX (cutbox-rows.mjs): the forced cells as the released guide's own fill.sh prints them over the translation 00811950dc2d892e… (all of the seat's roots in one cut). By AI agents, Wed Nov 11 2026. No macro, syntax, notation, axiom, sorry.
-/
import Derived.Test.YtedapbliebiblaaChecked
import GoSem.Claim
import GoSem.ClaimJoined
import GoSem.ClaimMapViews
import Derived.JoinedTies
import Derived.KernelRfl
namespace Go.Proofs.Ytedapbliebiblaa
/- THE CELL 'sum', in the pinned program and in every row, IS THE sha256 OF THE DUMP (.gsa) THAT YtedapbliebiblaaProg.lean LOADS. Nothing in Lean hashes anything: it is a label: what it is worth is what the hold of that sum in a sandbox is worth. -/
noncomputable def Try.pinned : Pinned := { name := "ytedapbliebiblaa", sum := "00811950dc2d892e6373487249db57db14fa0fecec2caab077ce578e8ed01770", checked := Try.checked }
namespace Rows
def none {H : Type} : Left H := { results := [], args := [] }

/-- 'seisinlaw7.CoresScript': WHATEVER THE INPUT: true; the input reads as it did. -/
def coresScriptSpec : ChangeSpec := { name := "coresScript", fn := fun _ => fun
  | [d1, d2, d3] => { results := [.lit (.bool true)], args := [d1, d2, d3] }
  | _ => none }
def coresScriptRow : OpenClaim := { program := "ytedapbliebiblaa", sum := "00811950dc2d892e6373487249db57db14fa0fecec2caab077ce578e8ed01770", func := "seisin/seisinlaw7.CoresScript", spec := "coresScript", unfollowed := true, recurses := true, apart := false }
def CoresScriptSaid : Prop := coresScriptRow.holds Try.pinned (OpenSpec.ofChange coresScriptSpec)

/-- ITS FALSE NEIGHBOUR: 'it returns false'. Refute it at one input. -/
def coresScriptWrong : ChangeSpec := { name := "coresScript", fn := fun _ => fun
  | [d1, d2, d3] => { results := [.lit (.bool false)], args := [d1, d2, d3] }
  | _ => none }
def CoresScriptWrongFalsely : Prop := coresScriptRow.holds Try.pinned (OpenSpec.ofChange coresScriptWrong)

/-- 'seisinlaw7.CoresWalk': WHATEVER THE INPUT: true; the input reads as it did. -/
def coresWalkSpec : ChangeSpec := { name := "coresWalk", fn := fun _ => fun
  | [d] => { results := [.lit (.bool true)], args := [d] }
  | _ => none }
def coresWalkRow : OpenClaim := { program := "ytedapbliebiblaa", sum := "00811950dc2d892e6373487249db57db14fa0fecec2caab077ce578e8ed01770", func := "seisin/seisinlaw7.CoresWalk", spec := "coresWalk", unfollowed := true, recurses := true, apart := false }
def CoresWalkSaid : Prop := coresWalkRow.holds Try.pinned (OpenSpec.ofChange coresWalkSpec)

/-- ITS FALSE NEIGHBOUR: 'it returns false'. Refute it at one input. -/
def coresWalkWrong : ChangeSpec := { name := "coresWalk", fn := fun _ => fun
  | [d] => { results := [.lit (.bool false)], args := [d] }
  | _ => none }
def CoresWalkWrongFalsely : Prop := coresWalkRow.holds Try.pinned (OpenSpec.ofChange coresWalkWrong)

/-- 'seisinlaw7.CoresShoot': WHATEVER THE INPUT: true; the input reads as it did. -/
def coresShootSpec : ChangeSpec := { name := "coresShoot", fn := fun _ => fun
  | [d1, d2, d3, d4, d5] => { results := [.lit (.bool true)], args := [d1, d2, d3, d4, d5] }
  | _ => none }
def coresShootRow : OpenClaim := { program := "ytedapbliebiblaa", sum := "00811950dc2d892e6373487249db57db14fa0fecec2caab077ce578e8ed01770", func := "seisin/seisinlaw7.CoresShoot", spec := "coresShoot", unfollowed := true, recurses := true, apart := false }
def CoresShootSaid : Prop := coresShootRow.holds Try.pinned (OpenSpec.ofChange coresShootSpec)

/-- ITS FALSE NEIGHBOUR: 'it returns false'. Refute it at one input. -/
def coresShootWrong : ChangeSpec := { name := "coresShoot", fn := fun _ => fun
  | [d1, d2, d3, d4, d5] => { results := [.lit (.bool false)], args := [d1, d2, d3, d4, d5] }
  | _ => none }
def CoresShootWrongFalsely : Prop := coresShootRow.holds Try.pinned (OpenSpec.ofChange coresShootWrong)

/-- 'seisinlaw7.CoresNone': WHATEVER THE INPUT: true; the input reads as it did. -/
def coresNoneSpec : ChangeSpec := { name := "coresNone", fn := fun _ => fun
  | [d1, d2] => { results := [.lit (.bool true)], args := [d1, d2] }
  | _ => none }
def coresNoneRow : OpenClaim := { program := "ytedapbliebiblaa", sum := "00811950dc2d892e6373487249db57db14fa0fecec2caab077ce578e8ed01770", func := "seisin/seisinlaw7.CoresNone", spec := "coresNone", unfollowed := true, recurses := true, apart := false }
def CoresNoneSaid : Prop := coresNoneRow.holds Try.pinned (OpenSpec.ofChange coresNoneSpec)

/-- ITS FALSE NEIGHBOUR: 'it returns false'. Refute it at one input. -/
def coresNoneWrong : ChangeSpec := { name := "coresNone", fn := fun _ => fun
  | [d1, d2] => { results := [.lit (.bool false)], args := [d1, d2] }
  | _ => none }
def CoresNoneWrongFalsely : Prop := coresNoneRow.holds Try.pinned (OpenSpec.ofChange coresNoneWrong)

/-- 'seisinlaw7.CoresOwn': WHATEVER THE INPUT: true; the input reads as it did. -/
def coresOwnSpec : ChangeSpec := { name := "coresOwn", fn := fun _ => fun
  | [d1, d2] => { results := [.lit (.bool true)], args := [d1, d2] }
  | _ => none }
def coresOwnRow : OpenClaim := { program := "ytedapbliebiblaa", sum := "00811950dc2d892e6373487249db57db14fa0fecec2caab077ce578e8ed01770", func := "seisin/seisinlaw7.CoresOwn", spec := "coresOwn", unfollowed := true, recurses := true, apart := false }
def CoresOwnSaid : Prop := coresOwnRow.holds Try.pinned (OpenSpec.ofChange coresOwnSpec)

/-- ITS FALSE NEIGHBOUR: 'it returns false'. Refute it at one input. -/
def coresOwnWrong : ChangeSpec := { name := "coresOwn", fn := fun _ => fun
  | [d1, d2] => { results := [.lit (.bool false)], args := [d1, d2] }
  | _ => none }
def CoresOwnWrongFalsely : Prop := coresOwnRow.holds Try.pinned (OpenSpec.ofChange coresOwnWrong)

/-- 'seisinlaw7.CoresDown': WHATEVER THE INPUT: true; the input reads as it did. -/
def coresDownSpec : ChangeSpec := { name := "coresDown", fn := fun _ => fun
  | [d1, d2, d3] => { results := [.lit (.bool true)], args := [d1, d2, d3] }
  | _ => none }
def coresDownRow : OpenClaim := { program := "ytedapbliebiblaa", sum := "00811950dc2d892e6373487249db57db14fa0fecec2caab077ce578e8ed01770", func := "seisin/seisinlaw7.CoresDown", spec := "coresDown", unfollowed := true, recurses := true, apart := false }
def CoresDownSaid : Prop := coresDownRow.holds Try.pinned (OpenSpec.ofChange coresDownSpec)

/-- ITS FALSE NEIGHBOUR: 'it returns false'. Refute it at one input. -/
def coresDownWrong : ChangeSpec := { name := "coresDown", fn := fun _ => fun
  | [d1, d2, d3] => { results := [.lit (.bool false)], args := [d1, d2, d3] }
  | _ => none }
def CoresDownWrongFalsely : Prop := coresDownRow.holds Try.pinned (OpenSpec.ofChange coresDownWrong)

/- THE SECOND FORM. 'bulk': how many values and letters a reading holds, each counted each time it is reached (what is shared counts as often as it is met; a slice's spare places count too). A statement '..UptoSaid' is the law's where the arguments, and the package variables that the reading takes, are together of bulk at most 1048576: NARROWER than '..Said'. Prove '..Said' where nothing that the law and all that it calls make is longer than what came in: it says more and counts as full. Else prove '..UptoSaid'. A law counts once. -/
mutual
def uptoBulk {H : Type} : DataW H → Nat
  | .lit (.string bytes) => bytes.length + 1
  | .lit _ => 1
  | .nil => 1
  | .ptr d => uptoBulk d + 1
  | .slice elems spare => uptoBulkAll elems + uptoBulkAll spare + 1
  | .agg parts => uptoBulkAll parts + 1
  | .iface _ d => uptoBulk d + 1
  | .map entries => uptoBulkEntries entries + 1
  | .held _ => 1
def uptoBulkAll {H : Type} : List (DataW H) → Nat
  | [] => 0
  | d :: r => uptoBulk d + uptoBulkAll r
def uptoBulkEntries {H : Type} : List (Lit × DataW H) → Nat
  | [] => 0
  | x :: r => uptoBulkEntry x + uptoBulkEntries r
def uptoBulkEntry {H : Type} : Lit × DataW H → Nat
  | (.string bytes, d) => bytes.length + uptoBulk d + 1
  | (_, d) => uptoBulk d + 1
 end
def uptoSmall : (H : Type) → List (DataW H) → Bool := fun _ ds => decide (uptoBulkAll ds ≤ 1048576)
def OpenSpec.upto (s : _root_.Go.ChangeSpec) : _root_.Go.OpenSpec := { _root_.Go.OpenSpec.ofChange s with cond := some uptoSmall }

/-- 'seisinlaw7.CoresScript', WHERE WHAT IT READS IS OF BULK AT MOST 1048576: true; the input reads as it did. -/
def coresScriptUptoRow : OpenClaim := { program := "ytedapbliebiblaa", sum := "00811950dc2d892e6373487249db57db14fa0fecec2caab077ce578e8ed01770", func := "seisin/seisinlaw7.CoresScript", spec := "coresScript", unfollowed := true, recurses := true, apart := false, narrowed := true }
def CoresScriptUptoSaid : Prop := coresScriptUptoRow.holds Try.pinned (OpenSpec.upto coresScriptSpec)

/-- 'seisinlaw7.CoresWalk', WHERE WHAT IT READS IS OF BULK AT MOST 1048576: true; the input reads as it did. -/
def coresWalkUptoRow : OpenClaim := { program := "ytedapbliebiblaa", sum := "00811950dc2d892e6373487249db57db14fa0fecec2caab077ce578e8ed01770", func := "seisin/seisinlaw7.CoresWalk", spec := "coresWalk", unfollowed := true, recurses := true, apart := false, narrowed := true }
def CoresWalkUptoSaid : Prop := coresWalkUptoRow.holds Try.pinned (OpenSpec.upto coresWalkSpec)

/-- 'seisinlaw7.CoresShoot', WHERE WHAT IT READS IS OF BULK AT MOST 1048576: true; the input reads as it did. -/
def coresShootUptoRow : OpenClaim := { program := "ytedapbliebiblaa", sum := "00811950dc2d892e6373487249db57db14fa0fecec2caab077ce578e8ed01770", func := "seisin/seisinlaw7.CoresShoot", spec := "coresShoot", unfollowed := true, recurses := true, apart := false, narrowed := true }
def CoresShootUptoSaid : Prop := coresShootUptoRow.holds Try.pinned (OpenSpec.upto coresShootSpec)

/-- 'seisinlaw7.CoresNone', WHERE WHAT IT READS IS OF BULK AT MOST 1048576: true; the input reads as it did. -/
def coresNoneUptoRow : OpenClaim := { program := "ytedapbliebiblaa", sum := "00811950dc2d892e6373487249db57db14fa0fecec2caab077ce578e8ed01770", func := "seisin/seisinlaw7.CoresNone", spec := "coresNone", unfollowed := true, recurses := true, apart := false, narrowed := true }
def CoresNoneUptoSaid : Prop := coresNoneUptoRow.holds Try.pinned (OpenSpec.upto coresNoneSpec)

/-- 'seisinlaw7.CoresOwn', WHERE WHAT IT READS IS OF BULK AT MOST 1048576: true; the input reads as it did. -/
def coresOwnUptoRow : OpenClaim := { program := "ytedapbliebiblaa", sum := "00811950dc2d892e6373487249db57db14fa0fecec2caab077ce578e8ed01770", func := "seisin/seisinlaw7.CoresOwn", spec := "coresOwn", unfollowed := true, recurses := true, apart := false, narrowed := true }
def CoresOwnUptoSaid : Prop := coresOwnUptoRow.holds Try.pinned (OpenSpec.upto coresOwnSpec)

/-- 'seisinlaw7.CoresDown', WHERE WHAT IT READS IS OF BULK AT MOST 1048576: true; the input reads as it did. -/
def coresDownUptoRow : OpenClaim := { program := "ytedapbliebiblaa", sum := "00811950dc2d892e6373487249db57db14fa0fecec2caab077ce578e8ed01770", func := "seisin/seisinlaw7.CoresDown", spec := "coresDown", unfollowed := true, recurses := true, apart := false, narrowed := true }
def CoresDownUptoSaid : Prop := coresDownUptoRow.holds Try.pinned (OpenSpec.upto coresDownSpec)

end Rows
end Go.Proofs.Ytedapbliebiblaa
