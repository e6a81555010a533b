/-
  NARROWER THAN 'FOR EVERY INPUT', by the rows' own cells (each row's printed sentence says how): PteLays: laid · PteReads: laid · PteBack: laid · PteTurned: laid · VaddrJoins: laid · VaddrBack: laid.
  DERIVED. THE GIVEN ROWS OF THIS SEAT. 6 by the template 'for every input the law returns true; each argument reads behind the call as it read before'; 0 by the template 'total and deterministic' (their statements: YtdmlcbbheabdpaaDoorTotals.lean).
  GIVEN WITH THE SEED: the statements are not yours to turn. If you find one false, say at which input.
  Laid BY PROGRAM, IN A SANDBOX (cutbox-rows.mjs): the forced cells as the released guide's own fill.sh prints them over the translation 3530d6efa85f439a… (all of the seat's roots in one cut). By AI agents, Wed Nov 11 2026. No macro, syntax, notation, axiom, sorry.
-/
import Derived.Test.YtdmlcbbheabdpaaDoorChecked
import GoSem.Claim
import GoSem.ClaimJoined
import GoSem.ClaimMapViews
import Derived.JoinedTies
import Derived.KernelRfl
namespace Go.Proofs.YtdmlcbbheabdpaaDoor
/- THE CELL 'sum', in the pinned program and in every row, IS THE sha256 OF THE DUMP (.gsa) THAT YtdmlcbbheabdpaaDoorProg.lean LOADS. Nothing in Lean hashes anything: it is a label: what it is worth is what the hold of that sum in a sandbox is worth. -/
noncomputable def Tryd.pinned : Pinned := { name := "ytdmlcbbheabdpaadoor", sum := "3530d6efa85f439a6919b05a30f62ed4d31c2b7a16bf814326414d9eddb27b83", checked := Tryd.checked }
namespace Rows
def none {H : Type} : Left H := { results := [], args := [] }

/- WHAT THE LISTED PACKAGE-LEVEL VARIABLES READ AS WHEN THE CALL BEGINS. Each datum BY PROGRAM (the guide's laid-datum.mjs) off the statement by which the dump's own 'gosem.cut.vars' lays the variable. In a bare row this is a premise. The card (YtdmlcbbheabdpaaDoorCards.lean) ties it to the program's text. -/
def laid_math_bits_deBruijn64tab {H : Type} : DataW H := .agg [.lit (.int .u8 0), .lit (.int .u8 1), .lit (.int .u8 56), .lit (.int .u8 2), .lit (.int .u8 57), .lit (.int .u8 49), .lit (.int .u8 28), .lit (.int .u8 3), .lit (.int .u8 61), .lit (.int .u8 58), .lit (.int .u8 42), .lit (.int .u8 50), .lit (.int .u8 38), .lit (.int .u8 29), .lit (.int .u8 17), .lit (.int .u8 4), .lit (.int .u8 62), .lit (.int .u8 47), .lit (.int .u8 59), .lit (.int .u8 36), .lit (.int .u8 45), .lit (.int .u8 43), .lit (.int .u8 51), .lit (.int .u8 22), .lit (.int .u8 53), .lit (.int .u8 39), .lit (.int .u8 33), .lit (.int .u8 30), .lit (.int .u8 24), .lit (.int .u8 18), .lit (.int .u8 12), .lit (.int .u8 5), .lit (.int .u8 63), .lit (.int .u8 55), .lit (.int .u8 48), .lit (.int .u8 27), .lit (.int .u8 60), .lit (.int .u8 41), .lit (.int .u8 37), .lit (.int .u8 16), .lit (.int .u8 46), .lit (.int .u8 35), .lit (.int .u8 44), .lit (.int .u8 21), .lit (.int .u8 52), .lit (.int .u8 32), .lit (.int .u8 23), .lit (.int .u8 11), .lit (.int .u8 54), .lit (.int .u8 26), .lit (.int .u8 40), .lit (.int .u8 15), .lit (.int .u8 34), .lit (.int .u8 20), .lit (.int .u8 31), .lit (.int .u8 10), .lit (.int .u8 25), .lit (.int .u8 14), .lit (.int .u8 19), .lit (.int .u8 9), .lit (.int .u8 13), .lit (.int .u8 8), .lit (.int .u8 7), .lit (.int .u8 6)]

/-- 'seisinlaw3.PteLays': WHATEVER THE INPUT: true; the input reads as it did. -/
def pteLaysSpec : ChangeSpec := { name := "pteLays", fn := fun _ => fun
  | [d] => { results := [.lit (.bool true)], args := [d] }
  | _ => none }
def pteLaysRow : OpenClaim := { program := "ytdmlcbbheabdpaadoor", sum := "3530d6efa85f439a6919b05a30f62ed4d31c2b7a16bf814326414d9eddb27b83", func := "seisin/seisinlaw3.PteLays", spec := "pteLays", unfollowed := true, recurses := true, named := ["math/bits.deBruijn64tab"], apart := false, laid := [("math/bits.deBruijn64tab", laid_math_bits_deBruijn64tab)] }
def PteLaysSaid : Prop := pteLaysRow.holds Tryd.pinned (OpenSpec.ofChange pteLaysSpec)

/-- ITS FALSE NEIGHBOUR: 'it returns false'. Refute it at one input. -/
def pteLaysWrong : ChangeSpec := { name := "pteLays", fn := fun _ => fun
  | [d] => { results := [.lit (.bool false)], args := [d] }
  | _ => none }
def PteLaysWrongFalsely : Prop := pteLaysRow.holds Tryd.pinned (OpenSpec.ofChange pteLaysWrong)

/-- 'seisinlaw3.PteReads': WHATEVER THE INPUT: true; the input reads as it did. -/
def pteReadsSpec : ChangeSpec := { name := "pteReads", fn := fun _ => fun
  | [d] => { results := [.lit (.bool true)], args := [d] }
  | _ => none }
def pteReadsRow : OpenClaim := { program := "ytdmlcbbheabdpaadoor", sum := "3530d6efa85f439a6919b05a30f62ed4d31c2b7a16bf814326414d9eddb27b83", func := "seisin/seisinlaw3.PteReads", spec := "pteReads", unfollowed := true, recurses := true, named := ["math/bits.deBruijn64tab"], apart := false, laid := [("math/bits.deBruijn64tab", laid_math_bits_deBruijn64tab)] }
def PteReadsSaid : Prop := pteReadsRow.holds Tryd.pinned (OpenSpec.ofChange pteReadsSpec)

/-- ITS FALSE NEIGHBOUR: 'it returns false'. Refute it at one input. -/
def pteReadsWrong : ChangeSpec := { name := "pteReads", fn := fun _ => fun
  | [d] => { results := [.lit (.bool false)], args := [d] }
  | _ => none }
def PteReadsWrongFalsely : Prop := pteReadsRow.holds Tryd.pinned (OpenSpec.ofChange pteReadsWrong)

/-- 'seisinlaw3.PteBack': WHATEVER THE INPUT: true; the input reads as it did. -/
def pteBackSpec : ChangeSpec := { name := "pteBack", fn := fun _ => fun
  | [d1, d2] => { results := [.lit (.bool true)], args := [d1, d2] }
  | _ => none }
def pteBackRow : OpenClaim := { program := "ytdmlcbbheabdpaadoor", sum := "3530d6efa85f439a6919b05a30f62ed4d31c2b7a16bf814326414d9eddb27b83", func := "seisin/seisinlaw3.PteBack", spec := "pteBack", unfollowed := true, recurses := true, named := ["math/bits.deBruijn64tab"], apart := false, laid := [("math/bits.deBruijn64tab", laid_math_bits_deBruijn64tab)] }
def PteBackSaid : Prop := pteBackRow.holds Tryd.pinned (OpenSpec.ofChange pteBackSpec)

/-- ITS FALSE NEIGHBOUR: 'it returns false'. Refute it at one input. -/
def pteBackWrong : ChangeSpec := { name := "pteBack", fn := fun _ => fun
  | [d1, d2] => { results := [.lit (.bool false)], args := [d1, d2] }
  | _ => none }
def PteBackWrongFalsely : Prop := pteBackRow.holds Tryd.pinned (OpenSpec.ofChange pteBackWrong)

/-- 'seisinlaw3.PteTurned': WHATEVER THE INPUT: true; the input reads as it did. -/
def pteTurnedSpec : ChangeSpec := { name := "pteTurned", fn := fun _ => fun
  | [d1, d2] => { results := [.lit (.bool true)], args := [d1, d2] }
  | _ => none }
def pteTurnedRow : OpenClaim := { program := "ytdmlcbbheabdpaadoor", sum := "3530d6efa85f439a6919b05a30f62ed4d31c2b7a16bf814326414d9eddb27b83", func := "seisin/seisinlaw3.PteTurned", spec := "pteTurned", unfollowed := true, recurses := true, named := ["math/bits.deBruijn64tab"], apart := false, laid := [("math/bits.deBruijn64tab", laid_math_bits_deBruijn64tab)] }
def PteTurnedSaid : Prop := pteTurnedRow.holds Tryd.pinned (OpenSpec.ofChange pteTurnedSpec)

/-- ITS FALSE NEIGHBOUR: 'it returns false'. Refute it at one input. -/
def pteTurnedWrong : ChangeSpec := { name := "pteTurned", fn := fun _ => fun
  | [d1, d2] => { results := [.lit (.bool false)], args := [d1, d2] }
  | _ => none }
def PteTurnedWrongFalsely : Prop := pteTurnedRow.holds Tryd.pinned (OpenSpec.ofChange pteTurnedWrong)

/-- 'seisinlaw4.VaddrJoins': WHATEVER THE INPUT: true; the input reads as it did. -/
def vaddrJoinsSpec : ChangeSpec := { name := "vaddrJoins", fn := fun _ => fun
  | [d1, d2, d3] => { results := [.lit (.bool true)], args := [d1, d2, d3] }
  | _ => none }
def vaddrJoinsRow : OpenClaim := { program := "ytdmlcbbheabdpaadoor", sum := "3530d6efa85f439a6919b05a30f62ed4d31c2b7a16bf814326414d9eddb27b83", func := "seisin/seisinlaw4.VaddrJoins", spec := "vaddrJoins", unfollowed := true, recurses := true, named := ["math/bits.deBruijn64tab"], apart := false, laid := [("math/bits.deBruijn64tab", laid_math_bits_deBruijn64tab)] }
def VaddrJoinsSaid : Prop := vaddrJoinsRow.holds Tryd.pinned (OpenSpec.ofChange vaddrJoinsSpec)

/-- ITS FALSE NEIGHBOUR: 'it returns false'. Refute it at one input. -/
def vaddrJoinsWrong : ChangeSpec := { name := "vaddrJoins", fn := fun _ => fun
  | [d1, d2, d3] => { results := [.lit (.bool false)], args := [d1, d2, d3] }
  | _ => none }
def VaddrJoinsWrongFalsely : Prop := vaddrJoinsRow.holds Tryd.pinned (OpenSpec.ofChange vaddrJoinsWrong)

/-- 'seisinlaw4.VaddrBack': WHATEVER THE INPUT: true; the input reads as it did. -/
def vaddrBackSpec : ChangeSpec := { name := "vaddrBack", fn := fun _ => fun
  | [d1, d2] => { results := [.lit (.bool true)], args := [d1, d2] }
  | _ => none }
def vaddrBackRow : OpenClaim := { program := "ytdmlcbbheabdpaadoor", sum := "3530d6efa85f439a6919b05a30f62ed4d31c2b7a16bf814326414d9eddb27b83", func := "seisin/seisinlaw4.VaddrBack", spec := "vaddrBack", unfollowed := true, recurses := true, named := ["math/bits.deBruijn64tab"], apart := false, laid := [("math/bits.deBruijn64tab", laid_math_bits_deBruijn64tab)] }
def VaddrBackSaid : Prop := vaddrBackRow.holds Tryd.pinned (OpenSpec.ofChange vaddrBackSpec)

/-- ITS FALSE NEIGHBOUR: 'it returns false'. Refute it at one input. -/
def vaddrBackWrong : ChangeSpec := { name := "vaddrBack", fn := fun _ => fun
  | [d1, d2] => { results := [.lit (.bool false)], args := [d1, d2] }
  | _ => none }
def VaddrBackWrongFalsely : Prop := vaddrBackRow.holds Tryd.pinned (OpenSpec.ofChange vaddrBackWrong)

/- THE SECOND FORM. 'bulk': how many values and letters a reading holds, each counted each time it is reached (what is shared counts as often as it is met; a slice's spare places count too). A statement '..UptoSaid' is the law's where the arguments, and the package variables that the reading takes, are together of bulk at most 1048576: NARROWER than '..Said'. Prove '..Said' where nothing that the law and all that it calls make is longer than what came in: it says more and counts as full. Else prove '..UptoSaid'. A law counts once. -/
mutual
def uptoBulk {H : Type} : DataW H → Nat
  | .lit (.string bytes) => bytes.length + 1
  | .lit _ => 1
  | .nil => 1
  | .ptr d => uptoBulk d + 1
  | .slice elems spare => uptoBulkAll elems + uptoBulkAll spare + 1
  | .agg parts => uptoBulkAll parts + 1
  | .iface _ d => uptoBulk d + 1
  | .map entries => uptoBulkEntries entries + 1
  | .held _ => 1
def uptoBulkAll {H : Type} : List (DataW H) → Nat
  | [] => 0
  | d :: r => uptoBulk d + uptoBulkAll r
def uptoBulkEntries {H : Type} : List (Lit × DataW H) → Nat
  | [] => 0
  | x :: r => uptoBulkEntry x + uptoBulkEntries r
def uptoBulkEntry {H : Type} : Lit × DataW H → Nat
  | (.string bytes, d) => bytes.length + uptoBulk d + 1
  | (_, d) => uptoBulk d + 1
 end
def uptoSmall : (H : Type) → List (DataW H) → Bool := fun _ ds => decide (uptoBulkAll ds ≤ 1048576)
def OpenSpec.upto (s : _root_.Go.ChangeSpec) : _root_.Go.OpenSpec := { _root_.Go.OpenSpec.ofChange s with cond := some uptoSmall }

/-- 'seisinlaw3.PteLays', WHERE WHAT IT READS IS OF BULK AT MOST 1048576: true; the input reads as it did. -/
def pteLaysUptoRow : OpenClaim := { program := "ytdmlcbbheabdpaadoor", sum := "3530d6efa85f439a6919b05a30f62ed4d31c2b7a16bf814326414d9eddb27b83", func := "seisin/seisinlaw3.PteLays", spec := "pteLays", unfollowed := true, recurses := true, named := ["math/bits.deBruijn64tab"], apart := false, laid := [("math/bits.deBruijn64tab", laid_math_bits_deBruijn64tab)], narrowed := true }
def PteLaysUptoSaid : Prop := pteLaysUptoRow.holds Tryd.pinned (OpenSpec.upto pteLaysSpec)

/-- 'seisinlaw3.PteReads', WHERE WHAT IT READS IS OF BULK AT MOST 1048576: true; the input reads as it did. -/
def pteReadsUptoRow : OpenClaim := { program := "ytdmlcbbheabdpaadoor", sum := "3530d6efa85f439a6919b05a30f62ed4d31c2b7a16bf814326414d9eddb27b83", func := "seisin/seisinlaw3.PteReads", spec := "pteReads", unfollowed := true, recurses := true, named := ["math/bits.deBruijn64tab"], apart := false, laid := [("math/bits.deBruijn64tab", laid_math_bits_deBruijn64tab)], narrowed := true }
def PteReadsUptoSaid : Prop := pteReadsUptoRow.holds Tryd.pinned (OpenSpec.upto pteReadsSpec)

/-- 'seisinlaw3.PteBack', WHERE WHAT IT READS IS OF BULK AT MOST 1048576: true; the input reads as it did. -/
def pteBackUptoRow : OpenClaim := { program := "ytdmlcbbheabdpaadoor", sum := "3530d6efa85f439a6919b05a30f62ed4d31c2b7a16bf814326414d9eddb27b83", func := "seisin/seisinlaw3.PteBack", spec := "pteBack", unfollowed := true, recurses := true, named := ["math/bits.deBruijn64tab"], apart := false, laid := [("math/bits.deBruijn64tab", laid_math_bits_deBruijn64tab)], narrowed := true }
def PteBackUptoSaid : Prop := pteBackUptoRow.holds Tryd.pinned (OpenSpec.upto pteBackSpec)

/-- 'seisinlaw3.PteTurned', WHERE WHAT IT READS IS OF BULK AT MOST 1048576: true; the input reads as it did. -/
def pteTurnedUptoRow : OpenClaim := { program := "ytdmlcbbheabdpaadoor", sum := "3530d6efa85f439a6919b05a30f62ed4d31c2b7a16bf814326414d9eddb27b83", func := "seisin/seisinlaw3.PteTurned", spec := "pteTurned", unfollowed := true, recurses := true, named := ["math/bits.deBruijn64tab"], apart := false, laid := [("math/bits.deBruijn64tab", laid_math_bits_deBruijn64tab)], narrowed := true }
def PteTurnedUptoSaid : Prop := pteTurnedUptoRow.holds Tryd.pinned (OpenSpec.upto pteTurnedSpec)

/-- 'seisinlaw4.VaddrJoins', WHERE WHAT IT READS IS OF BULK AT MOST 1048576: true; the input reads as it did. -/
def vaddrJoinsUptoRow : OpenClaim := { program := "ytdmlcbbheabdpaadoor", sum := "3530d6efa85f439a6919b05a30f62ed4d31c2b7a16bf814326414d9eddb27b83", func := "seisin/seisinlaw4.VaddrJoins", spec := "vaddrJoins", unfollowed := true, recurses := true, named := ["math/bits.deBruijn64tab"], apart := false, laid := [("math/bits.deBruijn64tab", laid_math_bits_deBruijn64tab)], narrowed := true }
def VaddrJoinsUptoSaid : Prop := vaddrJoinsUptoRow.holds Tryd.pinned (OpenSpec.upto vaddrJoinsSpec)

/-- 'seisinlaw4.VaddrBack', WHERE WHAT IT READS IS OF BULK AT MOST 1048576: true; the input reads as it did. -/
def vaddrBackUptoRow : OpenClaim := { program := "ytdmlcbbheabdpaadoor", sum := "3530d6efa85f439a6919b05a30f62ed4d31c2b7a16bf814326414d9eddb27b83", func := "seisin/seisinlaw4.VaddrBack", spec := "vaddrBack", unfollowed := true, recurses := true, named := ["math/bits.deBruijn64tab"], apart := false, laid := [("math/bits.deBruijn64tab", laid_math_bits_deBruijn64tab)], narrowed := true }
def VaddrBackUptoSaid : Prop := vaddrBackUptoRow.holds Tryd.pinned (OpenSpec.upto vaddrBackSpec)

end Rows
end Go.Proofs.YtdmlcbbheabdpaaDoor
