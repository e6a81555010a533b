/- Two lists of words compared; stores and loads at an address. -/
import Derived.Test.YtedapbliebiblaaPwMem2
import Derived.Deep.MidRow
import Derived.Lib.SliceRun
import Derived.StillTailTactics
import Derived.Deep.QuietTactic
import Derived.BigQuiet
import Derived.Maps.AppendAt
import Derived.Deep.RegionHeld3
namespace Go.Proofs.Ytedapbliebiblaa
set_option linter.unusedVariables false
set_option linter.unusedSimpArgs false
open Go.ChangeShapes Go.WideShapes Go.ChangeAt Go.RowKit

open Go.Shelf
def I64 (n : Int) : Prop := -9223372036854775808 ≤ n ∧ n ≤ 9223372036854775807
theorem i64_of {n : Int} (h : (Lit.int .i64 n).wf = true) : I64 n := by
  simp [Lit.wf, IntKind.min, IntKind.max, IntKind.signed, IntKind.bits] at h
  exact ⟨by omega, by omega⟩
theorem u64_of {n : Int} (h : (Lit.int .u64 n).wf = true) : WordI n := by
  simp [Lit.wf, IntKind.min, IntKind.max, IntKind.signed, IntKind.bits] at h
  exact ⟨by omega, by omega⟩
theorem store_at (w : World) (b g n c : Nat) (m : Nat → Int) (a : Int) (k : Nat) (v : Int) (h : MemAt w b g n c m) (ha : a = 8 * (k : Int)) (hk : k < 8 * n) (hv : WordI v) :
    Calls Try.prog 15 #[.pointer (some ⟨b, 0, none⟩), .int .u64 a, .int .u64 v] w fun e w' => e = .returned (.int .i64 0) ∧ MemAt w' b g n c (updM m k v) ∧ BlkOnly g w w' := by
  subst ha
  exact store_ok w b g n c m k v h hk hv
theorem load_at (w : World) (b g n c : Nat) (m : Nat → Int) (a : Int) (k : Nat) (h : MemAt w b g n c m) (ha : a = 8 * (k : Int)) (hk : k < 8 * n) :
    Calls Try.prog 64 #[.pointer (some ⟨b, 0, none⟩), .int .u64 a] w fun e w' => e = .returned (.tuple #[.int .u64 (m k), .int .i64 0]) ∧ w = w' := by
  subst ha
  exact load_ok w b g n c m k h hk
end Go.Proofs.Ytedapbliebiblaa
