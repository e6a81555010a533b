/- Two lists of words compared; stores and loads at an address. -/
import Derived.Test.YtgfidbjhihignaaPwMem2
import Derived.Deep.MidRow
import Derived.Lib.SliceRun
import Derived.StillTailTactics
import Derived.Deep.QuietTactic
import Derived.BigQuiet
import Derived.Maps.AppendAt
import Derived.Deep.RegionHeld3
namespace Go.Proofs.Ytgfidbjhihignaa
set_option linter.unusedVariables false
set_option linter.unusedSimpArgs false
open Go.ChangeShapes Go.WideShapes Go.ChangeAt Go.RowKit

open Go.Shelf
def I64 (n : Int) : Prop := -9223372036854775808 ≤ n ∧ n ≤ 9223372036854775807
theorem i64_of {n : Int} (h : (Lit.int .i64 n).wf = true) : I64 n := by
  simp [Lit.wf, IntKind.min, IntKind.max, IntKind.signed, IntKind.bits] at h
  exact ⟨by omega, by omega⟩
theorem u64_of {n : Int} (h : (Lit.int .u64 n).wf = true) : WordI n := by
  simp [Lit.wf, IntKind.min, IntKind.max, IntKind.signed, IntKind.bits] at h
  exact ⟨by omega, by omega⟩
theorem same_any (w : World) (g1 g2 n c1 c2 : Nat) (m : Nat → Int) (hn : n ≤ 512) (h1 : ∀ j, j < n → w.cell? ⟨g1, j, none⟩ = some (.int .u64 (m j))) (h2 : ∀ j, j < n → w.cell? ⟨g2, j, none⟩ = some (.int .u64 (m j))) :
    Calls Try.prog 36 #[.slice (some ⟨g1, 0, none⟩) n c1, .slice (some ⟨g2, 0, none⟩) n c2] w fun e w' => e = .returned (.bool true) ∧ Below w.heap.size w w' := by
  have H1 := Lib.hid h1
  have H2 := Lib.hid h2
  clear h1 h2
  go_enter Try.func36, Try.ntmps36
  go_wp2
  go_loopw [5] (fun i wr => ∃ k q : Nat, k ≤ n ∧ i = .int .i64 k ∧ wr = w.drewN q) (fun i _ => n - (intOf i).toNat)
  case atStart => exact ⟨0, 0, by omega, rfl, rfl⟩
  case round =>
    obtain ⟨k, q, hk, rfl, rfl⟩ := hrel
    by_cases hlt : k < n
    · have hlt' : (k : Int) < n := by omega
      have d1 := H1.out k hlt
      have d2 := H2.out k hlt
      go_wp2
      go_quiet (fail)
      all_goals go_wp2
      all_goals go_roundw
      case rel => exact ⟨k + 1, _, by omega, by go_num, by first | rfl | simp⟩
      case measure => simp [intOf]; omega
    · obtain rfl : k = n := by omega
      go_wp2
      go_ret
      exact ⟨rfl, below_drewN (Below.refl _ _) _⟩
theorem store_at (w : World) (b g n c : Nat) (m : Nat → Int) (a : Int) (k : Nat) (v : Int) (h : MemAt w b g n c m) (ha : a = 8 * (k : Int)) (hk : k < 8 * n) (hv : WordI v) :
    Calls Try.prog 12 #[.pointer (some ⟨b, 0, none⟩), .int .u64 a, .int .u64 v] w fun e w' => e = .returned (.int .i64 0) ∧ MemAt w' b g n c (updM m k v) ∧ BlkOnly g w w' := by
  subst ha
  exact store_ok w b g n c m k v h hk hv
theorem load_at (w : World) (b g n c : Nat) (m : Nat → Int) (a : Int) (k : Nat) (h : MemAt w b g n c m) (ha : a = 8 * (k : Int)) (hk : k < 8 * n) :
    Calls Try.prog 20 #[.pointer (some ⟨b, 0, none⟩), .int .u64 a] w fun e w' => e = .returned (.tuple #[.int .u64 (m k), .int .i64 0]) ∧ w = w' := by
  subst ha
  exact load_ok w b g n c m k h hk
end Go.Proofs.Ytgfidbjhihignaa
