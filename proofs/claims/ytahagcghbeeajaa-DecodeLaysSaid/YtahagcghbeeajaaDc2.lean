/- package decode: get. -/
import Derived.Test.YtahagcghbeeajaaDc1
namespace Go.Proofs.Ytahagcghbeeajaa
set_option linter.unusedVariables false
set_option linter.unusedSimpArgs false
open Go.ChangeShapes Go.WideShapes Go.ChangeAt Go.RowKit

def getF (p : Nat) (o : Nat → Int) : Int :=
  match p with
  | 0 => 0
  | 1 => IntKind.u64.wrap (o 1)
  | 2 => IntKind.u64.wrap (o 2)
  | 3 => IntKind.u64.wrap (o 4)
  | 4 => IntKind.u64.wrap (o 5)
  | 5 => (IntKind.u64.wrap (o 6)).tmod 16
  | 6 => IntKind.u64.wrap ((IntKind.u64.wrap (o 6)).tdiv 16)
  | p + 7 => o (7 + p)
set_option maxHeartbeats 1000000 in
theorem get_1 (w : World) (o : Nat → Int) :
    Calls Try.prog 22 #[.agg (ordA o), .int .i64 1] w fun e w' => e = .returned (.int .u64 (getF 1 o)) ∧ Below w.heap.size w w' := by
  unfold ordA
  go_enter Try.func22, Try.ntmps22
  go_wp2
  go_ret
  exact ⟨rfl, bal (Below.refl _ _) _⟩
set_option maxHeartbeats 1000000 in
theorem get_2 (w : World) (o : Nat → Int) :
    Calls Try.prog 22 #[.agg (ordA o), .int .i64 2] w fun e w' => e = .returned (.int .u64 (getF 2 o)) ∧ Below w.heap.size w w' := by
  unfold ordA
  go_enter Try.func22, Try.ntmps22
  go_wp2
  go_ret
  exact ⟨rfl, bal (Below.refl _ _) _⟩
set_option maxHeartbeats 1000000 in
theorem get_3 (w : World) (o : Nat → Int) :
    Calls Try.prog 22 #[.agg (ordA o), .int .i64 3] w fun e w' => e = .returned (.int .u64 (getF 3 o)) ∧ Below w.heap.size w w' := by
  unfold ordA
  go_enter Try.func22, Try.ntmps22
  go_wp2
  go_ret
  exact ⟨rfl, bal (Below.refl _ _) _⟩
set_option maxHeartbeats 1000000 in
theorem get_4 (w : World) (o : Nat → Int) :
    Calls Try.prog 22 #[.agg (ordA o), .int .i64 4] w fun e w' => e = .returned (.int .u64 (getF 4 o)) ∧ Below w.heap.size w w' := by
  unfold ordA
  go_enter Try.func22, Try.ntmps22
  go_wp2
  go_ret
  exact ⟨rfl, bal (Below.refl _ _) _⟩
set_option maxHeartbeats 1000000 in
theorem get_5 (w : World) (o : Nat → Int) :
    Calls Try.prog 22 #[.agg (ordA o), .int .i64 5] w fun e w' => e = .returned (.int .u64 (getF 5 o)) ∧ Below w.heap.size w w' := by
  unfold ordA
  go_enter Try.func22, Try.ntmps22
  go_wp2
  go_ret
  exact ⟨rfl, bal (Below.refl _ _) _⟩
set_option maxHeartbeats 1000000 in
theorem get_6 (w : World) (o : Nat → Int) :
    Calls Try.prog 22 #[.agg (ordA o), .int .i64 6] w fun e w' => e = .returned (.int .u64 (getF 6 o)) ∧ Below w.heap.size w w' := by
  unfold ordA
  go_enter Try.func22, Try.ntmps22
  go_wp2
  go_ret
  exact ⟨rfl, bal (Below.refl _ _) _⟩
set_option maxHeartbeats 1000000 in
theorem get_7 (w : World) (o : Nat → Int) :
    Calls Try.prog 22 #[.agg (ordA o), .int .i64 7] w fun e w' => e = .returned (.int .u64 (getF 7 o)) ∧ Below w.heap.size w w' := by
  unfold ordA
  go_enter Try.func22, Try.ntmps22
  go_wp2
  go_ret
  exact ⟨rfl, bal (Below.refl _ _) _⟩
set_option maxHeartbeats 1000000 in
theorem get_8 (w : World) (o : Nat → Int) :
    Calls Try.prog 22 #[.agg (ordA o), .int .i64 8] w fun e w' => e = .returned (.int .u64 (getF 8 o)) ∧ Below w.heap.size w w' := by
  unfold ordA
  go_enter Try.func22, Try.ntmps22
  go_wp2
  go_ret
  exact ⟨rfl, bal (Below.refl _ _) _⟩
set_option maxHeartbeats 1000000 in
theorem get_9 (w : World) (o : Nat → Int) :
    Calls Try.prog 22 #[.agg (ordA o), .int .i64 9] w fun e w' => e = .returned (.int .u64 (getF 9 o)) ∧ Below w.heap.size w w' := by
  unfold ordA
  go_enter Try.func22, Try.ntmps22
  go_wp2
  go_ret
  exact ⟨rfl, bal (Below.refl _ _) _⟩
set_option maxHeartbeats 1000000 in
theorem get_10 (w : World) (o : Nat → Int) :
    Calls Try.prog 22 #[.agg (ordA o), .int .i64 10] w fun e w' => e = .returned (.int .u64 (getF 10 o)) ∧ Below w.heap.size w w' := by
  unfold ordA
  go_enter Try.func22, Try.ntmps22
  go_wp2
  go_ret
  exact ⟨rfl, bal (Below.refl _ _) _⟩
set_option maxHeartbeats 1000000 in
theorem get_11 (w : World) (o : Nat → Int) :
    Calls Try.prog 22 #[.agg (ordA o), .int .i64 11] w fun e w' => e = .returned (.int .u64 (getF 11 o)) ∧ Below w.heap.size w w' := by
  unfold ordA
  go_enter Try.func22, Try.ntmps22
  go_wp2
  go_ret
  exact ⟨rfl, bal (Below.refl _ _) _⟩
end Go.Proofs.Ytahagcghbeeajaa
