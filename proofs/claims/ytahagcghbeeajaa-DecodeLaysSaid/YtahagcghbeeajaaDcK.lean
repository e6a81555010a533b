/- The law DecodeBack, at the statement's arguments. -/
import Derived.Test.YtahagcghbeeajaaDcJ
namespace Go.Proofs.Ytahagcghbeeajaa
set_option linter.unusedVariables false
set_option linter.unusedSimpArgs false
open Go.ChangeShapes Go.WideShapes Go.ChangeAt Go.RowKit Go.Shelf

/-- The cells of an order. -/
def OrderX.o (x : OrderX) : Nat → Int
  | 0 => x.a | 1 => x.b | 2 => x.c | 3 => x.d | 4 => x.e | 5 => x.f | 6 => x.g | 7 => x.h | 8 => x.i | 9 => x.j | 10 => x.k | _ => x.l
theorem OrderX.val_eq (x : OrderX) : x.val = .agg (ordA x.o) := rfl
theorem walk_decodeBack (a0 : CallX) (w0 : a0.Ok) (a1 : OrderX) (w1 : a1.Ok) (W : World) :
    Calls Try.prog 5 #[a0.val, a1.val] W fun e w' => e = .returned (.bool true) ∧ Below W.heap.size W w' := by
  obtain ⟨n, hn⟩ := Int.eq_ofNat_of_zero_le w0.1.1
  rw [a0.val_eq n hn, a1.val_eq]
  exact back_any n a0.w a1.o (by have := w0.1.2; omega) w0.words W
end Go.Proofs.Ytahagcghbeeajaa
