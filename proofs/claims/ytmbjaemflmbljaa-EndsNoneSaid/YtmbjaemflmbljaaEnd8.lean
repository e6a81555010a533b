/- The endpoints: Wait of the other kind. -/
import Derived.Test.YtmbjaemflmbljaaEnd7
namespace Go.Proofs.Ytmbjaemflmbljaa
set_option linter.unusedVariables false
set_option linter.unusedSimpArgs false
open Go.ChangeShapes Go.WideShapes Go.ChangeAt Go.RowKit Go.Shelf

theorem find_miss_any (w : World) (b g c : Nat) (p : Option Addr) (n cc : Nat) (sd : Bool) (k : Int) (h : EndAt w b g c p n cc sd) (hx : ∀ W, Below w.heap.size w W → Calls Try.prog 37 #[.slice p n cc, .int .i64 k] W fun e w' => e = .returned (.int .i64 (-1)) ∧ W = w') :
    Calls Try.prog 29 #[.pointer (some ⟨b, 0, none⟩), .int .i64 k] w fun e W' => e = .returned (.tuple #[.pointer none, .int .i64 0, .bool false]) ∧ Below w.heap.size w W' := callsIn_wide.1 (find_miss w b g c p n cc sd k h hx)
set_option maxRecDepth 100000 in
set_option maxHeartbeats 1000000 in
theorem wait_busy (w : World) (b g c t cc : Nat) (h : EndAt w b g c (some ⟨t, 0, none⟩) 1 cc true) (hv : w.cell? ⟨t, 0, none⟩ = some (.int .i64 1)) (ht : t < w.heap.size) :
    Calls Try.prog 16 #[.pointer (some ⟨b, 0, none⟩), .int .i64 6, .int .i64 2, .bool false] w fun e w' => e = .returned (.int .i64 16) ∧ Below w.heap.size w w' := by
  have H := Lib.hid h
  have hlt := h.lt
  have HT := Lib.hid h.tab
  have HR := Lib.hid h.row
  have HV := Lib.hid hv
  clear h hv
  go_enter Try.func16, Try.ntmps16
  go_wp2_with (first
    | (go_at_call 28; refine (get_one _ b g c _ _ _ _ hlt HT.out HR.out).mono ?_; rintro e w1 ⟨rfl, hb1⟩; have H1 := Lib.hid (H.out.call hb1); have HB1 := Lib.hid hb1; clear hb1)
    | (go_at_call 29; refine (find_miss_any _ b g c _ _ _ _ 2 H1.out (fun W hW => idx_one W t cc 1 2 (((bgo HB1.out hW).cell (p := ⟨t, 0, none⟩) ht).trans HV.out) (by omega))).mono ?_; rintro e w2 ⟨rfl, hb2⟩; have x1 := (H1.out.call hb2).row.2.1; have x2 := (H1.out.call hb2).row.2.2.1))
  go_ret
  exact ⟨rfl, bgo HB1.out hb2⟩
end Go.Proofs.Ytmbjaemflmbljaa
