/- The slots of nodes: Get, Set, Size. -/
import Derived.Test.YtplanbihejodoaaDoorSlo3
namespace Go.Proofs.YtplanbihejodoaaDoor
set_option linter.unusedVariables false
set_option linter.unusedSimpArgs false
open Go.ChangeShapes Go.WideShapes Go.ChangeAt Go.RowKit Go.Shelf

theorem bs' {w W : World} (h : Below w.heap.size w W) (k j : Nat) (v : Value) : Below w.heap.size w (W.setCell ⟨w.heap.size + k, j, none⟩ v) := h.setCell (p := ⟨w.heap.size + k, j, none⟩) (by simp) v
set_option maxHeartbeats 1000000 in
theorem size_one (w : World) (b m : Nat) (a o r : Int) (h : SlAt w b m a o r) :
    Calls Tryd.prog 17 #[.pointer (some ⟨b, 0, none⟩), .int .i64 7] w fun e w' => e = .returned (.int .i64 2) ∧ Below w.heap.size w w' := by
  obtain ⟨g, c, h1, h2, h3, h4, h5, h6⟩ := h
  have HR := Lib.hid h2
  clear h2 h6
  go_enter Tryd.func17, Tryd.ntmps17
  go_wp2_with (first
    | (go_at_call 27; refine (get_one _ b m g c h5 h1 HR.out).mono ?_; rintro e w1 ⟨rfl, hb1⟩; have y2 := (HR.out.go hb1).2.1))
  go_ret
  exact ⟨rfl, hb1⟩
set_option maxHeartbeats 1000000 in
theorem get_slot (w : World) (b m : Nat) (h : SlAt w b m 8 3 7) :
    Calls Tryd.prog 13 #[.pointer (some ⟨b, 0, none⟩), .agg #[.int .i64 7, .int .i64 1]] w fun e w' => e = .returned (.tuple #[capE 8 3 7, .int .i64 0]) ∧ Below w.heap.size w w' := by
  have H := Lib.hid h
  clear h
  go_enter Tryd.func13, Tryd.ntmps13
  go_wp2_with (first
    | (go_at_call 30; refine (at_one _ b m 8 3 7 (H.out.call (bal (bal (Below.refl _ _) _) _))).mono ?_; rintro e w1 ⟨rfl, hb1⟩; have H1 := Lib.hid (H.out.call (bgo (bal (bal (Below.refl _ _) _) _) hb1)); obtain ⟨hc1, hf1⟩ := bcell hb1; have hz1 := hb1.size; have hz2 : w.heap.size + 1 < w1.heap.size := (by simp at hz1; omega); obtain ⟨k8, k9, k10, k11, k12, k13, k14, k15⟩ := H1.out.second))
  exact bodyPost_ret (v := .tuple #[capE 8 3 7, .int .i64 0]) (by simp [results, Tryd.results13, go_sem, hc1, hf1, hz2]) rfl ⟨rfl, bs' (bs' (bs' (bs' (bs' (bs' (bs' (bs' (bgo (bal (bal (Below.refl _ _) _) _) hb1) _ _ _) _ _ _) _ _ _) _ _ _) _ _ _) _ _ _) _ _ _) _ _ _⟩
end Go.Proofs.YtplanbihejodoaaDoor
