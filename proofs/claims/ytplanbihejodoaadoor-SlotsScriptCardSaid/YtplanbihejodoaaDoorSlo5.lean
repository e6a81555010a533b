/- The slots of nodes: Set. -/
import Derived.Test.YtplanbihejodoaaDoorSlo4
namespace Go.Proofs.YtplanbihejodoaaDoor
set_option linter.unusedVariables false
set_option linter.unusedSimpArgs false
open Go.ChangeShapes Go.WideShapes Go.ChangeAt Go.RowKit Go.Shelf

theorem setE_def (w : World) (m : Nat) : setE w m = (((((((w.setCell ⟨m, 8, none⟩ (.int .i64 8)).setCell ⟨m, 9, none⟩ (.int .i64 3)).setCell ⟨m, 10, none⟩ (.int .i64 7)).setCell ⟨m, 11, none⟩ (.int .u64 0)).setCell ⟨m, 12, none⟩ (.int .i64 0)).setCell ⟨m, 13, none⟩ (.int .i64 0)).setCell ⟨m, 14, none⟩ (.int .i64 0)).setCell ⟨m, 15, none⟩ (.int .i64 0) := rfl
set_option maxRecDepth 100000 in
set_option maxHeartbeats 1000000 in
theorem set_one (w : World) (b m B : Nat) (hB : B ≤ m) (h : SlAt w b m 0 0 0) :
    Calls Tryd.prog 15 #[.pointer (some ⟨b, 0, none⟩), .agg #[.int .i64 7, .int .i64 1], capE 8 3 7] w fun e w' => e = .returned (.int .i64 0) ∧ SlAt w' b m 8 3 7 ∧ Below B w w' := by
  have H := Lib.hid h
  have hml := h.mlt
  clear h
  go_enter Tryd.func15, Tryd.ntmps15
  go_wp2_with (first
    | (go_at_call 30; refine (at_one _ b m 0 0 0 (H.out.call (bal (bal (Below.refl _ _) _) _))).mono ?_; rintro e w1 ⟨rfl, hb1⟩; have H1 := Lib.hid (H.out.call (bgo (bal (bal (Below.refl _ _) _) _) hb1)); obtain ⟨hc1, hf1⟩ := bcell hb1; have hz1 := hb1.size; have hz2 : w.heap.size + 1 < w1.heap.size := (by simp at hz1; omega))
    | (go_at_call 24; refine (may_e _).mono ?_; rintro e w2 ⟨rfl, hb2⟩; have H2 := Lib.hid (H1.out.call hb2); obtain ⟨hc2, hf2⟩ := bcell hb2; have hz3 := hb2.size; obtain ⟨k8, k9, k10, k11, k12, k13, k14, k15⟩ := H2.out.second; have f8 := H2.out.free 8; have f9 := H2.out.free 9; have f10 := H2.out.free 10; have f11 := H2.out.free 11; have f12 := H2.out.free 12; have f13 := H2.out.free 13; have f14 := H2.out.free 14; have f15 := H2.out.free 15; have hz4 : m < w2.heap.size := H2.out.mlt))
  go_ret
  have hs := setE_at (B := B) H2.out hB
  rw [setE_def] at hs
  exact ⟨rfl, hs.1, Below.trans ((bgo (bgo (bal (bal (Below.refl w.heap.size w) _) _) hb1) hb2).mono (by omega)) hs.2⟩
end Go.Proofs.YtplanbihejodoaaDoor
