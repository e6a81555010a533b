/- package arena: Add. -/
import Derived.Test.YtkladhbamkomnaaAr2
namespace Go.Proofs.Ytkladhbamkomnaa
set_option linter.unusedVariables false
set_option linter.unusedSimpArgs false
open Go.ChangeShapes Go.WideShapes Go.ChangeAt Go.RowKit Go.Shelf
open TabA

theorem frames_bd {kd sz : Int} (h : framesN kd sz ≠ 0) : 1 ≤ framesN kd sz ∧ framesN kd sz ≤ 64 := by
  unfold framesN at h ⊢
  repeat' split at h
  all_goals (repeat' split)
  all_goals omega
/-- The world in which Add has its two results and the object at hand. -/
structure AddW (w W : World) (x : Ob) : Prop where
  r8 : W.cell? ⟨w.heap.size, 0, none⟩ = some (.int .i64 0)
  f8 : W.frozen? ⟨w.heap.size, 0, none⟩ = false
  r9 : W.cell? ⟨w.heap.size + 1, 0, none⟩ = some (.int .i64 0)
  f9 : W.frozen? ⟨w.heap.size + 1, 0, none⟩ = false
  rx : W.heap[w.heap.size + 2]? = some (.cells x.cells.toArray 37 (0, 0))
  size : W.heap.size = w.heap.size + 3
  below : Below w.heap.size w W
abbrev addO (w : World) (x : Ob) : World := ((w.alloc (.cells #[.int .i64 0] 3)).alloc (.cells #[.int .i64 0] 25)).alloc (.cells #[.int .i64 x.id, .int .i64 x.kd, .int .i64 x.sz, .int .i64 x.fi, .int .i64 x.fr, .int .i64 x.ma, .int .i64 x.se, .int .i64 x.pg, .int .i64 x.lv] 37)
theorem addW (w : World) (x : Ob) : AddW w (addO w x) x := by
  refine ⟨by go_simp, by go_simp, by go_simp, by go_simp, ?_, by simp, bal (bal (bal (Below.refl _ _) _) _) _⟩
  have := heap_alloc_new ((w.alloc (.cells #[.int .i64 0] 3)).alloc (.cells #[.int .i64 0] 25)) (.cells #[.int .i64 x.id, .int .i64 x.kd, .int .i64 x.sz, .int .i64 x.fi, .int .i64 x.fr, .int .i64 x.ma, .int .i64 x.se, .int .i64 x.pg, .int .i64 x.lv] 37)
  rw [show ((w.alloc (.cells #[.int .i64 0] 3)).alloc (.cells #[.int .i64 0] 25)).heap.size = w.heap.size + 2 by simp] at this
  exact this
theorem AddW.ox {w W : World} {x : Ob} (h : AddW w W x) (j : Nat) : W.cell? ⟨w.heap.size + 2, j, none⟩ = x.cells[j]? := cell_cur h.rx j
/-- The two results are stored. -/
theorem AddW.done {w W U : World} {x : Ob} (h : AddW w W x) (hb : Below W.heap.size W U) (a c : Int) : ((U.setCell ⟨w.heap.size, 0, none⟩ (.int .i64 a)).setCell ⟨w.heap.size + 1, 0, none⟩ (.int .i64 c)).cell? ⟨w.heap.size, 0, none⟩ = some (.int .i64 a) ∧
    ((U.setCell ⟨w.heap.size, 0, none⟩ (.int .i64 a)).setCell ⟨w.heap.size + 1, 0, none⟩ (.int .i64 c)).cell? ⟨w.heap.size + 1, 0, none⟩ = some (.int .i64 c) ∧ Below w.heap.size w ((U.setCell ⟨w.heap.size, 0, none⟩ (.int .i64 a)).setCell ⟨w.heap.size + 1, 0, none⟩ (.int .i64 c)) ∧
    U.cell? ⟨w.heap.size, 0, none⟩ = some (.int .i64 0) ∧ U.frozen? ⟨w.heap.size, 0, none⟩ = false ∧ U.cell? ⟨w.heap.size + 1, 0, none⟩ = some (.int .i64 0) ∧ U.frozen? ⟨w.heap.size + 1, 0, none⟩ = false := by
  have hs := h.size
  have a8 := (hb.cell (p := ⟨w.heap.size, 0, none⟩) (by simp; omega)).trans h.r8
  have b8 := (hb.frozen (p := ⟨w.heap.size, 0, none⟩) (by simp; omega)).trans h.f8
  have a9 := (hb.cell (p := ⟨w.heap.size + 1, 0, none⟩) (by simp; omega)).trans h.r9
  have b9 := (hb.frozen (p := ⟨w.heap.size + 1, 0, none⟩) (by simp; omega)).trans h.f9
  refine ⟨by go_simp, by go_simp, Below.setCell (Below.setCell (h.below.trans (hb.mono (by omega))) (by simp) _) (by simp) _, a8, b8, a9, b9⟩
set_option maxRecDepth 100000 in
set_option maxHeartbeats 2000000 in
theorem add_range (w : World) (b ab base F : Nat) (cnt : List Int) (v : Value) (L : List Ob) (kd sz fi : Int) (h : ArAt w b ab base F cnt v L) (hf : framesN kd sz ≠ 0) (hr : fi < 0 ∨ F - framesN kd sz < fi) (wf : -9223372036854775808 ≤ fi ∧ fi ≤ 9223372036854775807) :
    Calls Try.prog 24 #[.pointer (some ⟨b, 0, none⟩), .int .i64 kd, .int .i64 sz, .int .i64 fi] w fun e w' => e = .returned (.tuple #[.int .i64 0, .int .i64 3]) ∧ Below w.heap.size w w' := by
  have hb := frames_bd hf
  have hF := h.f1
  have HA := Lib.hid h
  clear h
  generalize hfr : framesN kd sz = fr at *
  have H := Lib.hid hfr
  clear hfr
  obtain ⟨hb1, hb2⟩ := hb
  obtain ⟨hF1, hF2⟩ := hF
  have hwr : IntKind.i64.wrap ((F : Int) - fr) = (F : Int) - fr := IntWalk.i64_in _ (by omega)
  have hr3 : fi < 0 ∨ (¬ fi < 0 ∧ (F : Int) - fr < fi) := by omega
  clear hr
  rcases hr3 with hn | ⟨hn, hr2⟩
  all_goals
    go_enter Try.func24, Try.ntmps24
    go_upto_region 6 with (go_at_call 37; refine (frames_any _ _ _).mono ?_; rw [H.out]; rintro e w1 ⟨rfl, rfl⟩)
    have hW := addW w ⟨0, kd, sz, fi, fr, 0, 0, 0, 0⟩
    obtain ⟨W, hWW⟩ : ∃ x, x = addO w ⟨0, kd, sz, fi, fr, 0, 0, 0, 0⟩ := ⟨_, rfl⟩
    rw [← hWW] at hW
    rw [show ((w.alloc (.cells #[.int .i64 0] 3)).alloc (.cells #[.int .i64 0] 25)).alloc (.cells #[.int .i64 0, .int .i64 kd, .int .i64 sz, .int .i64 fi, .int .i64 fr, .int .i64 0, .int .i64 0, .int .i64 0, .int .i64 0] 37) = W from hWW.symm]
    clear hWW
    have c0 := (HA.out.call hW.below).c0
    have x4 : W.cell? ⟨w.heap.size + 2, 4, none⟩ = some (.int .i64 fr) := hW.ox 4
    have HW := Lib.hid hW
    clear hW
    go_quiet (fail)
    obtain ⟨q8, q9, qb, q1, q2, q3, q4⟩ := HW.out.done (below_drewN (Below.refl _ _) nq) 0 3
    have QB := Lib.hid qb
    clear qb
    go_wp2
    exact bodyPost_ret (v := .tuple #[.int .i64 0, .int .i64 3]) (by simp [results, Try.results24, go_sem, q8, q9]) rfl ⟨rfl, QB.out⟩
end Go.Proofs.Ytkladhbamkomnaa
