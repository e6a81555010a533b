/- chapter 12's own answer: Add, up to the search for what it meets. -/
import Derived.Test.YtkladhbamkomnaaAxB
namespace Go.Proofs.Ytkladhbamkomnaa
set_option linter.unusedVariables false
set_option linter.unusedSimpArgs false
open Go.ChangeShapes Go.WideShapes Go.ChangeAt Go.RowKit Go.Shelf
open TabA

set_option maxHeartbeats 1000000 in
theorem framesR_any (k s : Int) (w : World) : Calls Try.prog 41 #[.int .i64 k, .int .i64 s] w fun e w' => e = .returned (.int .i64 (framesN k s)) ∧ w = w' := by
  go_enter Try.func41, Try.ntmps41
  go_wp2
  all_goals go_ret
  all_goals refine ⟨ret_int ?_, rfl⟩
  all_goals (try simp only [beq_iff_eq, beq_eq_false_iff_ne, ne_eq] at *)
  all_goals unfold framesN
  all_goals ((repeat' split) <;> omega)
set_option maxRecDepth 100000 in
set_option maxHeartbeats 1000000 in
theorem radd_arg (w : World) (rb : Nat) (kd sz fi : Int) (hf : framesN kd sz = 0) :
    Calls Try.prog 28 #[.pointer (some ⟨rb, 0, none⟩), .int .i64 kd, .int .i64 sz, .int .i64 fi] w fun e w' => e = .returned (.tuple #[.int .i64 0, .int .i64 2]) ∧ w = w' := by
  have HF := Lib.hid hf
  clear hf
  go_enter Try.func28, Try.ntmps28
  go_wp2_with (go_at_call 41; refine (framesR_any _ _ _).mono ?_; rw [HF.out]; rintro e w1 ⟨rfl, rfl⟩)
  go_ret2
  exact ⟨rfl, rfl⟩
set_option maxRecDepth 100000 in
set_option maxHeartbeats 1000000 in
theorem radd_range (w : World) (rb base : Nat) (F : Int) (v : Value) (L : List Ob) (G : List Int) (kd sz fi : Int) (h : RefA w rb base F v L G) (hF : 1 ≤ F ∧ F ≤ 64) (hf : framesN kd sz ≠ 0) (hr : fi < 0 ∨ F - framesN kd sz < fi) :
    Calls Try.prog 28 #[.pointer (some ⟨rb, 0, none⟩), .int .i64 kd, .int .i64 sz, .int .i64 fi] w fun e w' => e = .returned (.tuple #[.int .i64 0, .int .i64 3]) ∧ w = w' := by
  obtain ⟨hb1, hb2⟩ := frames_bd hf
  have c0 := h.c0
  clear h
  generalize hfr : framesN kd sz = fr at *
  have HF := Lib.hid hfr
  clear hfr
  have h3 : fi < 0 ∨ (¬ fi < 0 ∧ F < fi) ∨ (¬ fi < 0 ∧ ¬ F < fi ∧ F - fi < fr) := by omega
  clear hr
  rcases h3 with h1 | ⟨h1, h2⟩ | ⟨h1, h2, h4⟩
  · go_enter Try.func28, Try.ntmps28
    go_wp2_with (go_at_call 41; refine (framesR_any _ _ _).mono ?_; rw [HF.out]; rintro e w1 ⟨rfl, rfl⟩)
    go_ret2
    exact ⟨rfl, rfl⟩
  · go_enter Try.func28, Try.ntmps28
    go_wp2_with (go_at_call 41; refine (framesR_any _ _ _).mono ?_; rw [HF.out]; rintro e w1 ⟨rfl, rfl⟩)
    go_ret2
    exact ⟨rfl, rfl⟩
  · go_enter Try.func28, Try.ntmps28
    go_wp2_with (go_at_call 41; refine (framesR_any _ _ _).mono ?_; rw [HF.out]; rintro e w1 ⟨rfl, rfl⟩)
    go_ret2
    exact ⟨rfl, rfl⟩
/-- The own arena, and the object at hand. -/
structure OwnO (w wr : World) (rb base oB : Nat) (F : Int) (v : Value) (L : List Ob) (G : List Int) (x : Ob) : Prop where
  ref : RefA wr rb base F v L G
  ox : ∀ j u, x.cells[j]? = some u → wr.cell? ⟨oB, j, none⟩ = some u
  of : ∀ j, wr.frozen? ⟨oB, j, none⟩ = false
  ol : oB < wr.heap.size
  ob : oB = w.heap.size
  bl : Below w.heap.size w wr
theorem OwnO.call {w wr w' : World} {rb base oB : Nat} {F : Int} {v : Value} {L : List Ob} {G : List Int} {x : Ob} (h : OwnO w wr rb base oB F v L G x) (hb : Below wr.heap.size wr w') : OwnO w w' rb base oB F v L G x :=
  ⟨h.ref.call hb, fun j u hj => (hb.cell (p := ⟨oB, j, none⟩) h.ol).trans (h.ox j u hj), fun j => (hb.frozen (p := ⟨oB, j, none⟩) h.ol).trans (h.of j), Nat.lt_of_lt_of_le h.ol hb.size, h.ob, h.bl.trans (hb.mono h.bl.size)⟩
theorem own_first {w : World} {rb base : Nat} {F : Int} {v : Value} {L : List Ob} {G : List Int} (x : Ob) (h : RefA w rb base F v L G) : OwnO w (w.alloc (.cells (obA x) 37)) rb base w.heap.size F v L G x := by
  have hal : Below w.heap.size w (w.alloc (.cells (obA x) 37)) := bal (Below.refl _ _) _
  have hn : (w.alloc (.cells (obA x) 37)).heap[w.heap.size]? = some (.cells x.cells.toArray 37 (0, 0)) := heap_alloc_new w _
  exact ⟨h.call hal, fun j u hj => (cell_cur hn j).trans hj, fun j => froz_row hn, by simp, rfl, hal⟩
set_option maxRecDepth 100000 in
set_option maxHeartbeats 4000000 in
theorem radd_busy (w : World) (rb base : Nat) (F : Int) (v : Value) (L : List Ob) (G : List Int) (kd sz fi : Int) (h : RefA w rb base F v L G) (hF : 1 ≤ F ∧ F ≤ 64) (hl : L.length < 1000000) (hf : framesN kd sz ≠ 0) (hr : ¬ (fi < 0 ∨ F - framesN kd sz < fi)) (hany : L.any (collideA (newO kd sz fi)) = true) :
    Calls Try.prog 28 #[.pointer (some ⟨rb, 0, none⟩), .int .i64 kd, .int .i64 sz, .int .i64 fi] w fun e w' => e = .returned (.tuple #[.int .i64 0, .int .i64 16]) ∧ Below w.heap.size w w' := by
  obtain ⟨hb1, hb2⟩ := frames_bd hf
  have c0 := h.c0
  have how := own_first (newO kd sz fi) h
  have HAN : Hid (∃ i y, L[i]? = some y ∧ collideA (newO kd sz fi) y = true) := Lib.hid (by
    rw [List.any_eq_true] at hany
    obtain ⟨y, hy, hc⟩ := hany
    obtain ⟨i, hi⟩ := List.getElem?_of_mem hy
    exact ⟨i, y, hi, hc⟩)
  obtain ⟨ra, rc, rfl, hrc, _⟩ := obs_of h.row
  clear h hany
  have hn : newO kd sz fi = ⟨0, kd, sz, fi, framesN kd sz, 0, 0, 0, 0⟩ := rfl
  rw [hn] at how HAN
  clear hn
  generalize hfr : framesN kd sz = fr at *
  have HF := Lib.hid hfr
  have HOW := Lib.hid how
  clear hfr how
  have h1 : ¬ fi < 0 := by omega
  have h2 : ¬ F < fi := by omega
  have h4 : ¬ F - fi < fr := by omega
  clear hr
  go_enter Try.func28, Try.ntmps28
  go_upto_region 7 with (go_at_call 41; refine (framesR_any _ _ _).mono ?_; rw [HF.out]; rintro e w1 ⟨rfl, rfl⟩)
  obtain ⟨w1, hw1⟩ : ∃ y, y = w.alloc (.cells (obA ⟨0, kd, sz, fi, fr, 0, 0, 0, 0⟩) 37) := ⟨_, rfl⟩
  rw [← hw1]
  rw [← hw1] at HOW
  clear hw1 c0
  generalize w.heap.size = oB at *
  go_wp2
  go_loopw [12] (fun i wr => ∃ t : Nat, t ≤ L.length ∧ i = .int .i64 t ∧ Hid (OwnO w wr rb base oB F (.slice ra L.length rc) L G ⟨0, kd, sz, fi, fr, 0, 0, 0, 0⟩) ∧ Hid (∀ i y, i < t → L[i]? = some y → collideA ⟨0, kd, sz, fi, fr, 0, 0, 0, 0⟩ y = false)) (fun i _ => L.length - (intOf i).toNat)
  case atStart => exact ⟨0, Nat.zero_le _, rfl, HOW, Lib.hid (fun i y hi => absurd hi (by omega))⟩
  case round =>
    obtain ⟨t, ht, rfl, HO, HNC⟩ := hrel
    clear HOW
    have c1 := HO.out.ref.c1
    by_cases htL : t < L.length
    · have htI : (t : Int) < L.length := by omega
      obtain ⟨y, hy⟩ : ∃ y, L[t]? = some y := ⟨L[t]'htL, List.getElem?_eq_getElem _⟩
      obtain ⟨ra', rc', hv, _, hra⟩ := obs_of HO.out.ref.row
      cases hv
      obtain ⟨g, rfl, hgl, hobs⟩ := hra t htL
      have HY := Lib.hid hy
      obtain ⟨yi, yk, ys, yf, yr, ym, ye, yp, yl⟩ := y
      have y0 := hobs t 0 _ _ hy rfl
      simp only [Nat.add_zero] at y0
      have y1 := hobs t 1 _ _ hy rfl
      have y2 := hobs t 2 _ _ hy rfl
      have y3 := hobs t 3 _ _ hy rfl
      have y4 := hobs t 4 _ _ hy rfl
      have y5 := hobs t 5 _ _ hy rfl
      have y6 := hobs t 6 _ _ hy rfl
      have y7 := hobs t 7 _ _ hy rfl
      have y8 := hobs t 8 _ _ hy rfl
      have x0 := HO.out.ox 0 _ rfl
      have x1 := HO.out.ox 1 _ rfl
      have x2 := HO.out.ox 2 _ rfl
      have x3 := HO.out.ox 3 _ rfl
      have x4 := HO.out.ox 4 _ rfl
      have x5 := HO.out.ox 5 _ rfl
      have x6 := HO.out.ox 6 _ rfl
      have x7 := HO.out.ox 7 _ rfl
      have x8 := HO.out.ox 8 _ rfl
      clear hy hra hobs
      go_upto_region 10 with fail
      go_still_tail 8, (by kernel_rfl)
      change wpList _ _ _ _ _ wr.drew
      have HO2 : Hid (OwnO w wr.drew rb base oB F (.slice (some ⟨g, 0, none⟩) L.length rc) L G ⟨0, kd, sz, fi, fr, 0, 0, 0, 0⟩) := Lib.hid (HO.out.call (Below.refl _ _).drew)
      clear y0 y1 y2 y3 y4 y5 y6 y7 y8 x0 x1 x2 x3 x4 x5 x6 x7 x8 c1 HO hgl
      generalize wr.drew = wd at *
      cases hc : collideA ⟨0, kd, sz, fi, fr, 0, 0, 0, 0⟩ ⟨yi, yk, ys, yf, yr, ym, ye, yp, yl⟩ with
      | true =>
        have HC := Lib.hid hc
        clear hc
        go_wp2_with (go_at_call 42; refine (may_any _ ⟨0, kd, sz, fi, fr, 0, 0, 0, 0⟩ ⟨yi, yk, ys, yf, yr, ym, ye, yp, yl⟩).mono ?_; rw [HC.out]; rintro e w3 ⟨rfl, hb3⟩)
        go_ret2
        exact ⟨rfl, (HO2.out.call hb3).bl⟩
      | false =>
        have HC := Lib.hid hc
        clear hc
        go_wp2_with (go_at_call 42; refine (may_any _ ⟨0, kd, sz, fi, fr, 0, 0, 0, 0⟩ ⟨yi, yk, ys, yf, yr, ym, ye, yp, yl⟩).mono ?_; rw [HC.out]; rintro e w3 ⟨rfl, hb3⟩)
        go_roundw
        case rel => exact ⟨t + 1, by omega, by go_num, Lib.hid (HO2.out.call hb3), Lib.hid (fun i z hi hz => by
          rcases Nat.lt_or_ge i t with q | q
          · exact HNC.out i z q hz
          · have : i = t := by omega
            subst this
            rw [HY.out] at hz
            cases hz
            exact HC.out)⟩
        case measure => first | (simp [intOf]; done) | (simp [intOf]; omega)
    · exfalso
      obtain ⟨i, y, hi, hc⟩ := HAN.out
      have := HNC.out i y (by have := (List.getElem?_eq_some_iff.1 hi).1; omega) hi
      rw [hc] at this
      cases this
end Go.Proofs.Ytkladhbamkomnaa
