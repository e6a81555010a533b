/- chapter 12's own answer: Add, that finds no number. -/
import Derived.Test.YtkladhbamkomnaaAxC
namespace Go.Proofs.Ytkladhbamkomnaa
set_option linter.unusedVariables false
set_option linter.unusedSimpArgs false
open Go.ChangeShapes Go.WideShapes Go.ChangeAt Go.RowKit Go.Shelf
open TabA

set_option maxRecDepth 100000 in
set_option maxHeartbeats 4000000 in
theorem radd_full (w : World) (rb base : Nat) (F : Int) (v : Value) (L : List Ob) (G : List Int) (kd sz fi : Int) (h : RefA w rb base F v L G) (hF : 1 ≤ F ∧ F ≤ 64) (hl : L.length < 1000000) (hf : framesN kd sz ≠ 0) (hr : ¬ (fi < 0 ∨ F - framesN kd sz < fi)) (hany : L.any (collideA (newO kd sz fi)) = false) (hnx : nextR F G fi = 0) :
    Calls Try.prog 28 #[.pointer (some ⟨rb, 0, none⟩), .int .i64 kd, .int .i64 sz, .int .i64 fi] w fun e w' => e = .returned (.tuple #[.int .i64 0, .int .i64 11]) ∧ Below w.heap.size w w' := by
  obtain ⟨hb1, hb2⟩ := frames_bd hf
  have c0 := h.c0
  have how := own_first (newO kd sz fi) h
  have HAN : Hid (∀ y ∈ L, collideA (newO kd sz fi) y = false) := Lib.hid (fun y hy => by
    rw [List.any_eq_false] at hany
    simpa using hany y hy)
  have HNX := Lib.hid hnx
  clear hnx
  obtain ⟨ra, rc, rfl, hrc, _⟩ := obs_of h.row
  clear h hany
  have hn : newO kd sz fi = ⟨0, kd, sz, fi, framesN kd sz, 0, 0, 0, 0⟩ := rfl
  rw [hn] at how HAN
  clear hn
  generalize hfr : framesN kd sz = fr at *
  have HF := Lib.hid hfr
  have HOW := Lib.hid how
  clear hfr how
  have h1 : ¬ fi < 0 := by omega
  have h2 : ¬ F < fi := by omega
  have h4 : ¬ F - fi < fr := by omega
  clear hr
  go_enter Try.func28, Try.ntmps28
  go_upto_region 7 with (go_at_call 41; refine (framesR_any _ _ _).mono ?_; rw [HF.out]; rintro e w1 ⟨rfl, rfl⟩)
  obtain ⟨w1, hw1⟩ : ∃ y, y = w.alloc (.cells (obA ⟨0, kd, sz, fi, fr, 0, 0, 0, 0⟩) 37) := ⟨_, rfl⟩
  rw [← hw1]
  rw [← hw1] at HOW
  clear hw1 c0
  obtain ⟨oB, hoB⟩ : ∃ y, y = w.heap.size := ⟨_, rfl⟩
  rw [← hoB] at HOW ⊢
  have HOB := Lib.hid hoB
  clear hoB
  go_wp2
  go_loopw [12] (fun i wr => ∃ t : Nat, t ≤ L.length ∧ i = .int .i64 t ∧ Hid (OwnO w wr rb base oB F (.slice ra L.length rc) L G ⟨0, kd, sz, fi, fr, 0, 0, 0, 0⟩) ) (fun i _ => L.length - (intOf i).toNat)
  case atStart => exact ⟨0, Nat.zero_le _, rfl, HOW⟩
  case round =>
    obtain ⟨t, ht, rfl, HO⟩ := hrel
    clear HOW
    have c1 := HO.out.ref.c1
    by_cases htL : t < L.length
    · have htI : (t : Int) < L.length := by omega
      obtain ⟨y, hy⟩ : ∃ y, L[t]? = some y := ⟨L[t]'htL, List.getElem?_eq_getElem _⟩
      obtain ⟨ra', rc', hv, _, hra⟩ := obs_of HO.out.ref.row
      cases hv
      obtain ⟨g, rfl, hgl, hobs⟩ := hra t htL
      have HY := Lib.hid hy
      obtain ⟨yi, yk, ys, yf, yr, ym, ye, yp, yl⟩ := y
      have y0 := hobs t 0 _ _ hy rfl
      simp only [Nat.add_zero] at y0
      have y1 := hobs t 1 _ _ hy rfl
      have y2 := hobs t 2 _ _ hy rfl
      have y3 := hobs t 3 _ _ hy rfl
      have y4 := hobs t 4 _ _ hy rfl
      have y5 := hobs t 5 _ _ hy rfl
      have y6 := hobs t 6 _ _ hy rfl
      have y7 := hobs t 7 _ _ hy rfl
      have y8 := hobs t 8 _ _ hy rfl
      have x0 := HO.out.ox 0 _ rfl
      have x1 := HO.out.ox 1 _ rfl
      have x2 := HO.out.ox 2 _ rfl
      have x3 := HO.out.ox 3 _ rfl
      have x4 := HO.out.ox 4 _ rfl
      have x5 := HO.out.ox 5 _ rfl
      have x6 := HO.out.ox 6 _ rfl
      have x7 := HO.out.ox 7 _ rfl
      have x8 := HO.out.ox 8 _ rfl
      clear hy hra hobs
      go_upto_region 10 with fail
      go_still_tail 8, (by kernel_rfl)
      change wpList _ _ _ _ _ wr.drew
      have HO2 : Hid (OwnO w wr.drew rb base oB F (.slice (some ⟨g, 0, none⟩) L.length rc) L G ⟨0, kd, sz, fi, fr, 0, 0, 0, 0⟩) := Lib.hid (HO.out.call (Below.refl _ _).drew)
      clear y0 y1 y2 y3 y4 y5 y6 y7 y8 x0 x1 x2 x3 x4 x5 x6 x7 x8 c1 HO hgl
      generalize wr.drew = wd at *
      have HC := Lib.hid (HAN.out _ (List.mem_of_getElem? HY.out))
      go_wp2_with (go_at_call 42; refine (may_any _ ⟨0, kd, sz, fi, fr, 0, 0, 0, 0⟩ ⟨yi, yk, ys, yf, yr, ym, ye, yp, yl⟩).mono ?_; rw [HC.out]; rintro e w3 ⟨rfl, hb3⟩)
      go_roundw
      case rel => exact ⟨t + 1, by omega, by go_num, Lib.hid (HO2.out.call hb3)⟩
      case measure => first | (simp [intOf]; done) | (simp [intOf]; omega)
    · obtain rfl : t = L.length := by omega
      have x0 := HO.out.ox 0 _ rfl
      have xf := HO.out.of 0
      have xl := HO.out.ol
      have hBL : Below w.heap.size w (wr.setCell ⟨oB, 0, none⟩ (.int .i64 0)) := Below.setCell HO.out.bl (by show _ ≤ oB; rw [HO.out.ob]; exact Nat.le_refl _) _
      have HBL := Lib.hid hBL
      clear hBL
      go_wp2_with (go_at_call 14; refine (rnext_any _ rb base F _ L G fi HO.out.ref hF).mono ?_; rw [HNX.out]; rintro e w4 ⟨rfl, rfl⟩)
      go_ret2
      exact ⟨rfl, HBL.out⟩
end Go.Proofs.Ytkladhbamkomnaa
