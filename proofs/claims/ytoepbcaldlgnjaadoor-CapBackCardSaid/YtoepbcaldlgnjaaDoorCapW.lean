/- The chapter's own Decode. -/
import Derived.Test.YtoepbcaldlgnjaaDoorCapU
import Derived.Deep.RegionHeld3
namespace Go.Proofs.YtoepbcaldlgnjaaDoor
set_option linter.unusedVariables false
set_option linter.unusedSimpArgs false
open Go.ChangeShapes Go.WideShapes Go.ChangeAt Go.RowKit Go.Shelf

theorem decode_len (w : World) (p : Option Addr) (n c : Nat) (hn : n ≠ 2) (hm : n ≤ 1000) :
    Calls Tryd.prog 16 #[.slice p n c] w fun r w' => r = .returned (.tuple #[capV 0 0 0 0 0 0 0 0, .int .i64 5]) ∧ Below w.heap.size w w' := by
  have h1 : ¬ (n : Int) = 2 := by omega
  go_enter Tryd.func16, Tryd.ntmps16
  go_wp2
  exact bodyPost_ret (v := .tuple #[capV 0 0 0 0 0 0 0 0, .int .i64 5]) (by simp [results, Tryd.results16, go_sem]) rfl ⟨rfl, by repeat (first | exact Below.refl _ _ | refine bs ?_ _ _ | refine bal ?_ _)⟩
theorem refdec_len (w : World) (p : Option Addr) (n c : Nat) (hn : n ≠ 2) (hm : n ≤ 1000) :
    Calls Tryd.prog 17 #[.slice p n c] w fun r w' => r = .returned (.tuple #[capV 0 0 0 0 0 0 0 0, .int .i64 5]) ∧ Below w.heap.size w w' := by
  have h1 : ¬ (n : Int) = 2 := by omega
  go_enter Tryd.func17, Tryd.ntmps17
  go_wp2
  exact bodyPost_ret (v := .tuple #[capV 0 0 0 0 0 0 0 0, .int .i64 5]) (by simp [results, Tryd.results17, go_sem]) rfl ⟨rfl, by repeat (first | exact Below.refl _ _ | refine bs ?_ _ _ | refine bal ?_ _)⟩
theorem mA {u : Int} (h : 0 ≤ u ∧ u ≤ 18446744073709551615) : IntKind.i64.wrap (u.tmod 16) = dA u := by
  unfold dA; rw [Int.tmod_eq_emod_of_nonneg h.1, IntKind.wrap_i64]; omega
theorem mC {u : Int} (h : 0 ≤ u ∧ u ≤ 18446744073709551615) : IntKind.i64.wrap ((IntKind.u64.wrap (u.tdiv 16)).tmod 8) = dC u := by
  unfold dC
  rw [Int.tdiv_eq_ediv_of_nonneg h.1, IntKind.wrap_u64, Int.emod_eq_of_lt (a := u / 16) (by omega) (by omega), Int.tmod_eq_emod_of_nonneg (by omega), IntKind.wrap_i64]; omega
theorem mB {u : Int} (h : 0 ≤ u ∧ u ≤ 18446744073709551615) : IntKind.i64.wrap ((IntKind.u64.wrap (u.tdiv 256)).tmod 65536) = dB u := by
  unfold dB
  rw [Int.tdiv_eq_ediv_of_nonneg h.1, IntKind.wrap_u64, Int.emod_eq_of_lt (a := u / 256) (by omega) (by omega), Int.tmod_eq_emod_of_nonneg (by omega), IntKind.wrap_i64]; omega
theorem mH {u : Int} (h : 0 ≤ u ∧ u ≤ 18446744073709551615) : IntKind.i64.wrap ((u / 16777216).tmod 512) = dH u := by
  unfold dH; rw [Int.tmod_eq_emod_of_nonneg (by omega), IntKind.wrap_i64]; omega
theorem mG {u : Int} (h : 0 ≤ u ∧ u ≤ 18446744073709551615) : IntKind.i64.wrap (u / 1099511627776) = dG u := by
  unfold dG; rw [IntKind.wrap_i64]; omega
theorem mD {v : Int} (h : 0 ≤ v ∧ v ≤ 18446744073709551615) : v.tmod 16777216 = dD v := by
  unfold dD; rw [Int.tmod_eq_emod_of_nonneg h.1]
theorem mE {v : Int} (h : 0 ≤ v ∧ v ≤ 18446744073709551615) : IntKind.i64.wrap ((v / 16777216).tmod 4096) = dE v := by
  unfold dE; rw [Int.tmod_eq_emod_of_nonneg (by omega), IntKind.wrap_i64]; omega
theorem mF {v : Int} (h : 0 ≤ v ∧ v ≤ 18446744073709551615) : IntKind.i64.wrap ((v / 68719476736).tmod 16) = dF v := by
  unfold dF; rw [Int.tmod_eq_emod_of_nonneg (by omega), IntKind.wrap_i64]; omega
set_option maxRecDepth 100000 in
set_option maxHeartbeats 4000000 in
theorem refdec_any (w : World) (G o c : Nat) (u v : Int) (hu : 0 ≤ u ∧ u ≤ 18446744073709551615) (hv : 0 ≤ v ∧ v ≤ 18446744073709551615) (hc : 2 ≤ c) (h0 : w.cell? ⟨G, o, none⟩ = some (.int .u64 u)) (h1 : w.cell? ⟨G, o + 1, none⟩ = some (.int .u64 v)) (hG : G < w.heap.size) :
    Calls Tryd.prog 17 #[.slice (some ⟨G, o, none⟩) 2 c] w fun r w' => r = .returned (.tuple #[decR u v, .int .i64 (decE u v)]) ∧ Below w.heap.size w w' := by
  have HU := Lib.hid hu
  have HV := Lib.hid hv
  go_enter Tryd.func17, Tryd.ntmps17
  go_wp2
  obtain ⟨w1, hw1⟩ : ∃ x, x = w.alloc (.cells #[.int .i64 0, .int .i64 0, .int .i64 0, .int .u64 0, .int .i64 0, .int .i64 0, .int .i64 0, .int .i64 0] 24) := ⟨_, rfl⟩
  rw [← hw1]
  have e0 : w1.cell? ⟨G, o, none⟩ = some (.int .u64 u) := hw1 ▸ cell_more _ h0
  have e1 : w1.cell? ⟨G, o + 1, none⟩ = some (.int .u64 v) := hw1 ▸ cell_more _ h1
  have hz1 : w.heap.size + 1 = w1.heap.size := by rw [hw1]; simp
  have hGl : G < w1.heap.size := by omega
  have B1 : Below w.heap.size w w1 := hw1 ▸ bal (Below.refl _ _) _
  have c1 : w1.heap[w.heap.size]? = some (.cells #[.int .i64 0, .int .i64 0, .int .i64 0, .int .u64 0, .int .i64 0, .int .i64 0, .int .i64 0, .int .i64 0] 24 (0, 0)) := by rw [hw1]; exact World.alloc_heap_new w _
  have HC1 := Lib.hid c1
  have k1 : w.heap.size < w1.heap.size := by omega
  clear hw1 hz1 c1 hu hv
  go_region_held3 (fun w' => w'.cell? ⟨G, o, none⟩ = some (.int .u64 u) ∧ w'.cell? ⟨G, o + 1, none⟩ = some (.int .u64 v) ∧ G < w'.heap.size)
    (first | exact ⟨e0, e1, hGl⟩ | exact ⟨cell_more _ e0, cell_more _ e1, by simp; omega⟩ | (simp [*, World.cell?_alloc_some, World.cell?_setCell_far]; done))
    (first | fail)
  simp only [mA HU.out, mB HU.out, mC HU.out, mG HU.out, mH HU.out]
  have nD := mD HV.out
  have nE := mE HV.out
  have nF := mF HV.out
  have k6 : w.heap.size < w1.heap.size + 1 := by omega
  have zl := cells_of_row (cs := [.int .i64 0, .int .i64 0, .int .i64 0, .int .u64 0, .int .i64 0, .int .i64 0, .int .i64 0, .int .i64 0]) HC1.out
  have z0 := zl 0 _ rfl
  have z1 := zl 1 _ rfl
  have z2 := zl 2 _ rfl
  have z3 := zl 3 _ rfl
  have z4 := zl 4 _ rfl
  have z5 := zl 5 _ rfl
  have z6 := zl 6 _ rfl
  have z7 := zl 7 _ rfl
  have y : ∀ j, w1.frozen? ⟨w.heap.size, j, none⟩ = false := fun j => by simp [World.frozen?, HC1.out]
  have y0 := y 0
  have y1 := y 1
  have y2 := y 2
  have y3 := y 3
  have y4 := y 4
  have y5 := y 5
  have y6 := y 6
  have y7 := y 7
  have B2 : Below w.heap.size w (w1.alloc (.cells #[.int .i64 (dA u), .int .i64 (dB u), .int .i64 (dC u), .int .u64 (dD v), .int .i64 (dE v), .int .i64 (dF v), .int .i64 (dG u), .int .i64 (dH u)] 24)).drew := (bal B1 _).drew
  clear zl y
  cases hx : capB (dA u) (dB u) (dC u) (dD v) (dE v) (dF v) (dG u) (dH u)
  · have hdec : decB u v = false := by unfold decB; rw [hx]; rfl
    have HDE := Lib.hid hdec
    have HX := Lib.hid hx
    clear hx hdec
    go_wp2_with (first | (go_at_call 12; refine (refMay13 (dA u) (dB u) (dC u) (dD v) (dE v) (dF v) (dG u) (dH u) _).mono ?_; rw [HX.out]; rintro e w2 ⟨rfl, hb2⟩; obtain ⟨hc2, hf2⟩ := bcell hb2; have B3 := bgo B2 hb2; have hz2 := hb2.size; have k2 : w.heap.size < w2.heap.size := (by simp at hz2; omega); have k3 : w1.heap.size < w2.heap.size := (by simp at hz2; omega)))
    exact bodyPost_ret (v := .tuple #[capV 0 0 0 0 0 0 0 0, .int .i64 5]) (by simp [results, Tryd.results17, go_sem, hc2, hf2, z0, z1, z2, z3, z4, z5, z6, z7, y0, y1, y2, y3, y4, y5, y6, y7, k1, k2, k3, k6]) rfl ⟨by rw [decR_no HDE.out, decE_no HDE.out], by repeat (first | with_reducible assumption | refine bs ?_ _ _ | refine below_drewN ?_ _ | refine Below.drew ?_ | refine bgo ?_ (by with_reducible assumption))⟩
  · have HX := Lib.hid hx
    have hdec : decB u v = eqN 2 (fun j => if j = 0 then encA (dA u) (dB u) (dC u) (dG u) (dH u) else encB (dD v) (dE v) (dF v)) (fun j => if j = 0 then u else v) := by unfold decB; rw [hx]; rfl
    obtain ⟨x0, hx0⟩ : ∃ x0, encA (dA u) (dB u) (dC u) (dG u) (dH u) = x0 := ⟨_, rfl⟩
    obtain ⟨x1, hx1⟩ : ∃ x1, encB (dD v) (dE v) (dF v) = x1 := ⟨_, rfl⟩
    rw [hx0, hx1] at hdec
    have HX0 := Lib.hid hx0
    have HX1 := Lib.hid hx1
    have HDE := Lib.hid hdec
    clear hx hx0 hx1 hdec
    go_wp2_with (first
      | (go_at_call 12; refine (refMay13 (dA u) (dB u) (dC u) (dD v) (dE v) (dF v) (dG u) (dH u) _).mono ?_; rw [HX.out]; rintro e w2 ⟨rfl, hb2⟩; obtain ⟨hc2, hf2⟩ := bcell hb2; have B3 := bgo B2 hb2; have hz2 := hb2.size; have k2 : w.heap.size < w2.heap.size := (by simp at hz2; omega); have k3 : w1.heap.size < w2.heap.size := (by simp at hz2; omega))
      | (go_at_call 22; refine (words_any (dA u) (dB u) (dC u) (dD v) (dE v) (dF v) (dG u) (dH u) _ (dD_b v).1 HX.out).mono ?_; rw [HX0.out, HX1.out]; rintro e w3 ⟨G3, rfl, hG3, hr3, hb3⟩))
    have B4 := bgo B3 hb3
    have hz3 := hb3.size
    have k4 : w.heap.size < w3.heap.size := by omega
    have k5 : w1.heap.size < w3.heap.size := by omega
    have d0 := two_cells hr3 0 (by omega)
    have d1 := two_cells hr3 1 (by omega)
    simp only [if_true, Nat.one_ne_zero, if_false] at d0 d1
    have g0 := (B4.cell (p := ⟨G, o, none⟩) hG).trans h0
    have g1 := (B4.cell (p := ⟨G, o + 1, none⟩) hG).trans h1
    obtain ⟨hc3, hf3⟩ := bcell hb3
    have HB3 := Lib.hid hb3
    have HB4 := Lib.hid B4
    clear hr3 hb3 B4 e0 e1
    by_cases q0 : x0 = u
    · by_cases q1 : x1 = v
      · subst q0
        subst q1
        have HD : Hid (decB x0 x1 = true) := Lib.hid (HDE.out.trans (eqN_yes fun _ _ => rfl))
        go_wp2
        go_quiet (fail)
        all_goals go_wp2
        all_goals exact bodyPost_ret (v := .tuple #[capV (dA x0) (dB x0) (dC x0) (dD x1) (dE x1) (dF x1) (dG x0) (dH x0), .int .i64 0]) (by simp [results, Tryd.results17, go_sem, hc2, hf2, hc3, hf3, z0, z1, z2, z3, z4, z5, z6, z7, y0, y1, y2, y3, y4, y5, y6, y7, k1, k2, k3, k4, k5, k6]) rfl ⟨by rw [decR_yes HD.out, decE_yes HD.out], by repeat (first | with_reducible exact HB4.out | refine bs ?_ _ _ | refine below_drewN ?_ _ | refine Below.drew ?_)⟩
      · subst q0
        have HD : Hid (decB x0 v = false) := Lib.hid (HDE.out.trans (eqN_no (k := 1) (by omega) q1))
        go_wp2
        go_quiet (fail)
        all_goals go_wp2
        all_goals exact bodyPost_ret (v := .tuple #[capV 0 0 0 0 0 0 0 0, .int .i64 5]) (by simp [results, Tryd.results17, go_sem, hc2, hf2, hc3, hf3, z0, z1, z2, z3, z4, z5, z6, z7, y0, y1, y2, y3, y4, y5, y6, y7, k1, k2, k3, k4, k5, k6]) rfl ⟨by rw [decR_no HD.out, decE_no HD.out], by repeat (first | with_reducible exact HB4.out | refine bs ?_ _ _ | refine below_drewN ?_ _ | refine Below.drew ?_)⟩
    · have HD : Hid (decB u v = false) := Lib.hid (HDE.out.trans (eqN_no (k := 0) (by omega) q0))
      go_wp2
      go_quiet (fail)
      all_goals go_wp2
      all_goals exact bodyPost_ret (v := .tuple #[capV 0 0 0 0 0 0 0 0, .int .i64 5]) (by simp [results, Tryd.results17, go_sem, hc2, hf2, hc3, hf3, z0, z1, z2, z3, z4, z5, z6, z7, y0, y1, y2, y3, y4, y5, y6, y7, k1, k2, k3, k4, k5, k6]) rfl ⟨by rw [decR_no HD.out, decE_no HD.out], by repeat (first | with_reducible exact HB4.out | refine bs ?_ _ _ | refine below_drewN ?_ _ | refine Below.drew ?_)⟩
end Go.Proofs.YtoepbcaldlgnjaaDoor
