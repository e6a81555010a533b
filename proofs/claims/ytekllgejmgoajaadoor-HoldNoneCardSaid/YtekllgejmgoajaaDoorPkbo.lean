import Derived.Test.YtekllgejmgoajaaDoorPkbn
namespace Go.Proofs.YtekllgejmgoajaaDoor
set_option linter.unusedVariables false
set_option linter.unusedSimpArgs false
set_option maxRecDepth 100000
set_option maxHeartbeats 8000000
open Lib (hid)
section
namespace HnX
open SX
open Go.ChangeShapes Go.WideShapes Go.ChangeAt Go.RowKit Go.Shelf
attribute [local go_sem] Oper.semAt_some
theorem hslots_nil (w : World) : Calls Tryd.prog 19 #[.pointer none] w fun e w' => e = .returned (.pointer none) ∧ w = w' := by
 go_enter Tryd.func19, Tryd.ntmps19
 go_wp2
 go_ret
 exact ⟨rfl, rfl⟩
theorem hadd_nil (w : World) (n k : Int) : Calls Tryd.prog 13 #[.pointer none, .int .i64 n, .int .i64 k] w fun e w' => e = .returned (.int .i64 1) ∧ Below w.heap.size w w' := by
 go_enter Tryd.func13, Tryd.ntmps13
 go_wp2_with (first
  | (go_at_call 19; (with_reducible refine (hslots_nil _).mono ?_); rintro e w1 ⟨rfl, rfl⟩)
  | (go_at_call 36; (with_reducible refine (sadd_nil _ _ _).mono ?_); rintro e w1 ⟨rfl, rfl⟩))
 go_ret
 exact ⟨rfl, by (repeat (first | with_reducible exact Below.refl _ _ | (with_reducible refine bgo ?_ (by assumption)) | (with_reducible refine Below.drew ?_) | (with_reducible refine Below.setCell ?_ (by first | (simp; done) | (simp; omega)) _) | (refine bal ?_ _)))⟩
theorem hdrop_nil (w : World) (n : Int) : Calls Tryd.prog 14 #[.pointer none, .int .i64 n] w fun e w' => e = .returned (.int .i64 1) ∧ Below w.heap.size w w' := by
 go_enter Tryd.func14, Tryd.ntmps14
 go_wp2_with (first
  | (go_at_call 19; (with_reducible refine (hslots_nil _).mono ?_); rintro e w1 ⟨rfl, rfl⟩)
  | (go_at_call 37; (with_reducible refine (sdrop_nil _ _).mono ?_); rintro e w1 ⟨rfl, hb1⟩))
 go_ret
 exact ⟨rfl, by (repeat (first | with_reducible exact Below.refl _ _ | (with_reducible refine bgo ?_ (by assumption)) | (with_reducible refine Below.drew ?_) | (with_reducible refine Below.setCell ?_ (by first | (simp; done) | (simp; omega)) _) | (refine bal ?_ _)))⟩
open HpS in
open TabS (zC) in
theorem hget_nil (w : World) (n i : Int) : Calls Tryd.prog 4 #[.pointer none, .agg #[.int .i64 n, .int .i64 i]] w fun e w' => e = .returned (.tuple #[.agg #[.int .i64 0, .int .i64 0, .int .i64 0, .int .u64 0, .int .i64 0, .int .i64 0, .int .i64 0, .int .i64 0], .int .i64 1]) ∧ Below w.heap.size w w' := by
 obtain ⟨hb1, hs1, hc1⟩ := two_boxes w n i
 obtain ⟨w1, hw1⟩ : ∃ y, y = (w.alloc (slO n i)).alloc (.cells zC.L.toArray 26) := ⟨_, rfl⟩
 rw [← hw1] at hb1 hs1 hc1
 have HB1 := hid hb1
 have HC1 := hid hc1
 have HG : Hid (∀ v, Calls Tryd.prog 21 #[.pointer none, .agg #[.int .i64 n, .int .i64 i]] v fun e w' => e = .returned (.tuple #[.agg #[.int .i64 0, .int .i64 0, .int .i64 0, .int .u64 0, .int .i64 0, .int .i64 0, .int .i64 0, .int .i64 0], .int .i64 1]) ∧ Below v.heap.size v w') := hid (fun v => sget_nil v n i)
 obtain ⟨k0, k1⟩ := slot_cells hs1
 have HK := hid (And.intro k0 k1)
 have hz1 := (ags hc1).1
 have HZ1 := hid hz1
 have HW := hid hw1
 have HKd : Hid (w1.drew.cell? ⟨w.heap.size, 0, none⟩ = some (.int .i64 n) ∧ w1.drew.cell? ⟨w.heap.size, 1, none⟩ = some (.int .i64 i)) := hid HK.out
 have HZ0 : Hid (w.heap.size < w1.heap.size) := hid (by omega)
 clear hb1 hs1 hc1 hw1 hz1
 go_enter Tryd.func4, Tryd.ntmps4
 go_upto_region 1 with fail
 rw [show ((w.alloc (slO n i)).alloc (.cells #[.int .i64 0, .int .i64 0, .int .i64 0, .int .u64 0, .int .i64 0, .int .i64 0, .int .i64 0, .int .i64 0] 26)) = w1 from HW.out.symm]
 go_region_held3 (fun w' => w'.cell? ⟨w.heap.size, 0, none⟩ = some (.int .i64 n) ∧ w'.cell? ⟨w.heap.size, 1, none⟩ = some (.int .i64 i))
  (first | (with_reducible exact HK.out) | (with_reducible exact HKd.out) | (with_reducible exact K3.out) | (with_reducible exact KL.out))
  (first
   | (go_at_call 19; (with_reducible refine (hslots_nil _).mono ?_); rintro e w2 ⟨rfl, rfl⟩)
   | (go_at_call 21; (with_reducible refine (HG.out _).mono ?_); rintro e w3 ⟨rfl, hb3⟩; have HB3 := hid hb3; have hc3 := (hb3.block _ HZ1.out).trans HC1.out; obtain ⟨y0, y1, y2, y3, y4, y5, y6, y7⟩ := cap_cells hc3; have g0 := cap_froz hc3 0; have g1 := cap_froz hc3 1; have g2 := cap_froz hc3 2; have g3 := cap_froz hc3 3; have g4 := cap_froz hc3 4; have g5 := cap_froz hc3 5; have g6 := cap_froz hc3 6; have g7 := cap_froz hc3 7; have hz3 := (ags hc3).1; have HC3 := hid hc3; have K3 := hid (And.intro ((hb3.cell (p := ⟨w.heap.size, 0, none⟩) HZ0.out).trans HK.out.1) ((hb3.cell (p := ⟨w.heap.size, 1, none⟩) HZ0.out).trans HK.out.2)); have kl := (And.intro ((lay8_cell (w := w3) (k := w.heap.size + 1) (i := 0) ⟨0, 0, 0, 0, 0, 0, 0, 0⟩ (show w.heap.size ≠ w.heap.size + 1 by omega)).trans K3.out.1) ((lay8_cell (w := w3) (k := w.heap.size + 1) (i := 1) ⟨0, 0, 0, 0, 0, 0, 0, 0⟩ (show w.heap.size ≠ w.heap.size + 1 by omega)).trans K3.out.2)); simp only [lay8] at kl; have KL := hid kl; clear hb3 hc3 kl))
 all_goals
  have HF := hid (lay8_same ⟨0, 0, 0, 0, 0, 0, 0, 0⟩ HC3.out)
  have HFB := hid (lay8_below (k := w.heap.size + 1) ⟨0, 0, 0, 0, 0, 0, 0, 0⟩ (HB1.out.trans ((show Below w1.heap.size w1 w3 from ((Below.refl _ _).drew).trans HB3.out).mono HB1.out.size)) (by omega))
  show Exit.then _ _ Exit.normal _ (lay8 w3 (w.heap.size + 1) ⟨0, 0, 0, 0, 0, 0, 0, 0⟩)
  generalize lay8 w3 (w.heap.size + 1) ⟨0, 0, 0, 0, 0, 0, 0, 0⟩ = w4 at *
  obtain ⟨x0, x1, x2, x3, x4, x5, x6, x7⟩ := cap_cells HF.out
  simp only [] at x0 x1 x2 x3 x4 x5 x6 x7
  clear y0 y1 y2 y3 y4 y5 y6 y7 g0 g1 g2 g3 g4 g5 g6 g7
  go_wp2
  exact bodyPost_ret (v := .tuple #[.agg #[.int .i64 0, .int .i64 0, .int .i64 0, .int .u64 0, .int .i64 0, .int .i64 0, .int .i64 0, .int .i64 0], .int .i64 1]) (by simp [results, Tryd.results4, go_sem, x0, x1, x2, x3, x4, x5, x6, x7, zC]) rfl ⟨rfl, HFB.out⟩
theorem hfull_nil (w : World) (n i : Int) : Calls Tryd.prog 22 #[.pointer none, .agg #[.int .i64 n, .int .i64 i]] w fun e w' => e = .returned (.tuple #[.agg #[.int .i64 0, .int .i64 0, .int .i64 0, .int .u64 0, .int .i64 0, .int .i64 0, .int .i64 0, .int .i64 0], .int .i64 1]) ∧ Below w.heap.size w w' := by
 go_enter Tryd.func22, Tryd.ntmps22
 go_wp2_with (first
  | (go_at_call 4; (with_reducible refine (hget_nil _ n i).mono ?_); rintro e w1 ⟨rfl, hb1⟩; obtain ⟨hc1, hf1⟩ := bcell hb1; have hz1 := hb1.size; have hz2 : w.heap.size + 1 < w1.heap.size := (by simp at hz1; omega)))
 exact bodyPost_ret (v := .tuple #[.agg #[.int .i64 0, .int .i64 0, .int .i64 0, .int .u64 0, .int .i64 0, .int .i64 0, .int .i64 0, .int .i64 0], .int .i64 1]) (by simp [results, Tryd.results22, go_sem, hc1, hf1, hz2]) rfl ⟨rfl, by (repeat (first | with_reducible exact Below.refl _ _ | (with_reducible refine bgo ?_ (by assumption)) | (with_reducible refine Below.drew ?_) | (with_reducible refine Below.setCell ?_ (by first | (simp; done) | (simp; omega)) _) | (refine bal ?_ _)))⟩
theorem hpair_nil (w : World) (n i m j : Int) : Calls Tryd.prog 27 #[.pointer none, .agg #[.int .i64 n, .int .i64 i], .agg #[.int .i64 m, .int .i64 j]] w fun e w' => e = .returned (.tuple #[.agg #[.int .i64 0, .int .i64 0, .int .i64 0, .int .u64 0, .int .i64 0, .int .i64 0, .int .i64 0, .int .i64 0], .int .i64 1]) ∧ Below w.heap.size w w' := by
 go_enter Tryd.func27, Tryd.ntmps27
 go_wp2_with (first
  | (go_at_call 4; (with_reducible refine (hget_nil _ m j).mono ?_); rintro e w1 ⟨rfl, hb1⟩; obtain ⟨hc1, hf1⟩ := bcell hb1; have hz1 := hb1.size; have hz2 : w.heap.size + 2 < w1.heap.size := (by simp at hz1; omega)))
 exact bodyPost_ret (v := .tuple #[.agg #[.int .i64 0, .int .i64 0, .int .i64 0, .int .u64 0, .int .i64 0, .int .i64 0, .int .i64 0, .int .i64 0], .int .i64 1]) (by simp [results, Tryd.results27, go_sem, hc1, hf1, hz2]) rfl ⟨rfl, by (repeat (first | with_reducible exact Below.refl _ _ | (with_reducible refine bgo ?_ (by assumption)) | (with_reducible refine Below.drew ?_) | (with_reducible refine Below.setCell ?_ (by first | (simp; done) | (simp; omega)) _) | (refine bal ?_ _)))⟩
theorem hroot_nil (w : World) (n i : Int) (ts : Array Value) : Calls Tryd.prog 6 #[.pointer none, .agg #[.int .i64 n, .int .i64 i], .agg ts] w fun e w' => e = .returned (.int .i64 1) ∧ Below w.heap.size w w' := by
 go_enter Tryd.func6, Tryd.ntmps6
 go_wp2_with (first
  | (go_at_call 4; (with_reducible refine (hget_nil _ n i).mono ?_); rintro e w1 ⟨rfl, hb1⟩))
 go_ret
 exact ⟨rfl, by (repeat (first | with_reducible exact Below.refl _ _ | (with_reducible refine bgo ?_ (by assumption)) | (with_reducible refine Below.drew ?_) | (with_reducible refine Below.setCell ?_ (by first | (simp; done) | (simp; omega)) _) | (refine bal ?_ _)))⟩
theorem hchild_nil (w : World) (n i m j : Int) (ts : Array Value) : Calls Tryd.prog 7 #[.pointer none, .agg #[.int .i64 n, .int .i64 i], .agg #[.int .i64 m, .int .i64 j], .agg ts] w fun e w' => e = .returned (.int .i64 1) ∧ Below w.heap.size w w' := by
 go_enter Tryd.func7, Tryd.ntmps7
 go_wp2_with (first
  | (go_at_call 27; (with_reducible refine (hpair_nil _ n i m j).mono ?_); rintro e w1 ⟨rfl, hb1⟩))
 go_ret
 exact ⟨rfl, by (repeat (first | with_reducible exact Below.refl _ _ | (with_reducible refine bgo ?_ (by assumption)) | (with_reducible refine Below.drew ?_) | (with_reducible refine Below.setCell ?_ (by first | (simp; done) | (simp; omega)) _) | (refine bal ?_ _)))⟩
theorem hset_nil (w : World) (n i : Int) (ts : Array Value) : Calls Tryd.prog 8 #[.pointer none, .agg #[.int .i64 n, .int .i64 i], .agg ts] w fun e w' => e = .returned (.int .i64 1) ∧ Below w.heap.size w w' := by
 go_enter Tryd.func8, Tryd.ntmps8
 go_wp2_with (first
  | (go_at_call 22; (with_reducible refine (hfull_nil _ n i).mono ?_); rintro e w1 ⟨rfl, hb1⟩))
 go_ret
 exact ⟨rfl, by (repeat (first | with_reducible exact Below.refl _ _ | (with_reducible refine bgo ?_ (by assumption)) | (with_reducible refine Below.drew ?_) | (with_reducible refine Below.setCell ?_ (by first | (simp; done) | (simp; omega)) _) | (refine bal ?_ _)))⟩
theorem hderived_nil (w : World) (n i m j : Int) (f : Value) : Calls Tryd.prog 30 #[.pointer none, .agg #[.int .i64 n, .int .i64 i], .agg #[.int .i64 m, .int .i64 j], f] w fun e w' => e = .returned (.int .i64 1) ∧ Below w.heap.size w w' := by
 go_enter Tryd.func30, Tryd.ntmps30
 go_wp2_with (first
  | (go_at_call 27; (with_reducible refine (hpair_nil _ n i m j).mono ?_); rintro e w1 ⟨rfl, hb1⟩))
 go_ret
 exact ⟨rfl, by (repeat (first | with_reducible exact Below.refl _ _ | (with_reducible refine bgo ?_ (by assumption)) | (with_reducible refine Below.drew ?_) | (with_reducible refine Below.setCell ?_ (by first | (simp; done) | (simp; omega)) _) | (refine bal ?_ _)))⟩
theorem hcopy_nil (w : World) (n i m j k : Int) : Calls Tryd.prog 9 #[.pointer none, .agg #[.int .i64 n, .int .i64 i], .agg #[.int .i64 m, .int .i64 j], .int .i64 k] w fun e w' => e = .returned (.int .i64 1) ∧ Below w.heap.size w w' := by
 go_enter Tryd.func9, Tryd.ntmps9
 go_wp2_with (first
  | (go_at_call 30; (with_reducible refine (hderived_nil _ n i m j _).mono ?_); rintro e w1 ⟨rfl, hb1⟩))
 go_ret
 exact ⟨rfl, by (repeat (first | with_reducible exact Below.refl _ _ | (with_reducible refine bgo ?_ (by assumption)) | (with_reducible refine Below.drew ?_) | (with_reducible refine Below.setCell ?_ (by first | (simp; done) | (simp; omega)) _) | (refine bal ?_ _)))⟩
theorem hmint_nil (w : World) (n i m j k u : Int) : Calls Tryd.prog 10 #[.pointer none, .agg #[.int .i64 n, .int .i64 i], .agg #[.int .i64 m, .int .i64 j], .int .i64 k, .int .u64 u] w fun e w' => e = .returned (.int .i64 1) ∧ Below w.heap.size w w' := by
 go_enter Tryd.func10, Tryd.ntmps10
 go_wp2_with (first
  | (go_at_call 30; (with_reducible refine (hderived_nil _ n i m j _).mono ?_); rintro e w1 ⟨rfl, hb1⟩))
 go_ret
 exact ⟨rfl, by (repeat (first | with_reducible exact Below.refl _ _ | (with_reducible refine bgo ?_ (by assumption)) | (with_reducible refine Below.drew ?_) | (with_reducible refine Below.setCell ?_ (by first | (simp; done) | (simp; omega)) _) | (refine bal ?_ _)))⟩
theorem hswap_nil (w : World) (n i m j : Int) : Calls Tryd.prog 12 #[.pointer none, .agg #[.int .i64 n, .int .i64 i], .agg #[.int .i64 m, .int .i64 j]] w fun e w' => e = .returned (.int .i64 1) ∧ Below w.heap.size w w' := by
 go_enter Tryd.func12, Tryd.ntmps12
 go_wp2_with (first
  | (go_at_call 4; (with_reducible refine (hget_nil _ n i).mono ?_); rintro e w1 ⟨rfl, hb1⟩))
 go_ret
 exact ⟨rfl, by (repeat (first | with_reducible exact Below.refl _ _ | (with_reducible refine bgo ?_ (by assumption)) | (with_reducible refine Below.drew ?_) | (with_reducible refine Below.setCell ?_ (by first | (simp; done) | (simp; omega)) _) | (refine bal ?_ _)))⟩
theorem hmove_nil (w : World) (n i m j : Int) : Calls Tryd.prog 11 #[.pointer none, .agg #[.int .i64 n, .int .i64 i], .agg #[.int .i64 m, .int .i64 j]] w fun e w' => e = .returned (.int .i64 1) ∧ Below w.heap.size w w' := by
 go_enter Tryd.func11, Tryd.ntmps11
 go_wp2_with (first
  | (go_at_call 27; (with_reducible refine (hpair_nil _ n i m j).mono ?_); rintro e w1 ⟨rfl, hb1⟩))
 go_ret
 exact ⟨rfl, by (repeat (first | with_reducible exact Below.refl _ _ | (with_reducible refine bgo ?_ (by assumption)) | (with_reducible refine Below.drew ?_) | (with_reducible refine Below.setCell ?_ (by first | (simp; done) | (simp; omega)) _) | (refine bal ?_ _)))⟩
theorem hclear_nil (w : World) (n i : Int) : Calls Tryd.prog 5 #[.pointer none, .agg #[.int .i64 n, .int .i64 i]] w fun e w' => e = .returned (.tuple #[.agg #[.int .i64 0, .int .i64 0, .int .i64 0, .int .u64 0, .int .i64 0, .int .i64 0, .int .i64 0, .int .i64 0], .int .i64 1]) ∧ Below w.heap.size w w' := by
 go_enter Tryd.func5, Tryd.ntmps5
 go_wp2_with (first
  | (go_at_call 22; (with_reducible refine (hfull_nil _ n i).mono ?_); rintro e w1 ⟨rfl, hb1⟩; obtain ⟨hc1, hf1⟩ := bcell hb1; have hz1 := hb1.size; have hz2 : w.heap.size + 1 < w1.heap.size := (by simp at hz1; omega)))
 exact bodyPost_ret (v := .tuple #[.agg #[.int .i64 0, .int .i64 0, .int .i64 0, .int .u64 0, .int .i64 0, .int .i64 0, .int .i64 0, .int .i64 0], .int .i64 1]) (by simp [results, Tryd.results5, go_sem, hc1, hf1, hz2]) rfl ⟨rfl, by (repeat (first | with_reducible exact Below.refl _ _ | (with_reducible refine bgo ?_ (by assumption)) | (with_reducible refine Below.drew ?_) | (with_reducible refine Below.setCell ?_ (by first | (simp; done) | (simp; omega)) _) | (refine bal ?_ _)))⟩
theorem hbelow_nil (w : World) (n i : Int) : Calls Tryd.prog 16 #[.pointer none, .agg #[.int .i64 n, .int .i64 i]] w fun e w' => e = .returned (.slice none 0 0) ∧ Below w.heap.size w w' := by
 go_enter Tryd.func16, Tryd.ntmps16
 go_wp2
 go_ret
 exact ⟨rfl, by (repeat (first | with_reducible exact Below.refl _ _ | (with_reducible refine bgo ?_ (by assumption)) | (with_reducible refine Below.drew ?_) | (with_reducible refine Below.setCell ?_ (by first | (simp; done) | (simp; omega)) _) | (refine bal ?_ _)))⟩
theorem htree_nil (w : World)  : Calls Tryd.prog 18 #[.pointer none] w fun e w' => e = .returned (.slice none 0 0) ∧ Below w.heap.size w w' := by
 go_enter Tryd.func18, Tryd.ntmps18
 go_wp2
 go_ret
 exact ⟨rfl, by (repeat (first | with_reducible exact Below.refl _ _ | (with_reducible refine bgo ?_ (by assumption)) | (with_reducible refine Below.drew ?_) | (with_reducible refine Below.setCell ?_ (by first | (simp; done) | (simp; omega)) _) | (refine bal ?_ _)))⟩
theorem hused_nil (w : World)  : Calls Tryd.prog 17 #[.pointer none] w fun e w' => e = .returned (.slice none 0 0) ∧ Below w.heap.size w w' := by
 go_enter Tryd.func17, Tryd.ntmps17
 go_wp2_with (first
  | (go_at_call 19; (with_reducible refine (hslots_nil _).mono ?_); rintro e w1 ⟨rfl, rfl⟩)
  | (go_at_call 40; (with_reducible refine (callsIn_wide.1 (used_nil _)).mono ?_); rintro e w1 ⟨rfl, hb1⟩))
 go_ret
 exact ⟨rfl, by (repeat (first | with_reducible exact Below.refl _ _ | (with_reducible refine bgo ?_ (by assumption)) | (with_reducible refine Below.drew ?_) | (with_reducible refine Below.setCell ?_ (by first | (simp; done) | (simp; omega)) _) | (refine bal ?_ _)))⟩
theorem hfinal_nil (w : World) (n i : Int) : Calls Tryd.prog 15 #[.pointer none, .agg #[.int .i64 n, .int .i64 i]] w fun e w' => e = .returned (.bool false) ∧ Below w.heap.size w w' := by
 go_enter Tryd.func15, Tryd.ntmps15
 go_wp2
 go_step3
 go_wp2_with (go_at_call 22; (with_reducible refine (hfull_nil _ n i).mono ?_); rintro e w1 ⟨rfl, hb1⟩)
 (try rw [Exit.noGoto_ret])
 refine bodyPost_ret (v := .bool false) (by simp [results, Tryd.results15, go_sem]) rfl ?_
 exact ⟨rfl, by (repeat (first | with_reducible exact Below.refl _ _ | (with_reducible refine bgo ?_ (by assumption)) | (with_reducible refine Below.drew ?_) | (with_reducible refine Below.setCell ?_ (by first | (simp; done) | (simp; omega)) _) | (refine bal ?_ _)))⟩
end HnX
end
end Go.Proofs.YtekllgejmgoajaaDoor
