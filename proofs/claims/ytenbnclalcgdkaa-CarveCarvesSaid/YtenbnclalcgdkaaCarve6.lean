/- The walk of CarveApart. -/
import Derived.Test.YtenbnclalcgdkaaCarve5
import Derived.Deep.RegionHeld3
namespace Go.Proofs.Ytenbnclalcgdkaa
set_option linter.unusedVariables false
open Go.ChangeShapes Go.WideShapes Go.ChangeAt Go.RowKit Go.Shelf

theorem firsts_get (m e : Int) (c j : Nat) (h : j < c) : (firsts m e c).getD j 0 = m + j * e := by
  simp [firsts, List.getD_eq_getElem?_getD, List.getElem?_range h]
theorem carve_nomem (t m e c p : Int) (w : World) (hp : c * e = p) (h0 : 0 ≤ t) (h1 : t ≤ 64) (h2 : 0 ≤ m) (h3 : m ≤ t) (h4 : 1 ≤ e) (h5 : e ≤ 64) (h6 : 1 ≤ c) (h7 : c ≤ 4) (h8 : t - m < p) (h9 : p ≤ 256) :
    Calls Try.prog 18 #[.int .i64 t, .int .i64 m, .int .i64 e, .int .i64 c] w fun e' W' => e' = .returned (.tuple #[.slice none 0 0, .int .i64 0, .int .i64 7]) ∧ w = W' := by
  go_enter Try.func18, Try.ntmps18
  go_wp2
  exact bodyPost_ret (v := .tuple #[.slice none 0 0, .int .i64 0, .int .i64 7]) (by simp [results, Try.results18]) rfl ⟨rfl, rfl⟩
theorem carve_yesP (t m e p : Int) (c : Nat) (w : World) (hp : c * e = p) (h0 : 0 ≤ t) (h1 : t ≤ 64) (h2 : 0 ≤ m) (h3 : m ≤ t) (h4 : 1 ≤ e) (h5 : e ≤ 64) (h6 : 1 ≤ c) (h7 : c ≤ 4) (h8 : p ≤ t - m) (h9 : 0 ≤ p) :
    Calls Try.prog 18 #[.int .i64 t, .int .i64 m, .int .i64 e, .int .i64 c] w fun e' W' => ∃ g cap, e' = .returned (.tuple #[.slice (some ⟨g, 0, none⟩) c cap, .int .i64 (m + p), .int .i64 0]) ∧ g < W'.heap.size ∧ HasInts W' g c (firsts m e c) ∧ Below w.heap.size w W' := by
  subst hp
  exact carve_yes t m e c w h0 h1 h2 h3 h4 h5 h6 h7 h8 h9

theorem keepM {W wr w6 : World} {g j k c : Nat} {x y : Value} {xs : List Int} (hb : Below wr.drew.heap.size wr.drew w6) (ci : wr.cell? ⟨g, j, none⟩ = some x) (ck : wr.cell? ⟨g, k, none⟩ = some y) (hH : HasInts wr g c xs) (hg : g < wr.heap.size) (hB : Below W.heap.size W wr) :
    w6.cell? ⟨g, j, none⟩ = some x ∧ w6.cell? ⟨g, k, none⟩ = some y ∧ HasInts w6 g c xs ∧ g < w6.heap.size ∧ Below W.heap.size W w6 := by
  have hg' : g < wr.drew.heap.size := hg
  have hH' : HasInts wr.drew g c xs := hH
  exact ⟨(hb.cell (p := ⟨g, j, none⟩) hg').trans ci, (hb.cell (p := ⟨g, k, none⟩) hg').trans ck, hasInts_below hH' hb hg', Nat.lt_of_lt_of_le hg' hb.size, bgo hB.drew hb⟩
set_option maxHeartbeats 4000000 in
theorem walk_carveApart (a0 : Int) (w0 : (Lit.int .i64 a0).wf = true) (a1 : Int) (w1 : (Lit.int .i64 a1).wf = true) (a2 : Int) (w2 : (Lit.int .i64 a2).wf = true) (a3 : Int) (w3 : (Lit.int .i64 a3).wf = true) (W : World) :
    Calls Try.prog 8 #[.int .i64 a0, .int .i64 a1, .int .i64 a2, .int .i64 a3] W fun e w' => e = .returned (.bool true) ∧ Below W.heap.size W w' := by
  clear w0 w1 w2 w3
  have l0 := lowC_bd a0 65 (by decide)
  have k0 : ∀ w, Calls Try.prog 27 #[.int .i64 a0, .int .i64 65] w fun e w' => e = .returned (.int .i64 (lowC a0 65)) ∧ w = w' := fun w => lowC_any a0 65 w (by decide) (by decide)
  generalize lowC a0 65 = t at l0 k0
  have l1 := lowC_bd a1 (t + 1) (by omega); have l2 := lowC_bd a2 64 (by decide); have l3 := lowC_bd a3 4 (by decide)
  have k1 : ∀ w, Calls Try.prog 27 #[.int .i64 a1, .int .i64 (t + 1)] w fun e w' => e = .returned (.int .i64 (lowC a1 (t + 1))) ∧ w = w' := fun w => lowC_any a1 (t + 1) w (by omega) (by omega)
  have k2 : ∀ w, Calls Try.prog 27 #[.int .i64 a2, .int .i64 64] w fun e w' => e = .returned (.int .i64 (lowC a2 64)) ∧ w = w' := fun w => lowC_any a2 64 w (by decide) (by decide)
  have k3 : ∀ w, Calls Try.prog 27 #[.int .i64 a3, .int .i64 4] w fun e w' => e = .returned (.int .i64 (lowC a3 4)) ∧ w = w' := fun w => lowC_any a3 4 w (by decide) (by decide)
  generalize lowC a1 (t + 1) = m at l1 k1
  generalize lowC a2 64 = e' at l2 k2
  generalize lowC a3 4 = c' at l3 k3
  obtain ⟨e, he⟩ : ∃ e, 1 + e' = e := ⟨_, rfl⟩
  obtain ⟨c, hc⟩ : ∃ c : Nat, 1 + c' = (c : Int) := ⟨(1 + c').toNat, by omega⟩
  obtain ⟨p, hp⟩ : ∃ p, (c : Int) * e = p := ⟨_, rfl⟩
  have hp' : e * (c : Int) = p := by rw [Int.mul_comm]; exact hp
  have p0 : 0 ≤ p := hp ▸ Int.mul_nonneg (by omega) (by omega)
  have p1 : p ≤ 256 := by
    have := Int.mul_le_mul (a := (c : Int)) (b := e) (c := 4) (d := 64) (by omega) (by omega) (by omega) (by decide)
    rw [hp] at this; simpa using this
  obtain ⟨l00, l01⟩ := l0; obtain ⟨l10, l11⟩ := l1; obtain ⟨l20, l21⟩ := l2; obtain ⟨l30, l31⟩ := l3
  have K0 := Lib.hid k0; have K1 := Lib.hid k1; have K2 := Lib.hid k2; have K3 := Lib.hid k3
  clear k0 k1 k2 k3
  by_cases hfit : p ≤ t - m
  · have C1 := Lib.hid (fun w => carve_yesP t m e p c w hp (by omega) (by omega) (by omega) (by omega) (by omega) (by omega) (by omega) (by omega) hfit p0)
    go_enter Try.func8, Try.ntmps8
    go_wp2_with (first
      | (go_at_call 27; (with_reducible refine (K0.out _).mono ?_); rintro e w4 ⟨rfl, rfl⟩)
      | (go_at_call 27; (with_reducible refine (K1.out _).mono ?_); rintro e w4 ⟨rfl, rfl⟩)
      | (go_at_call 27; (with_reducible refine (K2.out _).mono ?_); rintro e w4 ⟨rfl, rfl⟩)
      | (go_at_call 27; (with_reducible refine (K3.out _).mono ?_); rintro e w4 ⟨rfl, rfl⟩)
      | (go_at_call 18; refine (C1.out _).mono ?_; rintro e w1 ⟨g, cap, rfl, hg, hh, hb1⟩))
    have hwz : W.heap.size ≤ w1.heap.size := hb1.size
    go_loopw [12] (fun i wr => ∃ j : Nat, j ≤ c ∧ i = .int .i64 j ∧ HasInts wr g c (firsts m e c) ∧ g < wr.heap.size ∧ Below W.heap.size W wr) (fun i _ => c - (intOf i).toNat)
    case atStart => exact ⟨0, by omega, rfl, hh, hg, hb1⟩
    case round =>
      obtain ⟨j, hj, rfl, hH, hgr, hB⟩ := hrel
      by_cases hlt : j < c
      · obtain ⟨q, hq⟩ : ∃ q, (j : Int) * e = q := ⟨_, rfl⟩
        have q0 : 0 ≤ q := hq ▸ Int.mul_nonneg (by omega) (by omega)
        have q1 : q + e ≤ p := by
          have := Int.mul_le_mul_of_nonneg_right (show (j : Int) + 1 ≤ c by omega) (show 0 ≤ e by omega)
          rw [Int.add_mul, hq, hp] at this; omega
        have cj : wr.cell? ⟨g, j, none⟩ = some (.int .i64 (m + q)) := by rw [hH j hlt, firsts_get m e c j hlt, hq]
        have hw : withinB (m + q) e m (t - m) = true := by simp [withinB, nearB]; omega
        go_wp2_with (first
          | (go_at_call 25; refine (within_any _ _ _ _ _).mono ?_; rw [hw]; rintro e5 w5 ⟨rfl, hb5⟩; have cj5 : w5.cell? ⟨g, j, none⟩ = some (.int .i64 (m + q)) := (hb5.cell (p := ⟨g, j, none⟩) hgr).trans cj))
        have hH5 := hasInts_below hH hb5 hgr
        have hg5 : g < w5.heap.size := Nat.lt_of_lt_of_le hgr hb5.size
        have hB5 : Below W.heap.size W w5 := bgo hB hb5
        clear hb5 cj cj5 hH hgr hB hh hb1 hg
        go_loopw [13] (fun i wr => ∃ k : Nat, k ≤ j ∧ i = .int .i64 k ∧ HasInts wr g c (firsts m e c) ∧ g < wr.heap.size ∧ Below W.heap.size W wr) (fun i _ => j - (intOf i).toNat)
        case atStart => exact ⟨0, by omega, rfl, hH5, hg5, hB5⟩
        case round =>
          obtain ⟨k, hk, rfl, hHx, hgx, hBx⟩ := hrel
          clear hH5 hg5 hB5
          by_cases hkj : k < j
          · obtain ⟨r, hr⟩ : ∃ r, (k : Int) * e = r := ⟨_, rfl⟩
            have r0 : 0 ≤ r := hr ▸ Int.mul_nonneg (by omega) (by omega)
            have r1 : r + e ≤ q := by
              have := Int.mul_le_mul_of_nonneg_right (show (k : Int) + 1 ≤ j by omega) (show 0 ≤ e by omega)
              rw [Int.add_mul, hr, hq] at this; omega
            have ci : wr.cell? ⟨g, j, none⟩ = some (.int .i64 (m + q)) := by rw [hHx j hlt, firsts_get m e c j hlt, hq]
            have ck : wr.cell? ⟨g, k, none⟩ = some (.int .i64 (m + r)) := by rw [hHx k (by omega), firsts_get m e c k (by omega), hr]
            have hmm : meetB (m + q) e (m + r) e = false := by
              cases h : meetB (m + q) e (m + r) e
              · rfl
              · simp [meetB] at h; omega
            have hkc : (k : Int) < c := by omega
            have hjc : (j : Int) < c := by omega
            go_wp2
            go_region_held3 (fun w' => w'.cell? ⟨g, j, none⟩ = some (.int .i64 (m + q)) ∧ w'.cell? ⟨g, k, none⟩ = some (.int .i64 (m + r)) ∧ HasInts w' g c (firsts m e c) ∧ g < w'.heap.size ∧ Below W.heap.size W w')
              (first
                | exact ⟨ci, ck, hHx, hgx, hBx⟩
                | exact ⟨ci, ck, hHx, hgx, hBx.drew⟩
                | exact keepM hb6 ci ck hHx hgx hBx)
              (first
                | (go_at_call 23; refine (meet_any _ _ _ _ _).mono ?_; rw [hmm]; rintro e6 w6 ⟨rfl, hb6⟩))
            go_wp2
            go_roundw
            case rel => exact ⟨k + 1, by omega, by go_num, (keepM (by assumption) ci ck hHx hgx hBx).2.2⟩
            case measure => simp [intOf]; omega
          · obtain rfl : k = j := by omega
            go_wp2
            go_roundw
            case rel => exact ⟨k + 1, by omega, by go_num, hHx, hgx, hBx⟩
            case measure => simp [intOf]; omega
      · obtain rfl : j = c := by omega
        clear hH hh
        go_wp2_with (go_at_call 22; refine (awake11 _).mono ?_; rintro e w8 ⟨rfl, hb8⟩)
        go_ret
        exact ⟨rfl, (by repeat (first | exact Below.refl _ _ | assumption | refine below_drewN ?_ _ | refine Below.setCell ?_ (by first | exact Nat.le_refl _ | (simp; done) | (simp; omega)) _ | refine bal ?_ _ | refine bgo ?_ (by assumption)))⟩
  · have C1 := Lib.hid (fun w => carve_nomem t m e c p w hp (by omega) (by omega) (by omega) (by omega) (by omega) (by omega) (by omega) (by omega) (by omega) p1)
    go_enter Try.func8, Try.ntmps8
    go_wp2_with (first
      | (go_at_call 27; (with_reducible refine (K0.out _).mono ?_); rintro e w4 ⟨rfl, rfl⟩)
      | (go_at_call 27; (with_reducible refine (K1.out _).mono ?_); rintro e w4 ⟨rfl, rfl⟩)
      | (go_at_call 27; (with_reducible refine (K2.out _).mono ?_); rintro e w4 ⟨rfl, rfl⟩)
      | (go_at_call 27; (with_reducible refine (K3.out _).mono ?_); rintro e w4 ⟨rfl, rfl⟩)
      | (go_at_call 18; refine (C1.out _).mono ?_; rintro e w1 ⟨rfl, rfl⟩)
      | (go_at_call 22; refine (awake11 _).mono ?_; rintro e w8 ⟨rfl, hb8⟩))
    go_ret
    exact ⟨rfl, (by repeat (first | exact Below.refl _ _ | assumption | refine below_drewN ?_ _ | refine Below.setCell ?_ (by first | exact Nat.le_refl _ | (simp; done) | (simp; omega)) _ | refine bal ?_ _ | refine bgo ?_ (by assumption)))⟩
end Go.Proofs.Ytenbnclalcgdkaa
