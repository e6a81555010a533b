/- chapter 12: the walk of ArenaApart. -/
import Derived.Test.YtkladhbamkomnaaArS
namespace Go.Proofs.Ytkladhbamkomnaa
set_option linter.unusedVariables false
set_option linter.unusedSimpArgs false
open Go.ChangeShapes Go.WideShapes Go.ChangeAt Go.RowKit Go.Shelf
open TabA

/-- What the law asks of any two. -/
structure PairOk (L : List Ob) : Prop where
  lo : ∀ x ∈ L, 0 ≤ x.fi ∧ 1 ≤ x.fr ∧ x.fi + x.fr ≤ 16
  asc : ∀ (i j : Nat) (x y : Ob), i < j → L[i]? = some x → L[j]? = some y → x.id < y.id
  noC : NoC L
theorem pair_ok {W w : World} {b n : Nat} {D : Nat → ActT} (h : StA W w b (playS D n)) : PairOk (playS D n).2 := by
  obtain ⟨ab, base, v, hA, _⟩ := h
  refine ⟨fun x hx => ?_, fun i j x y hij hi hj => ?_, noC_play D n⟩
  · obtain ⟨h1, h2, h3, _⟩ := hA.good x hx
    exact ⟨h1, h2, h3⟩
  · exact hA.tab.asc.at hij (x := rowO x) (y := rowO y) (by rw [rows_get, hi]; rfl) (by rw [rows_get, hj]; rfl)
abbrev obA (x : Ob) : Array Value := #[.int .i64 x.id, .int .i64 x.kd, .int .i64 x.sz, .int .i64 x.fi, .int .i64 x.fr, .int .i64 x.ma, .int .i64 x.se, .int .i64 x.pg, .int .i64 x.lv]
theorem col_cases {i1 k1 s1 f1 n1 m1 e1 p1 l1 i2 k2 s2 f2 n2 m2 e2 p2 l2 : Int} (h : collideA ⟨i1, k1, s1, f1, n1, m1, e1, p1, l1⟩ ⟨i2, k2, s2, f2, n2, m2, e2, p2, l2⟩ = false) (hm : meetB f1 n1 f2 n2 = true) :
    (k1 = 1 ∧ withinB f2 n2 f1 n1 = true) ∨ (k1 = 1 ∧ withinB f2 n2 f1 n1 = false ∧ k2 = 1 ∧ withinB f1 n1 f2 n2 = true) ∨ (¬ k1 = 1 ∧ k2 = 1 ∧ withinB f1 n1 f2 n2 = true) := by
  simp only [collideA, aroundA, hm, Bool.true_and, Bool.and_eq_false_iff, Bool.not_eq_false', Bool.and_eq_true, decide_eq_true_eq] at h
  by_cases hk : k1 = 1
  · cases hw : withinB f2 n2 f1 n1
    · simp [hk, hw] at h
      exact .inr (.inl ⟨hk, rfl, h.1, h.2⟩)
    · exact .inl ⟨hk, rfl⟩
  · simp [hk] at h
    exact .inr (.inr ⟨hk, h.1, h.2⟩)
/-- The cells that the inner round reads. -/
theorem keepAp {w w' : World} {xB yB : Nat} {x1 x3 x4 y1 y3 y4 : Int} (a1 : w.cell? ⟨xB, 1, none⟩ = some (.int .i64 x1)) (a3 : w.cell? ⟨xB, 3, none⟩ = some (.int .i64 x3)) (a4 : w.cell? ⟨xB, 4, none⟩ = some (.int .i64 x4))
    (b1 : w.cell? ⟨yB, 1, none⟩ = some (.int .i64 y1)) (b3 : w.cell? ⟨yB, 3, none⟩ = some (.int .i64 y3)) (b4 : w.cell? ⟨yB, 4, none⟩ = some (.int .i64 y4)) (lx : xB < w.heap.size) (ly : yB < w.heap.size) (h : Below w.heap.size w w') :
    (w'.cell? ⟨xB, 1, none⟩ = some (.int .i64 x1) ∧ w'.cell? ⟨xB, 3, none⟩ = some (.int .i64 x3) ∧ w'.cell? ⟨xB, 4, none⟩ = some (.int .i64 x4) ∧
    w'.cell? ⟨yB, 1, none⟩ = some (.int .i64 y1) ∧ w'.cell? ⟨yB, 3, none⟩ = some (.int .i64 y3) ∧ w'.cell? ⟨yB, 4, none⟩ = some (.int .i64 y4) ∧ Below w.heap.size w w') :=
  ⟨(h.cell (p := ⟨xB, 1, none⟩) lx).trans a1, (h.cell (p := ⟨xB, 3, none⟩) lx).trans a3, (h.cell (p := ⟨xB, 4, none⟩) lx).trans a4, (h.cell (p := ⟨yB, 1, none⟩) ly).trans b1, (h.cell (p := ⟨yB, 3, none⟩) ly).trans b3, (h.cell (p := ⟨yB, 4, none⟩) ly).trans b4, h⟩
set_option maxRecDepth 100000 in
set_option maxHeartbeats 4000000 in
theorem apart_any (q : Option Addr) (n c : Nat) (D : Nat → ActT) (W : World) (hn : n ≤ 100) (hD : ActsAt W q n D) :
    Calls Try.prog 4 #[.slice q n c] W fun e w' => e = .returned (.bool true) ∧ Below W.heap.size W w' := by
  have hn' : ¬ (n : Int) > 100 := by omega
  have HD := Lib.hid hD
  have HLL := Lib.hid (show (playS D n).2.length < 1000000 by have := play_len D n; omega)
  clear hD
  go_enter Try.func4, Try.ntmps4
  go_upto_region 7 with (first
    | (go_at_call 20; (with_reducible refine (played_any q n c D W hn HD.out).mono ?_); rintro e w1 ⟨b, rfl, hS⟩; have HS := Lib.hid hS; clear hS)
    | (go_at_call 17; (with_reducible refine (HS.out.all HLL.out).mono ?_); rintro e w2 ⟨r, rfl, hR, hB2⟩; have HR := Lib.hid hR; have HB2 := Lib.hid hB2; clear hR hB2))
  obtain ⟨ra, rc, rfl, hrc, hra⟩ := obs_of HR.out
  have HRA := Lib.hid hra
  have HPO := Lib.hid (pair_ok HS.out)
  have HBW := Lib.hid (HS.out.below.trans (HB2.out.mono HS.out.below.size))
  have hNL := play_len D n
  generalize hL : (playS D n).2 = L at *
  have hLn : L.length ≤ 100 := by omega
  clear hra hL hNL
  obtain ⟨N, hN⟩ : ∃ N, N = L.length := ⟨_, rfl⟩
  rw [← hN] at hrc hLn ⊢
  have HN := Lib.hid hN
  clear hN
  go_wp2
  go_loopw [5, 6, 7, 8, 9] (fun i x k y z wr => ∃ t : Nat, t ≤ N ∧ i = .int .i64 t ∧ Hid (Below w2.heap.size w2 wr)) (fun i _ _ _ _ _ => N - (intOf i).toNat)
  case atStart => exact ⟨0, Nat.zero_le _, rfl, Lib.hid (Below.refl _ _)⟩
  case round =>
    obtain ⟨t, ht, rfl, HB⟩ := hrel
    by_cases hlt : t < N
    · have hltI : (t : Int) < N := by omega
      obtain ⟨g, rfl, hgl, hobs⟩ := HRA.out t (by have := HN.out; omega)
      have HOB := Lib.hid hobs
      have hgw : g < wr.heap.size := Nat.lt_of_lt_of_le hgl HB.out.size
      obtain ⟨x, hx⟩ : ∃ x, L[t]? = some x := ⟨L[t]'(by have := HN.out; omega), List.getElem?_eq_getElem _⟩
      have HX := Lib.hid hx
      have hxo := fun j u hj => hobs.call hgl HB.out t j x u hx hj
      have hlo := HPO.out.lo x (List.mem_of_getElem? hx)
      have hprev : 0 < t → ∃ y, L[t - 1]? = some y ∧ y.id < x.id ∧ wr.cell? ⟨g, (t - 1) * 9, none⟩ = some (.int .i64 y.id) := by
        intro h0
        have hl : t - 1 < L.length := by have := HN.out; omega
        have hy : L[t - 1]? = some (L[t - 1]'hl) := List.getElem?_eq_getElem hl
        exact ⟨_, hy, HPO.out.asc _ _ _ _ (by omega) hy hx, hobs.call hgl HB.out (t - 1) 0 _ _ hy rfl⟩
      obtain ⟨xi, xk, xs, xf, xr, xm, xe, xp, xl⟩ := x
      have x0 := hxo 0 _ rfl
      have x1 := hxo 1 _ rfl
      have x2 := hxo 2 _ rfl
      have x3 := hxo 3 _ rfl
      have x4 := hxo 4 _ rfl
      have x5 := hxo 5 _ rfl
      have x6 := hxo 6 _ rfl
      have x7 := hxo 7 _ rfl
      have x8 := hxo 8 _ rfl
      simp only [Nat.add_zero] at x0 hprev
      simp only [] at hlo
      obtain ⟨l1, l2, l3⟩ := hlo
      clear hx hxo hobs
      go_upto_region 11 with fail
      obtain ⟨w3, hw3⟩ : ∃ y, y = wr.alloc (.cells (obA ⟨xi, xk, xs, xf, xr, xm, xe, xp, xl⟩) 37) := ⟨_, rfl⟩
      rw [← hw3]
      have z0 : w3.cell? ⟨wr.heap.size, 0, none⟩ = some (.int .i64 xi) := by rw [hw3]; go_simp
      have z1 : w3.cell? ⟨wr.heap.size, 1, none⟩ = some (.int .i64 xk) := by rw [hw3]; go_simp
      have z3 : w3.cell? ⟨wr.heap.size, 3, none⟩ = some (.int .i64 xf) := by rw [hw3]; go_simp
      have z4 : w3.cell? ⟨wr.heap.size, 4, none⟩ = some (.int .i64 xr) := by rw [hw3]; go_simp
      have HB3 : Hid (Below w2.heap.size w2 w3) := Lib.hid (by rw [hw3]; exact bal HB.out _)
      have hp3 : 0 < t → ∃ y, L[t - 1]? = some y ∧ y.id < xi ∧ w3.cell? ⟨g, (t - 1) * 9, none⟩ = some (.int .i64 y.id) := by
        intro h0
        obtain ⟨y, a1, a2, a3⟩ := hprev h0
        exact ⟨y, a1, a2, by rw [hw3]; exact ((bal (Below.refl _ wr) _).cell (p := ⟨g, _, none⟩) hgw).trans a3⟩
      have hxB : wr.heap.size < w3.heap.size := by rw [hw3]; simp
      clear hw3 x0 x1 x2 x3 x4 x5 x6 x7 x8 hprev
      generalize wr.heap.size = xB at *
      have hsum : IntKind.i64.wrap (xf + xr) = xf + xr := IntWalk.i64_in _ (by omega)
      have h16 : ¬ (16 : Int) < xf + xr := by omega
      have hf0 : ¬ xf < 0 := by omega
      have hcase : (¬ (0 : Int) < t) ∨ ((0 : Int) < t ∧ ∃ y : Int, y < xi ∧ w3.cell? ⟨g, (t - 1) * 9, none⟩ = some (.int .i64 y)) := by
        by_cases h0 : 0 < t
        · obtain ⟨y, _, a2, a3⟩ := hp3 h0
          exact .inr ⟨by omega, y.id, a2, a3⟩
        · exact .inl (by omega)
      clear hp3
      have ht1 : ((t : Int) - 1).toNat = t - 1 := by omega
      have hw1 : IntKind.i64.wrap ((t : Int) - 1) = (t : Int) - 1 := IntWalk.i64_in _ (by omega)
      have hN1 : (t : Int) - 1 < N := by omega
      rcases hcase with h0 | ⟨h0, pid, hpx, hpc⟩
      all_goals
        have d1 : decide (xf < 0) = false := decide_eq_false hf0
        have d2 : decide ((16 : Int) < xf + xr) = false := decide_eq_false h16
        (first | have d3 : decide (0 < t) = true := decide_eq_true (by omega) | have d3 : decide (0 < t) = false := decide_eq_false (by omega))
        (try have d4 : decide (xi ≤ pid) = false := decide_eq_false (by omega))
        (try have hge0 : (0 : Int) ≤ (t : Int) - 1 := by omega)
        (try have hge1 : ((t : Int) - 1).toNat < N := by omega)
        go_quiet (fail)
        clear d1 d2 d3
        (try clear d4)
        (try clear hge1)
        go_upto_region 14 with fail
        (try clear hpc)
        (try clear hge0)
        clear z0 hsum h16 hf0 ht1 hw1 hN1
        obtain ⟨w4, hw4⟩ : ∃ y, y = w3.drewN nq := ⟨_, rfl⟩
        rw [← hw4]
        have HB4 : Hid (Below w2.heap.size w2 w4) := Lib.hid (by rw [hw4]; exact below_drewN HB3.out _)
        have hxB4 : xB < w4.heap.size := by rw [hw4, World.heap_drewN]; exact hxB
        have u1 : w4.cell? ⟨xB, 1, none⟩ = some (.int .i64 xk) := by rw [hw4]; simpa using z1
        have u3 : w4.cell? ⟨xB, 3, none⟩ = some (.int .i64 xf) := by rw [hw4]; simpa using z3
        have u4 : w4.cell? ⟨xB, 4, none⟩ = some (.int .i64 xr) := by rw [hw4]; simpa using z4
        have U1 := Lib.hid u1
        have U3 := Lib.hid u3
        have U4 := Lib.hid u4
        have HXB := Lib.hid hxB4
        clear hw4 z1 z3 z4 u1 u3 u4 hxB hxB4
        go_loopw [7, 8, 9] (fun k y z wr => ∃ j : Nat, j ≤ t ∧ k = .int .i64 j ∧ Hid (Below w4.heap.size w4 wr)) (fun k _ _ _ => t - (intOf k).toNat)
        case atStart => exact ⟨0, Nat.zero_le _, rfl, Lib.hid (Below.refl _ _)⟩
        case round =>
          obtain ⟨j, hj, rfl, HB5⟩ := hrel
          by_cases hjt : j < t
          · first | (exfalso; omega) | skip
            all_goals
              have hjtI : (j : Int) < t := by omega
              have hjN : (j : Int) < N := by omega
              have hb42 : Below w2.heap.size w2 wr := HB4.out.trans (HB5.out.mono HB4.out.size)
              obtain ⟨y, hy⟩ : ∃ y, L[j]? = some y := ⟨L[j]'(by have := HN.out; omega), List.getElem?_eq_getElem _⟩
              have hyo := fun j' u hj' => HOB.out.call hgl hb42 j j' y u hy hj'
              have hid := HPO.out.asc _ _ _ _ hjt hy HX.out
              have hcol := HPO.out.noC _ (List.mem_of_getElem? HX.out) _ (List.mem_of_getElem? hy) (by simp only [] at hid ⊢; omega)
              obtain ⟨yi, yk, ys, yf, yr, ym, ye, yp, yl⟩ := y
              have y0 := hyo 0 _ rfl
              have y1 := hyo 1 _ rfl
              have y2 := hyo 2 _ rfl
              have y3 := hyo 3 _ rfl
              have y4 := hyo 4 _ rfl
              have y5 := hyo 5 _ rfl
              have y6 := hyo 6 _ rfl
              have y7 := hyo 7 _ rfl
              have y8 := hyo 8 _ rfl
              simp only [Nat.add_zero] at y0
              have HCO := Lib.hid hcol
              have hxBr : xB < wr.heap.size := Nat.lt_of_lt_of_le HXB.out HB5.out.size
              have x1 := (HB5.out.cell (p := ⟨xB, 1, none⟩) HXB.out).trans U1.out
              have x3 := (HB5.out.cell (p := ⟨xB, 3, none⟩) HXB.out).trans U3.out
              have x4 := (HB5.out.cell (p := ⟨xB, 4, none⟩) HXB.out).trans U4.out
              clear hy hyo hid hcol hb42
              go_upto_region 17 with fail
              obtain ⟨w6, hw6⟩ : ∃ z, z = wr.alloc (.cells (obA ⟨yi, yk, ys, yf, yr, ym, ye, yp, yl⟩) 37) := ⟨_, rfl⟩
              rw [← hw6]
              have hb6 : Below wr.heap.size wr w6 := by rw [hw6]; exact bal (Below.refl _ _) _
              have z1 : w6.cell? ⟨wr.heap.size, 1, none⟩ = some (.int .i64 yk) := by rw [hw6]; go_simp
              have z3 : w6.cell? ⟨wr.heap.size, 3, none⟩ = some (.int .i64 yf) := by rw [hw6]; go_simp
              have z4 : w6.cell? ⟨wr.heap.size, 4, none⟩ = some (.int .i64 yr) := by rw [hw6]; go_simp
              have v1 := (hb6.cell (p := ⟨xB, 1, none⟩) hxBr).trans x1
              have v3 := (hb6.cell (p := ⟨xB, 3, none⟩) hxBr).trans x3
              have v4 := (hb6.cell (p := ⟨xB, 4, none⟩) hxBr).trans x4
              have HB6 : Hid (Below w4.heap.size w4 w6) := Lib.hid (HB5.out.trans (hb6.mono HB5.out.size))
              have hyB6 : wr.heap.size < w6.heap.size := by rw [hw6]; simp
              have hxB6 : xB < w6.heap.size := Nat.lt_of_lt_of_le hxBr hb6.size
              clear hw6 hb6 x1 x3 x4 y0 y1 y2 y3 y4 y5 y6 y7 y8 hxBr HB5
              generalize wr.heap.size = yB at *
              clear wr
              have hb72 := fun w' (h : Below w6.heap.size w6 w') => keepAp v1 v3 v4 z1 z3 z4 hxB6 hyB6 h
              have HK := Lib.hid hb72
              clear hb72
              cases hm : meetB xf xr yf yr with
              | false =>
                have HM := Lib.hid hm
                clear hm
                go_wp2_with (go_at_call 21; refine (meet_any _ _ _ _ _).mono ?_; rw [HM.out]; rintro e w8 ⟨rfl, hb8⟩)
                go_roundw
                case rel => exact ⟨j + 1, by omega, by go_num, Lib.hid (HB6.out.trans (hb8.mono HB6.out.size))⟩
                case measure => first | (simp [intOf]; done) | (simp [intOf]; omega)
              | true =>
                have HM := Lib.hid hm
                clear hm
                go_upto_region 18 with (go_at_call 21; refine (meet_any _ _ _ _ _).mono ?_; rw [HM.out]; rintro e w8 ⟨rfl, hb8⟩)
                obtain ⟨q1, q3, q4, r1, r3, r4, hbq⟩ := HK.out w8 hb8
                have HB7 : Hid (Below w4.heap.size w4 w8) := Lib.hid (HB6.out.trans (hbq.mono HB6.out.size))
                have hxB7 : xB < w8.heap.size := Nat.lt_of_lt_of_le hxB6 hbq.size
                have hyB7 : yB < w8.heap.size := Nat.lt_of_lt_of_le hyB6 hbq.size
                clear hbq hb8 v1 v3 v4 z1 z3 z4 hxB6 hyB6 HB6
                have hcc := col_cases HCO.out HM.out
                have HB8 := Lib.hid (show Below w8.heap.size w8 w8 from Below.refl _ _)
                have hkeep := fun w' (h : Below w8.heap.size w8 w') => keepAp q1 q3 q4 r1 r3 r4 hxB7 hyB7 h
                have HK8 := Lib.hid hkeep
                clear hkeep HCO HK HX hlt hltI hjt hj ht
                rcases hcc with ⟨rfl, hw⟩ | ⟨rfl, hw, rfl, hv⟩ | ⟨hk, rfl, hv⟩
                · have HW := Lib.hid hw
                  clear hw
                  go_wp2_with (go_at_call 22; refine (within_any _ _ _ _ _).mono ?_; rw [HW.out]; rintro e w9 ⟨rfl, hb9⟩; obtain ⟨s1, s3, s4, t1, t3, t4, hbs⟩ := HK8.out w9 hb9)
                  go_roundw
                  case rel => exact ⟨j + 1, by omega, by go_num, Lib.hid (HB7.out.trans (hb9.mono HB7.out.size))⟩
                  case measure => first | (simp [intOf]; done) | (simp [intOf]; omega)
                · have HW := Lib.hid hw
                  have HV := Lib.hid hv
                  clear hw hv
                  go_wp2_with (go_at_call 22; refine (within_any _ _ _ _ _).mono ?_; (first | (rw [HW.out]; rintro e w9 ⟨rfl, hb9⟩; obtain ⟨s1, s3, s4, t1, t3, t4, hbs⟩ := HK8.out w9 hb9) | (rw [HV.out]; rintro e w10 ⟨rfl, hb10⟩)))
                  go_roundw
                  case rel => exact ⟨j + 1, by omega, by go_num, Lib.hid (HB7.out.trans ((bgo hb9 hb10).mono HB7.out.size))⟩
                  case measure => first | (simp [intOf]; done) | (simp [intOf]; omega)
                · have HV := Lib.hid hv
                  clear hv
                  go_wp2_with (go_at_call 22; refine (within_any _ _ _ _ _).mono ?_; rw [HV.out]; rintro e w9 ⟨rfl, hb9⟩)
                  go_roundw
                  case rel => exact ⟨j + 1, by omega, by go_num, Lib.hid (HB7.out.trans (hb9.mono HB7.out.size))⟩
                  case measure => first | (simp [intOf]; done) | (simp [intOf]; omega)
          · obtain rfl : j = t := by omega
            go_wp2
            go_roundw
            case rel => exact ⟨j + 1, by omega, by go_num, Lib.hid (HB4.out.trans (HB5.out.mono HB4.out.size))⟩
            case measure => first | (simp [intOf]; done) | (simp [intOf]; omega)
    · obtain rfl : t = N := by omega
      go_wp2_with (go_at_call 8; refine (awake12 _).mono ?_; rintro e w3 ⟨rfl, hb3⟩)
      go_ret
      exact ⟨rfl, HBW.out.trans ((HB.out.mono HBW.out.size).trans (hb3.mono (Nat.le_trans HBW.out.size HB.out.size)))⟩
theorem walk_arenaApart {W : World} (q : Option Addr) (n c : Nat) (hx : n ≤ c ∧ c ≤ maxLen ∧ ∃ D, ActsAt W q n D) :
    Calls Try.prog 4 #[.slice q n c] W fun e w' => e = .returned (.bool true) ∧ Below W.heap.size W w' := by
  obtain ⟨h1, h2, D, hD⟩ := hx
  unfold maxLen at h2
  by_cases hn : n ≤ 100
  · exact apart_any q n c D W hn hD
  · have hn' : (n : Int) > 100 := by omega
    clear hD
    go_enter Try.func4, Try.ntmps4
    go_wp2_with (go_at_call 8; refine (awake12 _).mono ?_; rintro e w3 ⟨rfl, hb3⟩)
    go_ret
    exact ⟨rfl, hb3⟩
end Go.Proofs.Ytkladhbamkomnaa
