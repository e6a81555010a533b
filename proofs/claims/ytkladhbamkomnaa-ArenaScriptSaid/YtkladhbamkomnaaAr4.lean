/- package arena: Add, where the place is right. -/
import Derived.Test.YtkladhbamkomnaaAr3b
import Derived.Deep.RegionHeld3
namespace Go.Proofs.Ytkladhbamkomnaa
set_option linter.unusedVariables false
set_option linter.unusedSimpArgs false
open Go.ChangeShapes Go.WideShapes Go.ChangeAt Go.RowKit Go.Shelf
open TabA

theorem calls_round {l n : Nat} {P : Program} {f : Nat} {args : Array Value} {w : World} {R : Ending → World → Prop} (h : Calls P f args w R) : CallsIn (Fence.wide.inRound l) n P f args w R := callsIn_wide.2 h
theorem arAt_put {V : World} {b ab base F D : Nat} {cnt : List Int} {v : Value} {L : List Ob} (h : ArAt V b ab base F cnt v L) (hD : V.heap[D]? = some (.deferred (some []))) : ArAt (V.putObj D (.deferred none)) b ab base F cnt v L := by
  have nb : b ≠ D := by
    rintro rfl
    have := h.c0
    simp [World.cell?, hD] at this
  have na : ab ≠ D := by
    rintro rfl
    have := h.ad
    rw [hD] at this
    cases this
  have e : ∀ j, j ≠ D → (V.putObj D (.deferred none)).heap[j]? = V.heap[j]? := fun j hj => World.putObj_heap_other hj
  refine ⟨(World.cell?_of_block (e b nb)).trans h.c0, (e ab na).trans h.ad, h.fl, h.f1, h.tab.of (by simp [World.putObj]) (World.cell?_of_block (e b nb)) (World.frozen?_of_block (e b nb)) (fun g hg => ?_), h.abl, h.ne, h.cn, h.good⟩
  rcases h.tab.row.2 with ⟨rfl, _⟩ | ⟨g', cap, cur, rfl, q1, q2, _⟩
  · cases hg
  · cases hg
    refine e g' ?_
    rintro rfl
    rw [hD] at q2
    cases q2
theorem onlyA_put {w V : World} {b ab D : Nat} {v v' : Value} (h : OnlyA w V b ab v v') (hw : w.heap.size + 2 < D) (hD : V.heap[D]? = some (.deferred (some []))) : OnlyA w (V.putObj D (.deferred none)) b ab v v' :=
  ⟨h.os, h.tape, h.output, by simpa [World.putObj] using h.size, fun k hk h1 h2 h3 => (World.putObj_heap_other (by omega)).trans (h.block k hk h1 h2 h3), h.foot⟩
theorem HiKept.setCell {E : TypeId} {B k o : Nat} {a b : World} {u : Value} (h : HiKept E B a b) (hk : k < B) : HiKept E B a (b.setCell ⟨k, o, none⟩ u) :=
  ⟨by simpa using h.1, fun j ob hj hl ho => (Go.heap_setCell_other _ _ _ _ (by simp; omega)).trans (h.2 j ob hj hl ho)⟩
attribute [local go_sem] Oper.semAt_some
set_option maxRecDepth 100000 in
set_option maxHeartbeats 4000000 in
theorem add_in (w : World) (b ab base F : Nat) (cnt : List Int) (v : Value) (L : List Ob) (kd sz fi : Int) (h : ArAt w b ab base F cnt v L) (hf : framesN kd sz ≠ 0) (hr : ¬ fi < 0 ∧ ¬ F - framesN kd sz < fi) (hlen : L.length < 1000000) :
    CallsIn Fence.wide 3 Try.prog 24 #[.pointer (some ⟨b, 0, none⟩), .int .i64 kd, .int .i64 sz, .int .i64 fi] w fun e w' =>
      e = .returned (.tuple #[.int .i64 (addA cnt L ⟨0, kd, sz, fi, framesN kd sz, 0, 0, 0, 0⟩).1, .int .i64 (addA cnt L ⟨0, kd, sz, fi, framesN kd sz, 0, 0, 0, 0⟩).2]) ∧ AddPost w w' b ab base F cnt v L ⟨0, kd, sz, fi, framesN kd sz, 0, 0, 0, 0⟩ := by
  have hb := frames_bd hf
  have hF := h.f1
  have HA := Lib.hid h
  clear h
  generalize hfr : framesN kd sz = fr at *
  have H := Lib.hid hfr
  clear hfr
  obtain ⟨x, hx⟩ : ∃ x : Ob, x = ⟨0, kd, sz, fi, fr, 0, 0, 0, 0⟩ := ⟨_, rfl⟩
  rw [← hx]
  have HX := Lib.hid hx
  clear hx
  obtain ⟨hr1, hr2⟩ := hr
  obtain ⟨hb1, hb2⟩ := hb
  obtain ⟨hF1, hF2⟩ := hF
  have hwr : IntKind.i64.wrap ((F : Int) - fr) = (F : Int) - fr := IntWalk.i64_in _ (by omega)
  refine callsIn_of_wp_marks Try.func24 rfl trivial ?_ rfl
  simp only [Try.ntmps24, List.size_toArray, List.length_cons, List.length_nil, Nat.reduceAdd, Nat.reduceSub, Array.replicate_succ, Array.replicate_zero, List.push_toArray, List.append_toArray, List.nil_append, List.cons_append]
  gi_wp2_with (refine ⟨trivial, ?_⟩; gi_at_call 37; refine (callsIn_wide.2 (frames_any _ _ _)).mono ?_; rw [H.out]; rintro e w1 ⟨rfl, rfl⟩)
  have hW := addW w ⟨0, kd, sz, fi, fr, 0, 0, 0, 0⟩
  obtain ⟨W, hWW⟩ : ∃ x, x = addO w ⟨0, kd, sz, fi, fr, 0, 0, 0, 0⟩ := ⟨_, rfl⟩
  rw [← hWW] at hW
  rw [show ((w.alloc (.cells #[.int .i64 0] 3)).alloc (.cells #[.int .i64 0] 25)).alloc (.cells #[.int .i64 0, .int .i64 kd, .int .i64 sz, .int .i64 fi, .int .i64 fr, .int .i64 0, .int .i64 0, .int .i64 0, .int .i64 0] 37) = W from hWW.symm]
  clear hWW
  have c0 := (HA.out.call hW.below).c0
  have x4 : W.cell? ⟨w.heap.size + 2, 4, none⟩ = some (.int .i64 fr) := hW.ox 4
  have x4' : W.cell? ⟨w.heap.size + 1 + 1, 4, none⟩ = some (.int .i64 fr) := hW.ox 4
  have HW := Lib.hid hW
  clear hW
  have hd1 : decide (fi < 0) = false := decide_eq_false (by omega)
  have hd2 : decide ((F : Int) - fr < fi) = false := decide_eq_false (by omega)
  gi_quiet (fail)
  clear hd1 hd2
  gi_wp2_with (refine ⟨trivial, ?_⟩; gi_at_call 34; refine (own_in _ _ _).mono ?_; rintro e w' ⟨rfl, rfl⟩)
  obtain ⟨Wc, hWc⟩ : ∃ y, y = (W.drewN nq).alloc (.cells #[.pointer (some ⟨b, 0, none⟩)] 24) := ⟨_, rfl⟩
  rw [← hWc]
  have BW : Below W.heap.size W Wc := by rw [hWc]; exact ((below_drewN (Below.refl _ _) nq).alloc (by simp) _)
  have hcz : Wc.heap.size = W.heap.size + 1 := by rw [hWc]; simp
  have hbx : Wc.cell? ⟨W.heap.size, 0, none⟩ = some (.pointer (some ⟨b, 0, none⟩)) := by
    rw [hWc]
    have := cell_fresh (W.drewN nq) (.pointer (some ⟨b, 0, none⟩)) 24
    simpa using this.1
  clear hWc
  have hWs := HW.out.size
  have hAc := (HA.out.call HW.out.below).call BW
  have hfm := hAc.tab.form
  have hll : (rowsO L).length = L.length := rows_len L
  have hv : (v = .slice none 0 0 ∧ L.length = 0) ∨ ∃ g c, v = .slice (some ⟨g, 0, none⟩) L.length c := by
    rcases hfm with ⟨h1, h2⟩ | ⟨g, c, h1, _⟩
    · exact .inl ⟨h1, by rw [← hll, h2]; rfl⟩
    · exact .inr ⟨g, c, by rw [← hll]; exact h1⟩
  have hkey : ∀ U : World, Below Wc.heap.size Wc U → ∀ g, v.ownBlock = some g → ∀ (k j : Nat) (y : Ob) (u : Value), L[k]? = some y → (rcells (rowO y))[j]? = some u → U.cell? ⟨g, k * 10 + j, none⟩ = some u := by
    intro U hU g hg k j y u hk hj
    have hT := (hAc.call hU).tab
    rcases hT.form with ⟨h1, _⟩ | ⟨g', c, h1, _, _, _, _, hR⟩
    · rw [h1] at hg; cases hg
    · rw [h1] at hg
      cases hg
      exact hR k j (rowO y) u (by rw [rows_get, hk]; rfl) hj
  have HK := Lib.hid hkey
  have HAC := Lib.hid hAc
  have HBX := Lib.hid hbx
  have HV := Lib.hid hv
  have BWW : Below w.heap.size w Wc := HW.out.below.trans (BW.mono (by omega))
  have HBW := Lib.hid BWW
  have HB1 := Lib.hid BW
  have HWS := Lib.hid hWs
  have HCZ := Lib.hid hcz
  clear hWs hcz c0 x4 x4' hbx hAc hfm hll hv hkey BW BWW
  refine wpIn_range_px rfl (by decide) (gf := 44) (lb := #[.pointer (some ⟨W.heap.size, 0, none⟩)]) rfl trivial (enters_of Try.func44 (by kernel_rfl) rfl)
    (encs := fun k => #[.pointer (v.ownBlock.map fun g => ⟨g, k * 10 + 1, none⟩)]) (N := L.length) 37 (fun k U => Below Wc.heap.size Wc U ∧ ∀ j y, j < k → L[j]? = some y → collideA x y = false)
    (fun c k U => c = .ret ∧ (∃ y, L[k]? = some y ∧ collideA x y = true) ∧ Below w.heap.size w U ∧ U.cell? ⟨w.heap.size, 0, none⟩ = some (.int .i64 0) ∧ U.cell? ⟨w.heap.size + 1, 0, none⟩ = some (.int .i64 16))
    (own_px 37 (by kernel_rfl) (by kernel_rfl) 0 W.heap.size b L.length _ v (fun k => (L[k]?.map Ob.id).getD 0) _ HV.out (by omega) (fun g hg => own_ne HAC.out.tab hg) ?hI0) (fun _ => rfl) ?hI ?hIx ⟨Below.refl _ _, fun j y h => by omega⟩
    (fun x => { tmps := #[.pointer (some ⟨b, 0, none⟩), .int .i64 kd, .int .i64 sz, .int .i64 fi, undef, undef, undef, undef, .pointer (some ⟨w.heap.size, 0, none⟩), .pointer (some ⟨w.heap.size + 1, 0, none⟩), .pointer (some ⟨w.heap.size + 1 + 1, 0, none⟩), .pointer (v.ownBlock.map fun g => ⟨g, x * 10 + 1, none⟩), .pointer (some ⟨b, 0, none⟩), .bool false, .int .i64 kd, .int .i64 sz, .int .i64 fi, .int .i64 kd, .int .i64 sz, .int .i64 fr, .agg #[.int .i64 0, .int .i64 kd, .int .i64 sz, .int .i64 fi, .int .i64 fr, .int .i64 0, .int .i64 0, .int .i64 0, .int .i64 0], .pointer (some ⟨w.heap.size + 1 + 1, 4, none⟩), .int .i64 fr, .bool false, .int .i64 fi, .bool false, .bool false, .int .i64 fi, .pointer (some ⟨b, 0, none⟩), .pointer (some ⟨b, 0, none⟩), .pointer (some ⟨b, 0, none⟩), .slice (some ⟨ab, 0, none⟩) F F, .int .i64 (F : Nat), .pointer (some ⟨w.heap.size + 1 + 1, 4, none⟩), .int .i64 fr, .int .i64 ((F : Int) - fr), .bool false, .bool false, .pointer (some ⟨b, 0, none⟩), .func (.func 44) #[] #[.pointer (some ⟨W.heap.size, 0, none⟩)], .pointer (v.ownBlock.map fun g => ⟨g, x * 10 + 1, none⟩), undef, undef, undef, undef, undef, undef, undef, undef, undef, undef, undef, undef, undef, undef, undef, undef, undef, undef, undef, undef, undef, undef, undef, undef, undef, undef, undef, undef, undef, undef], defers := [] }) ?hassign ?hbody ?hdone ?hstop
  case hI0 =>
    rintro k U ⟨hU, -⟩
    have hWs := HWS.out
    have hcz := HCZ.out
    refine ⟨(hU.cell (p := ⟨W.heap.size, 0, none⟩) (by simp; omega)).trans HBX.out, (HAC.out.call hU).tab.cell, fun g hg j hj => ?_⟩
    have hy : L[j]? = some (L[j]'hj) := List.getElem?_eq_getElem hj
    have := HK.out U hU g hg j 0 _ _ hy rfl
    rw [hy]
    exact this
  case hI =>
    intro s A C row h hgr hr
    exact ⟨h.1.trans (((Below.refl _ A).grown hgr h.1.size (fun k hk => (hr k hk).1))), h.2⟩
  case hIx =>
    intro c s A C row h hgr hr
    have hWs := HWS.out
    have hcz := HCZ.out
    have hs : w.heap.size + 1 < Wc.heap.size := by omega
    have e : ∀ k, k < Wc.heap.size → some k ≠ row := fun k hk e => by have := (hr k e.symm).1; omega
    exact ⟨h.1, h.2.1, h.2.2.1.grown hgr h.2.2.1.size (fun k hk => by have := (hr k hk).1; omega), hgr.cell h.2.2.2.1 (e _ (by simp; omega)), hgr.cell h.2.2.2.2 (e _ (by simp; omega))⟩
  case hassign =>
    intro l x W K hK
    gi_wp2
    exact hK
  case hbody =>
    rintro l k U hkN ⟨hU, hno⟩
    obtain ⟨y, hy⟩ : ∃ y, L[k]? = some y := ⟨L[k]'hkN, List.getElem?_eq_getElem hkN⟩
    have HNO := Lib.hid hno
    have HY := Lib.hid hy
    have HU := Lib.hid hU
    rcases HV.out with ⟨_, h0⟩ | ⟨g, c, rfl⟩
    · omega
    · have hsz := hU.size
      have hWs := HWS.out
      have hcz := HCZ.out
      have hrx : U.rangeAt (w.heap.size + 1 + 1) 0 x.cells := by
        intro j u hj
        rw [Nat.zero_add]
        refine (hU.cell (p := ⟨w.heap.size + 1 + 1, j, none⟩) (by simp; omega)).trans ((HB1.out.cell (p := ⟨w.heap.size + 1 + 1, j, none⟩) (by simp; omega)).trans ?_)
        rw [HX.out] at hj
        exact (HW.out.ox j).trans hj
      have hry : U.rangeAt g (k * 10 + 1) y.cells := by
        intro j u hj
        have := HK.out U hU g rfl k (j + 1) y u hy (by simpa [rowO, rcells] using hj)
        rwa [show k * 10 + 1 + j = k * 10 + (j + 1) by omega]
      obtain ⟨xi, xk, xs, xf, xr, xm, xe, xp, xl⟩ := x
      obtain ⟨yi, yk, ys, yf, yr, ym, ye, yp, yl⟩ := y
      have x0 := hrx 0 _ rfl
      have x1 := hrx 1 _ rfl
      have x2 := hrx 2 _ rfl
      have x3 := hrx 3 _ rfl
      have x4 := hrx 4 _ rfl
      have x5 := hrx 5 _ rfl
      have x6 := hrx 6 _ rfl
      have x7 := hrx 7 _ rfl
      have x8 := hrx 8 _ rfl
      have y0 := hry 0 _ rfl
      have y1 := hry 1 _ rfl
      have y2 := hry 2 _ rfl
      have y3 := hry 3 _ rfl
      have y4 := hry 4 _ rfl
      have y5 := hry 5 _ rfl
      have y6 := hry 6 _ rfl
      have y7 := hry 7 _ rfl
      have y8 := hry 8 _ rfl
      simp only [Nat.zero_add] at x0 x1 x2 x3 x4 x5 x6 x7 x8
      simp only [Nat.add_assoc, Nat.reduceAdd] at y0 y1 y2 y3 y4 y5 y6 y7 y8
      have hcol := collide_any U.drew ⟨xi, xk, xs, xf, xr, xm, xe, xp, xl⟩ ⟨yi, yk, ys, yf, yr, ym, ye, yp, yl⟩
      have HC := Lib.hid hcol
      have hUd : Below Wc.heap.size Wc U.drew := hU.drew
      have hr8 : w.heap.size + 1 < Wc.heap.size := by omega
      have hdn : ∀ w1, Below U.drew.heap.size U.drew w1 → Below W.heap.size W w1 := fun w1 h => HB1.out.trans ((hU.drew.trans (h.mono hsz)).mono (by omega))
      have HDN := Lib.hid hdn
      have HR8 := Lib.hid hr8
      clear hrx hry hcol hno hy hU hWs hcz hsz hr8 hdn
      simp only [Value.ownBlock, Option.map]
      cases hcc : collideA ⟨xi, xk, xs, xf, xr, xm, xe, xp, xl⟩ ⟨yi, yk, ys, yf, yr, ym, ye, yp, yl⟩ with
      | false =>
        have HCC := Lib.hid hcc
        clear hcc
        gi_wp2
        gi_region_with (first | (refine ⟨trivial, ?_⟩; gi_at_call 38; refine (calls_round HC.out).mono ?_; rw [HCC.out]; rintro e w1 ⟨rfl, hb1⟩))
        all_goals
          gi_wp2
          refine ⟨(HiKept.below hb1 : HiKept _ _ U.drew w1), HU.out.drew.trans (hb1.mono HU.out.size), fun j y hj hy => ?_⟩
          rcases Nat.lt_or_ge j k with q | q
          · exact HNO.out j y q hy
          · obtain rfl : j = k := by omega
            rw [HY.out] at hy
            cases hy
            exact HCC.out
      | true =>
        have HCC := Lib.hid hcc
        clear hcc
        gi_wp2
        gi_region_with (first | (refine ⟨trivial, ?_⟩; gi_at_call 38; refine (calls_round HC.out).mono ?_; rw [HCC.out]; rintro e w1 ⟨rfl, hb1⟩))
        all_goals
          obtain ⟨q8, q9, qb, q1, q2, q3, q4⟩ := HW.out.done (HDN.out w1 hb1) 0 16
          have Q8 := Lib.hid q8
          have Q9 := Lib.hid q9
          have QB := Lib.hid qb
          clear q8 q9 qb
          gi_wp2
          have := HR8.out
          exact ⟨((HiKept.below hb1 : HiKept _ _ U.drew w1).setCell (by omega)).setCell (by omega), rfl, ⟨_, HY.out, HCC.out⟩, QB.out, Q8.out, Q9.out⟩
  case hstop =>
    rintro D c k U hD hkN ⟨rfl, ⟨y, hy, hyc⟩, hB, q8, q9⟩ hK
    have hWs := HWS.out
    have hcz := HCZ.out
    have hadd : addA cnt L x = (0, 16) := by
      unfold addA
      rw [if_pos (by rw [List.any_eq_true]; exact ⟨y, List.mem_of_getElem? hy, hyc⟩)]
    have HADD := Lib.hid hadd
    have g8 : (U.putObj D (.deferred none)).cell? ⟨w.heap.size, 0, none⟩ = some (.int .i64 0) := (World.cell?_of_block (World.putObj_heap_other (by simp; omega))).trans q8
    have g9 : (U.putObj D (.deferred none)).cell? ⟨w.heap.size + 1, 0, none⟩ = some (.int .i64 16) := (World.cell?_of_block (World.putObj_heap_other (by simp; omega))).trans q9
    have hBD : Below w.heap.size w (U.putObj D (.deferred none)) := hB.trans (belowK_b (w := w) (Nat.le_refl _) U D _ _ (by omega) hK rfl rfl)
    clear hWs hcz hadd
    gi_wp2
    refine ⟨by simp, .inl ⟨_, _, rfl, run_takeDeferred hK, ?_⟩⟩
    exact ⟨.tuple #[.int .i64 0, .int .i64 16], by simp [results, Try.results24, go_sem, g8, g9], by rw [HADD.out], .inl ⟨by rw [HADD.out]; decide, hBD⟩⟩
  case hdone =>
    rintro D U hD ⟨hU, hno⟩ hK
    have hWs := HWS.out
    have hcz := HCZ.out
    have hAU := HAC.out.call hU
    have hany : L.any (collideA x) = false := by
      rw [Bool.eq_false_iff]
      intro hc
      rw [List.any_eq_true] at hc
      obtain ⟨y, hy, hyc⟩ := hc
      obtain ⟨j, hj⟩ := List.getElem?_of_mem hy
      rw [hno j y (List.getElem?_eq_some_iff.1 hj).1 hj] at hyc
      cases hyc
    have hsz := hU.size
    have hBU : Below W.heap.size W U := HB1.out.trans (hU.mono (by omega))
    have hxU : U.heap[w.heap.size + 1 + 1]? = some (.cells x.cells.toArray 37 (0, 0)) := (hBU.block _ (by omega)).trans (by rw [HX.out]; exact HW.out.rx)
    have s0 : U.cell? ⟨w.heap.size + 1 + 1, 0, none⟩ = some (.int .i64 0) := by rw [cell_cur hxU, HX.out]; rfl
    have f0 : U.frozen? ⟨w.heap.size + 1 + 1, 0, none⟩ = false := froz_row hxU
    have hxfi : x.fi = fi := by rw [HX.out]
    have HXF := Lib.hid hxfi
    generalize hnx : nextA cnt fi = nx
    have HNX := Lib.hid hnx
    have HAU := Lib.hid hAU
    have HANY := Lib.hid hany
    have HBU := Lib.hid hBU
    have HXU := Lib.hid hxU
    have HU := Lib.hid hU
    have HKD := Lib.hid hK
    have hDl : D < U.heap.size := (Array.getElem?_eq_some_iff.1 hK).1
    by_cases hz : nx = 0
    · subst hz
      have hadd : addA cnt L x = (0, 11) := by
        unfold addA
        rw [if_neg (by rw [HANY.out]; decide), HXF.out, if_pos HNX.out]
      have HADD := Lib.hid hadd
      have hB1 : Below w.heap.size w (U.setCell ⟨w.heap.size + 1 + 1, 0, none⟩ (.int .i64 0)) := Below.setCell (HW.out.below.trans (hBU.mono (by omega))) (by show w.heap.size ≤ w.heap.size + 1 + 1; omega) _
      have r8 := (hBU.cell (p := ⟨w.heap.size, 0, none⟩) (by simp; omega)).trans HW.out.r8
      have q8 := (hBU.frozen (p := ⟨w.heap.size, 0, none⟩) (by simp; omega)).trans HW.out.f8
      have r9 := (hBU.cell (p := ⟨w.heap.size + 1, 0, none⟩) (by simp; omega)).trans HW.out.r9
      have q9 := (hBU.frozen (p := ⟨w.heap.size + 1, 0, none⟩) (by simp; omega)).trans HW.out.f9
      obtain ⟨V, hV⟩ : ∃ y, y = ((U.setCell ⟨w.heap.size + 1 + 1, 0, none⟩ (.int .i64 0)).setCell ⟨w.heap.size, 0, none⟩ (.int .i64 0)).setCell ⟨w.heap.size + 1, 0, none⟩ (.int .i64 11) := ⟨_, rfl⟩
      have v8 : V.cell? ⟨w.heap.size, 0, none⟩ = some (.int .i64 0) := by rw [hV]; go_simp
      have v9 : V.cell? ⟨w.heap.size + 1, 0, none⟩ = some (.int .i64 11) := by rw [hV]; go_simp
      have hBV : Below w.heap.size w V := by rw [hV]; exact Below.setCell (Below.setCell hB1 (by simp) _) (by simp) _
      have hKV : V.heap[D]? = some (.deferred (some [])) := by
        rw [hV, Go.heap_setCell_other _ _ _ _ (by simp; omega), Go.heap_setCell_other _ _ _ _ (by simp; omega), Go.heap_setCell_other _ _ _ _ (by simp; omega)]
        exact hK
      have HV1 := Lib.hid hV
      have HV8 := Lib.hid v8
      have HV9 := Lib.hid v9
      have HBV := Lib.hid hBV
      have HKV := Lib.hid hKV
      have hDz : w.heap.size + 2 < D := by omega
      clear hV v8 v9 hBV hKV hB1 hBU hxU hAU hany hU hK hno hsz hWs hcz hxfi hadd hnx
      gi_wp2_with (refine ⟨trivial, ?_⟩; gi_at_call 13; refine (callsIn_wide.2 (next_any U b ab base F cnt v L fi HAU.out)).mono ?_; rw [HNX.out]; rintro e w1 ⟨rfl, rfl⟩)
      rw [← HV1.out]
      have hKV := HKV.out
      have g8 : (V.putObj D (.deferred none)).cell? ⟨w.heap.size, 0, none⟩ = some (.int .i64 0) := (World.cell?_of_block (World.putObj_heap_other (by simp; omega))).trans HV8.out
      have g9 : (V.putObj D (.deferred none)).cell? ⟨w.heap.size + 1, 0, none⟩ = some (.int .i64 11) := (World.cell?_of_block (World.putObj_heap_other (by simp; omega))).trans HV9.out
      refine ⟨by simp, .inl ⟨_, _, rfl, run_takeDeferred hKV, ?_⟩⟩
      exact ⟨.tuple #[.int .i64 0, .int .i64 11], by simp [results, Try.results24, go_sem, g8, g9], by rw [HADD.out], .inl ⟨by rw [HADD.out]; decide, HBV.out.trans (belowK_b (w := w) (Nat.le_refl _) V D _ _ (by omega) hKV rfl rfl)⟩⟩
    · obtain ⟨k, rfl⟩ : ∃ k : Nat, fi = (k : Int) := ⟨fi.toNat, by omega⟩
      obtain ⟨c, hc⟩ : ∃ c, cnt[k]? = some c := by
        cases hc : cnt[k]? with
        | some c => exact ⟨c, rfl⟩
        | none =>
          exfalso
          unfold nextA at hnx
          rw [if_neg (by omega), show ((k : Int)).toNat = k by omega, hc] at hnx
          exact hz hnx.symm
      have hcn := hAU.cn c (List.mem_of_getElem? hc)
      have hnv : nx = k + 1 + 64 * c ∧ nx ≤ 65535 := by
        unfold nextA at hnx
        rw [if_neg (by omega), show ((k : Int)).toNat = k by omega, hc] at hnx
        simp only [] at hnx
        split at hnx
        · omega
        · omega
      have hadd : addA cnt L x = (nx, 0) := by
        unfold addA
        rw [if_neg (by rw [HANY.out]; decide), HXF.out, if_neg (by rw [HNX.out]; exact hz), HNX.out]
      have HADD := Lib.hid hadd
      have hkF : k < F := by
        have := (List.getElem?_eq_some_iff.1 hc).1
        rw [hAU.fl] at this
        exact this
      have hkF' : (k : Int) < F := by omega
      have uc := count_get hAU hc
      have uf : U.frozen? ⟨ab, k, none⟩ = false := froz_row hAU.ad
      have u0 := hAU.c0
      have habw := HA.out.al
      have hbw := HA.out.bl
      have n1 : ¬ b = w.heap.size + 1 + 1 := by omega
      have n2 : ¬ w.heap.size + 1 + 1 = b := by omega
      have n3 : ¬ ab = w.heap.size + 1 + 1 := by omega
      have n4 : ¬ w.heap.size + 1 + 1 = ab := by omega
      have hov : IntKind.i64.wrap (c + 1) = c + 1 := IntWalk.i64_in _ (by omega)
      have HC := Lib.hid hc
      have HNV := Lib.hid hnv
      have HCN := Lib.hid hcn
      obtain ⟨U2, hU2⟩ : ∃ y, y = (U.setCell ⟨w.heap.size + 1 + 1, 0, none⟩ (.int .i64 nx)).setCell ⟨ab, k, none⟩ (.int .i64 (c + 1)) := ⟨_, rfl⟩
      have hfin := add_fin w W U U2 b ab base F cnt v L kd sz fr nx c k D HA.out HW.out hBU hK (by omega) hlen hc hnv.1 hnv.2 hb1 (by omega) H.out.symm hU2
      have xs := hfin.1
      have y0 := xs 0 _ rfl
      have y1 := xs 1 _ rfl
      have y2 := xs 2 _ rfl
      have y3 := xs 3 _ rfl
      have y4 := xs 4 _ rfl
      have y5 := xs 5 _ rfl
      have y6 := xs 6 _ rfl
      have y7 := xs 7 _ rfl
      have y8 := xs 8 _ rfl
      have HFI := Lib.hid hfin.2
      have HU2 := Lib.hid hU2
      have HDZ := Lib.hid (show w.heap.size + 2 < D by omega)
      clear xs hfin hU2 hc hnv hcn hadd hBU hxU hAU hany hU hK hno hsz hWs hcz hxfi hnx
      gi_wp2_with (refine ⟨trivial, ?_⟩; gi_at_call 13; refine (callsIn_wide.2 (next_any U b ab base F cnt v L k HAU.out)).mono ?_; rw [HNX.out]; rintro e w1 ⟨rfl, rfl⟩)
      rw [← HU2.out]
      clear s0 f0 uc uf u0
      refine wpIn_mono (Q := NoPanic _) ?_ NoPanic.imp
      gi_region_with (first | (refine ⟨trivial, ?_⟩; gi_at_call 39; refine (callsIn_wide.2 HFI.out).mono ?_; rintro e w3 ⟨rfl, v', r8, q8, r9, q9, rx, hV⟩))
      all_goals
        refine NoPanic.normal ?_
        obtain ⟨V, hVV⟩ : ∃ y, y = (w3.setCell ⟨w.heap.size, 0, none⟩ (.int .i64 nx)).setCell ⟨w.heap.size + 1, 0, none⟩ (.int .i64 0) := ⟨_, rfl⟩
        have HVV := Lib.hid hVV
        have HV4 := Lib.hid (hV V hVV)
        clear hV hVV
        gi_wp2
        rw [← HVV.out]
        obtain ⟨hKV, v8, v9, hAV, hOV⟩ := HV4.out
        have hDz := HDZ.out
        have g8 : (V.putObj D (.deferred none)).cell? ⟨w.heap.size, 0, none⟩ = some (.int .i64 nx) := (World.cell?_of_block (World.putObj_heap_other (by simp; omega))).trans v8
        have g9 : (V.putObj D (.deferred none)).cell? ⟨w.heap.size + 1, 0, none⟩ = some (.int .i64 0) := (World.cell?_of_block (World.putObj_heap_other (by simp; omega))).trans v9
        have hput : ∀ j, j ≠ D → (V.putObj D (.deferred none)).heap[j]? = V.heap[j]? := fun j hj => World.putObj_heap_other hj
        have hAD : ∀ j, V.heap[j]? = some (.deferred (some [])) → (V.cell? ⟨j, 0, none⟩) = none := fun j hj => by simp [World.cell?, hj]
        refine ⟨by simp, .inl ⟨_, _, rfl, run_takeDeferred hKV, ?_⟩⟩
        refine ⟨.tuple #[.int .i64 nx, .int .i64 0], by simp [results, Try.results24, go_sem, g8, g9], by rw [HADD.out], .inr ⟨by rw [HADD.out], v', c, ?_, ?_, ?_⟩⟩
        · rw [HXF.out]; exact HC.out
        · have e0 : ({ x with id := nextA cnt x.fi } : Ob) = ⟨nx, kd, sz, k, fr, 0, 0, 0, 0⟩ := by rw [HXF.out, HNX.out, HX.out]
          rw [HXF.out, show ((k : Int)).toNat = k by omega]
          rw [HXF.out] at e0
          rw [e0]
          exact arAt_put hAV hKV
        · exact onlyA_put hOV hDz hKV
theorem add_go (w : World) (b ab base F : Nat) (cnt : List Int) (v : Value) (L : List Ob) (kd sz fi : Int) (h : ArAt w b ab base F cnt v L) (hf : framesN kd sz ≠ 0) (hr : ¬ fi < 0 ∧ ¬ F - framesN kd sz < fi) (hlen : L.length < 1000000) :
    Calls Try.prog 24 #[.pointer (some ⟨b, 0, none⟩), .int .i64 kd, .int .i64 sz, .int .i64 fi] w fun e w' =>
      e = .returned (.tuple #[.int .i64 (addA cnt L ⟨0, kd, sz, fi, framesN kd sz, 0, 0, 0, 0⟩).1, .int .i64 (addA cnt L ⟨0, kd, sz, fi, framesN kd sz, 0, 0, 0, 0⟩).2]) ∧ AddPost w w' b ab base F cnt v L ⟨0, kd, sz, fi, framesN kd sz, 0, 0, 0, 0⟩ :=
  callsIn_wide.1 (add_in w b ab base F cnt v L kd sz fi h hf hr hlen)
end Go.Proofs.Ytkladhbamkomnaa
