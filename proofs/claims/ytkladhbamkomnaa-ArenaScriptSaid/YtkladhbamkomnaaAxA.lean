/- chapter 12's own answer: SetPlace. -/
import Derived.Test.YtkladhbamkomnaaArZ
import Derived.StillTailTactics
namespace Go.Proofs.Ytkladhbamkomnaa
set_option linter.unusedVariables false
set_option linter.unusedSimpArgs false
open Go.ChangeShapes Go.WideShapes Go.ChangeAt Go.RowKit Go.Shelf
open TabA

theorem RefA.put3 {w : World} {rb base g c p : Nat} {F : Int} {L : List Ob} {G : List Int} {x : Ob} (se pg lv : Int) (h : RefA w rb base F (.slice (some ⟨g, 0, none⟩) L.length c) L G) (hx : L[p]? = some x) :
    RefA (((w.setCell ⟨g, p * 9 + 6, none⟩ (.int .i64 se)).setCell ⟨g, p * 9 + 7, none⟩ (.int .i64 pg)).setCell ⟨g, p * 9 + 8, none⟩ (.int .i64 lv)) rb base F (.slice (some ⟨g, 0, none⟩) L.length c) (L.set p { x with se := se, pg := pg, lv := lv }) G ∧
    OnlyA w (((w.setCell ⟨g, p * 9 + 6, none⟩ (.int .i64 se)).setCell ⟨g, p * 9 + 7, none⟩ (.int .i64 pg)).setCell ⟨g, p * 9 + 8, none⟩ (.int .i64 lv)) rb rb (.slice (some ⟨g, 0, none⟩) L.length c) (.slice (some ⟨g, 0, none⟩) L.length c) := by
  have hpl := (List.getElem?_eq_some_iff.1 hx).1
  obtain ⟨a1, o1⟩ := h.put (j := 6) (u := .int .i64 se) (y := { x with se := se }) hx (by decide) rfl
  have l1 : L.length = (L.set p { x with se := se }).length := by simp
  rw [l1] at a1 o1
  obtain ⟨a2, o2⟩ := a1.put (j := 7) (u := .int .i64 pg) (x := { x with se := se }) (y := { x with se := se, pg := pg }) (List.getElem?_set_self hpl) (by decide) rfl
  rw [List.set_set] at a2
  have l2 : (L.set p { x with se := se }).length = (L.set p { x with se := se, pg := pg }).length := by simp
  rw [l2] at a2 o1 o2
  obtain ⟨a3, o3⟩ := a2.put (j := 8) (u := .int .i64 lv) (x := { x with se := se, pg := pg }) (y := { x with se := se, pg := pg, lv := lv }) (List.getElem?_set_self hpl) (by decide) rfl
  rw [List.set_set] at a3
  have l3 : (L.set p { x with se := se, pg := pg }).length = L.length := by simp
  rw [l3] at a3 o1 o2 o3
  exact ⟨a3, (o1.trans o2).trans o3⟩
theorem OnlyA.drew_in {w w' : World} {rb : Nat} {v v' : Value} (h : OnlyA w.drew w' rb rb v v') : OnlyA w w' rb rb v v' := ⟨h.os, h.tape, h.output, h.size, h.block, h.foot⟩
set_option maxRecDepth 100000 in
set_option maxHeartbeats 4000000 in
theorem rplace_any (w : World) (rb base : Nat) (F : Int) (v : Value) (L : List Ob) (G : List Int) (id se pg lv : Int) (h : RefA w rb base F v L G) (hA : Asc (rowsO L)) (hl : L.length < 1000000) :
    Calls Try.prog 31 #[.pointer (some ⟨rb, 0, none⟩), .int .i64 id, .int .i64 se, .int .i64 pg, .int .i64 lv] w fun e w' => e = .returned (.int .i64 (placeR L id se pg lv)) ∧ RefA w' rb base F v (placeL L id se pg lv) G ∧ OnlyA w w' rb rb v v := by
  have H := Lib.hid h
  unfold placeR placeL
  cases hh : hasR (rowsO L) id with
  | false =>
    have hg : getO L id = none := by unfold getO; rw [hh]; rfl
    have HNO := Lib.hid (at_no_of hh)
    rw [hg]
    simp only []
    clear h hA hh hg
    go_enter Try.func31, Try.ntmps31
    go_wp2_with (go_at_call 33; refine (at_no _ rb base F v L G id H.out hl HNO.out).mono ?_; rintro e w1 ⟨rfl, rfl⟩)
    go_ret
    exact ⟨rfl, H.out, refl_onlyA _ _ _⟩
  | true =>
    obtain ⟨x, p, hx, hid, hg, hp, hbe⟩ := at_facts hA hh
    rw [hg, hp]
    simp only []
    have hpL := (List.getElem?_eq_some_iff.1 hx).1
    obtain ⟨ra, rc, rfl, hrc, hra⟩ := obs_of h.row
    obtain ⟨g, rfl, hgl, hobs⟩ := hra p hpL
    have hpI : (p : Int) < L.length := by omega
    have k1 := hobs p 1 x _ hx rfl
    have k6 := hobs p 6 x _ hx rfl
    have k7 := hobs p 7 x _ hx rfl
    have k8 := hobs p 8 x _ hx rfl
    have c1 := h.c1
    have hfz := h.froz
    have hbel : Below w.heap.size w w.drew := (Below.refl _ _).drew
    have hput := (h.call hbel).put3 se pg lv hx
    have HPUT := Lib.hid hput
    have HX := Lib.hid hx
    have HXI := Lib.hid hid
    have HBE := Lib.hid hbe
    clear h hA hh hg hra hobs hx hid hbe hput hp hbel
    by_cases hk : x.kd = 4
    · rw [if_pos hk]
      rw [hk] at k1
      by_cases hpo : placeOk se pg lv
      · rw [if_pos hpo, if_pos ⟨hk, hpo⟩]
        obtain ⟨xs, hxs⟩ : ∃ y, y = x.se := ⟨_, rfl⟩
        obtain ⟨xp, hxp⟩ : ∃ y, y = x.pg := ⟨_, rfl⟩
        obtain ⟨xl, hxl⟩ : ∃ y, y = x.lv := ⟨_, rfl⟩
        rw [← hxs] at k6
        rw [← hxp] at k7
        rw [← hxl] at k8
        clear hxs hxp hxl hk
        have f6 := hfz (p * 9 + 6)
        have f7 := hfz (p * 9 + 7)
        have f8 := hfz (p * 9 + 8)
        clear hfz
        unfold placeOk at hpo
        have hp4 : (se = 0 ∧ pg = 0 ∧ lv = 0) ∨ (1 ≤ se ∧ se ≤ 16777215 ∧ 0 ≤ pg ∧ pg < 512 ∧ lv = 1) ∨ (1 ≤ se ∧ se ≤ 16777215 ∧ 0 ≤ pg ∧ pg < 512 ∧ lv = 2) := by omega
        clear hpo
        rcases hp4 with ⟨rfl, rfl, rfl⟩ | ⟨q1, q2, q3, q4, rfl⟩ | ⟨q1, q2, q3, q4, rfl⟩
        all_goals
          try have q5 : ¬ se = 0 := by omega
          go_enter Try.func31, Try.ntmps31
          go_upto_region 10 with (go_at_call 33; refine (at_yes _ rb base F _ L G id H.out hl p x HX.out HXI.out HBE.out).mono ?_; rintro e w1 ⟨rfl, rfl⟩)
          go_region
          all_goals go_wp2
          all_goals go_ret
          all_goals exact ⟨rfl, HPUT.out.1, HPUT.out.2.drew_in⟩
      · rw [if_neg hpo, if_neg (fun q => hpo q.2)]
        have HPN := Lib.hid hpo
        clear hpo hk hfz k6 k7 k8
        go_enter Try.func31, Try.ntmps31
        go_upto_region 10 with (go_at_call 33; refine (at_yes _ rb base F _ L G id H.out hl p x HX.out HXI.out HBE.out).mono ?_; rintro e w1 ⟨rfl, rfl⟩)
        all_goals first
          | (go_ret; exact ⟨rfl, H.out, refl_onlyA _ _ _⟩)
          | (exfalso; refine HPN.out ?_; unfold placeOk; (try simp only [Bool.or_eq_true, Bool.or_eq_false_iff, Bool.not_eq_false', Bool.not_eq_eq_eq_not, Bool.not_true, Bool.not_false, beq_iff_eq, bne_iff_ne, ne_eq, Bool.not_eq_true', decide_eq_true_eq, decide_eq_false_iff_not, beq_eq_false_iff_ne] at *); first | omega | (trace_state; omega))
    · rw [if_neg hk, if_neg (fun q => hk q.1)]
      generalize x.kd = xk at *
      clear k6 k7 k8 hfz
      go_enter Try.func31, Try.ntmps31
      go_wp2_with (go_at_call 33; refine (at_yes _ rb base F _ L G id H.out hl p x HX.out HXI.out HBE.out).mono ?_; rintro e w1 ⟨rfl, rfl⟩)
      go_ret
      exact ⟨rfl, H.out, refl_onlyA _ _ _⟩
end Go.Proofs.Ytkladhbamkomnaa
