/- chapter 12's own answer: SetMark, SetPlace. -/
import Derived.Test.YtkladhbamkomnaaArY
namespace Go.Proofs.Ytkladhbamkomnaa
set_option linter.unusedVariables false
set_option linter.unusedSimpArgs false
open Go.ChangeShapes Go.WideShapes Go.ChangeAt Go.RowKit Go.Shelf
open TabA

theorem own_set {w : World} {B s g n c i : Nat} {e : TypeId} {xs : List Value} (u : Value) (h : w.ownsRow B e s (.slice (some ⟨g, 0, none⟩) n c) n xs) : (w.setCell ⟨g, i, none⟩ u).ownsRow B e s (.slice (some ⟨g, 0, none⟩) n c) n (xs.set i u) := by
  rcases h.2 with ⟨h1, _⟩ | ⟨g', cap, cur, h1, q1, q2, q3, q4, q5, q6⟩
  · cases h1
  · cases h1
    refine ⟨by simpa using h.1, .inr ⟨_, _, cur.setIfInBounds i u, rfl, q1, Go.heap_setCell_same _ _ _ _ _ _ q2, q3, q4, by simpa using q5, ?_⟩⟩
    rw [← q6, Array.toList_setIfInBounds, List.take_set]
theorem objsC_set : ∀ (L : List Ob) (p : Nat) {x y : Ob} {j : Nat} {u : Value}, L[p]? = some x → j < 9 → y.cells = x.cells.set j u → objsC (L.set p y) = (objsC L).set (p * 9 + j) u
  | [], p, x, y, j, u, hx, _, _ => by simp at hx
  | z :: L, 0, x, y, j, u, hx, hj, hy => by
    simp at hx
    subst hx
    have e1 : objsC (y :: L) = y.cells ++ objsC L := rfl
    have e2 : objsC (z :: L) = z.cells ++ objsC L := rfl
    have hl : z.cells.length = 9 := rfl
    rw [List.set_cons_zero, e1, e2, hy, List.set_append_left _ _ (by omega)]
    simp
  | z :: L, p + 1, x, y, j, u, hx, hj, hy => by
    have e1 : objsC (z :: L.set p y) = z.cells ++ objsC (L.set p y) := rfl
    have e2 : objsC (z :: L) = z.cells ++ objsC L := rfl
    have hl : z.cells.length = 9 := rfl
    rw [List.set_cons_succ, e1, e2, List.set_append_right _ _ (by omega), hl, show (p + 1) * 9 + j - 9 = p * 9 + j by omega, objsC_set L p (by simpa using hx) hj hy]
theorem RefA.put {w : World} {rb base g c p j : Nat} {F : Int} {L : List Ob} {G : List Int} {x y : Ob} {u : Value} (h : RefA w rb base F (.slice (some ⟨g, 0, none⟩) L.length c) L G) (hx : L[p]? = some x) (hj : j < 9) (hy : y.cells = x.cells.set j u) :
    RefA (w.setCell ⟨g, p * 9 + j, none⟩ u) rb base F (.slice (some ⟨g, 0, none⟩) L.length c) (L.set p y) G ∧ OnlyA w (w.setCell ⟨g, p * 9 + j, none⟩ u) rb rb (.slice (some ⟨g, 0, none⟩) L.length c) (.slice (some ⟨g, 0, none⟩) L.length c) := by
  have hlt := h.row.lt g rfl
  have hr := own_set (i := p * 9 + j) u h.row
  rw [← objsC_set L p hx hj hy] at hr
  have o : ∀ k, k ≠ g → (w.setCell ⟨g, p * 9 + j, none⟩ u).heap[k]? = w.heap[k]? := fun k hk => Go.heap_setCell_other _ _ _ _ hk
  have hn := h.lt
  exact ⟨⟨(o rb (by omega)).trans h.blk, h.gl, by rw [List.length_set]; exact hr, h.lt, by simpa using h.bs, h.cn⟩, ⟨rfl, rfl, rfl, by simp, fun k hk h1 h2 h3 => o k (fun e => h3 (by rw [e]; rfl)), .inl rfl⟩⟩
/-- The place of a number. -/
theorem at_facts {L : List Ob} {id : Int} (hA : Asc (rowsO L)) (hh : hasR (rowsO L) id = true) : ∃ x p, L[p]? = some x ∧ x.id = id ∧ getO L id = some x ∧ posO L id = p ∧ ∀ i y, i < p → L[i]? = some y → y.id ≠ id := by
  obtain ⟨r, hr, e⟩ := (hasR_at hA).1 hh
  rw [rows_get] at hr
  cases hz : L[posR (rowsO L) id]? with
  | none => rw [hz] at hr; cases hr
  | some z =>
    have hxid : z.id = id := by rw [hz] at hr; cases hr; exact e
    refine ⟨z, _, hz, hxid, by unfold getO posO; rw [hh, if_pos rfl, hz], rfl, fun i y hi hy e' => ?_⟩
    have := asc_id hA hi hy hz
    omega
theorem RefA.froz {w : World} {rb base g c : Nat} {F : Int} {L : List Ob} {G : List Int} (h : RefA w rb base F (.slice (some ⟨g, 0, none⟩) L.length c) L G) (j : Nat) : w.frozen? ⟨g, j, none⟩ = false := by
  rcases h.row.2 with ⟨h1, _⟩ | ⟨g', cap, cur, h1, _, q2, _⟩
  · cases h1
  · cases h1
    exact froz_row q2
theorem refl_onlyA (w : World) (rb : Nat) (v : Value) : OnlyA w w rb rb v v := OnlyA.of_below (Below.refl _ _)
set_option maxRecDepth 100000 in
set_option maxHeartbeats 2000000 in
theorem rmark_any (w : World) (rb base : Nat) (F : Int) (v : Value) (L : List Ob) (G : List Int) (id m : Int) (h : RefA w rb base F v L G) (hA : Asc (rowsO L)) (hl : L.length < 1000000) :
    Calls Try.prog 30 #[.pointer (some ⟨rb, 0, none⟩), .int .i64 id, .int .i64 m] w fun e w' => e = .returned (.int .i64 (markR L id m)) ∧ RefA w' rb base F v (markL L id m) G ∧ OnlyA w w' rb rb v v := by
  have H := Lib.hid h
  unfold markR markL
  cases hh : hasR (rowsO L) id with
  | false =>
    have hg : getO L id = none := by unfold getO; rw [hh]; rfl
    have HNO := Lib.hid (at_no_of hh)
    rw [hg]
    simp only []
    clear h hA hh hg
    go_enter Try.func30, Try.ntmps30
    go_wp2_with (go_at_call 33; refine (at_no _ rb base F v L G id H.out hl HNO.out).mono ?_; rintro e w1 ⟨rfl, rfl⟩)
    go_ret
    exact ⟨rfl, H.out, refl_onlyA _ _ _⟩
  | true =>
    obtain ⟨x, p, hx, hid, hg, hp, hbe⟩ := at_facts hA hh
    rw [hg, hp]
    simp only []
    have hpL := (List.getElem?_eq_some_iff.1 hx).1
    obtain ⟨ra, rc, rfl, hrc, hra⟩ := obs_of h.row
    obtain ⟨g, rfl, hgl, hobs⟩ := hra p hpL
    have hpI : (p : Int) < L.length := by omega
    have k1 := hobs p 1 x _ hx rfl
    have k4 := hobs p 4 x _ hx rfl
    have k5 := hobs p 5 x _ hx rfl
    have c1 := h.c1
    have hfz := h.froz (p * 9 + 5)
    have hput := h.put (j := 5) (u := .int .i64 m) (y := { x with ma := m }) hx (by decide) rfl
    have HPUT := Lib.hid hput
    have HX := Lib.hid hx
    have HXI := Lib.hid hid
    have HBE := Lib.hid hbe
    clear h hA hh hg hra hobs hx hid hbe hput hp
    by_cases hk : x.kd = 1
    · rw [if_pos hk]
      rw [hk] at k1
      by_cases hm : m < 0 ∨ x.fr < m
      · rw [if_pos hm, if_neg (fun q => q.2 hm)]
        generalize x.fr = xf at *
        generalize x.ma = xm at *
        have hm3 : m < 0 ∨ (¬ m < 0 ∧ xf < m) := by omega
        clear hm
        rcases hm3 with hm | ⟨hm0, hm⟩
        all_goals
          go_enter Try.func30, Try.ntmps30
          go_wp2_with (go_at_call 33; refine (at_yes _ rb base F _ L G id H.out hl p x HX.out HXI.out HBE.out).mono ?_; rintro e w1 ⟨rfl, rfl⟩)
          go_ret
          exact ⟨rfl, H.out, refl_onlyA _ _ _⟩
      · rw [if_neg hm, if_pos ⟨hk, hm⟩]
        have hm0 : ¬ m < 0 := by omega
        have hm1 : ¬ x.fr < m := by omega
        clear hm hk
        obtain ⟨xf, hxf⟩ : ∃ y, y = x.fr := ⟨_, rfl⟩
        obtain ⟨xm, hxm⟩ : ∃ y, y = x.ma := ⟨_, rfl⟩
        rw [← hxf] at hm1 k4
        rw [← hxm] at k5
        clear hxf hxm
        go_enter Try.func30, Try.ntmps30
        go_wp2_with (go_at_call 33; refine (at_yes _ rb base F _ L G id H.out hl p x HX.out HXI.out HBE.out).mono ?_; rintro e w1 ⟨rfl, rfl⟩)
        go_ret
        exact ⟨rfl, HPUT.out⟩
    · rw [if_neg hk, if_neg (fun q => hk q.1)]
      generalize x.kd = xk at *
      go_enter Try.func30, Try.ntmps30
      go_wp2_with (go_at_call 33; refine (at_yes _ rb base F _ L G id H.out hl p x HX.out HXI.out HBE.out).mono ?_; rintro e w1 ⟨rfl, rfl⟩)
      go_ret
      exact ⟨rfl, H.out, refl_onlyA _ _ _⟩
end Go.Proofs.Ytkladhbamkomnaa
