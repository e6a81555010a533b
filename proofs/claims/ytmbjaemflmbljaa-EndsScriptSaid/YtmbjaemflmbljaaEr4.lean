/- chapter 22's own answer: Add. -/
import Derived.Test.YtmbjaemflmbljaaEr3
namespace Go.Proofs.Ytmbjaemflmbljaa
set_option linter.unusedVariables false
set_option linter.unusedSimpArgs false
open Go.ChangeShapes Go.WideShapes Go.ChangeAt Go.RowKit Go.Shelf
open TabE

theorem rowsN_new (id : Int) : flat (rowsN [newN id]) = [.int .i64 id, .slice none 0 0, .bool false] := rfl
theorem new_at (w : World) (t : TypeId) (xs : List Value) : ∀ j u, xs[j]? = some u → (w.alloc (.cells xs.toArray t)).cell? ((⟨w.heap.size, 0, none⟩ : Addr).add j) = some u := by
  intro j u hj
  rw [show ((⟨w.heap.size, 0, none⟩ : Addr).add j) = ⟨w.heap.size, j, none⟩ by unfold Addr.add; split <;> simp_all]
  exact (cell_cur (cur := xs) (heap_alloc_new w (.cells xs.toArray t)) j).trans hj
set_option maxRecDepth 100000 in
set_option maxHeartbeats 4000000 in
theorem radd_any (w : World) (rb base n : Nat) (v : Value) (R : List En) (id : Int) (h : RefE w rb base v R) (hO : OnceA (R.map absE) n) (hn : n < 1000000) :
    Calls Try.prog 11 #[.pointer (some ⟨rb, 0, none⟩), .int .i64 id] w fun e w' => e = .returned (.int .i64 (addR (R.map absE) id)) ∧ ∃ u R', RefE w' rb base u R' ∧ OnlyE w w' rb v u R R' ∧ R'.map absE = addL (R.map absE) id := by
  obtain ⟨i0, hi0, hz0, hz1, hz2⟩ := info_parts infoR
  have HI0 := Lib.hid hi0
  clear hi0
  have hl : R.length < 1000000 := by have := ref_len hO; omega
  have H := Lib.hid h
  by_cases h1 : id < 1
  · have e1 : addR (R.map absE) id = 2 := by unfold addR; rw [if_pos h1]
    have HD : Hid (R.map absE = addL (R.map absE) id) := Lib.hid (by unfold addL; rw [e1]; rfl)
    rw [e1]
    clear h hO e1
    go_enter Try.func11, Try.ntmps11
    go_wp2
    go_ret
    exact ⟨rfl, v, R, H.out, .of_below (Below.refl _ _), HD.out⟩
  rcases ref_get hO id with ⟨hg, hno⟩ | ⟨p, x, hx, hid, hg, hbe⟩
  · have e1 : addR (R.map absE) id = 0 := by unfold addR; rw [if_neg h1, hg]; rfl
    have HD : Hid ((R ++ [newN id]).map absE = addL (R.map absE) id) := Lib.hid (by unfold addL; rw [if_pos e1, List.map_append]; rfl)
    rw [e1]
    have HNO := Lib.hid hno
    have hwd := h.wide
    have hrow := h.row
    obtain ⟨ra, rc, rfl, hrc, hra⟩ := h.form
    have c1 := h.c0
    have f1 := h.f0
    have HWD := Lib.hid hwd
    have HROW := Lib.hid hrow
    have HB0 : Hid (∀ w2, Below w.heap.size w w2 → w2.cell? ⟨rb, 0, none⟩ = some (.slice ra R.length rc) ∧ w2.frozen? ⟨rb, 0, none⟩ = false) := Lib.hid (fun w2 hb => ⟨(h.call hb).c0, (h.call hb).f0⟩)
    have hfin : ∀ w2 va vn vc, Below w.heap.size w w2 → w2.ownsRow w.heap.size 64 3 (.slice va vn vc) (R.length + 1) (flat (rowsN R) ++ [.int .i64 id, .slice none 0 0, .bool false]) → RefE (w2.setCell ⟨rb, 0, none⟩ (.slice va vn vc)) rb base (.slice va vn vc) (R ++ [newN id]) ∧ OnlyE w (w2.setCell ⟨rb, 0, none⟩ (.slice va vn vc)) rb (.slice ra R.length rc) (.slice va vn vc) R (R ++ [newN id]) := by
      intro w2 va vn vc hb ho
      rw [← rowsN_new id, ← flat_append, ← rowsN_app, show R.length + 1 = (R ++ [newN id]).length by simp] at ho
      refine h.store hb ho (fun y hy => ?_)
      rcases List.mem_append.1 hy with q | q
      · exact .inl q
      · simp at q; subst q; exact .inr ⟨rfl, rfl⟩
    have HFIN := Lib.hid hfin
    have HRA := Lib.hid hra
    by_cases hz : R.length = 0
    · have hR : R = [] := List.length_eq_zero_iff.1 hz
      subst hR
      have hrr : ra = none ∨ ∃ g, ra = some ⟨g, 0, none⟩ := by
        rcases hrow.2 with ⟨q, _⟩ | ⟨g', cap, cur, q, _⟩
        · cases q; exact .inl rfl
        · cases q; exact .inr ⟨_, rfl⟩
      clear h hO hg hno hwd hrow hfin hra hz e1
      simp only [List.length_nil] at c1 HB0 HFIN hrc ⊢
      rcases hrr with rfl | ⟨g, rfl⟩
      all_goals
        go_enter Try.func11, Try.ntmps11
        go_upto_region 5 with (go_at_call 26; refine (at_no _ rb base _ [] id H.out (by decide) HNO.out).mono ?_; rintro e w1 ⟨rfl, rfl⟩)
        go_wp2_with (at_builtin; refine wpList_append_own _ rfl _ _ 27 rfl w.heap.size 64 i0 (.agg #[.int .i64 0, .slice none 0 0, .bool false]) 3 40 Try.underlying27 HI0.out hz0 hz1 hz2 rfl (by decide) _ 0 [] rfl (World.ownsRow_nil _ _ _ _) ⟨w.heap.size, 0, none⟩ 1 1 [.int .i64 id, .slice none 0 0, .bool false] rfl rfl (new_at w _ [.int .i64 id, .slice none 0 0, .bool false]) (by simp [Value.oneCell']) (by unfold maxLen; omega) (by omega) (by simp) ?_; intro v2 w2 hown2 hgr2 _; have hb2 : Below w.heap.size w w2 := (bal (Below.refl _ _) _).grown hgr2 (by simp) (fun k e => by cases e); obtain ⟨va, vn, vc, rfl⟩ := own_slice hown2; have HO2 := Lib.hid hown2; have HB2 := Lib.hid hb2; obtain ⟨c2, f2⟩ := HB0.out w2 hb2; clear hown2 hgr2 hb2)
        go_ret
        exact ⟨rfl, _, _, (HFIN.out w2 va vn vc HB2.out HO2.out).1, (HFIN.out w2 va vn vc HB2.out HO2.out).2, HD.out⟩
    · obtain ⟨g, rfl, _, hgl, _⟩ := hra 0 (by omega)
      clear h hO hg hno hwd hrow hfin hra e1
      obtain ⟨m, hm⟩ : ∃ m, R.length = m := ⟨_, rfl⟩
      rw [hm] at c1 HB0 HFIN hrc hl hz HROW
      have HM := Lib.hid hm
      clear hm
      have hm1 : ¬ (m : Int) = 0 := by omega
      go_enter Try.func11, Try.ntmps11
      go_upto_region 5 with (go_at_call 26; refine (at_no _ rb base _ R id (by have := H.out; rw [HM.out] at this; exact this) (by rw [HM.out]; exact hl) HNO.out).mono ?_; rintro e w1 ⟨rfl, rfl⟩)
      go_wp2_with (first
        | (at_builtin; refine wpList_append_own _ rfl _ _ 27 rfl w.heap.size 64 i0 (.agg #[.int .i64 0, .slice none 0 0, .bool false]) 3 40 Try.underlying27 HI0.out hz0 hz1 hz2 rfl (by decide) (.slice none 0 0) 0 [] rfl (World.ownsRow_nil _ _ _ _) ⟨g, 0, none⟩ m rc (flat (rowsN R)) rfl (by rw [fl_len HWD.out, HM.out]) (fun j u hj => by rw [Addr.add_mid, Nat.zero_add]; exact row_cells HROW.out hj) (flat_one HWD.out) (by unfold maxLen; omega) (by omega) (by simp) ?_; intro v2 w2 hown2 hgr2 _; have hb2 : Below w.heap.size w w2 := (Below.refl _ _).grown hgr2 (Nat.le_refl _) (fun k e => by cases e); have HO2 := Lib.hid hown2; have HB2 := Lib.hid hb2; clear hown2 hgr2 hb2)
        | (at_builtin; refine wpList_append_own _ rfl _ _ 27 rfl w.heap.size 64 i0 (.agg #[.int .i64 0, .slice none 0 0, .bool false]) 3 40 Try.underlying27 HI0.out hz0 hz1 hz2 rfl (by decide) v2 _ _ rfl (HO2.out.alloc _) ⟨w2.heap.size, 0, none⟩ 1 1 [.int .i64 id, .slice none 0 0, .bool false] rfl rfl (new_at w2 _ [.int .i64 id, .slice none 0 0, .bool false]) (by simp [Value.oneCell']) (by unfold maxLen; omega) (by omega) (by have := HB2.out.size; simp; omega) ?_; intro v3 w3 hown3 hgr3 _; have hb3 : Below w.heap.size w w3 := ((HB2.out.trans ((bal (Below.refl _ w2) _).mono HB2.out.size))).grown hgr3 (by have := HB2.out.size; simp; omega) (fun k e => (HO2.out.lt k e).1); obtain ⟨va, vn, vc, rfl⟩ := own_slice hown3; have HO3 := Lib.hid hown3; have HB3 := Lib.hid hb3; obtain ⟨c3, f3⟩ := HB0.out w3 hb3; clear hown3 hgr3 hb3))
      go_ret
      have hq := HFIN.out w3 va vn vc HB3.out (by simpa using HO3.out)
      exact ⟨rfl, _, _, hq.1, (by rw [HM.out]; exact hq.2), HD.out⟩
  · have e1 : addR (R.map absE) id = 11 := by unfold addR; rw [if_neg h1, hg]; rfl
    have HD : Hid (R.map absE = addL (R.map absE) id) := Lib.hid (by unfold addL; rw [e1]; rfl)
    rw [e1]
    have hpL := (List.getElem?_eq_some_iff.1 hx).1
    have HX := Lib.hid hx
    have HXI := Lib.hid hid
    have HBE := Lib.hid hbe
    clear h hO hx hid hbe hg e1
    go_enter Try.func11, Try.ntmps11
    go_wp2_with (go_at_call 26; refine (at_yes _ rb base _ R id H.out hl p x HX.out HXI.out HBE.out).mono ?_; rintro e w1 ⟨rfl, rfl⟩)
    go_ret
    exact ⟨rfl, v, R, H.out, .of_below (Below.refl _ _), HD.out⟩
end Go.Proofs.Ytmbjaemflmbljaa
