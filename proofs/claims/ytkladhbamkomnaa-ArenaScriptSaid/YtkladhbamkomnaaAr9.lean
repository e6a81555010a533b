/- package arena: SetPlace. -/
import Derived.Test.YtkladhbamkomnaaAr8
namespace Go.Proofs.Ytkladhbamkomnaa
set_option linter.unusedVariables false
set_option linter.unusedSimpArgs false
open Go.ChangeShapes Go.WideShapes Go.ChangeAt Go.RowKit Go.Shelf
open TabA

/-- A place that a table may have. -/
def placeOk (se pg lv : Int) : Prop := (se = 0 ∧ pg = 0 ∧ lv = 0) ∨ (1 ≤ se ∧ se ≤ 16777215 ∧ 0 ≤ pg ∧ pg < 512 ∧ (lv = 1 ∨ lv = 2))
instance (se pg lv : Int) : Decidable (placeOk se pg lv) := by unfold placeOk; infer_instance
/-- What SetPlace answers, and what it leaves. -/
def placeR (L : List Ob) (id se pg lv : Int) : Int :=
  match getO L id with
  | none => 2
  | some x => if x.kd = 4 then (if placeOk se pg lv then 0 else 3) else 8
def placeL (L : List Ob) (id se pg lv : Int) : List Ob :=
  match getO L id with
  | none => L
  | some x => if x.kd = 4 ∧ placeOk se pg lv then L.set (posO L id) { x with se := se, pg := pg, lv := lv } else L
theorem ar_set3 {w : World} {b ab base F g c p : Nat} {cnt : List Int} {L : List Ob} {x : Ob} {se pg lv : Int} (h : ArAt w b ab base F cnt (.slice (some ⟨g, 0, none⟩) L.length c) L) (hx : L[p]? = some x) :
    ArAt (((w.setCell ⟨g, p * 10 + 7, none⟩ (.int .i64 se)).setCell ⟨g, p * 10 + 8, none⟩ (.int .i64 pg)).setCell ⟨g, p * 10 + 9, none⟩ (.int .i64 lv)) b ab base F cnt (.slice (some ⟨g, 0, none⟩) L.length c) (L.set p { x with se := se, pg := pg, lv := lv }) ∧
    OnlyA w (((w.setCell ⟨g, p * 10 + 7, none⟩ (.int .i64 se)).setCell ⟨g, p * 10 + 8, none⟩ (.int .i64 pg)).setCell ⟨g, p * 10 + 9, none⟩ (.int .i64 lv)) b ab (.slice (some ⟨g, 0, none⟩) L.length c) (.slice (some ⟨g, 0, none⟩) L.length c) := by
  have hpl := (List.getElem?_eq_some_iff.1 hx).1
  obtain ⟨a1, o1⟩ := ar_set (j := 6) (n := se) (y := { x with se := se }) h hx (by decide) rfl ⟨rfl, rfl, rfl, rfl⟩
  have l1 : (L.set p { x with se := se }).length = L.length := by simp
  rw [← l1] at a1 o1
  obtain ⟨a2, o2⟩ := ar_set (j := 7) (n := pg) (x := { x with se := se }) (y := { x with se := se, pg := pg }) a1 (List.getElem?_set_self hpl) (by decide) rfl ⟨rfl, rfl, rfl, rfl⟩
  rw [List.set_set] at a2
  have l2 : (L.set p { x with se := se }).length = (L.set p { x with se := se, pg := pg }).length := by simp
  rw [l2] at a2 o1 o2
  obtain ⟨a3, o3⟩ := ar_set (j := 8) (n := lv) (x := { x with se := se, pg := pg }) (y := { x with se := se, pg := pg, lv := lv }) a2 (List.getElem?_set_self hpl) (by decide) rfl ⟨rfl, rfl, rfl, rfl⟩
  rw [List.set_set] at a3
  have l3 : (L.set p { x with se := se, pg := pg }).length = L.length := by simp
  rw [l3] at a3 o1 o2 o3
  exact ⟨a3, (o1.trans o2).trans o3⟩
set_option maxRecDepth 100000 in
set_option maxHeartbeats 4000000 in
theorem place_any (w : World) (b ab base F : Nat) (cnt : List Int) (v : Value) (L : List Ob) (id se pg lv : Int) (h : ArAt w b ab base F cnt v L) :
    Calls Try.prog 27 #[.pointer (some ⟨b, 0, none⟩), .int .i64 id, .int .i64 se, .int .i64 pg, .int .i64 lv] w fun e w' => e = .returned (.int .i64 (placeR L id se pg lv)) ∧ ArAt w' b ab base F cnt v (placeL L id se pg lv) ∧ OnlyA w w' b ab v v := by
  have H := Lib.hid h
  unfold placeR placeL
  rcases getO_has h id with ⟨hg, hh⟩ | ⟨x, hg, hh, hx, hid⟩
  · rw [hg]
    simp only []
    have HH := Lib.hid hh
    clear h hh hg
    go_enter Try.func27, Try.ntmps27
    go_wp2_with (go_at_call 40; refine (only_no _ b ab base F cnt v L id 4 H.out HH.out).mono ?_; rintro e w1 ⟨rfl, hb1⟩)
    go_ret
    exact ⟨rfl, H.out.call hb1, OnlyA.of_below hb1⟩
  · rw [hg]
    simp only []
    obtain ⟨g, c, rfl, hgl, hgb, hga, hcs⟩ := h.vform hx
    have k6 := hcs 6 (.int .i64 x.se) rfl
    have k7 := hcs 7 (.int .i64 x.pg) rfl
    have k8 := hcs 8 (.int .i64 x.lv) rfl
    have hgf : ∀ j, w.frozen? ⟨g, j, none⟩ = false := by
      intro j
      rcases h.tab.row.2 with ⟨h1, _⟩ | ⟨g', cap, cur, h1, _, q2, _⟩
      · cases h1
      · rw [rows_len] at h1
        cases h1
        exact froz_row q2
    have HH := Lib.hid hh
    have HX := Lib.hid hx
    clear h hh hg hcs hx hid
    by_cases hk : x.kd = 4
    · rw [if_pos hk]
      have HKK := Lib.hid hk
      have hset := fun w1 (hb : Below w.heap.size w w1) => ar_set3 (se := se) (pg := pg) (lv := lv) (H.out.call hb) HX.out
      have HS := Lib.hid hset
      clear hset
      by_cases hp : placeOk se pg lv
      · rw [if_pos hp, if_pos ⟨hk, hp⟩]
        generalize hpp : posO L id = p at *
        have HP := Lib.hid hpp
        clear hpp hk
        have hgf7 := hgf (p * 10 + 7)
        have hgf8 := hgf (p * 10 + 8)
        have hgf9 := hgf (p * 10 + 9)
        clear hgf
        unfold placeOk at hp
        have hp4 : (se = 0 ∧ pg = 0 ∧ lv = 0) ∨ (1 ≤ se ∧ se ≤ 16777215 ∧ 0 ≤ pg ∧ pg < 512 ∧ lv = 1) ∨ (1 ≤ se ∧ se ≤ 16777215 ∧ 0 ≤ pg ∧ pg < 512 ∧ lv = 2) := by omega
        clear hp
        rcases hp4 with ⟨rfl, rfl, rfl⟩ | ⟨q1, q2, q3, q4, rfl⟩ | ⟨q1, q2, q3, q4, rfl⟩
        all_goals
          try have q5 : ¬ se = 0 := by omega
          go_enter Try.func27, Try.ntmps27
          go_wp2_with (go_at_call 40; refine (only_yes _ b ab base F g c cnt L id 4 x H.out HH.out (by rw [HP.out]; exact HX.out)).mono ?_; rw [if_pos HKK.out, HP.out]; rintro e w1 ⟨rfl, hb1⟩; obtain ⟨hc1, hf1⟩ := bcell hb1; have hgw : g < w1.heap.size := Nat.lt_of_lt_of_le hgl hb1.size)
          go_ret
          obtain ⟨s1, s2⟩ := HS.out w1 hb1
          exact ⟨rfl, s1, (OnlyA.of_below hb1).trans s2⟩
      · rw [if_neg hp, if_neg (fun q => hp q.2)]
        generalize hpp : posO L id = p at *
        have HP := Lib.hid hpp
        clear hpp hk
        have hgf7 := hgf (p * 10 + 7)
        have hgf8 := hgf (p * 10 + 8)
        have hgf9 := hgf (p * 10 + 9)
        clear hgf
        have HPN := Lib.hid hp
        clear hp
        go_enter Try.func27, Try.ntmps27
        go_upto_region 6 with (go_at_call 40; refine (only_yes _ b ab base F g c cnt L id 4 x H.out HH.out (by rw [HP.out]; exact HX.out)).mono ?_; rw [if_pos HKK.out, HP.out]; rintro e w1 ⟨rfl, hb1⟩; obtain ⟨hc1, hf1⟩ := bcell hb1; have hgw : g < w1.heap.size := Nat.lt_of_lt_of_le hgl hb1.size)
        all_goals go_wp2
        all_goals first
          | (go_ret; exact ⟨rfl, H.out.call hb1, OnlyA.of_below hb1⟩)
          | (exfalso; refine HPN.out ?_; unfold placeOk; (try simp only [Bool.or_eq_true, Bool.or_eq_false_iff, Bool.not_eq_false', Bool.not_eq_eq_eq_not, Bool.not_true, Bool.not_false, beq_iff_eq, bne_iff_ne, ne_eq, Bool.not_eq_true', decide_eq_true_eq, decide_eq_false_iff_not, beq_eq_false_iff_ne] at *); first | omega | (trace_state; omega))
    · rw [if_neg hk, if_neg (fun q => hk q.1)]
      have HKK := Lib.hid hk
      generalize hp : posO L id = p at *
      have HP := Lib.hid hp
      clear hp hk k6 k7 k8 hgf
      go_enter Try.func27, Try.ntmps27
      go_wp2_with (go_at_call 40; refine (only_yes _ b ab base F g c cnt L id 4 x H.out HH.out (by rw [HP.out]; exact HX.out)).mono ?_; rw [if_neg HKK.out]; rintro e w1 ⟨rfl, hb1⟩)
      go_ret
      exact ⟨rfl, H.out.call hb1, OnlyA.of_below hb1⟩
end Go.Proofs.Ytkladhbamkomnaa
