/- package arena: SetMark, SetPlace. -/
import Derived.Test.YtkladhbamkomnaaAr7
namespace Go.Proofs.Ytkladhbamkomnaa
set_option linter.unusedVariables false
set_option linter.unusedSimpArgs false
open Go.ChangeShapes Go.WideShapes Go.ChangeAt Go.RowKit Go.Shelf
open TabA

set_option maxRecDepth 100000 in
set_option maxHeartbeats 1000000 in
theorem only_no (w : World) (b ab base F : Nat) (cnt : List Int) (v : Value) (L : List Ob) (id kk : Int) (h : ArAt w b ab base F cnt v L) (hh : hasR (rowsO L) id = false) :
    Calls Try.prog 40 #[.pointer (some ⟨b, 0, none⟩), .int .i64 id, .int .i64 kk] w fun e w' => e = .returned (.tuple #[.pointer none, .int .i64 2]) ∧ Below w.heap.size w w' := by
  have H := Lib.hid h
  have HH := Lib.hid hh
  clear h hh
  go_enter Try.func40, Try.ntmps40
  go_wp2_with (go_at_call 32; refine (find_no _ b ab base F cnt v L id H.out HH.out).mono ?_; rintro e w1 ⟨rfl, hb1⟩)
  go_ret2
  exact ⟨rfl, hb1⟩
set_option maxRecDepth 100000 in
set_option maxHeartbeats 1000000 in
theorem only_yes (w : World) (b ab base F g c : Nat) (cnt : List Int) (L : List Ob) (id kk : Int) (x : Ob) (h : ArAt w b ab base F cnt (.slice (some ⟨g, 0, none⟩) L.length c) L) (hh : hasR (rowsO L) id = true) (hx : L[posO L id]? = some x) :
    Calls Try.prog 40 #[.pointer (some ⟨b, 0, none⟩), .int .i64 id, .int .i64 kk] w fun e w' => e = .returned (if x.kd = kk then .tuple #[.pointer (some ⟨g, posO L id * 10 + 1, none⟩), .int .i64 0] else .tuple #[.pointer none, .int .i64 8]) ∧ Below w.heap.size w w' := by
  obtain ⟨g', c', hv, hgl, hgb, hga, hcs⟩ := h.vform hx
  cases hv
  have k1 := hcs 1 (.int .i64 x.kd) rfl
  have H := Lib.hid h
  have HH := Lib.hid hh
  clear h hh hcs hx
  generalize hp : posO L id = p at *
  have HP := Lib.hid hp
  clear hp
  generalize x.kd = xk at *
  by_cases hk : xk = kk
  · rw [if_pos hk]
    subst hk
    go_enter Try.func40, Try.ntmps40
    go_wp2_with (go_at_call 32; refine (find_yes _ b ab base F g c cnt L id H.out HH.out).mono ?_; rw [HP.out]; rintro e w1 ⟨rfl, hb1⟩; obtain ⟨hc1, hf1⟩ := bcell hb1)
    go_ret2
    exact ⟨rfl, hb1⟩
  · rw [if_neg hk]
    go_enter Try.func40, Try.ntmps40
    go_wp2_with (go_at_call 32; refine (find_yes _ b ab base F g c cnt L id H.out HH.out).mono ?_; rw [HP.out]; rintro e w1 ⟨rfl, hb1⟩; obtain ⟨hc1, hf1⟩ := bcell hb1)
    go_ret2
    exact ⟨rfl, hb1⟩
theorem rows_set (L : List Ob) (p : Nat) (y : Ob) : rowsO (L.set p y) = (rowsO L).set p (rowO y) := by simp [rowsO, List.map_set]
theorem good_set {F : Nat} {cnt : List Int} {L : List Ob} {p : Nat} {x y : Ob} (h : GoodO F cnt L) (hx : L[p]? = some x) (e : y.id = x.id ∧ y.kd = x.kd ∧ y.sz = x.sz ∧ y.fi = x.fi ∧ y.fr = x.fr) : GoodO F cnt (L.set p y) := by
  intro z hz
  rcases List.mem_or_eq_of_mem_set hz with q | q
  · exact h z q
  · subst q
    obtain ⟨e1, e2, e3, e4, e5⟩ := e
    have := h x (List.mem_of_getElem? hx)
    rw [e1, e2, e3, e4, e5]
    exact this
/-- One cell of an object is written over. -/
theorem ar_set {w : World} {b ab base F g c p j : Nat} {cnt : List Int} {L : List Ob} {x y : Ob} {n : Int} (h : ArAt w b ab base F cnt (.slice (some ⟨g, 0, none⟩) L.length c) L) (hx : L[p]? = some x) (hj : j < 9) (hy : (y.id, y.cells) = (x.id, x.cells.set j (.int .i64 n))) (e : y.kd = x.kd ∧ y.sz = x.sz ∧ y.fi = x.fi ∧ y.fr = x.fr) :
    ArAt (w.setCell ⟨g, p * 10 + (j + 1), none⟩ (.int .i64 n)) b ab base F cnt (.slice (some ⟨g, 0, none⟩) L.length c) (L.set p y) ∧ OnlyA w (w.setCell ⟨g, p * 10 + (j + 1), none⟩ (.int .i64 n)) b ab (.slice (some ⟨g, 0, none⟩) L.length c) (.slice (some ⟨g, 0, none⟩) L.length c) := by
  obtain ⟨g', c', hv, hgl, hgb, hga, hcs⟩ := h.vform hx
  cases hv
  have ht := tab_set (j := j) (u := .int .i64 n) h.tab (i := p) (r := rowO x) (by rw [rows_get, hx]; rfl) (by omega) rfl
  have hr : rowsO (L.set p y) = (rowsO L).set p ((rowO x).1, (rowO x).2.set j (.int .i64 n)) := by rw [rows_set]; congr 1
  have o : ∀ k, k ≠ g → (w.setCell ⟨g, p * 10 + (j + 1), none⟩ (.int .i64 n)).heap[k]? = w.heap[k]? := fun k hk => Go.heap_setCell_other _ _ _ _ hk
  refine ⟨⟨(World.cell?_of_block (o b (fun e => hgb e.symm))).trans h.c0, (o ab (fun e => hga e.symm)).trans h.ad, h.fl, h.f1, by rw [hr]; exact ht, h.abl, h.ne, h.cn, good_set h.good hx ⟨(Prod.mk.inj hy).1, e⟩⟩, ⟨rfl, rfl, rfl, by simp, fun k hk h1 h2 h3 => o k (fun e => h3 (by rw [e]; rfl)), .inl rfl⟩⟩
/-- What SetMark answers, and what it leaves. -/
def markR (L : List Ob) (id m : Int) : Int :=
  match getO L id with
  | none => 2
  | some x => if x.kd = 1 then (if m < 0 ∨ x.fr < m then 3 else 0) else 8
def markL (L : List Ob) (id m : Int) : List Ob :=
  match getO L id with
  | none => L
  | some x => if x.kd = 1 ∧ ¬ (m < 0 ∨ x.fr < m) then L.set (posO L id) { x with ma := m } else L
set_option maxRecDepth 100000 in
set_option maxHeartbeats 2000000 in
theorem mark_any (w : World) (b ab base F : Nat) (cnt : List Int) (v : Value) (L : List Ob) (id m : Int) (h : ArAt w b ab base F cnt v L) :
    Calls Try.prog 26 #[.pointer (some ⟨b, 0, none⟩), .int .i64 id, .int .i64 m] w fun e w' => e = .returned (.int .i64 (markR L id m)) ∧ ArAt w' b ab base F cnt v (markL L id m) ∧ OnlyA w w' b ab v v := by
  have H := Lib.hid h
  unfold markR markL
  rcases getO_has h id with ⟨hg, hh⟩ | ⟨x, hg, hh, hx, hid⟩
  · rw [hg]
    simp only []
    have HH := Lib.hid hh
    clear h hh hg
    go_enter Try.func26, Try.ntmps26
    go_wp2_with (go_at_call 40; refine (only_no _ b ab base F cnt v L id 1 H.out HH.out).mono ?_; rintro e w1 ⟨rfl, hb1⟩)
    go_ret
    exact ⟨rfl, H.out.call hb1, OnlyA.of_below hb1⟩
  · rw [hg]
    simp only []
    obtain ⟨g, c, rfl, hgl, hgb, hga, hcs⟩ := h.vform hx
    have k4 := hcs 4 (.int .i64 x.fr) rfl
    have k5 := hcs 5 (.int .i64 x.ma) rfl
    have hgf : w.frozen? ⟨g, posO L id * 10 + (5 + 1), none⟩ = false := by
      rcases h.tab.row.2 with ⟨h1, _⟩ | ⟨g', cap, cur, h1, _, q2, _⟩
      · cases h1
      · rw [rows_len] at h1
        cases h1
        exact froz_row q2
    have HH := Lib.hid hh
    have HX := Lib.hid hx
    clear h hh hg hcs hx hid
    by_cases hk : x.kd = 1
    · rw [if_pos hk]
      by_cases hm : m < 0 ∨ x.fr < m
      · rw [if_pos hm, if_neg (fun q => q.2 hm)]
        have HKK := Lib.hid hk
        generalize hp : posO L id = p at *
        have HP := Lib.hid hp
        generalize hfr : x.fr = xf at *
        clear hp hk hfr k5 hgf
        have hm3 : m < 0 ∨ (¬ m < 0 ∧ xf < m) := by omega
        clear hm
        rcases hm3 with hm | ⟨hm0, hm⟩
        all_goals
          go_enter Try.func26, Try.ntmps26
          go_wp2_with (go_at_call 40; refine (only_yes _ b ab base F g c cnt L id 1 x H.out HH.out (by rw [HP.out]; exact HX.out)).mono ?_; rw [if_pos HKK.out, HP.out]; rintro e w1 ⟨rfl, hb1⟩; obtain ⟨hc1, hf1⟩ := bcell hb1)
          go_ret
          exact ⟨rfl, H.out.call hb1, OnlyA.of_below hb1⟩
      · rw [if_neg hm, if_pos ⟨hk, hm⟩]
        have HKK := Lib.hid hk
        have hset := fun w1 (hb : Below w.heap.size w w1) => ar_set (j := 5) (n := m) (y := { x with ma := m }) (H.out.call hb) HX.out (by decide) rfl ⟨rfl, rfl, rfl, rfl⟩
        have HS := Lib.hid hset
        clear hset
        generalize hp : posO L id = p at *
        have HP := Lib.hid hp
        generalize hxf : x.fr = xf at *
        have hm0 : ¬ m < 0 := by omega
        have hm1 : ¬ xf < m := by omega
        clear hp hk hm hxf
        go_enter Try.func26, Try.ntmps26
        go_wp2_with (go_at_call 40; refine (only_yes _ b ab base F g c cnt L id 1 x H.out HH.out (by rw [HP.out]; exact HX.out)).mono ?_; rw [if_pos HKK.out, HP.out]; rintro e w1 ⟨rfl, hb1⟩; obtain ⟨hc1, hf1⟩ := bcell hb1; have hgw : g < w1.heap.size := Nat.lt_of_lt_of_le hgl hb1.size)
        go_ret
        obtain ⟨s1, s2⟩ := HS.out w1 hb1
        exact ⟨rfl, s1, (OnlyA.of_below hb1).trans s2⟩
    · rw [if_neg hk, if_neg (fun q => hk q.1)]
      have HKK := Lib.hid hk
      generalize hp : posO L id = p at *
      have HP := Lib.hid hp
      clear hp hk k4 k5 hgf
      go_enter Try.func26, Try.ntmps26
      go_wp2_with (go_at_call 40; refine (only_yes _ b ab base F g c cnt L id 1 x H.out HH.out (by rw [HP.out]; exact HX.out)).mono ?_; rw [if_neg HKK.out]; rintro e w1 ⟨rfl, hb1⟩)
      go_ret
      exact ⟨rfl, H.out.call hb1, OnlyA.of_below hb1⟩
end Go.Proofs.Ytkladhbamkomnaa
