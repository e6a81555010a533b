/- chapter 22's own answer: First, List. -/
import Derived.Test.YtmbjaemflmbljaaEr1
namespace Go.Proofs.Ytmbjaemflmbljaa
set_option linter.unusedVariables false
set_option linter.unusedSimpArgs false
open Go.ChangeShapes Go.WideShapes Go.ChangeAt Go.RowKit Go.Shelf
open TabE

theorem ref_get {R : List En} {n : Nat} (hO : OnceA (R.map absE) n) (id : Int) :
    (getA (R.map absE) id = none ∧ ∀ x ∈ R, x.id ≠ id) ∨ ∃ k x, R[k]? = some x ∧ x.id = id ∧ getA (R.map absE) id = some (absE x) ∧ ∀ (i : Nat) (y : En), i < k → R[i]? = some y → y.id ≠ id := by
  cases hg : getA (R.map absE) id with
  | none =>
    refine .inl ⟨rfl, fun x hx e => ?_⟩
    unfold getA at hg
    rw [List.find?_eq_none] at hg
    exact hg (absE x) (List.mem_map.2 ⟨x, hx, rfl⟩) (decide_eq_true e)
  | some y =>
    obtain ⟨hy, hid⟩ := getA_mem hg
    obtain ⟨x, hx, rfl⟩ := List.mem_map.1 hy
    obtain ⟨k, hk⟩ := List.getElem?_of_mem hx
    refine .inr ⟨k, x, hk, hid, rfl, fun i z hi hz e => ?_⟩
    exact ids_apart hO.ids (i := i) (p := k) (x := absE z) (y := absE x) (by rw [List.getElem?_map, hz]; rfl) (by rw [List.getElem?_map, hk]; rfl) (by omega) (e.trans hid.symm)
theorem ref_len {R : List En} {n : Nat} (hO : OnceA (R.map absE) n) : R.length ≤ n := by
  have := hO.many
  rwa [List.length_map] at this
theorem ref_each {R : List En} {n : Nat} (hO : OnceA (R.map absE) n) : ∀ x ∈ R, x.l.length ≤ n :=
  AbsE.each (L := R) (A := R.map absE) ⟨.refl _, hO⟩
theorem firstA_none {A : List EA} {id : Int} (h : getA A id = none) : firstA A id = (0, false, false) := by unfold firstA listA; rw [h]
theorem firstA_nil {A : List EA} {id : Int} {y : EA} (h : getA A id = some y) (h0 : y.2.1 = []) : firstA A id = (0, false, false) := by unfold firstA listA; rw [h]; simp only [h0, if_true]
theorem firstA_cons {A : List EA} {id z : Int} {y : EA} {l : List Int} (h : getA A id = some y) (h0 : y.2.1 = z :: l) : firstA A id = (z, y.2.2, true) := by
  have e : listA A id = y.2 := by unfold listA; rw [h]; simp [h0]
  unfold firstA
  rw [e, h0]
set_option maxRecDepth 100000 in
set_option maxHeartbeats 2000000 in
theorem rfirst_any (w : World) (rb base n : Nat) (v : Value) (R : List En) (id : Int) (h : RefE w rb base v R) (hO : OnceA (R.map absE) n) (hn : n < 1000000) :
    Calls Try.prog 21 #[.pointer (some ⟨rb, 0, none⟩), .int .i64 id] w fun e w' => e = .returned (.tuple #[.int .i64 (firstA (R.map absE) id).1, .bool (firstA (R.map absE) id).2.1, .bool (firstA (R.map absE) id).2.2]) ∧ Below w.heap.size w w' := by
  have hl : R.length < 1000000 := by have := ref_len hO; omega
  have H := Lib.hid h
  rcases ref_get hO id with ⟨hg, hno⟩ | ⟨k, x, hk, hid, hg, hbe⟩
  · rw [firstA_none hg]
    have HNO := Lib.hid hno
    clear h hO hg hno
    go_enter Try.func21, Try.ntmps21
    go_wp2_with (go_at_call 26; refine (at_no _ rb base v R id H.out hl HNO.out).mono ?_; rintro e w1 ⟨rfl, rfl⟩)
    exact bodyPost_ret (v := .tuple #[.int .i64 0, .bool false, .bool false]) (by simp [results, Try.results21, go_sem]) rfl ⟨rfl, Below.refl _ _⟩
  · have hxm := List.mem_of_getElem? hk
    have hml := ref_each hO x hxm
    obtain ⟨ra, rc, rfl, hrc, hra⟩ := h.form
    have hkL := (List.getElem?_eq_some_iff.1 hk).1
    obtain ⟨g, rfl, _, hgl, _, _, hobs⟩ := hra k hkL
    obtain ⟨v0, v1, v2⟩ := hobs k x hk
    obtain ⟨a, c, ev, hcs⟩ := h.lform hxm
    have c1 := h.c0
    rw [ev] at v1
    have HK := Lib.hid hk
    have HID := Lib.hid hid
    have HBE := Lib.hid hbe
    have hkI : (k : Int) < R.length := by omega
    clear h hO hra hobs hk hid hbe ev hxm v0
    cases hxl : x.l with
    | nil =>
      rw [firstA_nil hg hxl]
      rw [hxl] at v1
      simp only [List.length_nil] at v1
      clear hcs hml hxl hg
      generalize x.s = s at *
      go_enter Try.func21, Try.ntmps21
      go_wp2_with (go_at_call 26; refine (at_yes _ rb base _ R id H.out hl k x HK.out HID.out HBE.out).mono ?_; rintro e w1 ⟨rfl, rfl⟩)
      exact bodyPost_ret (v := .tuple #[.int .i64 0, .bool false, .bool false]) (by simp [results, Try.results21, go_sem]) rfl ⟨rfl, Below.refl _ _⟩
    | cons z l =>
      rw [firstA_cons hg hxl]
      simp only [absE]
      rw [hxl] at v1 hcs hml
      clear hg
      generalize x.s = s at *
      obtain ⟨gl, rfl, cz⟩ := hcs 0 z rfl
      obtain ⟨m, hm⟩ : ∃ m, (z :: l).length = m := ⟨_, rfl⟩
      have hm0 : 0 < m := by rw [← hm]; simp
      rw [hm] at v1 hml
      have hm1 : ¬ (m : Int) = 0 := by omega
      have hm2 : (0 : Int) < m := by omega
      have hm3 : ¬ m = 0 := by omega
      have hb1 : ((m : Int) == 0) = false := by simp; omega
      have hb2 : decide ((k : Int) < 0) = false := decide_eq_false (by omega)
      clear hcs hxl hm
      go_enter Try.func21, Try.ntmps21
      go_wp2_with (go_at_call 26; refine (at_yes _ rb base _ R id H.out hl k x HK.out HID.out HBE.out).mono ?_; rintro e w1 ⟨rfl, rfl⟩)
      go_quiet (fail)
      go_wp2
      exact bodyPost_ret (v := .tuple #[.int .i64 z, .bool s, .bool true]) (by simp [results, Try.results21, go_sem]) rfl ⟨rfl, below_drewN (Below.refl _ _) _⟩
set_option maxRecDepth 100000 in
set_option maxHeartbeats 2000000 in
theorem rlist_any (w : World) (rb base n : Nat) (v : Value) (R : List En) (id : Int) (h : RefE w rb base v R) (hO : OnceA (R.map absE) n) (hn : n < 1000000) :
    Calls Try.prog 23 #[.pointer (some ⟨rb, 0, none⟩), .int .i64 id] w fun e w' => ∃ r, e = .returned (.tuple #[r, .bool (listA (R.map absE) id).2]) ∧ w'.ownsRow base 3 1 r (listA (R.map absE) id).1.length ((listA (R.map absE) id).1.map (Value.int .i64)) ∧ Below w.heap.size w w' := by
  have hl : R.length < 1000000 := by have := ref_len hO; omega
  have H := Lib.hid h
  unfold listA
  rcases ref_get hO id with ⟨hg, hno⟩ | ⟨k, x, hk, hid, hg, hbe⟩
  · rw [hg]
    have HNO := Lib.hid hno
    clear h hO hg hno
    go_enter Try.func23, Try.ntmps23
    go_wp2_with (go_at_call 26; refine (at_no _ rb base v R id H.out hl HNO.out).mono ?_; rintro e w1 ⟨rfl, rfl⟩)
    go_ret2
    exact ⟨_, rfl, World.ownsRow_nil _ _ _ _, Below.refl _ _⟩
  · rw [hg]
    have hxm := List.mem_of_getElem? hk
    have hml := ref_each hO x hxm
    obtain ⟨ra, rc, rfl, hrc, hra⟩ := h.form
    have hkL := (List.getElem?_eq_some_iff.1 hk).1
    obtain ⟨g, rfl, _, hgl, _, _, hobs⟩ := hra k hkL
    obtain ⟨v0, v1, v2⟩ := hobs k x hk
    have hown := h.own x hxm
    obtain ⟨a, c, ev, hcs⟩ := h.lform hxm
    have c1 := h.c0
    rw [ev] at v1 hown
    have HOWN := Lib.hid hown
    have HK := Lib.hid hk
    have HID := Lib.hid hid
    have HBE := Lib.hid hbe
    have hkI : (k : Int) < R.length := by omega
    clear h hO hg hra hobs hk hid hbe ev hxm v0 hown hcs
    simp only [absE]
    generalize x.s = s at *
    by_cases hxl : x.l = []
    · rw [hxl] at v1
      simp only [List.length_nil] at v1
      simp only [hxl, if_true]
      clear hml hxl HOWN
      go_enter Try.func23, Try.ntmps23
      go_wp2_with (go_at_call 26; refine (at_yes _ rb base _ R id H.out hl k x HK.out HID.out HBE.out).mono ?_; rintro e w1 ⟨rfl, rfl⟩)
      go_ret2
      exact ⟨_, rfl, World.ownsRow_nil _ _ _ _, Below.refl _ _⟩
    · simp only [hxl, if_false]
      have hm0 := List.length_pos_iff.2 hxl
      generalize hm : x.l.length = m at *
      have HM := Lib.hid hm
      clear hm
      have hm1 : ¬ (m : Int) = 0 := by omega
      have hm2 : (0 : Int) < m := by omega
      have hm3 : ¬ m = 0 := by omega
      have hb1 : ((m : Int) == 0) = false := by simp; omega
      have hb2 : decide ((k : Int) < 0) = false := decide_eq_false (by omega)
      clear hxl
      go_enter Try.func23, Try.ntmps23
      go_wp2_with (go_at_call 26; refine (at_yes _ rb base _ R id H.out hl k x HK.out HID.out HBE.out).mono ?_; rintro e w1 ⟨rfl, rfl⟩)
      go_quiet (fail)
      go_wp2
      go_ret2
      exact ⟨_, rfl, row_of_block HOWN.out (fun g _ => by simp), below_drewN (Below.refl _ _) _⟩
end Go.Proofs.Ytmbjaemflmbljaa
