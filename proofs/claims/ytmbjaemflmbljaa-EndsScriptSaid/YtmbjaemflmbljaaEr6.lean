/- chapter 22's own answer: Wait. -/
import Derived.Test.YtmbjaemflmbljaaEr5
namespace Go.Proofs.Ytmbjaemflmbljaa
set_option linter.unusedVariables false
set_option linter.unusedSimpArgs false
open Go.ChangeShapes Go.WideShapes Go.ChangeAt Go.RowKit Go.Shelf
open TabE

theorem ref_who {R : List En} {t : Int} : t ∈ whoA (R.map absE) ↔ ∃ x ∈ R, t ∈ x.l := by
  rw [whoA_mem]
  constructor
  · rintro ⟨y, hy, ht⟩
    obtain ⟨x, hx, rfl⟩ := List.mem_map.1 hy
    exact ⟨x, hx, ht⟩
  · rintro ⟨x, hx, ht⟩
    exact ⟨absE x, List.mem_map.2 ⟨x, hx, rfl⟩, ht⟩
theorem wait_set {R : List En} {n : Nat} (hO : OnceA (R.map absE) n) {k : Nat} {x : En} {id t : Int} {s : Bool} {v' : Value} (hx : R[k]? = some x) (hid : x.id = id) (hr : waitR (R.map absE) id t s = 0) : (R.set k ⟨x.id, x.l ++ [t], s, v'⟩).map absE = waitL (R.map absE) id t s := by
  unfold waitL
  rw [if_pos hr, List.map_set]
  have hM : (R.map absE)[k]? = some (absE x) := by rw [List.getElem?_map, hx]; rfl
  have hF : absE ⟨x.id, x.l ++ [t], s, v'⟩ = waitF id t s (absE x) := by
    unfold waitF
    rw [if_pos (show (absE x).1 = id from hid)]
    rfl
  rw [hF, set_map hM (fun i z hi hz => ?_)]
  have := ids_apart hO.ids hz hM hi
  unfold waitF
  rw [if_neg (fun e => this (e.trans hid.symm))]
set_option maxRecDepth 100000 in
set_option maxHeartbeats 2000000 in
theorem rwait_no (w : World) (rb base n : Nat) (v : Value) (R : List En) (id t : Int) (s : Bool) (h : RefE w rb base v R) (hO : OnceA (R.map absE) n) (hn : n < 1000000) (hr : waitR (R.map absE) id t s ≠ 0) :
    Calls Try.prog 17 #[.pointer (some ⟨rb, 0, none⟩), .int .i64 id, .int .i64 t, .bool s] w fun e w' => e = .returned (.int .i64 (waitR (R.map absE) id t s)) ∧ Below w.heap.size w w' := by
  have hl : R.length < 1000000 := by have := ref_len hO; omega
  have hm : ∀ x ∈ R, x.l.length < 1000000 := fun x hx => by have := ref_each hO x hx; omega
  have H := Lib.hid h
  rcases ref_get hO id with ⟨hg, hno⟩ | ⟨k, x, hk, hid, hg, hbe⟩
  · have e1 : waitR (R.map absE) id t s = 2 := by unfold waitR; rw [hg]
    rw [e1]
    have HNO := Lib.hid hno
    clear h hO hr hno hg e1 hm
    go_enter Try.func17, Try.ntmps17
    go_wp2_with (go_at_call 26; refine (at_no _ rb base v R id H.out hl HNO.out).mono ?_; rintro e w1 ⟨rfl, rfl⟩)
    go_ret
    exact ⟨rfl, Below.refl _ _⟩
  · have HK := Lib.hid hk
    have HID := Lib.hid hid
    have HBE := Lib.hid hbe
    have hk0 : ¬ (k : Int) < 0 := by omega
    by_cases ht : t < 1
    · have e1 : waitR (R.map absE) id t s = 2 := by unfold waitR; rw [hg]; simp only [if_pos ht]
      rw [e1]
      clear h hO hr hk hid hbe hg e1 hm
      go_enter Try.func17, Try.ntmps17
      go_wp2_with (go_at_call 26; refine (at_yes _ rb base v R id H.out hl k x HK.out HID.out HBE.out).mono ?_; rintro e w1 ⟨rfl, rfl⟩)
      go_ret
      exact ⟨rfl, Below.refl _ _⟩
    · by_cases hw : t ∈ whoA (R.map absE)
      · have e1 : waitR (R.map absE) id t s = 16 := by unfold waitR; rw [hg]; simp only [if_neg ht, if_pos hw]
        rw [e1]
        obtain ⟨i, y, j, hf⟩ := find_ex (ref_who.1 hw)
        have HF := Lib.hid hf
        have HM := Lib.hid hm
        have hi0 : (0 : Int) ≤ (i : Int) := by omega
        clear h hO hr hk hid hbe hg e1 hf hw hm
        go_enter Try.func17, Try.ntmps17
        go_wp2_with (first
          | (go_at_call 26; refine (at_yes _ rb base v R id H.out hl k x HK.out HID.out HBE.out).mono ?_; rintro e w1 ⟨rfl, rfl⟩)
          | (go_at_call 30; refine (waits_yes _ rb base v R t i j y H.out hl HM.out HF.out).mono ?_; rintro e w1 ⟨rfl, rfl⟩))
        go_ret
        exact ⟨rfl, Below.refl _ _⟩
      · have hs : ¬ (x.l = [] ∨ x.s = s) := fun q => hr (by unfold waitR; rw [hg]; simp only [if_neg ht, if_neg hw]; exact if_pos q)
        have e1 : waitR (R.map absE) id t s = 16 := by unfold waitR; rw [hg]; simp only [if_neg ht, if_neg hw]; exact if_neg hs
        rw [e1]
        have HW : Hid (∀ x ∈ R, t ∉ x.l) := Lib.hid (fun x hx q => hw (ref_who.2 ⟨x, hx, q⟩))
        have hxm := List.mem_of_getElem? hk
        obtain ⟨ra, rc, rfl, hrc, hra⟩ := h.form
        have hkL := (List.getElem?_eq_some_iff.1 hk).1
        obtain ⟨g, rfl, _, hgl, _, _, hobs⟩ := hra k hkL
        obtain ⟨v0, v1, v2⟩ := hobs k x hk
        obtain ⟨a, c, ev, hcs⟩ := h.lform hxm
        have c1 := h.c0
        rw [ev] at v1
        have hml := hm x hxm
        have HM := Lib.hid hm
        have hkI : (k : Int) < R.length := by omega
        have hm0 : 0 < x.l.length := List.length_pos_iff.2 (fun e => hs (.inl e))
        have hxs : x.s = !s := by cases hq : x.s <;> cases s <;> simp_all
        generalize x.l.length = m at *
        rw [hxs] at v2
        have hm1 : (0 : Int) < (m : Int) := by omega
        have hm2 : ¬ m = 0 := by omega
        clear h hO hr hk hid hbe hg e1 hw hm hs hra hobs hcs ev hxm v0 hxs
        cases s
        all_goals
          simp only [Bool.not_true, Bool.not_false] at v2
          go_enter Try.func17, Try.ntmps17
          go_wp2_with (first
            | (go_at_call 26; refine (at_yes _ rb base _ R id H.out hl k x HK.out HID.out HBE.out).mono ?_; rintro e w1 ⟨rfl, rfl⟩)
            | (go_at_call 30; refine (waits_no _ rb base _ R t H.out hl HM.out HW.out).mono ?_; rintro e w1 ⟨rfl, rfl⟩))
          go_ret
          exact ⟨rfl, Below.refl _ _⟩
attribute [-go_sem] Builtin.append_
set_option maxRecDepth 100000 in
set_option maxHeartbeats 4000000 in
theorem rwait_in (w : World) (rb base n : Nat) (v : Value) (R : List En) (id t : Int) (s : Bool) (h : RefE w rb base v R) (hO : OnceA (R.map absE) n) (hn : n < 1000000) (hr : waitR (R.map absE) id t s = 0) :
    Calls Try.prog 17 #[.pointer (some ⟨rb, 0, none⟩), .int .i64 id, .int .i64 t, .bool s] w fun e w' => e = .returned (.int .i64 0) ∧ ∃ R', RefE w' rb base v R' ∧ OnlyE w w' rb v v R R' ∧ R'.map absE = waitL (R.map absE) id t s := by
  have hl : R.length < 1000000 := by have := ref_len hO; omega
  have hm : ∀ x ∈ R, x.l.length < 1000000 := fun x hx => by have := ref_each hO x hx; omega
  have H := Lib.hid h
  rcases ref_get hO id with ⟨hg, hno⟩ | ⟨k, x, hk, hid, hg, hbe⟩
  · exfalso
    unfold waitR at hr
    rw [hg] at hr
    simp at hr
  have hr2 := hr
  unfold waitR at hr2
  rw [hg] at hr2
  simp only at hr2
  by_cases ht : t < 1
  · rw [if_pos ht] at hr2; simp at hr2
  rw [if_neg ht] at hr2
  by_cases hw : t ∈ whoA (R.map absE)
  · rw [if_pos hw] at hr2; simp at hr2
  rw [if_neg hw] at hr2
  have hs : x.l = [] ∨ x.s = s := by
    by_cases q : x.l = [] ∨ x.s = s
    · exact q
    · rw [if_neg (show ¬ ((absE x).2.1 = [] ∨ (absE x).2.2 = s) from q)] at hr2; simp at hr2
  clear hr2
  have HWS : Hid (∀ v', (R.set k ⟨x.id, x.l ++ [t], s, v'⟩).map absE = waitL (R.map absE) id t s) := Lib.hid (fun v' => wait_set hO hk hid hr)
  have HK := Lib.hid hk
  have HID := Lib.hid hid
  have HBE := Lib.hid hbe
  have hk0 : ¬ (k : Int) < 0 := by omega
  have HW : Hid (∀ x ∈ R, t ∉ x.l) := Lib.hid (fun x hx q => hw (ref_who.2 ⟨x, hx, q⟩))
  have hxm := List.mem_of_getElem? hk
  obtain ⟨ra, rc, rfl, hrc, hra⟩ := h.form
  have hkL := (List.getElem?_eq_some_iff.1 hk).1
  obtain ⟨g, rfl, hgb, hgl, hgr, hfz, hobs⟩ := hra k hkL
  obtain ⟨v0, v1, v2⟩ := hobs k x hk
  have hxo := h.own x hxm
  obtain ⟨xa, xc, ev⟩ := own_len hxo
  have c1 := h.c0
  have hml := hm x hxm
  have HM := Lib.hid hm
  have hkI : (k : Int) < R.length := by omega
  -- the copy, then the new one
  have hb0 : Below w.heap.size w w.drew := (Below.refl _ _).drew
  obtain ⟨u, w2, hrun1, hown1, hg1⟩ := copy_run (B2 := w.heap.size) (row_of_block hxo (w' := w.drew) (fun _ _ => rfl)) (by omega) (Nat.le_refl _)
  have hb2 : Below w.heap.size w w2 := hb0.grown hg1 (Nat.le_refl _) (fun k e => by cases e)
  obtain ⟨va, vn, vc, w3, hrun2, hown2, hg2⟩ := one_run (B := w.heap.size) (W := w2.alloc (.cells #[.int .i64 t] 3)) w2.heap.size t (hown1.alloc _) (World.alloc_heap_new w2 _) (by omega) (by simp; exact Nat.le_trans hb2.size (Nat.le_succ _))
  have hb3 : Below w.heap.size w w3 := (bal hb2 _).grown hg2 (by simp; exact Nat.le_trans hb2.size (Nat.le_succ _)) (fun k e => (hown1.lt k e).1)
  have HST := Lib.hid (h.turn2 s hk hb3 hown2)
  -- the new one first
  have hbA : Below w.heap.size w (w.alloc (.cells #[.int .i64 t] 3)).drew := (bal (Below.refl _ _) _).drew
  obtain ⟨u', w2', hrun1', hown1', hg1'⟩ := copy_run (B2 := w.heap.size) (row_of_block hxo (w' := (w.alloc (.cells #[.int .i64 t] 3)).drew) (fun g hg => hbA.block g (hxo.lt g hg).2)) (by omega) hbA.size
  have hb2' : Below w.heap.size w w2' := hbA.grown hg1' hbA.size (fun k e => by cases e)
  have hnew' : w2'.heap[w.heap.size]? = some (.cells #[.int .i64 t] 3 (0, 0)) := (hg1'.block _ (by simp) (by simp)).trans (World.alloc_heap_new w _)
  obtain ⟨va', vn', vc', w3', hrun2', hown2', hg2'⟩ := one_run (B := w.heap.size) w.heap.size t hown1' hnew' (by omega) hb2'.size
  have hb3' : Below w.heap.size w w3' := hb2'.grown hg2' hb2'.size (fun k e => (hown1'.lt k e).1)
  have HST' := Lib.hid (h.turn2 s hk hb3' hown2')
  have p0 := (h.call hb2).c0
  have q0 := (h.call hb2').c0
  have pl : rb < w2.heap.size := Nat.lt_of_lt_of_le (Nat.lt_of_lt_of_le h.lt h.bs) hb2.size
  have ql : rb < w2'.heap.size := Nat.lt_of_lt_of_le (Nat.lt_of_lt_of_le h.lt h.bs) hb2'.size
  have m0 := (h.call hb3).c0
  have n0 := (h.call hb3').c0
  have m1 := (hb3.cell (p := ⟨g, k * 3 + 1, none⟩) hgl).trans v1
  have n1 := (hb3'.cell (p := ⟨g, k * 3 + 1, none⟩) hgl).trans v1
  have m2 := (hb3.cell (p := ⟨g, k * 3 + 2, none⟩) hgl).trans v2
  have n2 := (hb3'.cell (p := ⟨g, k * 3 + 2, none⟩) hgl).trans v2
  have mf : ∀ j, w3.frozen? ⟨g, j, none⟩ = false := fun j => (hb3.frozen (p := ⟨g, j, none⟩) hgl).trans (hfz j)
  have nf : ∀ j, w3'.frozen? ⟨g, j, none⟩ = false := fun j => (hb3'.frozen (p := ⟨g, j, none⟩) hgl).trans (hfz j)
  have mf1 := mf (k * 3 + 1)
  have mf2 := mf (k * 3 + 2)
  have nf1 := nf (k * 3 + 1)
  have nf2 := nf (k * 3 + 2)
  rw [ev] at v1 hrun1 hrun1' m1 n1
  have hrb : rb < w.heap.size := Nat.lt_of_lt_of_le h.lt h.bs
  have hdec : ¬ (0 : Int) < (x.l.length : Int) ∨ x.s = s := by
    rcases hs with q | q
    · left; rw [q]; simp
    · right; exact q
  clear hbA hown1' hg1' hb2' hnew' hown2' hg2' hb3' hb0 hfz hg hra hobs hxo hxm v0 hr hw hm h hO hk hid hbe mf nf hs ev
  clear hown1 hg1 hb2 hown2 hg2 hb3
  generalize hmm : x.l.length = m at *
  clear hmm
  generalize hss : x.s = xs at *
  clear hss
  have hcases : (¬ (0 : Int) < (m : Int)) ∨ ((0 : Int) < (m : Int) ∧ s = xs) := by
    rcases hdec with q | q
    · left; exact q
    · by_cases r : 0 < m
      · right; exact ⟨by omega, q.symm⟩
      · left; omega
  clear hdec
  rcases hcases with hm0 | ⟨hm0, rfl⟩
  all_goals
    go_enter Try.func17, Try.ntmps17
    go_upto_region 7 with (first
      | (go_at_call 26; refine (at_yes _ rb base _ R id H.out hl k x HK.out HID.out HBE.out).mono ?_; rintro e w1 ⟨rfl, rfl⟩)
      | (go_at_call 30; refine (waits_no _ rb base _ R t H.out hl HM.out HW.out).mono ?_; rintro e w1 ⟨rfl, rfl⟩))
    go_region
    all_goals
      go_wp2
      go_ret
      first
      | exact ⟨rfl, _, HST.out.1, HST.out.2, HWS.out _⟩
      | exact ⟨rfl, _, HST'.out.1, HST'.out.2, HWS.out _⟩
end Go.Proofs.Ytmbjaemflmbljaa
