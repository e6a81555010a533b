/- chapter 22's own answer: Remove. -/
import Derived.Test.YtmbjaemflmbljaaEr6
namespace Go.Proofs.Ytmbjaemflmbljaa
set_option linter.unusedVariables false
set_option linter.unusedSimpArgs false
open Go.ChangeShapes Go.WideShapes Go.ChangeAt Go.RowKit Go.Shelf
open TabE

theorem rem_set {R : List En} {n : Nat} (hO : OnceA (R.map absE) n) {p q : Nat} {x : En} {t : Int} (hf : FindAt R t p x q) (v' : Value) : (R.set p { x with l := x.l.take q ++ x.l.drop (q + 1), v := v' }).map absE = remL (R.map absE) t := by
  rw [List.map_set]
  have hM : (R.map absE)[p]? = some (absE x) := by rw [List.getElem?_map, hf.1]; rfl
  have hF : absE { x with l := x.l.take q ++ x.l.drop (q + 1), v := v' } = remF t (absE x) := by
    unfold remF
    show (x.id, x.l.take q ++ x.l.drop (q + 1), x.s) = (x.id, x.l.erase t, x.s)
    rw [erase_at hf.2.1]
  rw [hF, set_map hM (fun k z hk hz => ?_)]
  · rfl
  · have hzt : t ∉ z.2.1 := fun q => whoA_apart hO.once hz hM hk q (idx_mem hf.2.1)
    unfold remF
    rw [List.erase_of_not_mem hzt]
theorem rem_no {R : List En} {t : Int} (h : ∀ x ∈ R, t ∉ x.l) : remL (R.map absE) t = R.map absE := by
  unfold remL
  rw [List.map_map]
  refine List.map_congr_left (fun x hx => ?_)
  show (x.id, x.l.erase t, x.s) = (x.id, x.l, x.s)
  rw [List.erase_of_not_mem (h x hx)]
theorem pre_run {W : World} {B2 gl lc q : Nat} {l : List Int} (hq : q ≤ l.length) (hc : ∀ j z, l[j]? = some z → W.cell? ⟨gl, j, none⟩ = some (.int .i64 z)) (hl : l.length ≤ 1000000) (hz : B2 ≤ W.heap.size) :
    ∃ u w2, (Builtin.append_ #[36, 36] 36 #[.slice none 0 0, .slice (some ⟨gl, 0, none⟩) q lc]).run Try.prog W = .ok u w2 ∧ w2.ownsRow B2 3 1 u (l.take q).length ((l.take q).map (Value.int .i64)) ∧ W.grownBy w2 none := by
  obtain ⟨i0, hi0, hz0, hz1, hz2⟩ := info_parts infoI
  obtain ⟨u, w2, h1, h2, h3, _⟩ := run_append_own_at (P := Try.prog) (w := W) B2 36 36 3 i0 (.int .i64 0) 1 8 Try.underlying36 hi0 hz0 hz1 hz2 rfl (by decide) (.slice none 0 0) 0 [] (World.ownsRow_nil _ _ _ _) ⟨gl, 0, none⟩ q lc ((l.take q).map (Value.int .i64)) (by rw [List.length_map, List.length_take]; omega) (fun j u hj => by
      rw [List.getElem?_map, List.getElem?_take] at hj
      split at hj
      · cases e : l[j]? with
        | none => rw [e] at hj; cases hj
        | some z => rw [e] at hj; cases hj; rw [Addr.add_mid, Nat.zero_add]; exact hc j z e
      · cases hj) (fun u hu => by obtain ⟨z, _, rfl⟩ := List.mem_map.1 hu; rfl) (by unfold maxLen; omega) (by omega) hz
  rw [Nat.zero_add, List.nil_append] at h2
  rw [show (l.take q).length = q by rw [List.length_take]; omega]
  exact ⟨u, w2, h1, h2, h3⟩
theorem suf_run {W : World} {B gl lc q : Nat} {l l0 : List Int} {u : Value} (hq : q < l.length) (hcc : l.length ≤ lc) (h : W.ownsRow B 3 1 u l0.length (l0.map (Value.int .i64))) (hc : ∀ j z, l[j]? = some z → W.cell? ⟨gl, j, none⟩ = some (.int .i64 z)) (hl : l.length ≤ 1000000) (hl0 : l0.length ≤ 1000000) (hz : B ≤ W.heap.size) :
    ∃ va vn vc w2, (Builtin.append_ #[36, 36] 36 #[u, if lc = q + 1 then .slice (some ⟨gl, 0, none⟩) (l.length - (q + 1)) 0 else .slice (some ⟨gl, q + 1, none⟩) (l.length - (q + 1)) (lc - (q + 1))]).run Try.prog W = .ok (.slice va vn vc) w2 ∧ w2.ownsRow B 3 1 (.slice va vn vc) (l0 ++ l.drop (q + 1)).length ((l0 ++ l.drop (q + 1)).map (Value.int .i64)) ∧ W.grownBy w2 u.ownBlock := by
  obtain ⟨i0, hi0, hz0, hz1, hz2⟩ := info_parts infoI
  have hdl : (l.drop (q + 1)).length = l.length - (q + 1) := List.length_drop
  split
  · rename_i hcq
    have hl1 : l.length - (q + 1) = 0 := by omega
    have hdr : l.drop (q + 1) = [] := List.drop_eq_nil_iff.2 (by omega)
    rw [hl1, hdr, List.append_nil]
    obtain ⟨u', w2, h1, h2, h3, _⟩ := run_append_own_at (P := Try.prog) (w := W) B 36 36 3 i0 (.int .i64 0) 1 8 Try.underlying36 hi0 hz0 hz1 hz2 rfl (by decide) u l0.length (l0.map (Value.int .i64)) h ⟨gl, 0, none⟩ 0 0 [] rfl (fun j u hj => by simp at hj) (by simp) (by unfold maxLen; omega) (by omega) hz
    obtain ⟨va, vn, vc, rfl⟩ := own_slice h2
    rw [List.append_nil] at h2
    exact ⟨va, vn, vc, w2, h1, h2, h3⟩
  · obtain ⟨u', w2, h1, h2, h3, _⟩ := run_append_own_at (P := Try.prog) (w := W) B 36 36 3 i0 (.int .i64 0) 1 8 Try.underlying36 hi0 hz0 hz1 hz2 rfl (by decide) u l0.length (l0.map (Value.int .i64)) h ⟨gl, q + 1, none⟩ (l.length - (q + 1)) (lc - (q + 1)) ((l.drop (q + 1)).map (Value.int .i64)) (by rw [List.length_map, hdl, Nat.mul_one]) (fun j u hj => by
        rw [List.getElem?_map, List.getElem?_drop] at hj
        cases e : l[q + 1 + j]? with
        | none => rw [e] at hj; cases hj
        | some z => rw [e] at hj; cases hj; rw [Addr.add_mid]; exact hc _ z e) (fun u hu => by obtain ⟨z, _, rfl⟩ := List.mem_map.1 hu; rfl) (by unfold maxLen; omega) (by omega) hz
    obtain ⟨va, vn, vc, rfl⟩ := own_slice h2
    rw [← List.map_append, show l0.length + (l.length - (q + 1)) = (l0 ++ l.drop (q + 1)).length by rw [List.length_append, hdl]] at h2
    exact ⟨va, vn, vc, w2, h1, h2, h3⟩
attribute [-go_sem] Builtin.append_
set_option maxRecDepth 100000 in
set_option maxHeartbeats 4000000 in
theorem rremove_any (w : World) (rb base n : Nat) (v : Value) (R : List En) (t : Int) (h : RefE w rb base v R) (hO : OnceA (R.map absE) n) (hn : n < 1000000) :
    Calls Try.prog 19 #[.pointer (some ⟨rb, 0, none⟩), .int .i64 t] w fun e w' => e = .returned (.bool (decide (t ∈ whoA (R.map absE)))) ∧ ∃ R', RefE w' rb base v R' ∧ OnlyE w w' rb v v R R' ∧ R'.map absE = remL (R.map absE) t := by
  have hl : R.length < 1000000 := by have := ref_len hO; omega
  have hm : ∀ x ∈ R, x.l.length < 1000000 := fun x hx => by have := ref_each hO x hx; omega
  have H := Lib.hid h
  have HM := Lib.hid hm
  by_cases hw : t ∈ whoA (R.map absE)
  · rw [decide_eq_true hw]
    obtain ⟨p, x, q, hf⟩ := find_ex (ref_who.1 hw)
    have HRS : Hid (∀ v', (R.set p { x with l := x.l.take q ++ x.l.drop (q + 1), v := v' }).map absE = remL (R.map absE) t) := Lib.hid (fun v' => rem_set hO hf v')
    have HF := Lib.hid hf
    have hx := hf.1
    have hxm := List.mem_of_getElem? hx
    have hqL := (List.getElem?_eq_some_iff.1 hf.2.1.1).1
    obtain ⟨ra, rc, rfl, hrc, hra⟩ := h.form
    have hpL := (List.getElem?_eq_some_iff.1 hx).1
    obtain ⟨g, rfl, hgb, hgl, hgr, hfz, hobs⟩ := hra p hpL
    have v1 := (hobs p x hx).2.1
    have hxo := h.own x hxm
    have hml := hm x hxm
    rcases own_form hxo with ⟨_, e0⟩ | ⟨gl, lc, ev, hcap, hglb, hgls, hcs⟩
    · rw [e0] at hqL; exact absurd hqL (by simp)
    have hcd : ∀ {W : World}, Below w.heap.size w W → ∀ j z, x.l[j]? = some z → W.cell? ⟨gl, j, none⟩ = some (.int .i64 z) := fun hb j z hj => (hb.cell (p := ⟨gl, j, none⟩) hgls).trans (hcs j z hj)
    have c1 := h.c0
    have hb0 : Below w.heap.size w w.drew := (Below.refl _ _).drew
    obtain ⟨u1, w1, hrun1, hown1, hg1⟩ := pre_run (W := w.drew) (B2 := w.heap.size) (lc := lc) (Nat.le_of_lt hqL) (hcd hb0) (by omega) (Nat.le_refl _)
    have hb1 : Below w.heap.size w w1 := hb0.grown hg1 (Nat.le_refl _) (fun k e => by cases e)
    obtain ⟨va, vn, vc, w2, hrun2, hown2, hg2⟩ := suf_run (W := w1) (B := w.heap.size) hqL hcap hown1 (hcd hb1) (by omega) (by rw [List.length_take]; omega) hb1.size
    have hb2 : Below w.heap.size w w2 := hb1.grown hg2 hb1.size (fun k e => (hown1.lt k e).1)
    have HST := Lib.hid (h.turn hx hb2 hown2)
    have c2 := (h.call hb1).c0
    have c3 := (h.call hb2).c0
    have d1 := (hb1.cell (p := ⟨g, p * 3 + 1, none⟩) hgl).trans v1
    have d2 := (hb2.cell (p := ⟨g, p * 3 + 1, none⟩) hgl).trans v1
    have f2 : w2.frozen? ⟨g, p * 3 + 1, none⟩ = false := (hb2.frozen (p := ⟨g, p * 3 + 1, none⟩) hgl).trans (hfz _)
    rw [ev] at v1 d1 d2
    have hpI : (p : Int) < R.length := by omega
    have hp0 : ¬ (p : Int) < 0 := by omega
    have hrI : (R.length : Int) ≤ rc := by omega
    obtain ⟨m, hmm⟩ : ∃ m, x.l.length = m := ⟨_, rfl⟩
    rw [hmm] at v1 d1 d2 hqL hcap hrun2 hml
    have hq1 : IntKind.i64.wrap ((q : Int) + 1) = (q : Int) + 1 := IntWalk.i64_in _ (by omega)
    have ht1 : ((q : Int) + 1).toNat = q + 1 := by omega
    have hqI : (q : Int) < m := by omega
    have hqI1 : (q : Int) + 1 ≤ m := by omega
    have hmI : (m : Int) ≤ lc := by omega
    have hlc0 : ¬ lc = 0 := by omega
    have hq0 : (0 : Int) ≤ (q : Int) + 1 := by omega
    have hq2 : (q : Int) ≤ lc := by omega
    clear hcd hcs ev hxo hobs hra hf hx hxm h hO hm hw hb0 hown1 hg1 hb1 hown2 hg2 hb2 hfz hmm
    by_cases hcc : lc = q + 1
    · rw [if_pos hcc] at hrun2
      subst hcc
      rw [show m - (q + 1) = 0 by omega] at hrun2
      have hqq : (q : Int) ≤ (q : Int) + 1 := by omega
      go_enter Try.func19, Try.ntmps19
      go_upto_region 4 with (go_at_call 30; refine (waits_yes _ rb base _ R t p q x H.out hl HM.out HF.out).mono ?_; rintro e w1 ⟨rfl, rfl⟩)
      go_region
      all_goals go_wp2
      all_goals go_ret
      all_goals exact ⟨rfl, _, HST.out.1, HST.out.2, HRS.out _⟩
    · rw [if_neg hcc] at hrun2
      go_enter Try.func19, Try.ntmps19
      go_upto_region 4 with (go_at_call 30; refine (waits_yes _ rb base _ R t p q x H.out hl HM.out HF.out).mono ?_; rintro e w1 ⟨rfl, rfl⟩)
      go_region
      all_goals go_wp2
      all_goals go_ret
      all_goals exact ⟨rfl, _, HST.out.1, HST.out.2, HRS.out _⟩
  · rw [decide_eq_false hw]
    have HW : Hid (∀ x ∈ R, t ∉ x.l) := Lib.hid (fun x hx q => hw (ref_who.2 ⟨x, hx, q⟩))
    clear h hO hm hw
    go_enter Try.func19, Try.ntmps19
    go_wp2_with (go_at_call 30; refine (waits_no _ rb base v R t H.out hl HM.out HW.out).mono ?_; rintro e w1 ⟨rfl, rfl⟩)
    go_ret
    exact ⟨rfl, R, H.out, .of_below (Below.refl _ _), (rem_no HW.out).symm⟩
end Go.Proofs.Ytmbjaemflmbljaa
