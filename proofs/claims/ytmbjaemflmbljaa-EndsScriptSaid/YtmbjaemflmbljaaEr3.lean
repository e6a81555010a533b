/- chapter 22's own answer: what its acts leave; Drop, Add. -/
import Derived.Test.YtmbjaemflmbljaaEr2
namespace Go.Proofs.Ytmbjaemflmbljaa
set_option linter.unusedVariables false
set_option linter.unusedSimpArgs false
open Go.ChangeShapes Go.WideShapes Go.ChangeAt Go.RowKit Go.Shelf
open TabE

/-- What an act of the own answer leaves: only its own blocks are turned. -/
structure OnlyE (w w' : World) (rb : Nat) (v v' : Value) (R R' : List En) : Prop where
  os : w'.os = w.os
  tape : w'.tape = w.tape
  output : w'.output = w.output
  size : w.heap.size ≤ w'.heap.size
  block : ∀ k, k < w.heap.size → k ≠ rb → v.ownBlock ≠ some k → w'.heap[k]? = w.heap[k]?
  foot : ∀ k, k < w.heap.size → v'.ownBlock = some k → v.ownBlock = some k
  lfoot : ∀ k, k < w.heap.size → ∀ x ∈ R', x.v.ownBlock = some k → ∃ y ∈ R, y.v.ownBlock = some k
theorem OnlyE.of_below {w w' : World} {rb : Nat} {v : Value} {R : List En} (h : Below w.heap.size w w') : OnlyE w w' rb v v R R :=
  ⟨h.os, h.tape, h.output, h.size, fun k hk _ _ => h.block k hk, fun k _ e => e, fun k _ x hx e => ⟨x, hx, e⟩⟩
theorem own_weak {w : World} {B B' s n : Nat} {e : TypeId} {v : Value} {xs : List Value} (h : w.ownsRow B e s v n xs) (hB : B' ≤ B) : w.ownsRow B' e s v n xs := by
  refine ⟨h.1, ?_⟩
  rcases h.2 with h2 | ⟨g, cap, cur, rfl, q1, q2⟩
  · exact .inl h2
  · exact .inr ⟨g, cap, cur, rfl, Nat.le_trans hB q1, q2⟩
theorem RefE.store {w w2 : World} {rb base : Nat} {v u : Value} {R R' : List En} (h : RefE w rb base v R) (hb : Below w.heap.size w w2) (ho : w2.ownsRow w.heap.size 64 3 u R'.length (flat (rowsN R'))) (hR : ∀ x ∈ R', x ∈ R ∨ (x.v = .slice none 0 0 ∧ x.l = [])) :
    RefE (w2.setCell ⟨rb, 0, none⟩ u) rb base u R' ∧ OnlyE w (w2.setCell ⟨rb, 0, none⟩ u) rb v u R R' := by
  have hlt := h.lt
  have hbs := h.bs
  have hk := (hb.block rb (by omega)).trans h.blk
  have hn : u.ownBlock ≠ some rb := fun e => by have := (ho.lt rb e).1; omega
  refine ⟨⟨Go.heap_setCell_same _ _ _ _ _ _ hk, own_weak (row_of_block ho (fun g hg => Go.heap_setCell_other _ _ _ _ (fun q => hn (by have q2 : g = rb := q; rw [q2] at hg; exact hg)))) hbs, hlt, by simpa using Nat.le_trans hbs hb.size, fun x hx => ?_, fun x hx k e => ?_⟩, ⟨hb.os, hb.tape, hb.output, by simpa using hb.size, fun k hk' h1 h2 => ?_, fun k hk' e => ?_, fun k hk' x hx e => ?_⟩⟩
  · rcases hR x hx with q | ⟨q1, q2⟩
    · refine row_of_block (h.own x q) (fun g hg => ?_)
      have hg2 := (h.own x q).lt g hg
      exact (Go.heap_setCell_other _ _ _ _ (by show g ≠ rb; omega)).trans (hb.block g hg2.2)
    · rw [q1, q2]; exact World.ownsRow_nil _ _ _ _
  · rcases hR x hx with q | ⟨q1, _⟩
    · have := (h.own x q).lt k e
      intro e2
      have := (ho.lt k e2).1
      omega
    · rw [q1] at e; cases e
  · exact (Go.heap_setCell_other _ _ _ _ h1).trans (hb.block k hk')
  · have := (ho.lt k e).1; omega
  · rcases hR x hx with q | ⟨q1, _⟩
    · exact ⟨x, q, e⟩
    · rw [q1] at e; cases e
theorem rowsN_take (R : List En) (p : Nat) : rowsN (R.take p) = (rowsN R).take p := by simp [rowsN, List.map_take]
theorem rowsN_drop (R : List En) (p : Nat) : rowsN (R.drop p) = (rowsN R).drop p := by simp [rowsN, List.map_drop]
theorem rowsN_app (A B : List En) : rowsN (A ++ B) = rowsN A ++ rowsN B := by simp [rowsN]
theorem fl_len {R : List En} (h : Wide 3 (rowsN R)) : (flat (rowsN R)).length = R.length * 3 := by rw [flat_length h, rowsN_len]
theorem fl_pre {R : List En} (h : Wide 3 (rowsN R)) {p : Nat} (hp : p ≤ R.length) {j : Nat} {u : Value} (hu : (flat (rowsN (R.take p)))[j]? = some u) : (flat (rowsN R))[j]? = some u := by
  have e : flat (rowsN R) = flat (rowsN (R.take p)) ++ flat (rowsN (R.drop p)) := by rw [← flat_append, ← rowsN_app, List.take_append_drop]
  rw [e, List.getElem?_append_left (List.getElem?_eq_some_iff.1 hu).1]
  exact hu
theorem fl_suf {R : List En} (h : Wide 3 (rowsN R)) {p : Nat} (hp : p ≤ R.length) {j : Nat} {u : Value} (hu : (flat (rowsN (R.drop p)))[j]? = some u) : (flat (rowsN R))[p * 3 + j]? = some u := by
  have e : flat (rowsN R) = flat (rowsN (R.take p)) ++ flat (rowsN (R.drop p)) := by rw [← flat_append, ← rowsN_app, List.take_append_drop]
  have hl : (flat (rowsN (R.take p))).length = p * 3 := by
    rw [fl_len (by rw [rowsN_take]; exact h.take p), List.length_take, Nat.min_eq_left hp]
  rw [e, List.getElem?_append_right (by omega), hl, Nat.add_sub_cancel_left]
  exact hu
theorem row_cells {w : World} {base : Nat} {e : TypeId} {g c n s : Nat} {xs : List Value} (h : w.ownsRow base e s (.slice (some ⟨g, 0, none⟩) n c) n xs) {j : Nat} {u : Value} (hj : xs[j]? = some u) : w.cell? ⟨g, j, none⟩ = some u := by
  have := h.cells (g := g) rfl _ _ hj
  rwa [Addr.add_mid, Nat.zero_add] at this
theorem own_slice {w : World} {B s n : Nat} {e : TypeId} {v : Value} {xs : List Value} (h : w.ownsRow B e s v n xs) : ∃ a k c, v = .slice a k c := by
  rcases h.2 with ⟨rfl, _⟩ | ⟨g, cap, cur, rfl, _⟩
  · exact ⟨_, _, _, rfl⟩
  · exact ⟨_, _, _, rfl⟩
theorem infoR : (Try.prog.info? 64).map (fun i => (i.zero, i.size, i.bytes)) = some (some (.agg #[.int .i64 0, .slice none 0 0, .bool false]), 3, 40) := by kernel_rfl
theorem dropL_at {R : List En} {n : Nat} (hO : OnceA (R.map absE) n) {p : Nat} {x : En} {id : Int} (hx : R[p]? = some x) (hid : x.id = id) : (R.take p ++ R.drop (p + 1)).map absE = dropL (R.map absE) id := by
  obtain ⟨hp, e⟩ := List.getElem?_eq_some_iff.1 hx
  have hs : R = R.take p ++ x :: R.drop (p + 1) := by
    rw [← e, ← List.drop_eq_getElem_cons hp, List.take_append_drop]
  have hne : ∀ (i : Nat) (y : En), i ≠ p → R[i]? = some y → y.id ≠ id := by
    intro i y hi hy e2
    exact ids_apart hO.ids (i := i) (p := p) (x := absE y) (y := absE x) (by rw [List.getElem?_map, hy]; rfl) (by rw [List.getElem?_map, hx]; rfl) hi (e2.trans hid.symm)
  have h1 : ∀ y ∈ R.take p, y.id ≠ id := by
    intro y hy
    obtain ⟨i, hi⟩ := List.getElem?_of_mem hy
    rw [List.getElem?_take] at hi
    split at hi
    · exact hne i y (by omega) hi
    · cases hi
  have h2 : ∀ y ∈ R.drop (p + 1), y.id ≠ id := by
    intro y hy
    obtain ⟨i, hi⟩ := List.getElem?_of_mem hy
    rw [List.getElem?_drop] at hi
    exact hne _ y (by omega) hi
  unfold dropL
  rw [List.filter_map]
  congr 1
  conv => rhs; rw [hs]
  rw [List.filter_append, List.filter_cons]
  rw [if_neg (by show ¬ decide ((absE x).1 ≠ id) = true; simp [absE, hid])]
  have f1 : List.filter ((fun x : EA => decide (x.1 ≠ id)) ∘ absE) (R.take p) = R.take p := List.filter_eq_self.2 (fun y hy => decide_eq_true (h1 y hy))
  have f2 : List.filter ((fun x : EA => decide (x.1 ≠ id)) ∘ absE) (R.drop (p + 1)) = R.drop (p + 1) := List.filter_eq_self.2 (fun y hy => decide_eq_true (h2 y hy))
  rw [f1, f2]
theorem dropL_no {R : List En} {id : Int} (h : ∀ x ∈ R, x.id ≠ id) : dropL (R.map absE) id = R.map absE := by
  unfold dropL
  refine List.filter_eq_self.2 (fun y hy => ?_)
  obtain ⟨x, hx, rfl⟩ := List.mem_map.1 hy
  exact decide_eq_true (h x hx)
section drop
attribute [-go_sem] Builtin.append_
set_option maxRecDepth 100000 in
set_option maxHeartbeats 4000000 in
theorem rdrop_any (w : World) (rb base n : Nat) (v : Value) (R : List En) (id : Int) (h : RefE w rb base v R) (hO : OnceA (R.map absE) n) (hn : n < 1000000) :
    Calls Try.prog 13 #[.pointer (some ⟨rb, 0, none⟩), .int .i64 id] w fun e w' => ∃ r, e = .returned (.tuple #[r, .int .i64 (dropR (R.map absE) id)]) ∧ w'.ownsRow base 3 1 r (listA (R.map absE) id).1.length ((listA (R.map absE) id).1.map (Value.int .i64)) ∧ ∃ u R', RefE w' rb base u R' ∧ OnlyE w w' rb v u R R' ∧ R'.map absE = dropL (R.map absE) id := by
  obtain ⟨i0, hi0, hz0, hz1, hz2⟩ := info_parts infoR
  have HI0 := Lib.hid hi0
  clear hi0
  have hl : R.length < 1000000 := by have := ref_len hO; omega
  have H := Lib.hid h
  rcases ref_get hO id with ⟨hg, hno⟩ | ⟨p, x, hx, hid, hg, hbe⟩
  · have HD := Lib.hid (dropL_no hno)
    have HNO := Lib.hid hno
    unfold dropR listA
    rw [hg]
    clear h hO hno hg
    go_enter Try.func13, Try.ntmps13
    go_wp2_with (go_at_call 26; refine (at_no _ rb base v R id H.out hl HNO.out).mono ?_; rintro e w1 ⟨rfl, rfl⟩)
    go_ret2
    exact ⟨_, rfl, World.ownsRow_nil _ _ _ _, v, R, H.out, .of_below (Below.refl _ _), HD.out.symm⟩
  · have hD := dropL_at hO hx hid
    have hlist : (listA (R.map absE) id).1 = x.l := list_at hg
    unfold dropR
    rw [hlist, hg]
    have hpL := (List.getElem?_eq_some_iff.1 hx).1
    have hwd := h.wide
    have hxm := List.mem_of_getElem? hx
    have hxo := h.own x hxm
    obtain ⟨ra, rc, rfl, hrc, hra⟩ := h.form
    obtain ⟨g, rfl, _, hgl, _, _, hobs⟩ := hra p hpL
    have hv1 := (hobs p x hx).2.1
    obtain ⟨xa, xn, xc, hxv⟩ := own_slice hxo
    rw [hxv] at hv1
    have hrow := h.row
    have hcm : rc ≤ maxLen := by
      rcases hrow.2 with ⟨q, _⟩ | ⟨g', cap, cur, q, _, _, _, q4, _⟩
      · cases q
      · cases q; exact q4
    obtain ⟨u1, w1, hrun1, hown1, hgr1, _⟩ := run_append_own_at (P := Try.prog) (w := w.drew) w.heap.size 27 27 64 i0 (.agg #[.int .i64 0, .slice none 0 0, .bool false]) 3 40 Try.underlying27 HI0.out hz0 hz1 hz2 rfl (by decide) (.slice none 0 0) 0 [] (World.ownsRow_nil _ _ _ _) ⟨g, 0, none⟩ p rc (flat (rowsN (R.take p))) (by rw [fl_len (by rw [rowsN_take]; exact hwd.take p), List.length_take]; omega) (fun j u hj => by rw [Addr.add_mid, Nat.zero_add]; exact row_cells hrow (fl_pre hwd (by omega) hj)) (flat_one (by rw [rowsN_take]; exact hwd.take p)) (by unfold maxLen; omega) (by omega) (Nat.le_refl _)
    have hb1 : Below w.heap.size w w1 := (Below.refl _ w).drew.grown hgr1 (Nat.le_refl _) (fun k e => by cases e)
    have hrow1 := (h.call hb1).row
    have c1 := h.c0
    have c2 := (h.call hb1).c0
    have f1 : w1.frozen? ⟨rb, 0, none⟩ = false := (h.call hb1).f0
    have hsuf : ∃ u w5, (Builtin.append_ #[27, 27] 27 #[u1, if rc = p + 1 then .slice (some ⟨g, 0, none⟩) (R.length - (p + 1)) 0 else .slice (some ⟨g, (p + 1) * 3, none⟩) (R.length - (p + 1)) (rc - (p + 1))]).run Try.prog w1 = .ok u w5 ∧ w5.ownsRow w.heap.size 64 3 u (0 + p + (R.length - (p + 1))) ([] ++ flat (rowsN (R.take p)) ++ flat (rowsN (R.drop (p + 1)))) ∧ w1.grownBy w5 u1.ownBlock := by
      split
      · rename_i hcc
        have hl0 : R.length - (p + 1) = 0 := by omega
        have hdr : R.drop (p + 1) = [] := List.drop_eq_nil_iff.2 (by omega)
        rw [hl0, hdr]
        obtain ⟨u, w5, q1, q2, q3, _⟩ := run_append_own_at (P := Try.prog) (w := w1) w.heap.size 27 27 64 i0 (.agg #[.int .i64 0, .slice none 0 0, .bool false]) 3 40 Try.underlying27 HI0.out hz0 hz1 hz2 rfl (by decide) u1 (0 + p) _ hown1 ⟨g, 0, none⟩ 0 0 (flat (rowsN [])) rfl (fun j u hj => by simp [flat, rowsN] at hj) (by simp [flat, rowsN]) (by unfold maxLen; omega) (by omega) hb1.size
        exact ⟨u, w5, q1, q2, q3⟩
      · obtain ⟨u, w5, q1, q2, q3, _⟩ := run_append_own_at (P := Try.prog) (w := w1) w.heap.size 27 27 64 i0 (.agg #[.int .i64 0, .slice none 0 0, .bool false]) 3 40 Try.underlying27 HI0.out hz0 hz1 hz2 rfl (by decide) u1 (0 + p) _ hown1 ⟨g, (p + 1) * 3, none⟩ (R.length - (p + 1)) (rc - (p + 1)) (flat (rowsN (R.drop (p + 1)))) (by rw [fl_len (by rw [rowsN_drop]; exact hwd.drop _), List.length_drop]) (fun j u hj => by rw [Addr.add_mid]; exact row_cells hrow1 (fl_suf hwd (by omega) hj)) (flat_one (by rw [rowsN_drop]; exact hwd.drop _)) (by unfold maxLen; omega) (by omega) hb1.size
        exact ⟨u, w5, q1, q2, q3⟩
    obtain ⟨u2, w2, hrun2, hown2, hgr2⟩ := hsuf
    have hb2 : Below w.heap.size w w2 := hb1.grown hgr2 hb1.size (fun k e => (hown1.lt k e).1)
    rw [List.nil_append, ← flat_append, ← rowsN_app, show 0 + p + (R.length - (p + 1)) = (R.take p ++ R.drop (p + 1)).length by rw [List.length_append, List.length_take, List.length_drop]; omega] at hown2
    obtain ⟨ua, un, uc, rfl⟩ := own_slice hown2
    have hst := h.store hb2 hown2 (fun y hy => .inl ((List.mem_append.1 hy).elim List.mem_of_mem_take List.mem_of_mem_drop))
    have hxo2 : (w2.setCell ⟨rb, 0, none⟩ (.slice ua un uc)).ownsRow base 3 1 x.v x.l.length (x.l.map (Value.int .i64)) := by
      refine row_of_block hxo (fun k hk => ?_)
      have h1 := hxo.lt k hk
      have h2 := h.lt
      exact (Go.heap_setCell_other _ _ _ _ (by show k ≠ rb; omega)).trans (hb2.block k h1.2)
    rw [hxv] at hxo2
    have HXO := Lib.hid hxo2
    have HST := Lib.hid hst
    have HD := Lib.hid hD
    have c3 := (h.call hb2).c0
    have f2 : w2.frozen? ⟨rb, 0, none⟩ = false := (h.call hb2).f0
    have HX := Lib.hid hx
    have HXI := Lib.hid hid
    have HBE := Lib.hid hbe
    have hpI : (p : Int) < R.length := by omega
    have hpI1 : (p : Int) + 1 ≤ R.length := by omega
    have hrI : (R.length : Int) ≤ rc := by omega
    have hr0 : ¬ rc = 0 := by omega
    have hw1 : IntKind.i64.wrap ((p : Int) + 1) = (p : Int) + 1 := IntWalk.i64_in _ (by omega)
    have ht1 : ((p : Int) + 1).toNat = p + 1 := by omega
    have hp0 : (0 : Int) ≤ (p : Int) + 1 := by omega
    clear h hO hg hra hx hid hbe hrow hrow1 hown1 hgr1 hb1 hown2 hgr2 hb2 hst hD hwd hobs hxo hxo2 hlist
    by_cases hcc : rc = p + 1
    · rw [if_pos hcc] at hrun2
      subst hcc
      rw [show R.length - (p + 1) = 0 by omega] at hrun2
      have hpp : (p : Int) ≤ (p : Int) + 1 := by omega
      go_enter Try.func13, Try.ntmps13
      go_upto_region 5 with (go_at_call 26; refine (at_yes _ rb base _ R id H.out hl p x HX.out HXI.out HBE.out).mono ?_; rintro e w1 ⟨rfl, rfl⟩)
      go_region
      all_goals go_wp2
      all_goals go_ret2
      all_goals exact ⟨_, rfl, HXO.out, _, _, HST.out.1, HST.out.2, HD.out⟩
    · rw [if_neg hcc] at hrun2
      go_enter Try.func13, Try.ntmps13
      go_upto_region 5 with (go_at_call 26; refine (at_yes _ rb base _ R id H.out hl p x HX.out HXI.out HBE.out).mono ?_; rintro e w1 ⟨rfl, rfl⟩)
      go_region
      all_goals go_wp2
      all_goals go_ret2
      all_goals exact ⟨_, rfl, HXO.out, _, _, HST.out.1, HST.out.2, HD.out⟩
end drop
end Go.Proofs.Ytmbjaemflmbljaa
