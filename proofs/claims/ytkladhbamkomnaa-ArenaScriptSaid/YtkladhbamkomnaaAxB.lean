/- chapter 12's own answer: Drop. -/
import Derived.Test.YtkladhbamkomnaaAxA
import Derived.Maps.AppendAt
namespace Go.Proofs.Ytkladhbamkomnaa
set_option linter.unusedVariables false
set_option linter.unusedSimpArgs false
open Go.ChangeShapes Go.WideShapes Go.ChangeAt Go.RowKit Go.Shelf
open TabA
attribute [-go_sem] Builtin.append_

/-- What an act of the own answer leaves: only its own blocks are turned. -/
structure OnlyR (w w' : World) (rb : Nat) (v v' : Value) : Prop where
  os : w'.os = w.os
  tape : w'.tape = w.tape
  output : w'.output = w.output
  size : w.heap.size ≤ w'.heap.size
  block : ∀ k, k < w.heap.size → k ≠ rb → v.ownBlock ≠ some k → w'.heap[k]? = w.heap[k]?
  foot : ∀ k, k < w.heap.size → v'.ownBlock = some k → v.ownBlock = some k
theorem OnlyR.of {w w' : World} {rb : Nat} {v v' : Value} (h : OnlyA w w' rb rb v v') : OnlyR w w' rb v v' :=
  ⟨h.os, h.tape, h.output, h.size, fun k hk h1 h2 => h.block k hk h1 h1 h2, fun k hk e => by
    rcases h.foot with q | ⟨g, q, hg⟩
    · rw [← q]; exact e
    · rw [q] at e; cases e; omega⟩
theorem own_weak {w : World} {B B' s n : Nat} {e : TypeId} {v : Value} {xs : List Value} (h : w.ownsRow B e s v n xs) (hB : B' ≤ B) : w.ownsRow B' e s v n xs := by
  refine ⟨h.1, ?_⟩
  rcases h.2 with h2 | ⟨g, cap, cur, rfl, q1, q2⟩
  · exact .inl h2
  · exact .inr ⟨g, cap, cur, rfl, Nat.le_trans hB q1, q2⟩
theorem RefA.store {w w2 : World} {rb base : Nat} {F : Int} {v u : Value} {L L' : List Ob} {G : List Int} (h : RefA w rb base F v L G) (hb : Below w.heap.size w w2) (ho : w2.ownsRow w.heap.size 37 9 u L'.length (objsC L')) :
    RefA (w2.setCell ⟨rb, 1, none⟩ u) rb base F u L' G ∧ OnlyR w (w2.setCell ⟨rb, 1, none⟩ u) rb v u := by
  have hlt := h.lt
  have hbs := h.bs
  have hk := (hb.block rb (by omega)).trans h.blk
  have hn : u.ownBlock ≠ some rb := fun e => by have := (ho.lt rb e).1; omega
  refine ⟨⟨Go.heap_setCell_same _ _ _ _ _ _ hk, h.gl, own_weak (ownsRow_setCell_other ho hn u) hbs, hlt, by simpa using Nat.le_trans hbs hb.size, h.cn⟩, ⟨hb.os, hb.tape, hb.output, by simpa using hb.size, fun k hk' h1 h2 => ?_, fun k hk' e => ?_⟩⟩
  · exact (Go.heap_setCell_other _ _ _ _ h1).trans (hb.block k hk')
  · have := (ho.lt k e).1; omega
theorem objs_one {L : List Ob} : ∀ u ∈ objsC L, u.oneCell' = true := by
  intro u hu
  unfold objsC at hu
  obtain ⟨x, hx, hux⟩ := List.mem_flatMap.1 hu
  simp [Ob.cells] at hux
  rcases hux with rfl | rfl | rfl | rfl | rfl | rfl | rfl | rfl | rfl <;> rfl
theorem objs_len : ∀ (L : List Ob), (objsC L).length = L.length * 9
  | [] => rfl
  | x :: L => by
    have e : objsC (x :: L) = x.cells ++ objsC L := rfl
    have hl : x.cells.length = 9 := rfl
    rw [e, List.length_append, objs_len L, hl, List.length_cons]
    omega
theorem objs_app (A B : List Ob) : objsC (A ++ B) = objsC A ++ objsC B := by simp [objsC]
theorem objs_pre {L : List Ob} {p : Nat} (hp : p ≤ L.length) {j : Nat} {u : Value} (h : (objsC (L.take p))[j]? = some u) : (objsC L)[j]? = some u := by
  have e : objsC L = objsC (L.take p) ++ objsC (L.drop p) := by rw [← objs_app, List.take_append_drop]
  rw [e, List.getElem?_append_left (List.getElem?_eq_some_iff.1 h).1]
  exact h
theorem objs_suf {L : List Ob} {p : Nat} (hp : p ≤ L.length) {j : Nat} {u : Value} (h : (objsC (L.drop p))[j]? = some u) : (objsC L)[p * 9 + j]? = some u := by
  have e : objsC L = objsC (L.take p) ++ objsC (L.drop p) := by rw [← objs_app, List.take_append_drop]
  have hl : (objsC (L.take p)).length = p * 9 := by rw [objs_len, List.length_take, Nat.min_eq_left hp]
  rw [e, List.getElem?_append_right (by omega), hl, Nat.add_sub_cancel_left]
  exact h
theorem row_cells {w : World} {base : Nat} {g c n : Nat} {xs : List Value} (h : w.ownsRow base 37 9 (.slice (some ⟨g, 0, none⟩) n c) n xs) {j : Nat} {u : Value} (hj : xs[j]? = some u) : w.cell? ⟨g, j, none⟩ = some u := by
  have := h.cells (g := g) rfl _ _ hj
  have ha : ((⟨g, 0, none⟩ : Addr).add j) = ⟨g, j, none⟩ := by unfold Addr.add; split <;> simp_all
  rwa [ha] at this
theorem own_slice {w : World} {B s n : Nat} {e : TypeId} {v : Value} {xs : List Value} (h : w.ownsRow B e s v n xs) : ∃ a k c, v = .slice a k c := by
  rcases h.2 with ⟨rfl, _⟩ | ⟨g, cap, cur, rfl, _⟩
  · exact ⟨_, _, _, rfl⟩
  · exact ⟨_, _, _, rfl⟩
set_option maxRecDepth 100000 in
set_option maxHeartbeats 4000000 in
theorem rdrop_any (w : World) (rb base : Nat) (F : Int) (v : Value) (L : List Ob) (G : List Int) (id : Int) (h : RefA w rb base F v L G) (hA : Asc (rowsO L)) (hl : L.length < 1000000) :
    Calls Try.prog 29 #[.pointer (some ⟨rb, 0, none⟩), .int .i64 id] w fun e w' => e = .returned (.int .i64 (dropR L id)) ∧ ∃ u, RefA w' rb base F u (dropL L id) G ∧ OnlyR w w' rb v u := by
  obtain ⟨i0, hi0, hz0, hz1, hz2⟩ := info_parts infoOb
  have HI0 := Lib.hid hi0
  clear hi0
  have H := Lib.hid h
  unfold dropR
  cases hh : hasR (rowsO L) id with
  | false =>
    have hd : dropL L id = L := drop_none hh
    rw [hd]
    have HNO := Lib.hid (at_no_of hh)
    clear h hA hh hd
    go_enter Try.func29, Try.ntmps29
    go_wp2_with (go_at_call 33; refine (at_no _ rb base F v L G id H.out hl HNO.out).mono ?_; rintro e w1 ⟨rfl, rfl⟩)
    go_ret
    exact ⟨rfl, v, H.out, .of (refl_onlyA _ _ _)⟩
  | true =>
    obtain ⟨x, p, hx, hid, hg, hp, hbe⟩ := at_facts hA hh
    have hd : dropL L id = L.take p ++ L.drop (p + 1) := by unfold dropL; rw [hh, if_pos rfl]; unfold posO at hp; rw [hp]
    rw [hd]
    have hpL := (List.getElem?_eq_some_iff.1 hx).1
    obtain ⟨ra, rc, rfl, hrc, hra⟩ := obs_of h.row
    obtain ⟨g, rfl, hgl, _⟩ := hra p hpL
    have hrow := h.row
    have hcm : rc ≤ maxLen := by
      rcases hrow.2 with ⟨q, _⟩ | ⟨g', cap, cur, q, _, _, _, q4, _⟩
      · cases q
      · cases q; exact q4
    obtain ⟨u1, w1, hrun1, hown1, hgr1, _⟩ := run_append_own_at (P := Try.prog) (w := w.drew) w.heap.size 40 40 37 i0 (.agg #[.int .i64 0, .int .i64 0, .int .i64 0, .int .i64 0, .int .i64 0, .int .i64 0, .int .i64 0, .int .i64 0, .int .i64 0]) 9 72 Try.underlying40 HI0.out hz0 hz1 hz2 rfl (by decide) (.slice none 0 0) 0 [] (World.ownsRow_nil _ _ _ _) ⟨g, 0, none⟩ p rc (objsC (L.take p)) (by rw [objs_len, List.length_take]; omega) (fun j u hj => by rw [show ((⟨g, 0, none⟩ : Addr).add j) = ⟨g, j, none⟩ by unfold Addr.add; split <;> simp_all]; exact row_cells hrow (objs_pre (by omega) hj)) objs_one (by unfold maxLen; omega) (by omega) (Nat.le_refl _)
    have hb1 : Below w.heap.size w w1 := (Below.refl _ w).drew.grown hgr1 (Nat.le_refl _) (fun k e => by cases e)
    have hrow1 := (h.call hb1).row
    have c1 := h.c1
    have c2 := (h.call hb1).c1
    have f1 : w1.frozen? ⟨rb, 1, none⟩ = false := froz_row (h.call hb1).blk
    have hsuf : ∃ u w5, (Builtin.append_ #[40, 40] 40 #[u1, if rc = p + 1 then .slice (some ⟨g, 0, none⟩) (L.length - (p + 1)) 0 else .slice (some ⟨g, (p + 1) * 9, none⟩) (L.length - (p + 1)) (rc - (p + 1))]).run Try.prog w1 = .ok u w5 ∧ w5.ownsRow w.heap.size 37 9 u (0 + p + (L.length - (p + 1))) ([] ++ objsC (L.take p) ++ objsC (L.drop (p + 1))) ∧ w1.grownBy w5 u1.ownBlock := by
      split
      · rename_i hcc
        have hl0 : L.length - (p + 1) = 0 := by omega
        have hdr : L.drop (p + 1) = [] := List.drop_eq_nil_iff.2 (by omega)
        rw [hl0, hdr]
        obtain ⟨u, w5, q1, q2, q3, _⟩ := run_append_own_at (P := Try.prog) (w := w1) w.heap.size 40 40 37 i0 (.agg #[.int .i64 0, .int .i64 0, .int .i64 0, .int .i64 0, .int .i64 0, .int .i64 0, .int .i64 0, .int .i64 0, .int .i64 0]) 9 72 Try.underlying40 HI0.out hz0 hz1 hz2 rfl (by decide) u1 (0 + p) _ hown1 ⟨g, 0, none⟩ 0 0 (objsC []) rfl (fun j u hj => by simp [objsC] at hj) objs_one (by unfold maxLen; omega) (by omega) hb1.size
        exact ⟨u, w5, q1, q2, q3⟩
      · obtain ⟨u, w5, q1, q2, q3, _⟩ := run_append_own_at (P := Try.prog) (w := w1) w.heap.size 40 40 37 i0 (.agg #[.int .i64 0, .int .i64 0, .int .i64 0, .int .i64 0, .int .i64 0, .int .i64 0, .int .i64 0, .int .i64 0, .int .i64 0]) 9 72 Try.underlying40 HI0.out hz0 hz1 hz2 rfl (by decide) u1 (0 + p) _ hown1 ⟨g, (p + 1) * 9, none⟩ (L.length - (p + 1)) (rc - (p + 1)) (objsC (L.drop (p + 1))) (by rw [objs_len, List.length_drop]) (fun j u hj => by rw [show ((⟨g, (p + 1) * 9, none⟩ : Addr).add j) = ⟨g, (p + 1) * 9 + j, none⟩ by unfold Addr.add; split <;> simp_all]; exact row_cells hrow1 (objs_suf (by omega) hj)) objs_one (by unfold maxLen; omega) (by omega) hb1.size
        exact ⟨u, w5, q1, q2, q3⟩
    obtain ⟨u2, w2, hrun2, hown2, hgr2⟩ := hsuf
    have hb2 : Below w.heap.size w w2 := hb1.grown hgr2 hb1.size (fun k e => (hown1.lt k e).1)
    rw [List.nil_append, ← objs_app, show 0 + p + (L.length - (p + 1)) = (L.take p ++ L.drop (p + 1)).length by rw [List.length_append, List.length_take, List.length_drop]; omega] at hown2
    obtain ⟨ua, un, uc, rfl⟩ := own_slice hown2
    have hst := h.store hb2 hown2
    have HST := Lib.hid hst
    have c3 := (h.call hb2).c1
    have f2 : w2.frozen? ⟨rb, 1, none⟩ = false := froz_row (h.call hb2).blk
    have HX := Lib.hid hx
    have HXI := Lib.hid hid
    have HBE := Lib.hid hbe
    have hpI : (p : Int) < L.length := by omega
    have hpI1 : (p : Int) + 1 ≤ L.length := by omega
    have hrI : (L.length : Int) ≤ rc := by omega
    have hr0 : ¬ rc = 0 := by omega
    have hw1 : IntKind.i64.wrap ((p : Int) + 1) = (p : Int) + 1 := IntWalk.i64_in _ (by omega)
    have ht1 : ((p : Int) + 1).toNat = p + 1 := by omega
    have hp0 : (0 : Int) ≤ (p : Int) + 1 := by omega
    clear h hA hh hg hra hx hid hbe hp hd hrow hrow1 hown1 hgr1 hb1 hown2 hgr2 hb2 hst
    by_cases hcc : rc = p + 1
    · rw [if_pos hcc] at hrun2
      subst hcc
      rw [show L.length - (p + 1) = 0 by omega] at hrun2
      have hpp : (p : Int) ≤ (p : Int) + 1 := by omega
      go_enter Try.func29, Try.ntmps29
      go_upto_region 4 with (go_at_call 33; refine (at_yes _ rb base F _ L G id H.out hl p x HX.out HXI.out HBE.out).mono ?_; rintro e w1 ⟨rfl, rfl⟩)
      go_region
      all_goals go_wp2
      all_goals go_ret
      all_goals exact ⟨rfl, _, HST.out.1, HST.out.2⟩
    · rw [if_neg hcc] at hrun2
      go_enter Try.func29, Try.ntmps29
      go_upto_region 4 with (go_at_call 33; refine (at_yes _ rb base F _ L G id H.out hl p x HX.out HXI.out HBE.out).mono ?_; rintro e w1 ⟨rfl, rfl⟩)
      go_region
      all_goals go_wp2
      all_goals go_ret
      all_goals exact ⟨rfl, _, HST.out.1, HST.out.2⟩
end Go.Proofs.Ytkladhbamkomnaa
