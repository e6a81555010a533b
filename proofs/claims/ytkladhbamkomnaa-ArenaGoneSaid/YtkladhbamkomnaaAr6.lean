/- package arena: All. -/
import Derived.Test.YtkladhbamkomnaaAr5
import Derived.Deep.RegionHeld3
namespace Go.Proofs.Ytkladhbamkomnaa
set_option linter.unusedVariables false
set_option linter.unusedSimpArgs false
open Go.ChangeShapes Go.WideShapes Go.ChangeAt Go.RowKit Go.Shelf
open TabA
attribute [local go_sem] Oper.semAt_some
attribute [-go_sem] Builtin.append_

def objsC (L : List Ob) : List Value := L.flatMap Ob.cells
theorem infoOb : (Try.prog.info? 37).map (fun i => (i.zero, i.size, i.bytes)) = some (some (.agg #[.int .i64 0, .int .i64 0, .int .i64 0, .int .i64 0, .int .i64 0, .int .i64 0, .int .i64 0, .int .i64 0, .int .i64 0]), 9, 72) := by kernel_rfl
/-- What All has gathered. -/
structure AllI (w : World) (b : Nat) (L : List Ob) (k : Nat) (U : World) : Prop where
  list : ∃ v, U.heap[w.heap.size]? = some (.cells #[v] 40 (0, 0)) ∧ U.ownsRow (w.heap.size + 2) 37 9 v k (objsC (L.take k))
  box : U.heap[w.heap.size + 1]? = some (.cells #[.pointer (some ⟨b, 0, none⟩)] 24 (0, 0))
  lt : w.heap.size + 2 ≤ U.heap.size
  below : Below w.heap.size w U
theorem own_kept {A C : World} {base : Nat} {e : TypeId} {s : Nat} {v : Value} {n : Nat} {xs : List Value} {row : Option Nat} (h : A.ownsRow base e s v n xs) (hg : A.grownBy C row) (hr : ∀ r, row = some r → ∃ o : Obj, A.heap[r]? = some o ∧ o.isCells = false) : C.ownsRow base e s v n xs := by
  have hlt := h.lt
  refine ⟨h.1, ?_⟩
  rcases h.2 with h2 | ⟨g, cap, cur, rfl, q1, q2, q3⟩
  · exact .inl h2
  · refine .inr ⟨g, cap, cur, rfl, q1, (hg.block g (hlt g rfl).2 (fun e => ?_)).trans q2, q3⟩
    obtain ⟨o, ho, hc⟩ := hr g e.symm
    rw [q2] at ho
    cases ho
    cases hc
theorem AllI.own {w : World} {b : Nat} {L : List Ob} : OwnFrom (w.heap.size + 2) (AllI w b L) := by
  intro s A C row h hg hr
  have e : ∀ j, j < w.heap.size + 2 → C.heap[j]? = A.heap[j]? := fun j hj => hg.block j (Nat.lt_of_lt_of_le hj h.lt) (fun e => by have := (hr j e.symm).1; omega)
  obtain ⟨v, hv, hrow⟩ := h.list
  exact ⟨⟨v, (e _ (by omega)).trans hv, own_kept hrow hg (fun r e => (hr r e).2)⟩, (e _ (by omega)).trans h.box, Nat.le_trans h.lt hg.size,
    ⟨hg.os.trans h.below.os, hg.tape.trans h.below.tape, hg.output.trans h.below.output, Nat.le_trans h.below.size hg.size, fun j hj => (e j (by omega)).trans (h.below.block j hj)⟩⟩
theorem AllI.step {w U w2 : World} {b k : Nat} {L : List Ob} {y : Ob} {v v' : Value} {o : Array Value} (h : AllI w b L k U) (hy : L[k]? = some y)
    (hv : U.heap[w.heap.size]? = some (.cells #[v] 40 (0, 0))) (hrow : U.ownsRow (w.heap.size + 2) 37 9 v k (objsC (L.take k)))
    (hown : w2.ownsRow (w.heap.size + 2) 37 9 v' (k + 1) (objsC (L.take k) ++ y.cells)) (hg : (U.alloc (.cells o 37)).drew.grownBy w2 v.ownBlock) :
    AllI w b L (k + 1) (w2.setCell ⟨w.heap.size, 0, none⟩ v') ∧ HiKept 37 (w.heap.size + 2) U (w2.setCell ⟨w.heap.size, 0, none⟩ v') := by
  have hlt := h.lt
  have sz := hg.size
  simp at sz
  have hvb : ∀ j, v.ownBlock = some j → w.heap.size + 2 ≤ j ∧ j < U.heap.size := fun j e => hrow.lt j e
  have hvb' : ∀ j, v'.ownBlock = some j → w.heap.size + 2 ≤ j := fun j e => (hown.lt j e).1
  have e : ∀ j, j < U.heap.size → v.ownBlock ≠ some j → w2.heap[j]? = U.heap[j]? := fun j hj hn => by
    rw [hg.block j (by simp; omega) (fun q => hn q.symm)]
    exact Below.heap_alloc _ _ _ hj
  have e2 : ∀ j, j < w.heap.size + 2 → w2.heap[j]? = U.heap[j]? := fun j hj => e j (by omega) (fun q => by have := (hvb j q).1; omega)
  have htake : L.take (k + 1) = L.take k ++ [y] := by rw [List.take_add_one, hy]; rfl
  refine ⟨⟨⟨v', ?_, ?_⟩, ?_, by simp; omega, ?_⟩, by simp; omega, fun j ob hB hj ho => ?_⟩
  · exact Go.heap_setCell_same _ _ _ _ _ _ ((e2 _ (by omega)).trans hv)
  · rw [htake, show objsC (L.take k ++ [y]) = objsC (L.take k) ++ y.cells by simp [objsC]]
    exact row_of_block hown (fun g hg' => Go.heap_setCell_other _ _ _ _ (by have := hvb' g hg'; simp; omega))
  · exact (Go.heap_setCell_other _ _ _ _ (by simp)).trans ((e2 _ (by omega)).trans h.box)
  · refine ⟨?_, ?_, ?_, ?_, fun j hj => ?_⟩
    · exact hg.os.trans h.below.os
    · exact hg.tape.trans h.below.tape
    · exact hg.output.trans h.below.output
    · simp; have := h.below.size; omega
    · exact (Go.heap_setCell_other _ _ _ _ (by simp; omega)).trans ((e2 j (by omega)).trans (h.below.block j hj))
  · have hjl := (Array.getElem?_eq_some_iff.1 hj).1
    refine (Go.heap_setCell_other _ _ _ _ (by simp; omega)).trans ((e j hjl (fun q => ?_)).trans hj)
    rcases hrow.2 with ⟨rfl, _⟩ | ⟨g, cap, cur, rfl, _, q2, _⟩
    · cases q
    · cases q
      rw [q2] at hj
      cases hj
      simp [Obj.rowOf] at ho
set_option maxRecDepth 100000 in
set_option maxHeartbeats 2000000 in
theorem all_in (w : World) (b ab base F : Nat) (cnt : List Int) (v : Value) (L : List Ob) (h : ArAt w b ab base F cnt v L) (hlen : L.length < 1000000) :
    CallsIn Fence.wide 3 Try.prog 17 #[.pointer (some ⟨b, 0, none⟩)] w fun e w' => ∃ r, e = .returned r ∧ w'.ownsRow w.heap.size 37 9 r L.length (objsC L) ∧ Below w.heap.size w w' := by
  have HA := Lib.hid h
  have hbl := h.bl
  clear h
  obtain ⟨i0, hi0, hz0, hz1, hz2⟩ := info_parts infoOb
  have HI0 := Lib.hid hi0
  clear hi0
  refine callsIn_of_wp_marks Try.func17 rfl trivial ?_ rfl
  simp only [Try.ntmps17, List.size_toArray, List.length_cons, List.length_nil, Nat.reduceAdd, Nat.reduceSub, Array.replicate_succ, Array.replicate_zero, List.push_toArray, List.append_toArray, List.nil_append, List.cons_append]
  gi_wp2_with (refine ⟨trivial, ?_⟩; gi_at_call 34; refine (own_in _ _ _).mono ?_; rintro e w' ⟨rfl, rfl⟩)
  obtain ⟨Wc, hWc⟩ : ∃ x, x = (w.alloc (.cells #[.slice none 0 0] 40)).alloc (.cells #[.pointer (some ⟨b, 0, none⟩)] 24) := ⟨_, rfl⟩
  rw [← hWc]
  have hcz : Wc.heap.size = w.heap.size + 2 := by rw [hWc]; simp
  have hBW : Below w.heap.size w Wc := by rw [hWc]; exact bal (bal (Below.refl _ _) _) _
  have inv : AllI w b L 0 Wc := by
    refine ⟨⟨.slice none 0 0, ?_, World.ownsRow_nil _ _ _ _⟩, ?_, by omega, hBW⟩
    · rw [hWc]
      exact (Below.heap_alloc _ _ _ (by simp)).trans (heap_alloc_new w _)
    · rw [hWc]
      have e1 := heap_alloc_new (w.alloc (.cells #[.slice none 0 0] 40)) (.cells #[.pointer (some ⟨b, 0, none⟩)] 24)
      rwa [show (w.alloc (.cells #[.slice none 0 0] 40)).heap.size = w.heap.size + 1 by simp] at e1
  clear hWc
  have HCZ := Lib.hid hcz
  have hfm := HA.out.tab.form
  have hll : (rowsO L).length = L.length := rows_len L
  have hv : (v = .slice none 0 0 ∧ L.length = 0) ∨ ∃ g c, v = .slice (some ⟨g, 0, none⟩) L.length c := by
    rcases hfm with ⟨h1, h2⟩ | ⟨g, c, h1, _⟩
    · exact .inl ⟨h1, by rw [← hll, h2]; rfl⟩
    · exact .inr ⟨g, c, by rw [← hll]; exact h1⟩
  have hkey : ∀ U : World, Below w.heap.size w U → ∀ g, v.ownBlock = some g → ∀ (k j : Nat) (y : Ob) (u : Value), L[k]? = some y → (rcells (rowO y))[j]? = some u → U.cell? ⟨g, k * 10 + j, none⟩ = some u := by
    intro U hU g hg k j y u hk hj
    rcases (HA.out.call hU).tab.form with ⟨h1, _⟩ | ⟨g', c, h1, _, _, _, _, hR⟩
    · rw [h1] at hg; cases hg
    · rw [h1] at hg
      cases hg
      exact hR k j (rowO y) u (by rw [rows_get, hk]; rfl) hj
  have HK := Lib.hid hkey
  have HV := Lib.hid hv
  have INV := Lib.hid inv
  have HLN := Lib.hid hlen
  clear hfm hll hv hkey inv hBW hlen
  refine wpIn_range_px rfl (by decide) (gf := 44) (lb := #[.pointer (some ⟨w.heap.size + 1, 0, none⟩)]) rfl trivial (enters_of Try.func44 (by kernel_rfl) rfl)
    (encs := fun k => #[.pointer (v.ownBlock.map fun g => ⟨g, k * 10 + 1, none⟩)]) (N := L.length) 37 (AllI w b L) (fun _ _ _ => False)
    (own_px 37 (by kernel_rfl) (by kernel_rfl) 0 (w.heap.size + 1) b L.length _ v (fun k => (L[k]?.map Ob.id).getD 0) _ HV.out (by have := HLN.out; omega) (fun g hg => own_ne HA.out.tab hg) ?hI0) (fun _ => rfl) (by have := HCZ.out; rw [this]; exact AllI.own) (fun _ => fun _ _ _ _ h _ _ => h) INV.out
    (fun x => { tmps := #[.pointer (some ⟨b, 0, none⟩), undef, .slice none 0 0, .pointer (some ⟨w.heap.size, 0, none⟩), .pointer (v.ownBlock.map fun g => ⟨g, x * 10 + 1, none⟩), .pointer (some ⟨b, 0, none⟩), .func (.func 44) #[] #[.pointer (some ⟨w.heap.size + 1, 0, none⟩)], .pointer (v.ownBlock.map fun g => ⟨g, x * 10 + 1, none⟩), undef, undef, undef, undef, undef, undef, undef], defers := [] }) ?hassign ?hbody ?hdone (fun _ _ _ _ _ _ h => h.elim)
  case hI0 =>
    rintro k U hU
    refine ⟨(cell_box hU.box).1, (HA.out.call hU.below).tab.cell, fun g hg j hj => ?_⟩
    have hy : L[j]? = some (L[j]'hj) := List.getElem?_eq_getElem hj
    have := HK.out U hU.below g hg j 0 _ _ hy rfl
    rw [hy]
    exact this
  case hassign =>
    intro l x W K hK
    gi_wp2
    exact hK
  case hbody =>
    rintro l k U hkN hI
    obtain ⟨y, hy⟩ : ∃ y, L[k]? = some y := ⟨L[k]'hkN, List.getElem?_eq_getElem hkN⟩
    rcases HV.out with ⟨_, h0⟩ | ⟨g, c, rfl⟩
    · omega
    · have hry : U.rangeAt g (k * 10 + 1) y.cells := by
        intro j u hj
        have := HK.out U hI.below g rfl k (j + 1) y u hy (by simpa [rowO, rcells] using hj)
        rwa [show k * 10 + 1 + j = k * 10 + (j + 1) by omega]
      obtain ⟨vv, hvv, hrow⟩ := hI.list
      obtain ⟨v0, vz⟩ := cell_box hvv
      have hll := hI.lt
      have hln := HLN.out
      have hgl : g < U.heap.size := by have := (HA.out.tab.own (g := g) rfl).2; have := hI.below.size; omega
      have hlw : w.heap.size < U.heap.size := by omega
      obtain ⟨yi, yk, ys, yf, yr, ym, ye, yp, yl⟩ := y
      have y0 := hry 0 _ rfl
      have y1 := hry 1 _ rfl
      have y2 := hry 2 _ rfl
      have y3 := hry 3 _ rfl
      have y4 := hry 4 _ rfl
      have y5 := hry 5 _ rfl
      have y6 := hry 6 _ rfl
      have y7 := hry 7 _ rfl
      have y8 := hry 8 _ rfl
      simp only [Nat.add_assoc, Nat.reduceAdd] at y0 y1 y2 y3 y4 y5 y6 y7 y8
      have hnw : ∀ j u, (Ob.cells ⟨yi, yk, ys, yf, yr, ym, ye, yp, yl⟩)[j]? = some u → (U.alloc (.cells #[.int .i64 yi, .int .i64 yk, .int .i64 ys, .int .i64 yf, .int .i64 yr, .int .i64 ym, .int .i64 ye, .int .i64 yp, .int .i64 yl] 37)).drew.cell? ((⟨U.heap.size, 0, none⟩ : Addr).add j) = some u := add_cells (fun j u hj => by
        have := cell_cur (cur := Ob.cells ⟨yi, yk, ys, yf, yr, ym, ye, yp, yl⟩) (heap_alloc_new U (.cells #[.int .i64 yi, .int .i64 yk, .int .i64 ys, .int .i64 yf, .int .i64 yr, .int .i64 ym, .int .i64 ye, .int .i64 yp, .int .i64 yl] 37)) j
        exact this.trans hj)
      obtain ⟨v', w3, hrun, hown, hgrow, _, hat⟩ := run_append_own_at (P := Try.prog) (w := (U.alloc (.cells #[.int .i64 yi, .int .i64 yk, .int .i64 ys, .int .i64 yf, .int .i64 yr, .int .i64 ym, .int .i64 ye, .int .i64 yp, .int .i64 yl] 37)).drew) (w.heap.size + 2) 40 40 37 i0 (.agg #[.int .i64 0, .int .i64 0, .int .i64 0, .int .i64 0, .int .i64 0, .int .i64 0, .int .i64 0, .int .i64 0, .int .i64 0]) 9 72 Try.underlying40 HI0.out hz0 hz1 hz2 rfl (by decide) vv k _ (hrow.alloc _) ⟨U.heap.size, 0, none⟩ 1 1 (Ob.cells ⟨yi, yk, ys, yf, yr, ym, ye, yp, yl⟩) rfl hnw (by simp [Ob.cells, Value.oneCell']) (by unfold maxLen; omega) (by omega) (by simp; omega)
      obtain ⟨gg, cc, rfl⟩ : ∃ gg cc, v' = .slice (some ⟨gg, 0, none⟩) (k + 1) cc := by
        rcases hown.2 with ⟨_, h0⟩ | ⟨gg, cc, cur, e, _⟩
        · omega
        · exact ⟨gg, cc, e⟩
      have HST := Lib.hid (hI.step hy hvv hrow hown hgrow)
      have hvb : vv.ownBlock ≠ some w.heap.size := fun e => by have := (hrow.lt _ e).1; omega
      have e3 : w3.heap[w.heap.size]? = U.heap[w.heap.size]? := (hgrow.block _ (by simp; omega) (fun e => hvb e.symm)).trans (Below.heap_alloc _ _ _ (by omega))
      obtain ⟨g0, gz⟩ := cell_box (e3.trans hvv)
      have HCZo := HCZ.out
      clear hI hry hy hvv hrow hown hgrow hat e3 hvb hnw
      simp only [Value.ownBlock, Option.map]
      gi_wp2
      gi_region
      all_goals
        gi_wp2
        exact ⟨HST.out.2.mono (by omega), HST.out.1⟩
  case hdone =>
    rintro D U hD hI hK
    obtain ⟨r, hr, hrow⟩ := hI.list
    obtain ⟨d0, dz⟩ := cell_box hr
    have hll := hI.lt
    have hcz := HCZ.out
    have hB := hI.below.trans (belowK_b (w := w) (Nat.le_refl _) U D (.deferred (some [])) (.deferred none) (by omega) hK rfl rfl)
    have hrw : (U.putObj D (.deferred none)).ownsRow w.heap.size 37 9 r L.length (objsC L) := by
      rw [List.take_length] at hrow
      obtain ⟨hl, h | ⟨g', cap, cur, e, q1, q2, q3⟩⟩ := hrow
      · exact ⟨hl, .inl h⟩
      · refine ⟨hl, .inr ⟨g', cap, cur, e, by omega, ?_, q3⟩⟩
        refine (World.putObj_heap_other ?_).trans q2
        rintro rfl
        rw [hK] at q2
        cases q2
    have HRW := Lib.hid hrw
    have HB := Lib.hid hB
    clear hrow hr hB hrw hI hcz
    gi_wp2
    refine ⟨by simp, .inl ⟨_, _, rfl, run_takeDeferred hK, ?_⟩⟩
    exact ⟨r, by simp [results, Try.results17, go_sem], r, rfl, HRW.out, HB.out⟩
theorem all_any (w : World) (b ab base F : Nat) (cnt : List Int) (v : Value) (L : List Ob) (h : ArAt w b ab base F cnt v L) (hlen : L.length < 1000000) :
    Calls Try.prog 17 #[.pointer (some ⟨b, 0, none⟩)] w fun e w' => ∃ r, e = .returned r ∧ w'.ownsRow w.heap.size 37 9 r L.length (objsC L) ∧ Below w.heap.size w w' := callsIn_wide.1 (all_in w b ab base F cnt v L h hlen)
end Go.Proofs.Ytkladhbamkomnaa
