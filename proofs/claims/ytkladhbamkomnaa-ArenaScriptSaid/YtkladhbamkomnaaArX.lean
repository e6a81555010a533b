/- chapter 12's own answer: New, Get; lists of objects compared, and written over. -/
import Derived.Test.YtkladhbamkomnaaArW
import Derived.Test.YtkladhbamkomnaaArV
namespace Go.Proofs.Ytkladhbamkomnaa
set_option linter.unusedVariables false
set_option linter.unusedSimpArgs false
open Go.ChangeShapes Go.WideShapes Go.ChangeAt Go.RowKit Go.Shelf
open TabA
attribute [local go_sem] neSame

/-- A slice of objects, nil included. -/
def ObsIs (w : World) (a : Option Addr) (L : List Ob) : Prop := ∀ i, i < L.length → ∃ g, a = some ⟨g, 0, none⟩ ∧ g < w.heap.size ∧ ObsAt w g L
set_option maxRecDepth 100000 in
set_option maxHeartbeats 1000000 in
theorem same_objs (w : World) (a b : Option Addr) (c d : Nat) (L : List Ob) (h1 : ObsIs w a L) (h2 : ObsIs w b L) (hn : L.length < 1000000) :
    Calls Try.prog 18 #[.slice a L.length c, .slice b L.length d] w fun e w' => e = .returned (.bool true) ∧ ∃ j, w' = w.drewN j := by
  have H1 := Lib.hid h1
  have H2 := Lib.hid h2
  clear h1 h2
  obtain ⟨N, hN⟩ : ∃ N, N = L.length := ⟨_, rfl⟩
  rw [← hN] at hn ⊢
  have HN := Lib.hid hN
  clear hN
  go_enter Try.func18, Try.ntmps18
  go_wp2
  go_loopw [5] (fun i wr => ∃ k : Nat, k ≤ N ∧ i = .int .i64 k ∧ (∃ j, wr = w.drewN j)) (fun i _ => N - (intOf i).toNat)
  case atStart => exact ⟨0, by omega, rfl, ⟨0, rfl⟩⟩
  case round =>
    obtain ⟨k, hk, rfl, ⟨j, rfl⟩⟩ := hrel
    by_cases hlt : k < N
    · have hlt' : (k : Int) < N := by omega
      obtain ⟨g, rfl, _, hg⟩ := H1.out k (by have := HN.out; omega)
      obtain ⟨q, rfl, _, hq⟩ := H2.out k (by have := HN.out; omega)
      obtain ⟨y, hy⟩ : ∃ y, L[k]? = some y := ⟨L[k]'(by have := HN.out; omega), List.getElem?_eq_getElem _⟩
      obtain ⟨yi, yk, ys, yf, yr, ym, ye, yp, yl⟩ := y
      have c0 := hg k 0 _ _ hy rfl
      simp only [Nat.add_zero] at c0
      have c1 := hg k 1 _ _ hy rfl
      have c2 := hg k 2 _ _ hy rfl
      have c3 := hg k 3 _ _ hy rfl
      have c4 := hg k 4 _ _ hy rfl
      have c5 := hg k 5 _ _ hy rfl
      have c6 := hg k 6 _ _ hy rfl
      have c7 := hg k 7 _ _ hy rfl
      have c8 := hg k 8 _ _ hy rfl
      have d0 := hq k 0 _ _ hy rfl
      simp only [Nat.add_zero] at d0
      have d1 := hq k 1 _ _ hy rfl
      have d2 := hq k 2 _ _ hy rfl
      have d3 := hq k 3 _ _ hy rfl
      have d4 := hq k 4 _ _ hy rfl
      have d5 := hq k 5 _ _ hy rfl
      have d6 := hq k 6 _ _ hy rfl
      have d7 := hq k 7 _ _ hy rfl
      have d8 := hq k 8 _ _ hy rfl
      clear hg hq hy
      go_wp2
      go_quiet (fail)
      go_wp2
      go_roundw
      case rel => exact ⟨k + 1, by omega, by go_num, ⟨_, rfl⟩⟩
      case measure => simp [intOf]; omega
    · obtain rfl : k = N := by omega
      go_wp2
      go_ret
      exact ⟨rfl, _, rfl⟩
theorem grown_cellX (w : World) (g i : Nat) (u : Value) : w.grownBy (w.setCell ⟨g, i, none⟩ u) (some g) :=
  ⟨rfl, rfl, rfl, by simp, fun k _ hk => Go.heap_setCell_other _ _ _ _ (fun e => hk (by rw [e]))⟩
theorem at_no_of {L : List Ob} {id : Int} (h : hasR (rowsO L) id = false) : ∀ x ∈ L, x.id ≠ id := by
  intro x hx e
  have := has_mem hx
  rw [e, h] at this
  cases this
theorem run_loadVar_one {w : World} {a : Addr} {v : Value} (h : w.cell? a = some v) : (loadVar 40 a).run Try.prog w = .ok v w := by
  simp [go_sem, h]
attribute [-go_sem] loadVar
set_option maxRecDepth 100000 in
set_option maxHeartbeats 2000000 in
theorem rget_any (w : World) (rb base : Nat) (F : Int) (v : Value) (L : List Ob) (G : List Int) (id : Int) (h : RefA w rb base F v L G) (hA : Asc (rowsO L)) (hl : L.length < 1000000) :
    Calls Try.prog 16 #[.pointer (some ⟨rb, 0, none⟩), .int .i64 id] w fun e w' => e = .returned (.tuple #[obD (getO L id), .bool (getO L id).isSome]) ∧ Below w.heap.size w w' := by
  have hal : Below w.heap.size w (w.alloc (.cells #[.int .i64 0, .int .i64 0, .int .i64 0, .int .i64 0, .int .i64 0, .int .i64 0, .int .i64 0, .int .i64 0, .int .i64 0] 37)) := bal (Below.refl _ _) _
  have hR := h.call hal
  have HR := Lib.hid hR
  have HAL := Lib.hid hal
  have hfin : ∀ (x : Ob), (w.alloc (.cells #[.int .i64 0, .int .i64 0, .int .i64 0, .int .i64 0, .int .i64 0, .int .i64 0, .int .i64 0, .int .i64 0, .int .i64 0] 37)).heap[w.heap.size]? = some (.cells #[.int .i64 0, .int .i64 0, .int .i64 0, .int .i64 0, .int .i64 0, .int .i64 0, .int .i64 0, .int .i64 0, .int .i64 0] 37 (0, 0)) ∧ (loadVar 37 ⟨w.heap.size, 0, none⟩).run Try.prog ((w.alloc (.cells #[.int .i64 0, .int .i64 0, .int .i64 0, .int .i64 0, .int .i64 0, .int .i64 0, .int .i64 0, .int .i64 0, .int .i64 0] 37)).setRow w.heap.size x.cells.toArray) = .ok (obV x) ((w.alloc (.cells #[.int .i64 0, .int .i64 0, .int .i64 0, .int .i64 0, .int .i64 0, .int .i64 0, .int .i64 0, .int .i64 0, .int .i64 0] 37)).setRow w.heap.size x.cells.toArray) ∧ Below w.heap.size w ((w.alloc (.cells #[.int .i64 0, .int .i64 0, .int .i64 0, .int .i64 0, .int .i64 0, .int .i64 0, .int .i64 0, .int .i64 0, .int .i64 0] 37)).setRow w.heap.size x.cells.toArray) := by
    intro x
    have hk := heap_alloc_new w (.cells #[.int .i64 0, .int .i64 0, .int .i64 0, .int .i64 0, .int .i64 0, .int .i64 0, .int .i64 0, .int .i64 0, .int .i64 0] 37)
    exact ⟨hk, run_loadVar_row _ _ _ _ _ _ _ (setRow_heap _ _ _ _ _ _ hk) Try.underlying37 rfl (by kernel_rfl), below_row HAL.out (Nat.le_refl _) _⟩
  have HF := Lib.hid hfin
  clear hfin
  cases hh : hasR (rowsO L) id with
  | false =>
    have hg : getO L id = none := by unfold getO; rw [hh]; rfl
    rw [hg]
    have hno := at_no_of hh
    have HNO := Lib.hid hno
    have HB := Lib.hid (HF.out ⟨0, 0, 0, 0, 0, 0, 0, 0, 0⟩)
    clear h hR hal hh hg hno hA HF
    go_enter Try.func16, Try.ntmps16
    go_wp2_with (first
      | (go_at_call 33; refine (at_no _ rb base F v L G id HR.out hl HNO.out).mono ?_; rintro e w1 ⟨rfl, rfl⟩)
      | (refine wpList_store_row rfl 37 _ _ rfl w.heap.size (Ob.cells ⟨0, 0, 0, 0, 0, 0, 0, 0, 0⟩).toArray rfl rfl _ _ HB.out.1 (by kernel_rfl) rfl (ob_one _) ?_))
    have hl := HB.out.2.1
    exact bodyPost_ret (v := .tuple #[obD none, .bool false]) (by simp [results, Try.results16, go_sem, asAddr, hl]) rfl ⟨rfl, HB.out.2.2⟩
  | true =>
    obtain ⟨r, hr, e⟩ := (hasR_at hA).1 hh
    rw [rows_get] at hr
    obtain ⟨x, hx⟩ : ∃ x, L[posR (rowsO L) id]? = some x := by
      cases hz : L[posR (rowsO L) id]? with
      | none => rw [hz] at hr; cases hr
      | some z => exact ⟨z, rfl⟩
    have hxid : x.id = id := by rw [hx] at hr; cases hr; exact e
    have hg : getO L id = some x := by unfold getO posO; rw [hh, if_pos rfl, hx]
    rw [hg]
    have hbef : ∀ i y, i < posR (rowsO L) id → L[i]? = some y → y.id ≠ id := by
      intro i y hi hy e'
      have := asc_id hA hi hy hx
      omega
    generalize posR (rowsO L) id = p at *
    have hpL := (List.getElem?_eq_some_iff.1 hx).1
    obtain ⟨ra, rc, rfl, hrc, hra⟩ := obs_of hR.row
    obtain ⟨g, rfl, hgl, hobs⟩ := hra p hpL
    have hld : ∀ j u, x.cells[j]? = some u → (w.alloc (.cells #[.int .i64 0, .int .i64 0, .int .i64 0, .int .i64 0, .int .i64 0, .int .i64 0, .int .i64 0, .int .i64 0, .int .i64 0] 37)).cell? ((⟨g, p * 9, none⟩ : Addr).add j) = some u := add_cells_off (fun j u hj => hobs p j x u hx hj)
    have HLD := Lib.hid hld
    have HX := Lib.hid hx
    have HXI := Lib.hid hxid
    have HBE := Lib.hid hbef
    have HB := Lib.hid (HF.out x)
    have c1 := hR.c1
    have hpI : (p : Int) < L.length := by omega
    have q1 : (loadVar 40 ⟨rb, 1, none⟩).run Try.prog (w.alloc (.cells #[.int .i64 0, .int .i64 0, .int .i64 0, .int .i64 0, .int .i64 0, .int .i64 0, .int .i64 0, .int .i64 0, .int .i64 0] 37)) = .ok (.slice (some ⟨g, 0, none⟩) L.length rc) (w.alloc (.cells #[.int .i64 0, .int .i64 0, .int .i64 0, .int .i64 0, .int .i64 0, .int .i64 0, .int .i64 0, .int .i64 0, .int .i64 0] 37)) := run_loadVar_one c1
    clear h hR hal hh hg hA HF hra hobs hld hx hbef hr hxid
    go_enter Try.func16, Try.ntmps16
    go_wp2_with (first
      | (go_at_call 33; refine (at_yes _ rb base F _ L G id HR.out hl p x HX.out HXI.out HBE.out).mono ?_; rintro e w1 ⟨rfl, rfl⟩)
      | (refine wpList_load_list (by first | rfl | simp [Region.wanted, yielded]) 37 _ rfl ⟨g, p * 9, none⟩ rfl x.cells HLD.out _ Try.underlying37 rfl (by kernel_rfl) ?_)
      | (refine wpList_store_row rfl 37 _ _ rfl w.heap.size x.cells.toArray rfl rfl _ _ HB.out.1 (by kernel_rfl) rfl (ob_one _) ?_))
    have hl := HB.out.2.1
    exact bodyPost_ret (v := .tuple #[obD (some x), .bool true]) (by simp [results, Try.results16, go_sem, asAddr, hl]) rfl ⟨rfl, HB.out.2.2⟩
end Go.Proofs.Ytkladhbamkomnaa
