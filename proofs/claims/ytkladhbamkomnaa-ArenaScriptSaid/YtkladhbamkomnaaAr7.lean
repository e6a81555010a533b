/- package arena: find, Get, SetMark, SetPlace. -/
import Derived.Test.YtkladhbamkomnaaAr5
import Derived.Test.YtkladhbamkomnaaTabKA
namespace Go.Proofs.Ytkladhbamkomnaa
set_option linter.unusedVariables false
set_option linter.unusedSimpArgs false
open Go.ChangeShapes Go.WideShapes Go.ChangeAt Go.RowKit Go.Shelf
open TabA

/-- The object of a number, and its place. -/
def posO (L : List Ob) (id : Int) : Nat := posR (rowsO L) id
def getO (L : List Ob) (id : Int) : Option Ob := if hasR (rowsO L) id then L[posO L id]? else none
theorem getO_has {w : World} {b ab base F : Nat} {cnt : List Int} {v : Value} {L : List Ob} (h : ArAt w b ab base F cnt v L) (id : Int) : (getO L id = none ∧ hasR (rowsO L) id = false) ∨ ∃ x, getO L id = some x ∧ hasR (rowsO L) id = true ∧ L[posO L id]? = some x ∧ x.id = id := by
  unfold getO
  cases hh : hasR (rowsO L) id with
  | false => exact .inl ⟨rfl, rfl⟩
  | true =>
    obtain ⟨r, hr, e⟩ := (hasR_at h.tab.asc).1 hh
    rw [rows_get] at hr
    cases hx : L[posR (rowsO L) id]? with
    | none => rw [hx] at hr; cases hr
    | some x =>
      rw [hx] at hr
      cases hr
      exact .inr ⟨x, hx, rfl, hx, e⟩
theorem ArAt.vform {w : World} {b ab base F : Nat} {cnt : List Int} {v : Value} {L : List Ob} (h : ArAt w b ab base F cnt v L) {k : Nat} {x : Ob} (hx : L[k]? = some x) : ∃ g c, v = .slice (some ⟨g, 0, none⟩) L.length c ∧ g < w.heap.size ∧ g ≠ b ∧ g ≠ ab ∧ ∀ j u, x.cells[j]? = some u → w.cell? ⟨g, k * 10 + (j + 1), none⟩ = some u := by
  rcases h.tab.form with ⟨_, h2⟩ | ⟨g, c, rfl, hg, hbg, _, _, hR⟩
  · exfalso
    have h3 : (rowsO L).length = 0 := by rw [h2]; rfl
    rw [rows_len] at h3
    have := (List.getElem?_eq_some_iff.1 hx).1
    omega
  · refine ⟨g, c, by rw [rows_len], hg, by have := h.tab.ne; omega, by have := h.abl; omega, fun j u hj => ?_⟩
    exact hR k (j + 1) (rowO x) u (by rw [rows_get, hx]; rfl) (by simpa [rowO, rcells] using hj)
set_option maxRecDepth 100000 in
set_option maxHeartbeats 1000000 in
theorem find_no (w : World) (b ab base F : Nat) (cnt : List Int) (v : Value) (L : List Ob) (id : Int) (h : ArAt w b ab base F cnt v L) (hh : hasR (rowsO L) id = false) :
    Calls Try.prog 32 #[.pointer (some ⟨b, 0, none⟩), .int .i64 id] w fun e w' => e = .returned (.tuple #[.pointer none, .bool false]) ∧ Below w.heap.size w w' := by
  have H := Lib.hid h
  have HH := Lib.hid hh
  have hbl := h.bl
  clear h hh
  go_enter Try.func32, Try.ntmps32
  go_wp2_with (go_at_call 43; refine (get_any _ b 1 base v (rowsO L) id H.out.tab).mono ?_; rw [HH.out]; rintro e w1 ⟨rfl, hb1⟩)
  go_ret2
  exact ⟨rfl, hb1⟩
set_option maxRecDepth 100000 in
set_option maxHeartbeats 1000000 in
theorem find_yes (w : World) (b ab base F g c : Nat) (cnt : List Int) (L : List Ob) (id : Int) (h : ArAt w b ab base F cnt (.slice (some ⟨g, 0, none⟩) L.length c) L) (hh : hasR (rowsO L) id = true) :
    Calls Try.prog 32 #[.pointer (some ⟨b, 0, none⟩), .int .i64 id] w fun e w' => e = .returned (.tuple #[.pointer (some ⟨g, posO L id * 10 + 1, none⟩), .bool true]) ∧ Below w.heap.size w w' := by
  have H := Lib.hid h
  have HH := Lib.hid hh
  have hbl := h.bl
  clear h hh
  unfold posO
  go_enter Try.func32, Try.ntmps32
  go_wp2_with (go_at_call 43; refine (get_any _ b 1 base (.slice (some ⟨g, 0, none⟩) L.length c) (rowsO L) id H.out.tab).mono ?_; rw [HH.out]; rintro e w1 ⟨rfl, hb1⟩)
  go_ret2
  exact ⟨rfl, hb1⟩
abbrev obD (o : Option Ob) : Value := obV (o.getD ⟨0, 0, 0, 0, 0, 0, 0, 0, 0⟩)
theorem ob_one (x : Ob) : x.cells.toArray.all (·.oneCell') = true := by simp [Ob.cells, Value.oneCell']
theorem obV_eq (x : Ob) : obV x = .agg x.cells.toArray := rfl
theorem below_row {B g : Nat} {w0 w : World} (hb : Below B w0 w) (hg : B ≤ g) (cs : Array Value) : Below B w0 (w.setRow g cs) :=
  ⟨hb.os, hb.tape, hb.output, by simp [World.setRow]; exact hb.size, fun k hk => (setRow_other w g k cs (by omega)).trans (hb.block k hk)⟩
attribute [-go_sem] loadVar
set_option maxRecDepth 100000 in
set_option maxHeartbeats 2000000 in
theorem aget_any (w : World) (b ab base F : Nat) (cnt : List Int) (v : Value) (L : List Ob) (id : Int) (h : ArAt w b ab base F cnt v L) :
    Calls Try.prog 15 #[.pointer (some ⟨b, 0, none⟩), .int .i64 id] w fun e w' => e = .returned (.tuple #[obD (getO L id), .bool (getO L id).isSome]) ∧ Below w.heap.size w w' := by
  have H := Lib.hid h
  have hal : Below w.heap.size w (w.alloc (.cells #[.int .i64 0, .int .i64 0, .int .i64 0, .int .i64 0, .int .i64 0, .int .i64 0, .int .i64 0, .int .i64 0, .int .i64 0] 37)) := bal (Below.refl _ _) _
  have HAL := Lib.hid hal
  have hfin : ∀ (w1 : World) (x : Ob), Below (w.heap.size + 1) (w.alloc (.cells #[.int .i64 0, .int .i64 0, .int .i64 0, .int .i64 0, .int .i64 0, .int .i64 0, .int .i64 0, .int .i64 0, .int .i64 0] 37)) w1 → w1.heap[w.heap.size]? = some (.cells #[.int .i64 0, .int .i64 0, .int .i64 0, .int .i64 0, .int .i64 0, .int .i64 0, .int .i64 0, .int .i64 0, .int .i64 0] 37 (0, 0)) ∧ (loadVar 37 ⟨w.heap.size, 0, none⟩).run Try.prog (w1.setRow w.heap.size x.cells.toArray) = .ok (obV x) (w1.setRow w.heap.size x.cells.toArray) ∧ Below w.heap.size w (w1.setRow w.heap.size x.cells.toArray) := by
    intro w1 x hb1
    have hk := (hb1.block w.heap.size (by omega)).trans (heap_alloc_new w _)
    exact ⟨hk, run_loadVar_row _ _ _ _ _ _ _ (setRow_heap _ _ _ _ _ _ hk) Try.underlying37 rfl (by kernel_rfl), below_row (HAL.out.trans (hb1.mono (by omega))) (Nat.le_refl _) _⟩
  have HF := Lib.hid hfin
  clear hfin
  rcases getO_has h id with ⟨hg, hh⟩ | ⟨x, hg, hh, hx, hid⟩
  · rw [hg]
    have HH := Lib.hid hh
    clear h hh hg hal
    go_enter Try.func15, Try.ntmps15
    go_wp2_with (first
      | (go_at_call 32; refine (find_no _ b ab base F cnt v L id (H.out.call HAL.out) HH.out).mono ?_; rintro e w1 ⟨rfl, hb1⟩; have HB := Lib.hid (HF.out w1 ⟨0, 0, 0, 0, 0, 0, 0, 0, 0⟩ (by simpa using hb1)))
      | (refine wpList_store_row rfl 37 _ _ rfl w.heap.size (Ob.cells ⟨0, 0, 0, 0, 0, 0, 0, 0, 0⟩).toArray rfl rfl _ _ HB.out.1 (by kernel_rfl) rfl (ob_one _) ?_))
    have hl := HB.out.2.1
    exact bodyPost_ret (v := .tuple #[obD none, .bool false]) (by simp [results, Try.results15, go_sem, asAddr, hl]) rfl ⟨rfl, HB.out.2.2⟩
  · rw [hg]
    obtain ⟨g, c, rfl, hgl, hgb, hga, hcs⟩ := h.vform hx
    have HH := Lib.hid hh
    have HCS := Lib.hid hcs
    clear h hh hg hal hcs hx hid
    generalize hp : posO L id = p at *
    have HP := Lib.hid hp
    clear hp
    have hld : ∀ w1 : World, Below (w.heap.size + 1) (w.alloc (.cells #[.int .i64 0, .int .i64 0, .int .i64 0, .int .i64 0, .int .i64 0, .int .i64 0, .int .i64 0, .int .i64 0, .int .i64 0] 37)) w1 → ∀ j u, x.cells[j]? = some u → w1.cell? ((⟨g, p * 10 + 1, none⟩ : Addr).add j) = some u := by
      intro w1 hb1
      refine add_cells_off (fun j u hj => ?_)
      rw [Nat.add_assoc, Nat.add_comm 1 j]
      exact ((HAL.out.trans (hb1.mono (by omega))).cell (p := ⟨g, _, none⟩) hgl).trans (HCS.out j u hj)
    have HLD := Lib.hid hld
    clear hld
    go_enter Try.func15, Try.ntmps15
    go_wp2_with (first
      | (go_at_call 32; refine (find_yes _ b ab base F g c cnt L id (H.out.call HAL.out) HH.out).mono ?_; rw [HP.out]; rintro e w1 ⟨rfl, hb1⟩; have HB := Lib.hid (HF.out w1 x (by simpa using hb1)); have HL := Lib.hid (HLD.out w1 (by simpa using hb1)))
      | (refine wpList_load_list (by first | rfl | simp [Region.wanted, yielded]) 37 _ rfl ⟨g, p * 10 + 1, none⟩ rfl x.cells HL.out _ Try.underlying37 rfl (by kernel_rfl) ?_)
      | (refine wpList_store_row rfl 37 _ _ rfl w.heap.size x.cells.toArray rfl rfl _ _ HB.out.1 (by kernel_rfl) rfl (ob_one _) ?_))
    have hl := HB.out.2.1
    exact bodyPost_ret (v := .tuple #[obD (some x), .bool true]) (by simp [results, Try.results15, go_sem, asAddr, hl]) rfl ⟨rfl, HB.out.2.2⟩
end Go.Proofs.Ytkladhbamkomnaa
