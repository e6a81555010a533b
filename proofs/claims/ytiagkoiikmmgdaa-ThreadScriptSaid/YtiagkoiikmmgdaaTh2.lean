/- package thread, over tables of any number of rows: Get. -/
import Derived.Test.YtiagkoiikmmgdaaTh1
import Derived.Laws.Rows
import Derived.Deep.RegionWith
namespace Go.Proofs.Ytiagkoiikmmgdaa
set_option linter.unusedVariables false
set_option linter.unusedSimpArgs false
open Go.ChangeShapes Go.WideShapes Go.ChangeAt Go.RowKit Go.Shelf
open TabT

def getT (L : List Th) (id : Int) : Option Th := if hasH L id then L[posH L id]? else none
def obT (o : Option Th) : Th := o.getD zeroT
theorem getT_has {L : List Th} (hA : Asc (rowsH L)) (id : Int) : (getT L id = none ∧ hasH L id = false) ∨ ∃ x, getT L id = some x ∧ hasH L id = true ∧ L[posH L id]? = some x ∧ x.id = id := by
  unfold getT
  cases hh : hasH L id with
  | false => exact .inl ⟨rfl, rfl⟩
  | true =>
    obtain ⟨r, hr, e⟩ := (hasR_at hA).1 (show hasR (rowsH L) id = true from hh)
    rw [rowsH_get] at hr
    obtain ⟨x, hx⟩ : ∃ x, L[posR (rowsH L) id]? = some x := by
      cases hz : L[posR (rowsH L) id]? with
      | none => rw [hz] at hr; cases hr
      | some z => exact ⟨z, rfl⟩
    rw [hx] at hr
    cases hr
    exact .inr ⟨x, hx, rfl, hx, e⟩
theorem ThrAt.vform {w : World} {b base : Nat} {v : Value} {L : List Th} (h : ThrAt w b base v L) {k : Nat} {x : Th} (hx : L[k]? = some x) : ∃ g c, v = .slice (some ⟨g, 0, none⟩) L.length c ∧ g < w.heap.size ∧ g ≠ b ∧ base ≤ g ∧ ∀ j u, x.cells[j]? = some u → w.cell? ⟨g, k * 25 + (j + 1), none⟩ = some u := by
  have hne := h.ne
  rcases h.form with ⟨rfl, h0⟩ | ⟨g, c, rfl, h1, h2, h3, h4, h5⟩
  · have : L = [] := by cases L with
      | nil => rfl
      | cons y M => cases h0
    rw [this] at hx
    cases hx
  · refine ⟨g, c, by rw [rowsH_len], h1, by omega, h2, fun j u hj => ?_⟩
    exact h5 k (j + 1) (rowH x) u (by rw [rowsH_get, hx]; rfl) (by simpa [rcells, rowH] using hj)
theorem below_row {B g : Nat} {w0 w : World} (hb : Below B w0 w) (hg : B ≤ g) (cs : Array Value) : Below B w0 (w.setRow g cs) :=
  ⟨hb.os, hb.tape, hb.output, by simp [World.setRow]; exact hb.size, fun k hk => (setRow_other w g k cs (by omega)).trans (hb.block k hk)⟩
theorem tabget_no (w : World) (b base : Nat) (v : Value) (L : List Th) (id : Int) (h : ThrAt w b base v L) (hh : hasH L id = false) :
    Calls Try.prog 28 #[.pointer (some ⟨b, 0, none⟩), .int .i64 id] w fun e w' => e = .returned (.tuple #[.pointer none, .bool false]) ∧ Below w.heap.size w w' := by
  have := get_any w b 0 base v (rowsH L) id h
  rw [show hasR (rowsH L) id = false from hh] at this
  exact this
theorem tabget_yes (w : World) (b base g c : Nat) (L : List Th) (id : Int) (h : ThrAt w b base (.slice (some ⟨g, 0, none⟩) L.length c) L) (hh : hasH L id = true) :
    Calls Try.prog 28 #[.pointer (some ⟨b, 0, none⟩), .int .i64 id] w fun e w' => e = .returned (.tuple #[.pointer (some ⟨g, posH L id * 25 + 1, none⟩), .bool true]) ∧ Below w.heap.size w w' := by
  have := get_any w b 0 base _ (rowsH L) id h
  rw [show hasR (rowsH L) id = true from hh] at this
  exact this
theorem zeroT_cells (w : World) : w.alloc (.cells #[.int .i64 0, .int .i64 0, .int .i64 0, .int .u64 0, .int .u64 0, .int .u64 0, .int .u64 0, .int .u64 0, .bool false, .int .i64 0, .int .i64 0, .int .u64 0, .int .u64 0, .int .u64 0, .int .u64 0, .int .u64 0, .int .i64 0, .int .i64 0, .bool false, .bool false, .bool false, .bool false, .int .u64 0, .int .u64 0] 35) = w.alloc (.cells zeroT.cells.toArray 35) := rfl
attribute [-go_sem] loadVar
set_option maxRecDepth 100000 in
set_option maxHeartbeats 2000000 in
theorem tget_any (w : World) (b base : Nat) (v : Value) (L : List Th) (id : Int) (h : ThrAt w b base v L) :
    Calls Try.prog 17 #[.pointer (some ⟨b, 0, none⟩), .int .i64 id] w fun e w' => e = .returned (.tuple #[thV (obT (getT L id)), .bool (getT L id).isSome]) ∧ Below w.heap.size w w' := by
  have H := Lib.hid h
  have hal : Below w.heap.size w (w.alloc (.cells #[.int .i64 0, .int .i64 0, .int .i64 0, .int .u64 0, .int .u64 0, .int .u64 0, .int .u64 0, .int .u64 0, .bool false, .int .i64 0, .int .i64 0, .int .u64 0, .int .u64 0, .int .u64 0, .int .u64 0, .int .u64 0, .int .i64 0, .int .i64 0, .bool false, .bool false, .bool false, .bool false, .int .u64 0, .int .u64 0] 35)) := bal (Below.refl _ _) _
  have HAL := Lib.hid hal
  have hfin : ∀ (w1 : World) (x : Th), Below (w.heap.size + 1) (w.alloc (.cells #[.int .i64 0, .int .i64 0, .int .i64 0, .int .u64 0, .int .u64 0, .int .u64 0, .int .u64 0, .int .u64 0, .bool false, .int .i64 0, .int .i64 0, .int .u64 0, .int .u64 0, .int .u64 0, .int .u64 0, .int .u64 0, .int .i64 0, .int .i64 0, .bool false, .bool false, .bool false, .bool false, .int .u64 0, .int .u64 0] 35)) w1 → w1.heap[w.heap.size]? = some (.cells #[.int .i64 0, .int .i64 0, .int .i64 0, .int .u64 0, .int .u64 0, .int .u64 0, .int .u64 0, .int .u64 0, .bool false, .int .i64 0, .int .i64 0, .int .u64 0, .int .u64 0, .int .u64 0, .int .u64 0, .int .u64 0, .int .i64 0, .int .i64 0, .bool false, .bool false, .bool false, .bool false, .int .u64 0, .int .u64 0] 35 (0, 0)) ∧ (loadVar 35 ⟨w.heap.size, 0, none⟩).run Try.prog (w1.setRow w.heap.size x.cells.toArray) = .ok (thV x) (w1.setRow w.heap.size x.cells.toArray) ∧ Below w.heap.size w (w1.setRow w.heap.size x.cells.toArray) := by
    intro w1 x hb1
    have hk := (hb1.block w.heap.size (by omega)).trans (heap_alloc_new w _)
    exact ⟨hk, run_loadVar_row _ _ _ _ _ _ _ (setRow_heap _ _ _ _ _ _ hk) Try.underlying35 rfl (by kernel_rfl), below_row (HAL.out.trans (hb1.mono (by omega))) (Nat.le_refl _) _⟩
  have HF := Lib.hid hfin
  clear hfin
  rcases getT_has h.asc id with ⟨hg, hh⟩ | ⟨x, hg, hh, hx, hid⟩
  · rw [hg]
    have HH := Lib.hid hh
    clear h hh hg hal
    go_enter Try.func17, Try.ntmps17
    go_wp2_with (first
      | (go_at_call 28; refine (tabget_no _ b base v L id (H.out.call HAL.out) HH.out).mono ?_; rintro e w1 ⟨rfl, hb1⟩; have HB := Lib.hid (HF.out w1 zeroT (by simpa using hb1)))
      | (refine wpList_store_row rfl 35 _ _ rfl w.heap.size zeroT.cells.toArray rfl rfl _ _ HB.out.1 (by kernel_rfl) rfl (th_one' _) ?_))
    have hl := HB.out.2.1
    exact bodyPost_ret (v := .tuple #[thV zeroT, .bool false]) (by simp [results, Try.results17, go_sem, asAddr, hl]) rfl ⟨rfl, HB.out.2.2⟩
  · rw [hg]
    obtain ⟨g, c, rfl, hgl, hgb, hga, hcs⟩ := h.vform hx
    have HH := Lib.hid hh
    have HCS := Lib.hid hcs
    clear h hh hg hal hcs hx hid
    generalize hp : posH L id = p at *
    have HP := Lib.hid hp
    clear hp
    have hld : ∀ w1 : World, Below (w.heap.size + 1) (w.alloc (.cells #[.int .i64 0, .int .i64 0, .int .i64 0, .int .u64 0, .int .u64 0, .int .u64 0, .int .u64 0, .int .u64 0, .bool false, .int .i64 0, .int .i64 0, .int .u64 0, .int .u64 0, .int .u64 0, .int .u64 0, .int .u64 0, .int .i64 0, .int .i64 0, .bool false, .bool false, .bool false, .bool false, .int .u64 0, .int .u64 0] 35)) w1 → w1.rangeAt g (p * 25 + 1) x.cells := by
      intro w1 hb1 j u hj
      rw [Nat.add_assoc, Nat.add_comm 1 j]
      exact ((HAL.out.trans (hb1.mono (by omega))).cell (p := ⟨g, _, none⟩) hgl).trans (HCS.out j u hj)
    have HLD := Lib.hid hld
    clear hld
    go_enter Try.func17, Try.ntmps17
    go_wp2_with (first
      | (go_at_call 28; refine (tabget_yes _ b base g c L id (H.out.call HAL.out) HH.out).mono ?_; rw [HP.out]; rintro e w1 ⟨rfl, hb1⟩; have HB := Lib.hid (HF.out w1 x (by simpa using hb1)); have HL := Lib.hid (HLD.out w1 (by simpa using hb1)))
      | (refine wpList_load_mid rfl 35 _ rfl g (p * 25 + 1) rfl x.cells _ HL.out Try.underlying35 rfl (by kernel_rfl) ?_)
      | (refine wpList_store_row rfl 35 _ _ rfl w.heap.size x.cells.toArray rfl rfl _ _ HB.out.1 (by kernel_rfl) rfl (th_one' _) ?_))
    have hl := HB.out.2.1
    exact bodyPost_ret (v := .tuple #[thV x, .bool true]) (by simp [results, Try.results17, go_sem, asAddr, hl]) rfl ⟨rfl, HB.out.2.2⟩
end Go.Proofs.Ytiagkoiikmmgdaa
