/- The slots of nodes: Drop of a node that holds something. -/
import Derived.Test.YtplanbihejodoaaDoorSlo6
namespace Go.Proofs.YtplanbihejodoaaDoor
set_option linter.unusedVariables false
set_option linter.unusedSimpArgs false
open Go.ChangeShapes Go.WideShapes Go.ChangeAt Go.RowKit Go.Shelf
attribute [local go_sem] Oper.semAt_some

/-- Where Drop's own result lies, ahead of the first that is held. -/
structure DrAt (w : World) (N : Nat) (pre : List (Fin 1)) (W : World) : Prop where
  no : pre = []
  r0 : W.cell? ⟨w.heap.size, 0, none⟩ = some (.int .i64 0) ∧ W.frozen? ⟨w.heap.size, 0, none⟩ = false
  rlt : w.heap.size < N
  lt : N ≤ W.heap.size
  below : Below w.heap.size w W
structure DrIx (w : World) (N : Nat) (c : Code) (pre : List (Fin 1)) (W : World) : Prop where
  c : c = .ret
  r0 : W.cell? ⟨w.heap.size, 0, none⟩ = some (.int .i64 16)
  rlt : w.heap.size < N
  lt : N ≤ W.heap.size
  below : Below w.heap.size w W
theorem frozen_of_block {W W' : World} {b j : Nat} (h : W'.heap[b]? = W.heap[b]?) : W'.frozen? ⟨b, j, none⟩ = W.frozen? ⟨b, j, none⟩ := by
  unfold World.frozen?
  simp only [h]
theorem DrAt.from {w : World} {N : Nat} : OwnFrom N (DrAt w N) := by
  intro s A B row h hg hr
  have e : ∀ k, k < N → B.heap[k]? = A.heap[k]? := fun k hk => hg.block k (Nat.lt_of_lt_of_le hk h.lt) (fun e => by have := (hr k e.symm).1; omega)
  have sz := hg.size
  exact ⟨h.no, ⟨(cell_of_block (e _ h.rlt)).trans h.r0.1, (frozen_of_block (e _ h.rlt)).trans h.r0.2⟩, h.rlt, Nat.le_trans h.lt sz,
    ⟨hg.os.trans h.below.os, hg.tape.trans h.below.tape, hg.output.trans h.below.output, Nat.le_trans h.below.size sz, fun k hk => (e k (by have := h.rlt; omega)).trans (h.below.block k hk)⟩⟩
theorem DrIx.from {w : World} {N : Nat} (c : Code) : OwnFrom N (DrIx w N c) := by
  intro s A B row h hg hr
  have e : ∀ k, k < N → B.heap[k]? = A.heap[k]? := fun k hk => hg.block k (Nat.lt_of_lt_of_le hk h.lt) (fun e => by have := (hr k e.symm).1; omega)
  have sz := hg.size
  exact ⟨h.c, (cell_of_block (e _ h.rlt)).trans h.r0, h.rlt, Nat.le_trans h.lt sz,
    ⟨hg.os.trans h.below.os, hg.tape.trans h.below.tape, hg.output.trans h.below.output, Nat.le_trans h.below.size sz, fun k hk => (e k (by have := h.rlt; omega)).trans (h.below.block k hk)⟩⟩
theorem heap_putObj_ne {W : World} {l k : Nat} {o : Obj} (h : k ≠ l) : (W.putObj l o).heap[k]? = W.heap[k]? := by
  simp [World.putObj, Array.getElem?_setIfInBounds, Ne.symm h]
set_option maxRecDepth 100000 in
set_option maxHeartbeats 1000000 in
theorem drop_in (w : World) (b m : Nat) (h : SlAt w b m 8 3 7) :
    CallsIn Fence.wide 3 Tryd.prog 11 #[.pointer (some ⟨b, 0, none⟩), .int .i64 7] w fun e W' => e = .returned (.int .i64 16) ∧ Below w.heap.size w W' := by
  have H := Lib.hid h
  clear h
  refine callsIn_of_wp_marks Tryd.func11 rfl trivial ?_ rfl
  simp only [Tryd.ntmps11, List.size_toArray, List.length_cons, List.length_nil, Nat.reduceAdd, Nat.reduceSub, Array.replicate_succ, Array.replicate_zero, List.push_toArray, List.append_toArray, List.nil_append, List.cons_append]
  obtain ⟨w1, hw1⟩ : ∃ x, x = w.alloc (.cells #[.int .i64 0] 38) := ⟨_, rfl⟩
  have B1 : Below w.heap.size w w1 := hw1 ▸ bal (Below.refl _ _) _
  have H1 := H.out.call B1
  obtain ⟨g, c, h1, h2, h3, h4, h5, h6⟩ := H1
  have HG := Lib.hid (callsIn_wide (n := 2).2 (get_one w1 b m g c h5 h1 h2))
  have HR := Lib.hid h2
  have HM := Lib.hid h6
  clear h1 h2 h6
  gi_wp2_with (first
    | (refine ⟨trivial, ?_⟩; gi_at_call 27; rw [← hw1]; refine HG.out.mono ?_; rintro e w2 ⟨rfl, hb2⟩; have y2 := (HR.out.go hb2).2.1)
    | (refine ⟨trivial, ?_⟩; gi_at_call 28; refine (held_in _ m _).mono ?_; rintro e w' ⟨rfl, rfl⟩))
  have B2 : Below w.heap.size w w2 := bgo B1 hb2
  have hs1 : w.heap.size < w1.heap.size := by rw [hw1]; simp
  have hs2 := hb2.size
  have r1 : w1.cell? ⟨w.heap.size, 0, none⟩ = some (.int .i64 0) := by rw [hw1]; simp [go_sem]
  have r1f : w1.frozen? ⟨w.heap.size, 0, none⟩ = false := by rw [hw1]; unfold World.frozen?; rw [World.alloc_heap_new]; rfl
  have r2 := (hb2.cell (p := ⟨w.heap.size, 0, none⟩) hs1).trans r1
  have r2f := (hb2.frozen (p := ⟨w.heap.size, 0, none⟩) hs1).trans r1f
  have hml : m < w1.heap.size := (Array.getElem?_eq_some_iff.1 HM.out).1
  have hm2 := (hb2.block m hml).trans HM.out
  obtain ⟨w3, hw3⟩ : ∃ x, x = (w2.alloc (.cells #[.int .i64 7] 3)).alloc (.cells #[sl2 m] 65) := ⟨_, rfl⟩
  rw [← hw3]
  have B3 : Below w2.heap.size w2 w3 := hw3 ▸ bal (bal (Below.refl _ _) _) _
  have hsz : w3.heap.size = w2.heap.size + 2 := by rw [hw3]; simp
  have c7 : w3.cell? ⟨w2.heap.size, 0, none⟩ = some (.int .i64 7) := by rw [hw3]; go_simp
  have cs : w3.cell? ⟨w2.heap.size + 1, 0, none⟩ = some (sl2 m) := by rw [hw3]; go_simp
  have hm3 := (B3.block m (by omega)).trans hm2
  have inv : DrAt w w3.heap.size [] w3 := ⟨rfl, ⟨(B3.cell (p := ⟨w.heap.size, 0, none⟩) (by simp only; omega)).trans r2, (B3.frozen (p := ⟨w.heap.size, 0, none⟩) (by simp only; omega)).trans r2f⟩, by omega, Nat.le_refl _, bgo B2 B3⟩
  clear hw3 hw1 HG
  refine wpIn_rangeFunc_ownF (α := Fin 1) rfl (by decide) (gf := 40) (lb := #[.pointer (some ⟨w2.heap.size + 1, 0, none⟩), .pointer (some ⟨w2.heap.size, 0, none⟩)]) rfl trivial (enters_of Tryd.func40 (by kernel_rfl) rfl)
    (encs := encH) (Kp := KpH (w2.heap.size + 1) w2.heap.size m) (S := fun xs => xs = [0]) (Sp := fun pre => True) (N := 1) (w0 := w3) (held1_seq 1 (w2.heap.size + 1) w2.heap.size m w3 hm3 cs c7 (by omega) (by omega))
    (fun h k => h.trans k) ?hKb (Below.refl _ _) (fun _ => rfl) (DrAt w w3.heap.size) (DrIx w w3.heap.size) DrAt.from (fun c => DrIx.from c) inv
    (fun x => { tmps := #[.pointer (some ⟨b, 0, none⟩), .int .i64 7, undef, undef, .pointer (some ⟨w.heap.size, 0, none⟩), .pointer (some ⟨g, 1, none⟩), .bool true, .pointer (some ⟨b, 0, none⟩), .bool false, .tuple #[.pointer (some ⟨g, 1, none⟩), .bool true], .pointer (some ⟨b, 0, none⟩), .pointer (some ⟨b, 0, none⟩), .pointer (some ⟨b, 0, none⟩), .int .i64 7, .tuple #[.pointer (some ⟨g, 1, none⟩), .bool true], .pointer (some ⟨g, 1, none⟩), .bool true, .bool true, .bool false, .int .i64 7, .pointer (some ⟨g, 1, none⟩), .pointer (some ⟨g, 1, none⟩), sl2 m, .func (.func 40) #[] #[.pointer (some ⟨w2.heap.size + 1, 0, none⟩), .pointer (some ⟨w2.heap.size, 0, none⟩)], heldV, undef, undef, undef, undef, undef], defers := [] }) ?hassign ?hbody ?hdone ?hstop
  case hKb =>
    intro W l o o' hl ho _ _
    exact ⟨heap_putObj_ne (by omega), heap_putObj_ne (by omega), heap_putObj_ne (by omega), by simp⟩
  case hassign =>
    intro l x W K hK
    gi_wp2
    refine cast (congrArg (fun a => K a W) ?_) hK
    simp [encH]
  case hbody =>
    rintro l pre x W hI hlen
    obtain ⟨d0, f0⟩ := hI.r0
    have hlt := hI.lt
    have hrl := hI.rlt
    have hBw := hI.below
    clear hI
    gi_wp2
    refine ⟨KeepsOthers.setCell _ _ _, rfl, ?_, hrl, by simpa using hlt, hBw.setCell (Nat.le_refl _) _⟩
    go_simp
  case hdone =>
    rintro D xs W hD rfl hI hK
    have := hI.no
    cases this
  case hstop =>
    rintro D c pre W hD - ⟨rfl, h4, hrl, hlt, hBw⟩ hK
    gi_wp2
    refine ⟨by simp, .inl ⟨_, _, rfl, run_takeDeferred hK, ?_⟩⟩
    have g0 : ∀ o : Obj, (W.putObj D o).cell? ⟨w.heap.size, 0, none⟩ = some (.int .i64 16) := fun o => (cell_of_block (heap_putObj_ne (by omega))).trans h4
    exact ⟨.int .i64 16, by simp [results, Tryd.results11, go_sem, g0], rfl, hBw.trans (belowK_b (w := w) (Nat.le_refl _) W D _ _ (by omega) hK rfl rfl)⟩
end Go.Proofs.YtplanbihejodoaaDoor
