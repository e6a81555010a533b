import Derived.Test.YtplanbihejodoaaDoorSlo5
import Derived.Test.YtplanbihejodoaaDoorLink
import Derived.RangeFuncNested
import Derived.RangeFuncBound
import Derived.RangeFuncCalls
import Derived.RangeFuncLeaves
import Derived.RangeFuncFrom
import Derived.RangeFuncWrites
import Derived.RangeFuncBox
import Derived.OwnWalkIn
import Derived.TacticsInMore
import Derived.LoopNIn
import Derived.LoopIn
import Derived.Stop.RegionWithIn
import Derived.Test.YtplanbihejodoaaDoorNil
import Derived.Test.YtplanbihejodoaaDoorVars
import Derived.Test.YtplanbihejodoaaDoorCells
namespace Go.Proofs.YtplanbihejodoaaDoor
/- The slots of nodes: the iterator over what a node holds. -/
section
namespace SX
set_option linter.unusedVariables false
set_option linter.unusedSimpArgs false
open Go.ChangeShapes Go.WideShapes Go.ChangeAt Go.RowKit Go.Shelf
attribute [local go_sem] Oper.semAt_some

def KpH (cb nb m : Nat) (W W' : World) : Prop := W'.heap[cb]? = W.heap[cb]? ∧ W'.heap[nb]? = W.heap[nb]? ∧ W'.heap[m]? = W.heap[m]? ∧ W.heap.size ≤ W'.heap.size
theorem KpH.trans {cb nb m : Nat} {A B C : World} (h : KpH cb nb m A B) (k : KpH cb nb m B C) : KpH cb nb m A C := ⟨k.1.trans h.1, k.2.1.trans h.2.1, k.2.2.1.trans h.2.2.1, Nat.le_trans h.2.2.2 k.2.2.2⟩
theorem cell_of_block {W W' : World} {b j : Nat} (h : W'.heap[b]? = W.heap[b]?) : W'.cell? ⟨b, j, none⟩ = W.cell? ⟨b, j, none⟩ := by
  unfold World.cell?
  simp only [h]
abbrev heldV : Value := .agg #[.int .i64 7, .int .i64 1, .int .i64 8, .int .i64 3, .int .i64 7, .int .u64 0, .int .i64 0, .int .i64 0, .int .i64 0, .int .i64 0]
abbrev encH (x : Fin 1) : Array Value := #[heldV]
theorem two_ways {A B C : World → Prop} {e : Ending} {W : World} (h : (e = .returned (.bool true) ∧ A W ∧ B W) ∨ (e = .returned (.bool false) ∧ C W)) : ∃ t, e = .returned (.bool t) ∧ (t = true → A W ∧ B W) ∧ (t = false → C W) := by
  rcases h with ⟨h1, h2⟩ | ⟨h1, h2⟩
  · exact ⟨true, h1, fun _ => h2, fun e => (by cases e)⟩
  · exact ⟨false, h1, fun e => (by cases e), fun _ => h2⟩
set_option maxRecDepth 100000 in
set_option maxHeartbeats 1000000 in
theorem held1_seq (q cb nb m : Nat) (w0 : World) (hm : w0.heap[m]? = some (.cells (caps2 8 3 7) 34 (0, 0))) (hc : w0.cell? ⟨cb, 0, none⟩ = some (sl2 m)) (hn : w0.cell? ⟨nb, 0, none⟩ = some (.int .i64 7)) (lc : cb < w0.heap.size) (ln : nb < w0.heap.size) :
    SeqStopsK Fence.wide (q + 1) Tryd.prog 40 #[.pointer (some ⟨cb, 0, none⟩), .pointer (some ⟨nb, 0, none⟩)] encH (KpH cb nb m) (fun xs => xs = [0]) (fun pre => True) 1 w0 := by
  intro l J Jx W hB hAb hAx hY h0
  have lm : m < w0.heap.size := (Array.getElem?_eq_some_iff.1 hm).1
  have hK0 : KpH cb nb m w0 W := ⟨hB.block cb lc, hB.block nb ln, hB.block m lm, hB.size⟩
  have HY := Lib.hid hY
  have HAB := Lib.hid hAb
  have HM := Lib.hid hm
  have HC := Lib.hid hc
  have HN := Lib.hid hn
  clear hY hAb hAx hB hm hc hn
  refine callsIn_of_wp Tryd.func40 rfl trivial ?_ rfl
  simp only [Tryd.ntmps40, List.size_toArray, List.length_cons, List.length_nil, Nat.reduceAdd, Nat.reduceSub, Array.replicate_succ, Array.replicate_zero, List.push_toArray, List.append_toArray, List.nil_append, List.cons_append]
  have hbc : W.cell? ⟨cb, 0, none⟩ = some (sl2 m) := (cell_of_block hK0.1).trans HC.out
  gi_wp2
  clear hbc
  gi_loopw [4, 5, 8] (fun i c x wr => ∃ k : Nat, k ≤ 2 ∧ x = .int .i64 k ∧ (k ≤ 1 → J [] wr) ∧ (k = 2 → J [0] wr) ∧ KpH cb nb m w0 wr) (fun i c x _ => 2 - (intOf x).toNat)
  case atStart => exact ⟨0, by omega, rfl, fun _ => h0, fun e => (by cases e), hK0⟩
  case round =>
    obtain ⟨k, hk, rfl, hJ0, hJ2, hK⟩ := hrel
    have hmr := hK.2.2.1.trans HM.out
    have HK := Lib.hid hK
    have lmr : m < wr.heap.size := (Array.getElem?_eq_some_iff.1 hmr).1
    have lcr : cb < wr.heap.size := Nat.lt_of_lt_of_le lc hK.2.2.2
    have lnr : nb < wr.heap.size := Nat.lt_of_lt_of_le ln hK.2.2.2
    have bn : wr.cell? ⟨nb, 0, none⟩ = some (.int .i64 7) := (cell_of_block hK.2.1).trans HN.out
    have hka : ∀ o, KpH cb nb m wr (wr.alloc o) := fun o => ⟨Below.heap_alloc _ _ _ lcr, Below.heap_alloc _ _ _ lnr, Below.heap_alloc _ _ _ lmr, by simp⟩
    have HKA := Lib.hid hka
    have hja : ∀ o s, J s wr → J s (wr.alloc o) := fun o s h => HAB.out s wr _ none h (World.grownBy_alloc wr o none) (fun r e => by cases e)
    have HJA := Lib.hid hja
    clear hK hka hja
    rcases (by omega : k = 0 ∨ k = 1 ∨ k = 2) with rfl | rfl | rfl
    · have HJ := Lib.hid (hJ0 (by omega))
      clear hJ0 hJ2
      have z0 : wr.cell? ⟨m, 0, none⟩ = some (.int .i64 0) := cell_of_row _ _ 0 _ _ _ hmr
      have z1 : wr.cell? ⟨m, 1, none⟩ = some (.int .i64 0) := cell_of_row _ _ 1 _ _ _ hmr
      have z2 : wr.cell? ⟨m, 2, none⟩ = some (.int .i64 0) := cell_of_row _ _ 2 _ _ _ hmr
      have z3 : wr.cell? ⟨m, 3, none⟩ = some (.int .u64 0) := cell_of_row _ _ 3 _ _ _ hmr
      have z4 : wr.cell? ⟨m, 4, none⟩ = some (.int .i64 0) := cell_of_row _ _ 4 _ _ _ hmr
      have z5 : wr.cell? ⟨m, 5, none⟩ = some (.int .i64 0) := cell_of_row _ _ 5 _ _ _ hmr
      have z6 : wr.cell? ⟨m, 6, none⟩ = some (.int .i64 0) := cell_of_row _ _ 6 _ _ _ hmr
      have z7 : wr.cell? ⟨m, 7, none⟩ = some (.int .i64 0) := cell_of_row _ _ 7 _ _ _ hmr
      clear hmr
      gi_wp2
      refine ⟨fun _ h => (by cases h), ?_⟩
      gi_wp2
      go_roundw
      case rel => exact ⟨1, by omega, by go_num, fun _ => HJA.out _ _ HJ.out, fun e => (by cases e), HK.out.trans (HKA.out _)⟩
      case measure => simp [intOf]
    · have HJ := Lib.hid (hJ0 (by omega))
      clear hJ0 hJ2
      have z0 : wr.cell? ⟨m, 8, none⟩ = some (.int .i64 8) := cell_of_row _ _ 8 _ _ _ hmr
      have z1 : wr.cell? ⟨m, 9, none⟩ = some (.int .i64 3) := cell_of_row _ _ 9 _ _ _ hmr
      have z2 : wr.cell? ⟨m, 10, none⟩ = some (.int .i64 7) := cell_of_row _ _ 10 _ _ _ hmr
      have z3 : wr.cell? ⟨m, 11, none⟩ = some (.int .u64 0) := cell_of_row _ _ 11 _ _ _ hmr
      have z4 : wr.cell? ⟨m, 12, none⟩ = some (.int .i64 0) := cell_of_row _ _ 12 _ _ _ hmr
      have z5 : wr.cell? ⟨m, 13, none⟩ = some (.int .i64 0) := cell_of_row _ _ 13 _ _ _ hmr
      have z6 : wr.cell? ⟨m, 14, none⟩ = some (.int .i64 0) := cell_of_row _ _ 14 _ _ _ hmr
      have z7 : wr.cell? ⟨m, 15, none⟩ = some (.int .i64 0) := cell_of_row _ _ 15 _ _ _ hmr
      clear hmr
      obtain ⟨fn, tmps, assign, body, hy, hR⟩ := HY.out _ (0 : Fin 1) (wr.alloc (.cells #[.int .i64 8, .int .i64 3, .int .i64 7, .int .u64 0, .int .i64 0, .int .i64 0, .int .i64 0, .int .i64 0] 34)) (HJA.out _ _ HJ.out) (by simp)
      (try dsimp only at hy)
      have HR := Lib.hid hR
      clear hR
      gi_wp2
      refine (HR.out.mono fun e W' h => two_ways h).mono ?_
      rintro e W' ⟨t, rfl, ht⟩
      cases t
      · have hJx := ht.2 rfl
        gi_wp2
        first
          | refine bodyPost_ret (results_none rfl _ _ _) rfl ?_
          | go_end0
        exact ⟨⟨_, rfl⟩, .inr ⟨_, trivial, hJx⟩⟩
      · obtain ⟨hJ', hK'⟩ := ht.1 rfl
        gi_wp2
        go_roundw
        case rel => exact ⟨2, by omega, by go_num, fun e => (by omega), fun _ => hJ', (HK.out.trans (HKA.out _)).trans hK'⟩
        case measure => simp [intOf]
    · have HJ := Lib.hid (hJ2 rfl)
      clear hJ0 hJ2 hmr
      gi_wp2
      go_end0
      exact ⟨⟨_, rfl⟩, .inl ⟨_, rfl, HJ.out⟩⟩
theorem held_in (n : Nat) (m : Nat) (w : World) :
    CallsIn Fence.wide n Tryd.prog 28 #[.int .i64 7, sl2 m] w fun e w' => e = .returned (.func (.func 40) #[] #[.pointer (some ⟨w.heap.size + 1, 0, none⟩), .pointer (some ⟨w.heap.size, 0, none⟩)]) ∧ w' = (w.alloc (.cells #[.int .i64 7] 3)).alloc (.cells #[sl2 m] 65) := by
  refine callsIn_of_wp Tryd.func28 rfl trivial ?_ rfl
  simp only [Tryd.ntmps28, List.size_toArray, List.length_cons, List.length_nil, Nat.reduceAdd, Nat.reduceSub, Array.replicate_succ, Array.replicate_zero, List.push_toArray, List.append_toArray, List.nil_append, List.cons_append]
  gi_wp2
  go_ret
  exact ⟨rfl, rfl⟩
end SX
end
/- The slots of nodes: Drop of a node that holds something. -/
section
namespace SX
set_option linter.unusedVariables false
set_option linter.unusedSimpArgs false
open Go.ChangeShapes Go.WideShapes Go.ChangeAt Go.RowKit Go.Shelf
attribute [local go_sem] Oper.semAt_some

/-- Where Drop's own result lies, ahead of the first that is held. -/
structure DrAt (w : World) (N : Nat) (pre : List (Fin 1)) (W : World) : Prop where
  no : pre = []
  r0 : W.cell? ⟨w.heap.size, 0, none⟩ = some (.int .i64 0) ∧ W.frozen? ⟨w.heap.size, 0, none⟩ = false
  rlt : w.heap.size < N
  lt : N ≤ W.heap.size
  below : Below w.heap.size w W
structure DrIx (w : World) (N : Nat) (c : Code) (pre : List (Fin 1)) (W : World) : Prop where
  c : c = .ret
  r0 : W.cell? ⟨w.heap.size, 0, none⟩ = some (.int .i64 16)
  rlt : w.heap.size < N
  lt : N ≤ W.heap.size
  below : Below w.heap.size w W
theorem frozen_of_block {W W' : World} {b j : Nat} (h : W'.heap[b]? = W.heap[b]?) : W'.frozen? ⟨b, j, none⟩ = W.frozen? ⟨b, j, none⟩ := by
  unfold World.frozen?
  simp only [h]
theorem DrAt.from {w : World} {N : Nat} : OwnFrom N (DrAt w N) := by
  intro s A B row h hg hr
  have e : ∀ k, k < N → B.heap[k]? = A.heap[k]? := fun k hk => hg.block k (Nat.lt_of_lt_of_le hk h.lt) (fun e => by have := (hr k e.symm).1; omega)
  have sz := hg.size
  exact ⟨h.no, ⟨(cell_of_block (e _ h.rlt)).trans h.r0.1, (frozen_of_block (e _ h.rlt)).trans h.r0.2⟩, h.rlt, Nat.le_trans h.lt sz,
    ⟨hg.os.trans h.below.os, hg.tape.trans h.below.tape, hg.output.trans h.below.output, Nat.le_trans h.below.size sz, fun k hk => (e k (by have := h.rlt; omega)).trans (h.below.block k hk)⟩⟩
theorem DrIx.from {w : World} {N : Nat} (c : Code) : OwnFrom N (DrIx w N c) := by
  intro s A B row h hg hr
  have e : ∀ k, k < N → B.heap[k]? = A.heap[k]? := fun k hk => hg.block k (Nat.lt_of_lt_of_le hk h.lt) (fun e => by have := (hr k e.symm).1; omega)
  have sz := hg.size
  exact ⟨h.c, (cell_of_block (e _ h.rlt)).trans h.r0, h.rlt, Nat.le_trans h.lt sz,
    ⟨hg.os.trans h.below.os, hg.tape.trans h.below.tape, hg.output.trans h.below.output, Nat.le_trans h.below.size sz, fun k hk => (e k (by have := h.rlt; omega)).trans (h.below.block k hk)⟩⟩
theorem heap_putObj_ne {W : World} {l k : Nat} {o : Obj} (h : k ≠ l) : (W.putObj l o).heap[k]? = W.heap[k]? := by
  simp [World.putObj, Array.getElem?_setIfInBounds, Ne.symm h]
set_option maxRecDepth 100000 in
set_option maxHeartbeats 1000000 in
theorem drop_in (w : World) (b m : Nat) (h : SlAt w b m 8 3 7) :
    CallsIn Fence.wide 3 Tryd.prog 11 #[.pointer (some ⟨b, 0, none⟩), .int .i64 7] w fun e W' => e = .returned (.int .i64 16) ∧ Below w.heap.size w W' := by
  have H := Lib.hid h
  clear h
  refine callsIn_of_wp_marks Tryd.func11 rfl trivial ?_ rfl
  simp only [Tryd.ntmps11, List.size_toArray, List.length_cons, List.length_nil, Nat.reduceAdd, Nat.reduceSub, Array.replicate_succ, Array.replicate_zero, List.push_toArray, List.append_toArray, List.nil_append, List.cons_append]
  obtain ⟨w1, hw1⟩ : ∃ x, x = w.alloc (.cells #[.int .i64 0] 38) := ⟨_, rfl⟩
  have B1 : Below w.heap.size w w1 := hw1 ▸ bal (Below.refl _ _) _
  have H1 := H.out.call B1
  obtain ⟨g, c, h1, h2, h3, h4, h5, h6⟩ := H1
  have HG := Lib.hid (callsIn_wide (n := 2).2 (get_one w1 b m g c h5 h1 h2))
  have HR := Lib.hid h2
  have HM := Lib.hid h6
  clear h1 h2 h6
  gi_wp2_with (first
    | (refine ⟨trivial, ?_⟩; gi_at_call 27; rw [← hw1]; refine HG.out.mono ?_; rintro e w2 ⟨rfl, hb2⟩; have y2 := (HR.out.go hb2).2.1)
    | (refine ⟨trivial, ?_⟩; gi_at_call 28; refine (held_in _ m _).mono ?_; rintro e w' ⟨rfl, rfl⟩))
  have B2 : Below w.heap.size w w2 := bgo B1 hb2
  have hs1 : w.heap.size < w1.heap.size := by rw [hw1]; simp
  have hs2 := hb2.size
  have r1 : w1.cell? ⟨w.heap.size, 0, none⟩ = some (.int .i64 0) := by rw [hw1]; simp [go_sem]
  have r1f : w1.frozen? ⟨w.heap.size, 0, none⟩ = false := by rw [hw1]; unfold World.frozen?; rw [World.alloc_heap_new]; rfl
  have r2 := (hb2.cell (p := ⟨w.heap.size, 0, none⟩) hs1).trans r1
  have r2f := (hb2.frozen (p := ⟨w.heap.size, 0, none⟩) hs1).trans r1f
  have hml : m < w1.heap.size := (Array.getElem?_eq_some_iff.1 HM.out).1
  have hm2 := (hb2.block m hml).trans HM.out
  obtain ⟨w3, hw3⟩ : ∃ x, x = (w2.alloc (.cells #[.int .i64 7] 3)).alloc (.cells #[sl2 m] 65) := ⟨_, rfl⟩
  rw [← hw3]
  have B3 : Below w2.heap.size w2 w3 := hw3 ▸ bal (bal (Below.refl _ _) _) _
  have hsz : w3.heap.size = w2.heap.size + 2 := by rw [hw3]; simp
  have c7 : w3.cell? ⟨w2.heap.size, 0, none⟩ = some (.int .i64 7) := by rw [hw3]; go_simp
  have cs : w3.cell? ⟨w2.heap.size + 1, 0, none⟩ = some (sl2 m) := by rw [hw3]; go_simp
  have hm3 := (B3.block m (by omega)).trans hm2
  have inv : DrAt w w3.heap.size [] w3 := ⟨rfl, ⟨(B3.cell (p := ⟨w.heap.size, 0, none⟩) (by simp only; omega)).trans r2, (B3.frozen (p := ⟨w.heap.size, 0, none⟩) (by simp only; omega)).trans r2f⟩, by omega, Nat.le_refl _, bgo B2 B3⟩
  clear hw3 hw1 HG
  refine wpIn_rangeFunc_ownF (α := Fin 1) rfl (by decide) (gf := 40) (lb := #[.pointer (some ⟨w2.heap.size + 1, 0, none⟩), .pointer (some ⟨w2.heap.size, 0, none⟩)]) rfl trivial (enters_of Tryd.func40 (by kernel_rfl) rfl)
    (encs := encH) (Kp := KpH (w2.heap.size + 1) w2.heap.size m) (S := fun xs => xs = [0]) (Sp := fun pre => True) (N := 1) (w0 := w3) (held1_seq 1 (w2.heap.size + 1) w2.heap.size m w3 hm3 cs c7 (by omega) (by omega))
    (fun h k => h.trans k) ?hKb (Below.refl _ _) (fun _ => rfl) (DrAt w w3.heap.size) (DrIx w w3.heap.size) DrAt.from (fun c => DrIx.from c) inv
    (fun x => { tmps := #[.pointer (some ⟨b, 0, none⟩), .int .i64 7, undef, undef, .pointer (some ⟨w.heap.size, 0, none⟩), .pointer (some ⟨g, 1, none⟩), .bool true, .pointer (some ⟨b, 0, none⟩), .bool false, .tuple #[.pointer (some ⟨g, 1, none⟩), .bool true], .pointer (some ⟨b, 0, none⟩), .pointer (some ⟨b, 0, none⟩), .pointer (some ⟨b, 0, none⟩), .int .i64 7, .tuple #[.pointer (some ⟨g, 1, none⟩), .bool true], .pointer (some ⟨g, 1, none⟩), .bool true, .bool true, .bool false, .int .i64 7, .pointer (some ⟨g, 1, none⟩), .pointer (some ⟨g, 1, none⟩), sl2 m, .func (.func 40) #[] #[.pointer (some ⟨w2.heap.size + 1, 0, none⟩), .pointer (some ⟨w2.heap.size, 0, none⟩)], heldV, undef, undef, undef, undef, undef], defers := [] }) ?hassign ?hbody ?hdone ?hstop
  case hKb =>
    intro W l o o' hl ho _ _
    exact ⟨heap_putObj_ne (by omega), heap_putObj_ne (by omega), heap_putObj_ne (by omega), by simp⟩
  case hassign =>
    intro l x W K hK
    gi_wp2
    refine cast (congrArg (fun a => K a W) ?_) hK
    simp [encH]
  case hbody =>
    rintro l pre x W hI hlen
    obtain ⟨d0, f0⟩ := hI.r0
    have hlt := hI.lt
    have hrl := hI.rlt
    have hBw := hI.below
    clear hI
    gi_wp2
    refine ⟨KeepsOthers.setCell _ _ _, rfl, ?_, hrl, by simpa using hlt, hBw.setCell (Nat.le_refl _) _⟩
    go_simp
  case hdone =>
    rintro D xs W hD rfl hI hK
    have := hI.no
    cases this
  case hstop =>
    rintro D c pre W hD - ⟨rfl, h4, hrl, hlt, hBw⟩ hK
    gi_wp2
    refine ⟨by simp, .inl ⟨_, _, rfl, run_takeDeferred hK, ?_⟩⟩
    have g0 : ∀ o : Obj, (W.putObj D o).cell? ⟨w.heap.size, 0, none⟩ = some (.int .i64 16) := fun o => (cell_of_block (heap_putObj_ne (by omega))).trans h4
    exact ⟨.int .i64 16, by simp [results, Tryd.results11, go_sem, g0], rfl, hBw.trans (belowK_b (w := w) (Nat.le_refl _) W D _ _ (by omega) hK rfl rfl)⟩
end SX
end
/- The slots of nodes: of no slots, and New. -/
section
namespace SX
set_option linter.unusedVariables false
set_option linter.unusedSimpArgs false
open Go.ChangeShapes Go.WideShapes Go.ChangeAt Go.RowKit Go.Shelf
attribute [local go_sem] Oper.semAt_some

theorem drop_one (w : World) (b m : Nat) (h : SlAt w b m 8 3 7) :
    Calls Tryd.prog 11 #[.pointer (some ⟨b, 0, none⟩), .int .i64 7] w fun e W' => e = .returned (.int .i64 16) ∧ Below w.heap.size w W' := callsIn_wide.1 (drop_in w b m h)
theorem snew_any (W : World) : Calls Tryd.prog 7 #[] W fun e w' => e = .returned (.pointer (some ⟨W.heap.size, 0, none⟩)) ∧ w' = W.alloc (.cells #[.slice none 0 0] 63) := by
  go_enter Tryd.func7, Tryd.ntmps7
  go_wp2
  go_ret
  exact ⟨rfl, rfl⟩
theorem at_nil (w : World) (n i : Int) : Calls Tryd.prog 30 #[.pointer none, .agg #[.int .i64 n, .int .i64 i]] w fun e w' => e = .returned (.tuple #[.pointer none, .int .i64 1]) ∧ Below w.heap.size w w' := by
  go_enter Tryd.func30, Tryd.ntmps30
  go_wp2
  go_ret2
  exact ⟨rfl, bal (Below.refl _ _) _⟩
theorem sadd_nil (w : World) (n k : Int) : Calls Tryd.prog 9 #[.pointer none, .int .i64 n, .int .i64 k] w fun e w' => e = .returned (.int .i64 1) ∧ w = w' := by
  go_enter Tryd.func9, Tryd.ntmps9
  go_wp2
  go_ret
  exact ⟨rfl, rfl⟩
theorem ssize_nil (w : World) (n : Int) : Calls Tryd.prog 17 #[.pointer none, .int .i64 n] w fun e w' => e = .returned (.int .i64 0) ∧ w = w' := by
  go_enter Tryd.func17, Tryd.ntmps17
  go_wp2
  go_ret
  exact ⟨rfl, rfl⟩
theorem sdrop_nil (w : World) (n : Int) : Calls Tryd.prog 11 #[.pointer none, .int .i64 n] w fun e w' => e = .returned (.int .i64 1) ∧ Below w.heap.size w w' := by
  go_enter Tryd.func11, Tryd.ntmps11
  go_wp2
  exact bodyPost_ret (v := .int .i64 1) (by simp [results, Tryd.results11, go_sem]) rfl ⟨rfl, bal (Below.refl _ _) _⟩
set_option maxHeartbeats 1000000 in
theorem sset_nil (w : World) (n i : Int) (ts : Array Value) : Calls Tryd.prog 15 #[.pointer none, .agg #[.int .i64 n, .int .i64 i], .agg ts] w fun e w' => e = .returned (.int .i64 1) ∧ Below w.heap.size w w' := by
  go_enter Tryd.func15, Tryd.ntmps15
  go_wp2_with (first
    | (go_at_call 30; refine (at_nil _ n i).mono ?_; rintro e w1 ⟨rfl, hb1⟩))
  go_ret
  exact ⟨rfl, bgo (bal (bal (Below.refl _ _) _) _) hb1⟩
set_option maxRecDepth 100000 in
set_option maxHeartbeats 1000000 in
theorem sget_nil (w : World) (n i : Int) : Calls Tryd.prog 13 #[.pointer none, .agg #[.int .i64 n, .int .i64 i]] w fun e w' => e = .returned (.tuple #[capE 0 0 0, .int .i64 1]) ∧ Below w.heap.size w w' := by
  go_enter Tryd.func13, Tryd.ntmps13
  go_wp2_with (first
    | (go_at_call 30; refine (at_nil _ n i).mono ?_; rintro e w1 ⟨rfl, hb1⟩; obtain ⟨hc1, hf1⟩ := bcell hb1; have hz1 := hb1.size; have hz2 : w.heap.size + 1 < w1.heap.size := (by simp at hz1; omega)))
  exact bodyPost_ret (v := .tuple #[capE 0 0 0, .int .i64 1]) (by simp [results, Tryd.results13, go_sem, hc1, hf1, hz2]) rfl ⟨rfl, bs' (bs' (bs' (bs' (bs' (bs' (bs' (bs' (bgo (bal (bal (Below.refl _ _) _) _) hb1) _ _ _) _ _ _) _ _ _) _ _ _) _ _ _) _ _ _) _ _ _) _ _ _⟩
theorem each_in (n : Nat) (p : Option Addr) (w : World) :
    CallsIn Fence.wide n Tryd.prog 33 #[.pointer p] w fun e w' => e = .returned (.func (.func 44) #[] #[.pointer (some ⟨w.heap.size, 0, none⟩)]) ∧ w' = w.alloc (.cells #[.pointer p] 24) := by
  refine callsIn_of_wp Tryd.func33 rfl trivial ?_ rfl
  simp only [Tryd.ntmps33, List.size_toArray, List.length_cons, List.length_nil, Nat.reduceAdd, Nat.reduceSub, Array.replicate_succ, Array.replicate_zero, List.push_toArray, List.append_toArray, List.nil_append, List.cons_append]
  gi_wp2
  go_ret
  exact ⟨rfl, rfl⟩
section
variable {P : Program} {F : Fence} {n : Nat}
/-- As wpIn_range_none, where the iterator lays one block. -/
theorem wpIn_range_none1 {g : Operand} {ps : Array Tmp} {assign body : Code} {Q : Exit → Act → World → Prop} {a : Act} {w : World}
    (hro : F.round = none) (h1 : 1 ≤ n) {gf : Nat} {lb : Array Value} (hg : a.eval g = .func (.func gf) #[] lb) (hFg : F.fn gf) (eg : ∀ args w, (callFunc gf args).run P w = .ok (.enter gf args) w)
    (hcall : ∀ (l : Nat) (W : World), Below w.heap.size w W → CallsIn F (n - 1) P gf (#[.func (.yield l) #[] #[]] ++ lb) W fun e W' => (∃ v, e = .returned v) ∧ ∃ o, W' = W.alloc o)
    (hdone : ∀ (D : Nat) (W : World), w.heap.size ≤ D → Below w.heap.size w W → W.heap[D]? = some (.deferred (some [])) → Q .normal { a with defers := { target := .collected D, args := #[] } :: a.defers } W) :
    (Code.rangeFunc g ps assign body).wpIn F n P Q a w :=
  wpIn_rangeFunc_ownF (α := Empty) hro h1 hg hFg eg (encs := fun x => x.elim) (Kp := fun _ _ => True) (S := fun _ => True) (Sp := fun _ => False) (N := 0) (w0 := w)
    (fun l J Jx W hW hJ hJx hY h0 => (hcall l W hW).mono fun e W' ⟨hv, o, hw⟩ => ⟨hv, .inl ⟨[], trivial, hw ▸ hJ _ _ _ none h0 (World.grownBy_alloc W o none) (fun r e => by cases e)⟩⟩)
    (fun _ _ => trivial) (fun _ _ _ _ _ _ _ _ => trivial) (Below.refl _ _) (fun x => x.elim)
    (fun _ W => Below w.heap.size w W) (fun _ _ _ => False) (ownFrom_below (Nat.le_refl _) (Nat.le_refl _)) (fun _ => fun _ _ _ _ h _ _ => h) (Below.refl _ _) (fun x => x.elim)
    (fun l x => x.elim) (fun l pre x => x.elim)
    (fun D xs W hD _ hB hK => hdone D W hD hB hK) (fun D c pre W _ h => h.elim)
end
theorem each1_nil (n : Nat) (l Bn : Nat) (w : World) (hc : w.cell? ⟨Bn, 0, none⟩ = some (.pointer none)) :
    CallsIn Fence.wide n Tryd.prog 44 (#[.func (.yield l) #[] #[]] ++ #[.pointer (some ⟨Bn, 0, none⟩)]) w fun e w' => (∃ v, e = .returned v) ∧ ∃ o, w' = w.alloc o := by
  refine callsIn_of_wp_marks Tryd.func44 rfl trivial ?_ rfl
  simp only [Tryd.ntmps44, List.size_toArray, List.length_cons, List.length_nil, Nat.reduceAdd, Nat.reduceSub, Array.replicate_succ, Array.replicate_zero, List.push_toArray, List.append_toArray, List.nil_append, List.cons_append]
  have hlt : Bn < w.heap.size := by
    rcases Nat.lt_or_ge Bn w.heap.size with h | h
    · exact h
    · simp [World.cell?, Array.getElem?_eq_none h] at hc
  gi_wp2
  exact ⟨.tuple #[], by simp [results, Tryd.results44, go_sem], ⟨_, rfl⟩, ⟨_, rfl⟩⟩
set_option maxRecDepth 100000 in
set_option maxHeartbeats 1000000 in
theorem used_nil (w : World) :
    CallsIn Fence.wide 3 Tryd.prog 19 #[.pointer none] w fun e W' => e = .returned (.slice none 0 0) ∧ Below w.heap.size w W' := by
  refine callsIn_of_wp_marks Tryd.func19 rfl trivial ?_ rfl
  simp only [Tryd.ntmps19, List.size_toArray, List.length_cons, List.length_nil, Nat.reduceAdd, Nat.reduceSub, Array.replicate_succ, Array.replicate_zero, List.push_toArray, List.append_toArray, List.nil_append, List.cons_append]
  gi_wp2_with (refine ⟨trivial, ?_⟩; gi_at_call 33; refine (each_in _ _ _).mono ?_; rintro e w' ⟨rfl, rfl⟩)
  refine wpIn_range_none1 rfl (by decide) (gf := 44) (lb := #[.pointer (some ⟨w.heap.size + 1, 0, none⟩)]) rfl trivial (enters_of Tryd.func44 (by kernel_rfl) rfl) ?hcall ?hdone
  case hcall =>
    intro l W hW
    refine each1_nil _ l _ W ?_
    rw [hW.cell (p := ⟨w.heap.size + 1, 0, none⟩) (by first | (simp; done) | (simp; omega))]
    go_simp
  case hdone =>
    rintro D W hD hB hK
    simp only [World.size_alloc] at hD
    have d0 : W.cell? ⟨w.heap.size, 0, none⟩ = some (.slice none 0 0) := (hB.cell (p := ⟨w.heap.size, 0, none⟩) (by first | (simp; done) | (simp; omega))).trans (by go_simp)
    have BI : Below w.heap.size w W := (bal (bal (Below.refl _ _) _) _).trans (hB.mono (by simp; omega))
    clear hB
    gi_wp2
    refine ⟨by simp, .inl ⟨_, _, rfl, run_takeDeferred hK, ?_⟩⟩
    exact ⟨.slice none 0 0, by simp [results, Tryd.results19, go_sem], rfl, BI.trans (belowK_b (w := w) (Nat.le_refl _) W D _ _ (by omega) hK rfl rfl)⟩
theorem used_any (w : World) : Calls Tryd.prog 19 #[.pointer none] w fun e W' => e = .returned (.slice none 0 0) ∧ Below w.heap.size w W' := callsIn_wide.1 (used_nil w)
end SX
end
/- The slots of nodes: what every program answers that is one; the law SlotsNone. -/
section
namespace SX
set_option linter.unusedVariables false
set_option linter.unusedSimpArgs false
open Go.ChangeShapes Go.WideShapes Go.ChangeAt Go.RowKit Go.Shelf

theorem eqC : ∀ w, (binOp .eql 34 (capE 8 3 7) (capE 8 3 7)).run Tryd.prog w = .ok (.bool true) w := fun _ => by kernel_rfl
theorem eqCz : ∀ w, (binOp .eql 34 (capE 0 0 0) (capE 0 0 0)).run Tryd.prog w = .ok (.bool true) w := fun _ => by kernel_rfl
theorem bs0 {w W : World} (h : Below w.heap.size w W) (j : Nat) (v : Value) : Below w.heap.size w (W.setCell ⟨w.heap.size, j, none⟩ v) := h.setCell (p := ⟨w.heap.size, j, none⟩) (Nat.le_refl _) v
set_option maxRecDepth 100000 in
set_option maxHeartbeats 1000000 in
theorem awake15 (W : World) : Calls Tryd.prog 6 #[] W fun e w' => e = .returned (.bool true) ∧ Below W.heap.size W w' := by
  have hq := eqC
  go_enter Tryd.func6, Tryd.ntmps6
  go_wp2_with (first
    | (go_at_call 7; refine (snew_any _).mono ?_; rintro e w1 ⟨rfl, rfl⟩)
    | (go_at_call 9; refine (sadd_first _ W.heap.size (by first | (simp; done) | (simp; omega)) (by go_simp) (by go_simp)).mono ?_; rintro e w1 ⟨rfl, ha1, hb1, hk1⟩; have c0 : w1.cell? ⟨W.heap.size + 1, 0, none⟩ = some (.int .i64 8) := (World.cell?_of_block (hk1 (W.heap.size + 1) (by first | (simp; done) | (simp; omega)) (by omega))).trans (by go_simp); have c1 : w1.cell? ⟨W.heap.size + 1, 1, none⟩ = some (.int .i64 3) := (World.cell?_of_block (hk1 (W.heap.size + 1) (by first | (simp; done) | (simp; omega)) (by omega))).trans (by go_simp); have c2 : w1.cell? ⟨W.heap.size + 1, 2, none⟩ = some (.int .i64 7) := (World.cell?_of_block (hk1 (W.heap.size + 1) (by first | (simp; done) | (simp; omega)) (by omega))).trans (by go_simp); have c3 : w1.cell? ⟨W.heap.size + 1, 3, none⟩ = some (.int .u64 0) := (World.cell?_of_block (hk1 (W.heap.size + 1) (by first | (simp; done) | (simp; omega)) (by omega))).trans (by go_simp); have c4 : w1.cell? ⟨W.heap.size + 1, 4, none⟩ = some (.int .i64 0) := (World.cell?_of_block (hk1 (W.heap.size + 1) (by first | (simp; done) | (simp; omega)) (by omega))).trans (by go_simp); have c5 : w1.cell? ⟨W.heap.size + 1, 5, none⟩ = some (.int .i64 0) := (World.cell?_of_block (hk1 (W.heap.size + 1) (by first | (simp; done) | (simp; omega)) (by omega))).trans (by go_simp); have c6 : w1.cell? ⟨W.heap.size + 1, 6, none⟩ = some (.int .i64 0) := (World.cell?_of_block (hk1 (W.heap.size + 1) (by first | (simp; done) | (simp; omega)) (by omega))).trans (by go_simp); have c7 : w1.cell? ⟨W.heap.size + 1, 7, none⟩ = some (.int .i64 0) := (World.cell?_of_block (hk1 (W.heap.size + 1) (by first | (simp; done) | (simp; omega)) (by omega))).trans (by go_simp); have HB1 := Lib.hid ((bal (bal (Below.refl W.heap.size W) _) _).trans hb1); obtain ⟨m, hm, ha1⟩ : ∃ m, W.heap.size + 2 ≤ m ∧ SlAt w1 W.heap.size m 0 0 0 := ⟨_, (by first | (simp; done) | (simp; omega)), ha1⟩; have HA1 := Lib.hid ha1; have HM := Lib.hid hm; clear ha1 hb1 hk1 hm)
    | (go_at_call 15; refine (set_one _ W.heap.size m (W.heap.size + 2) HM.out HA1.out).mono ?_; rintro e w2 ⟨rfl, ha2, hb2⟩; have d0 := (hb2.cell (p := ⟨W.heap.size + 1, 0, none⟩) (by first | omega | (simp; done) | (simp; omega))).trans c0; have d1 := (hb2.cell (p := ⟨W.heap.size + 1, 1, none⟩) (by first | omega | (simp; done) | (simp; omega))).trans c1; have d2 := (hb2.cell (p := ⟨W.heap.size + 1, 2, none⟩) (by first | omega | (simp; done) | (simp; omega))).trans c2; have d3 := (hb2.cell (p := ⟨W.heap.size + 1, 3, none⟩) (by first | omega | (simp; done) | (simp; omega))).trans c3; have d4 := (hb2.cell (p := ⟨W.heap.size + 1, 4, none⟩) (by first | omega | (simp; done) | (simp; omega))).trans c4; have d5 := (hb2.cell (p := ⟨W.heap.size + 1, 5, none⟩) (by first | omega | (simp; done) | (simp; omega))).trans c5; have d6 := (hb2.cell (p := ⟨W.heap.size + 1, 6, none⟩) (by first | omega | (simp; done) | (simp; omega))).trans c6; have d7 := (hb2.cell (p := ⟨W.heap.size + 1, 7, none⟩) (by first | omega | (simp; done) | (simp; omega))).trans c7; have hz2 : W.heap.size + 1 < w2.heap.size := (by have h8 := hb2.size; have h9 := HA1.out.mlt; have h7 := HM.out; omega); have HA2 := Lib.hid ha2; have HB2 := Lib.hid hb2; clear ha2 hb2)
    | (go_at_call 13; refine (get_slot _ W.heap.size m HA2.out).mono ?_; rintro e w3 ⟨rfl, hb3⟩; have e0 := (hb3.cell (p := ⟨W.heap.size + 1, 0, none⟩) hz2).trans d0; have e1 := (hb3.cell (p := ⟨W.heap.size + 1, 1, none⟩) hz2).trans d1; have e2 := (hb3.cell (p := ⟨W.heap.size + 1, 2, none⟩) hz2).trans d2; have e3 := (hb3.cell (p := ⟨W.heap.size + 1, 3, none⟩) hz2).trans d3; have e4 := (hb3.cell (p := ⟨W.heap.size + 1, 4, none⟩) hz2).trans d4; have e5 := (hb3.cell (p := ⟨W.heap.size + 1, 5, none⟩) hz2).trans d5; have e6 := (hb3.cell (p := ⟨W.heap.size + 1, 6, none⟩) hz2).trans d6; have e7 := (hb3.cell (p := ⟨W.heap.size + 1, 7, none⟩) hz2).trans d7; have hz3 : W.heap.size + 1 < w3.heap.size := (Nat.lt_of_lt_of_le hz2 hb3.size); have HA3 := Lib.hid (HA2.out.call hb3); have HB3 := Lib.hid hb3; clear hb3)
    | (go_at_call 11; refine (drop_one _ W.heap.size m (HA3.out.call (bal (Below.refl _ _) _))).mono ?_; rintro e w4 ⟨rfl, hb4⟩; have HA4 := Lib.hid (HA3.out.call (bgo (bal (Below.refl _ _) _) hb4)); have HB4 := Lib.hid (bgo (bal (Below.refl w3.heap.size w3) _) hb4); clear hb4)
    | (go_at_call 17; refine (size_one _ W.heap.size m 8 3 7 HA4.out).mono ?_; rintro e w5 ⟨rfl, hb5⟩))
  go_ret
  exact ⟨by simp, bgo (bgo (bgo (HB1.out.trans (HB2.out.mono (by omega))) HB3.out) HB4.out) hb5⟩
end SX
end
end Go.Proofs.YtplanbihejodoaaDoor
