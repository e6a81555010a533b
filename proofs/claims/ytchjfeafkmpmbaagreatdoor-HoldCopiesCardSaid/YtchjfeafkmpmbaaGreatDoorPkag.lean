import Derived.Test.YtchjfeafkmpmbaaGreatDoorPkaf
import Derived.RangeFuncNested
import Derived.LoopIn
import Derived.Stop.RegionWithIn
import Derived.Deep.Slices
import Derived.OpenShut
import Derived.DataReads
namespace Go.Proofs.YtchjfeafkmpmbaaGreatDoor
set_option linter.unusedVariables false
set_option linter.unusedSimpArgs false
set_option maxRecDepth 100000
set_option maxHeartbeats 8000000
open Lib (hid)
section
open Go.RowKit Go.Shelf
variable {P : Program} {F : Fence} {n : Nat}
theorem wpIn_range_pa {g : Operand} {ps : Array Tmp} {assign body : Code} {Q : Exit → Act → World → Prop} {a : Act} {w : World}
  (hro : F.round = none) (h1 : 1 ≤ n) {gf : Nat} {lb : Array Value} (hg : a.eval g = .func (.func gf) #[] lb) (hFg : F.fn gf) (eg : ∀ args w, (callFunc gf args).run P w = .ok (.enter gf args) w)
  {encs : Nat → Array Value} {N : Nat} (E : TypeId) (I : Nat → World → Prop) (Ix : Code → Nat → World → Prop) (hseq : SeqPx E F (n - 1) P gf lb encs I N w.heap.size) (hps : ∀ x, (encs x).size = ps.size)
  (hI : OwnFrom w.heap.size I) (hIx : ∀ c, OwnFrom w.heap.size (Ix c)) (h0 : I 0 w) (ob : Nat → Obj) (hob : ∀ x, (ob x).isCells = true) (a₁ : Nat → Nat → Act)
  (hassign : ∀ (l : Nat) (x : Nat) (W : World) (K : Act → World → Prop), K (a₁ x W.heap.size) (W.alloc (ob x)) →
   assign.wpIn (F.inRound l) (n - 1 - 1) P (Exit.then K (fun _ _ _ => False)) { tmps := (ps.zip (encs x)).foldl (fun t (p, v) => t.setIfInBounds p v) a.tmps, defers := [] } W)
  (hbody : ∀ (l k s : Nat) (W : World), k < N → I k W → w.heap.size ≤ s → W.heap[s]? = some (ob k) → body.wpIn (F.inRound l) (n - 1 - 1) P (pxPost E I Ix k w.heap.size W) (a₁ k s) W)
  (hdone : ∀ (D : Nat) (W : World), w.heap.size ≤ D → I N W → W.heap[D]? = some (.deferred (some [])) → Q .normal { a with defers := { target := .collected D, args := #[] } :: a.defers } W)
  (hstop : ∀ (D : Nat) (c : Code) (k : Nat) (W : World), w.heap.size ≤ D → k < N → Ix c k W → W.heap[D]? = some (.deferred (some [])) → c.wpIn F n P Q { a with defers := { target := .collected D, args := #[] } :: a.defers } W) :
  (Code.rangeFunc g ps assign body).wpIn F n P Q a w := by
 refine wpIn_rangeFunc ?_
 intro fn hfn
 rw [hro]
 obtain ⟨rc, hrc⟩ : ∃ rc : LoopState → Option Code → Loop, rc = fun st pe => { state := st, pending := pe, fn, tmps := a.tmps, params := ps, assign, body, defers := w.heap.size } := ⟨_, rfl⟩
 have hent := run_enterLoop_outer (P := P) (w := w) fn a.tmps ps assign body
 obtain ⟨W1, hW1⟩ : ∃ W1, W1 = (w.alloc (.deferred (some []))).alloc (.loop (rc .ready none)) := ⟨_, rfl⟩
 have rec1 : W1.heap[w.heap.size + 1]? = some (.loop (rc .ready none)) := by
  have e := World.alloc_heap_new (w.alloc (.deferred (some []))) (.loop (rc .ready none))
  rw [World.size_alloc] at e
  rw [hW1]; exact e
 have def1 : W1.heap[w.heap.size]? = some (.deferred (some [])) := by
  rw [hW1, Below.heap_alloc _ _ _ (by simp)]
  exact World.alloc_heap_new w _
 have inv1 : I 0 W1 := by rw [hW1]; exact hI.alloc _ (hI.alloc _ h0)
 have siz1 : w.heap.size + 2 ≤ W1.heap.size := by rw [hW1]; simp
 refine ⟨w.heap.size + 1, [{ target := .collected w.heap.size, args := #[] }], W1, { target := .fn (.func gf) lb, args := #[.func (.yield (w.heap.size + 1)) #[] #[]] }, W1, gf, #[.func (.yield (w.heap.size + 1)) #[] #[]] ++ lb, W1, ?_, ?_, ?_, ?_, fun _ => h1, ?_⟩
 ·rw [hW1, hrc]; exact hent
 ·simp only [resolve, hg]
  simp [go_sem]
 ·intro f' hf'
  simp [Target.leads] at hf'
  exact hf' ▸ hFg
 ·simp [invoke, go_sem, eg]
 have keep : ∀ {A B : World} {row : Option Nat} {k : Nat} {o : Obj}, A.grownBy B row → (∀ r, row = some r → W1.heap.size ≤ r ∧ ∃ o : Obj, A.heap[r]? = some o ∧ o.isCells = false) → k < w.heap.size + 2 → A.heap[k]? = some o → B.heap[k]? = some o := by
  intro A B row k o hgr hr hk ho
  exact (hgr.block _ (ags ho).1 (fun e => by have := (hr _ e.symm).1; omega)).trans ho
 have hw : ∀ {A : World} {row : Option Nat}, (∀ r, row = some r → W1.heap.size ≤ r ∧ ∃ o : Obj, A.heap[r]? = some o ∧ o.isCells = false) → ∀ r, row = some r → w.heap.size ≤ r ∧ ∃ o : Obj, A.heap[r]? = some o ∧ o.isCells = false := by
  intro A row hr r e
  obtain ⟨hB, ho⟩ := hr r e
  exact ⟨by omega, ho⟩
 refine (hseq (w.heap.size + 1) (fun k W => I k W ∧ W.heap[w.heap.size + 1]? = some (.loop (rc .ready none)) ∧ W.heap[w.heap.size]? = some (.deferred (some [])))
  (fun k W => ∃ c, Ix c k W ∧ W.heap[w.heap.size + 1]? = some (.loop (rc .done (some c))) ∧ W.heap[w.heap.size]? = some (.deferred (some []))) W1 (by omega) ?_ ?_ (fun _ _ h => h.1) ?_ ⟨inv1, rec1, def1⟩).mono ?_
 ·intro s A B row hs hgr hr
  exact ⟨hI s A B row hs.1 hgr (hw hr), keep hgr hr (by omega) hs.2.1, keep hgr hr (by omega) hs.2.2⟩
 ·intro s A B row hs hgr hr
  obtain ⟨c, hc, h2, h3⟩ := hs
  exact ⟨c, hIx c s A B row hc hgr (hw hr), keep hgr hr (by omega) h2, keep hgr hr (by omega) h3⟩
 ·-- a round
  rintro k W hkN ⟨hi, hl, hk⟩
  have hlt : w.heap.size + 1 < W.heap.size := (ags hl).1
  have hy := run_yield (P := P) (args := encs k) hl (by rw [hrc]; exact hps k)
  rw [hrc] at hy
  have hl' : (W.alloc (ob k)).heap[w.heap.size + 1]? = some (.loop (rc .ready none)) := (Below.heap_alloc _ _ _ (by omega)).trans hl
  have hk' : (W.alloc (ob k)).heap[w.heap.size]? = some (.deferred (some [])) := (Below.heap_alloc _ _ _ (by omega)).trans hk
  have hlt' : w.heap.size + 1 < (W.alloc (ob k)).heap.size := (ags hl').1
  obtain ⟨U, hU⟩ : ∃ U, U = (W.alloc (ob k)).putObj (w.heap.size + 1) (.loop { rc .ready none with state := .busy }) := ⟨_, rfl⟩
  have recU : U.heap[w.heap.size + 1]? = some (.loop { rc .ready none with state := .busy }) := by rw [hU]; exact World.putObj_heap_same hlt'
  have defU : U.heap[w.heap.size]? = some (.deferred (some [])) := by rw [hU]; exact (World.putObj_heap_other (by omega)).trans hk'
  have invU : I k U := by rw [hU]; exact hI.putObj _ (hI.alloc _ hi) (by omega) hl' rfl
  have boxU : U.heap[W.heap.size]? = some (ob k) := by rw [hU]; exact (World.putObj_heap_other (by omega)).trans (World.alloc_heap_new _ _)
  have h9 : U.heap.size = W.heap.size + 1 := by rw [hU]; simp [World.putObj]
  refine ⟨fn, _, assign, body, hy, roundIn_of_wpIn hfn (hassign _ k W _ ⟨_, run_beginRound hl' (by rw [hrc]), ?_⟩)⟩
  rw [← hU]
  refine wpIn_mono (hbody _ k W.heap.size U hkN invU (by omega) boxU) ?_
  have fin : ∀ (jump : Option Code) (W3 : World), HiKept E w.heap.size U W3 →
    (Instr.endRound (w.heap.size + 1) jump).run P W3 = .ok (.bool jump.isNone) (W3.putObj (w.heap.size + 1) (.loop (rc (if jump.isNone then .ready else .done) jump))) ∧
    W3.heap[w.heap.size + 1]? = some (.loop { rc .ready none with state := .busy }) ∧
    (W3.putObj (w.heap.size + 1) (.loop (rc (if jump.isNone then .ready else .done) jump))).heap[w.heap.size + 1]? = some (.loop (rc (if jump.isNone then .ready else .done) jump)) ∧
    (W3.putObj (w.heap.size + 1) (.loop (rc (if jump.isNone then .ready else .done) jump))).heap[w.heap.size]? = some (.deferred (some [])) ∧
    HiKept E W1.heap.size W (W3.putObj (w.heap.size + 1) (.loop (rc (if jump.isNone then .ready else .done) jump))) := fun jump W3 hk3 => by
   have rec3 := hk3.2 _ _ (by omega) recU rfl
   have def3 := hk3.2 _ _ (by omega) defU rfl
   have hend := run_endRound (P := P) jump rec3
   have lt3 : w.heap.size + 1 < W3.heap.size := (ags rec3).1
   rw [hrc] at hend rec3
   refine ⟨by rw [hrc]; exact hend, by rw [hrc]; exact rec3, World.putObj_heap_same lt3, (World.putObj_heap_other (by omega)).trans def3, ?_, ?_⟩
   ·have h8 := hk3.1
    simp only [World.putObj, Array.size_setIfInBounds]
    omega
   ·intro j o hjB hjl ho
    have hU' : U.heap[j]? = some o := by rw [hU]; exact (World.putObj_heap_other (by omega)).trans ((Below.heap_alloc _ _ _ (ags hjl).1).trans hjl)
    exact (World.putObj_heap_other (by omega)).trans (hk3.2 _ _ (by omega) hU' ho)
  rintro e a3 W3 hp
  cases e with
  | normal =>
   obtain ⟨hk3, hi3⟩ := hp
   obtain ⟨hr, hl3, hl4, hk4, hH⟩ := fin none W3 hk3
   exact ⟨_, _, hr, .inl ⟨rfl, ⟨hI.putObj _ hi3 (by omega) hl3 rfl, hl4, hk4⟩, hH⟩⟩
  | ret =>
   obtain ⟨hk3, hi3⟩ := hp
   obtain ⟨hr, hl3, hl4, hk4, hH⟩ := fin (some .ret) W3 hk3
   exact ⟨_, _, hr, .inr ⟨rfl, ⟨.ret, (hIx _).putObj _ hi3 (by omega) hl3 rfl, hl4, hk4⟩, hH⟩⟩
  | exit id =>
   obtain ⟨hk3, hi3⟩ := hp
   obtain ⟨hr, hl3, hl4, hk4, hH⟩ := fin (some (.exit id)) W3 hk3
   exact ⟨_, _, hr, .inr ⟨rfl, ⟨.exit id, (hIx _).putObj _ hi3 (by omega) hl3 rfl, hl4, hk4⟩, hH⟩⟩
  | goto t =>
   obtain ⟨hk3, hi3⟩ := hp
   obtain ⟨hr, hl3, hl4, hk4, hH⟩ := fin (some (.goto t)) W3 hk3
   exact ⟨_, _, hr, .inr ⟨rfl, ⟨.goto t, (hIx _).putObj _ hi3 (by omega) hl3 rfl, hl4, hk4⟩, hH⟩⟩
  | panic ch => exact hp.elim
  | outgrown => exact hp.elim
 ·-- behind the iterator
  rintro e W2 ⟨⟨v, rfl⟩, ⟨hi, hl, hk⟩ | ⟨k, hkN, c, hi, hl, hk⟩⟩
  ·have hend := run_endLoop (P := P) hl (by rw [hrc]; simp)
   rw [hrc] at hend
   exact ⟨none, _, hend, hdone _ _ (Nat.le_refl _) (hI.putObj _ hi (by omega) hl rfl) ((World.putObj_heap_other (by omega)).trans hk)⟩
  ·have hend := run_endLoop (P := P) hl (by rw [hrc]; simp)
   rw [hrc] at hend
   exact ⟨some c, _, hend, hstop _ c k _ (Nat.le_refl _) hkN ((hIx c).putObj _ hi (by omega) hl rfl) ((World.putObj_heap_other (by omega)).trans hk)⟩
theorem SeqPx.inRound {E : TypeId} {g : Nat} {lb : Array Value} {encs : Nat → Array Value} {I : Nat → World → Prop} {N B : Nat} (l : Nat) (h : SeqPx E F n P g lb encs I N B) : SeqPx E (F.inRound l) n P g lb encs I N B := h
theorem ownFrom_hiKept {β : Type} {E : TypeId} {B B' : Nat} {w₀ : World} (hB : w₀.heap.size ≤ B') : OwnFrom B' (fun (_ : β) W => HiKept E B w₀ W) :=
 fun _ X Y row hs hg hr => ⟨Nat.le_trans hs.1 hg.size, fun k o hk h0 ho => by
  have hX := hs.2 k o hk h0 ho
  refine (hg.block k (ags hX).1 (fun e => ?_)).trans hX
  have h1 := (hr k e.symm).1
  have h2 := (ags h0).1
  omega⟩
theorem wpIn_range_pxH {g : Operand} {ps : Array Tmp} {assign body : Code} {Q : Exit → Act → World → Prop} {a : Act} {w : World}
  (hro : F.round = none) (h1 : 1 ≤ n) {gf : Nat} {lb : Array Value} (hg : a.eval g = .func (.func gf) #[] lb) (hFg : F.fn gf) (eg : ∀ args w, (callFunc gf args).run P w = .ok (.enter gf args) w)
  {encs : Nat → Array Value} {N : Nat} (E : TypeId) (I : Nat → World → Prop) (Ix : Code → Nat → World → Prop) (hseq : SeqPx E F (n - 1) P gf lb encs I N w.heap.size) (hps : ∀ x, (encs x).size = ps.size)
  (hI : OwnFrom w.heap.size I) (hIx : ∀ c, OwnFrom w.heap.size (Ix c)) (h0 : I 0 w) (a₁ : Nat → Act)
  (hassign : ∀ (l : Nat) (x : Nat) (W : World) (K : Act → World → Prop), K (a₁ x) W →
   assign.wpIn (F.inRound l) (n - 1 - 1) P (Exit.then K (fun _ _ _ => False)) { tmps := (ps.zip (encs x)).foldl (fun t (p, v) => t.setIfInBounds p v) a.tmps, defers := [] } W)
  (hbody : ∀ (l k : Nat) (W : World), w.heap.size ≤ l → (∃ r, W.heap[l]? = some (.loop r)) → k < N → I k W → body.wpIn (F.inRound l) (n - 1 - 1) P (pxPost E I Ix k w.heap.size W) (a₁ k) W)
  (hdone : ∀ (D : Nat) (W : World), w.heap.size ≤ D → I N W → W.heap[D]? = some (.deferred (some [])) → Q .normal { a with defers := { target := .collected D, args := #[] } :: a.defers } W)
  (hstop : ∀ (D : Nat) (c : Code) (k : Nat) (W : World), w.heap.size ≤ D → k < N → Ix c k W → W.heap[D]? = some (.deferred (some [])) → c.wpIn F n P Q { a with defers := { target := .collected D, args := #[] } :: a.defers } W) :
  (Code.rangeFunc g ps assign body).wpIn F n P Q a w := by
 refine wpIn_rangeFunc ?_
 intro fn hfn
 rw [hro]
 obtain ⟨rc, hrc⟩ : ∃ rc : LoopState → Option Code → Loop, rc = fun st pe => { state := st, pending := pe, fn, tmps := a.tmps, params := ps, assign, body, defers := w.heap.size } := ⟨_, rfl⟩
 have hent := run_enterLoop_outer (P := P) (w := w) fn a.tmps ps assign body
 obtain ⟨W1, hW1⟩ : ∃ W1, W1 = (w.alloc (.deferred (some []))).alloc (.loop (rc .ready none)) := ⟨_, rfl⟩
 have rec1 : W1.heap[w.heap.size + 1]? = some (.loop (rc .ready none)) := by
  have e := World.alloc_heap_new (w.alloc (.deferred (some []))) (.loop (rc .ready none))
  rw [World.size_alloc] at e
  rw [hW1]; exact e
 have def1 : W1.heap[w.heap.size]? = some (.deferred (some [])) := by
  rw [hW1, Below.heap_alloc _ _ _ (by simp)]
  exact World.alloc_heap_new w _
 have inv1 : I 0 W1 := by rw [hW1]; exact hI.alloc _ (hI.alloc _ h0)
 have siz1 : w.heap.size + 2 ≤ W1.heap.size := by rw [hW1]; simp
 refine ⟨w.heap.size + 1, [{ target := .collected w.heap.size, args := #[] }], W1, { target := .fn (.func gf) lb, args := #[.func (.yield (w.heap.size + 1)) #[] #[]] }, W1, gf, #[.func (.yield (w.heap.size + 1)) #[] #[]] ++ lb, W1, ?_, ?_, ?_, ?_, fun _ => h1, ?_⟩
 ·rw [hW1, hrc]; exact hent
 ·simp only [resolve, hg]
  simp [go_sem]
 ·intro f' hf'
  simp [Target.leads] at hf'
  exact hf' ▸ hFg
 ·simp [invoke, go_sem, eg]
 have keep : ∀ {A B : World} {row : Option Nat} {k : Nat} {o : Obj}, A.grownBy B row → (∀ r, row = some r → W1.heap.size ≤ r ∧ ∃ o : Obj, A.heap[r]? = some o ∧ o.isCells = false) → k < w.heap.size + 2 → A.heap[k]? = some o → B.heap[k]? = some o := by
  intro A B row k o hgr hr hk ho
  exact (hgr.block _ (ags ho).1 (fun e => by have := (hr _ e.symm).1; omega)).trans ho
 have hw : ∀ {A : World} {row : Option Nat}, (∀ r, row = some r → W1.heap.size ≤ r ∧ ∃ o : Obj, A.heap[r]? = some o ∧ o.isCells = false) → ∀ r, row = some r → w.heap.size ≤ r ∧ ∃ o : Obj, A.heap[r]? = some o ∧ o.isCells = false := by
  intro A row hr r e
  obtain ⟨hB, ho⟩ := hr r e
  exact ⟨by omega, ho⟩
 refine (hseq (w.heap.size + 1) (fun k W => I k W ∧ W.heap[w.heap.size + 1]? = some (.loop (rc .ready none)) ∧ W.heap[w.heap.size]? = some (.deferred (some [])))
  (fun k W => ∃ c, Ix c k W ∧ W.heap[w.heap.size + 1]? = some (.loop (rc .done (some c))) ∧ W.heap[w.heap.size]? = some (.deferred (some []))) W1 (by omega) ?_ ?_ (fun _ _ h => h.1) ?_ ⟨inv1, rec1, def1⟩).mono ?_
 ·intro s A B row hs hgr hr
  exact ⟨hI s A B row hs.1 hgr (hw hr), keep hgr hr (by omega) hs.2.1, keep hgr hr (by omega) hs.2.2⟩
 ·intro s A B row hs hgr hr
  obtain ⟨c, hc, h2, h3⟩ := hs
  exact ⟨c, hIx c s A B row hc hgr (hw hr), keep hgr hr (by omega) h2, keep hgr hr (by omega) h3⟩
 ·-- a round
  rintro k W hkN ⟨hi, hl, hk⟩
  have hlt : w.heap.size + 1 < W.heap.size := (ags hl).1
  have hy := run_yield (P := P) (args := encs k) hl (by rw [hrc]; exact hps k)
  rw [hrc] at hy
  obtain ⟨U, hU⟩ : ∃ U, U = W.putObj (w.heap.size + 1) (.loop { rc .ready none with state := .busy }) := ⟨_, rfl⟩
  have recU : U.heap[w.heap.size + 1]? = some (.loop { rc .ready none with state := .busy }) := by rw [hU]; exact World.putObj_heap_same hlt
  have defU : U.heap[w.heap.size]? = some (.deferred (some [])) := by rw [hU]; exact (World.putObj_heap_other (by omega)).trans hk
  have invU : I k U := by rw [hU]; exact hI.putObj _ hi (by omega) hl rfl
  have h9 : U.heap.size = W.heap.size := by rw [hU]; simp [World.putObj]
  refine ⟨fn, _, assign, body, hy, roundIn_of_wpIn hfn (hassign _ k W _ ⟨_, run_beginRound hl (by rw [hrc]), ?_⟩)⟩
  rw [← hU]
  refine wpIn_mono (hbody _ k U (by omega) ⟨_, recU⟩ hkN invU) ?_
  have fin : ∀ (jump : Option Code) (W3 : World), HiKept E w.heap.size U W3 →
    (Instr.endRound (w.heap.size + 1) jump).run P W3 = .ok (.bool jump.isNone) (W3.putObj (w.heap.size + 1) (.loop (rc (if jump.isNone then .ready else .done) jump))) ∧
    W3.heap[w.heap.size + 1]? = some (.loop { rc .ready none with state := .busy }) ∧
    (W3.putObj (w.heap.size + 1) (.loop (rc (if jump.isNone then .ready else .done) jump))).heap[w.heap.size + 1]? = some (.loop (rc (if jump.isNone then .ready else .done) jump)) ∧
    (W3.putObj (w.heap.size + 1) (.loop (rc (if jump.isNone then .ready else .done) jump))).heap[w.heap.size]? = some (.deferred (some [])) ∧
    HiKept E W1.heap.size W (W3.putObj (w.heap.size + 1) (.loop (rc (if jump.isNone then .ready else .done) jump))) := fun jump W3 hk3 => by
   have rec3 := hk3.2 _ _ (by omega) recU rfl
   have def3 := hk3.2 _ _ (by omega) defU rfl
   have hend := run_endRound (P := P) jump rec3
   have lt3 : w.heap.size + 1 < W3.heap.size := (ags rec3).1
   rw [hrc] at hend rec3
   refine ⟨by rw [hrc]; exact hend, by rw [hrc]; exact rec3, World.putObj_heap_same lt3, (World.putObj_heap_other (by omega)).trans def3, ?_, ?_⟩
   ·have h8 := hk3.1
    simp only [World.putObj, Array.size_setIfInBounds]
    omega
   ·intro j o hjB hjl ho
    have hU' : U.heap[j]? = some o := by rw [hU]; exact (World.putObj_heap_other (by omega)).trans hjl
    exact (World.putObj_heap_other (by omega)).trans (hk3.2 _ _ (by omega) hU' ho)
  rintro e a3 W3 hp
  cases e with
  | normal =>
   obtain ⟨hk3, hi3⟩ := hp
   obtain ⟨hr, hl3, hl4, hk4, hH⟩ := fin none W3 hk3
   exact ⟨_, _, hr, .inl ⟨rfl, ⟨hI.putObj _ hi3 (by omega) hl3 rfl, hl4, hk4⟩, hH⟩⟩
  | ret =>
   obtain ⟨hk3, hi3⟩ := hp
   obtain ⟨hr, hl3, hl4, hk4, hH⟩ := fin (some .ret) W3 hk3
   exact ⟨_, _, hr, .inr ⟨rfl, ⟨.ret, (hIx _).putObj _ hi3 (by omega) hl3 rfl, hl4, hk4⟩, hH⟩⟩
  | exit id =>
   obtain ⟨hk3, hi3⟩ := hp
   obtain ⟨hr, hl3, hl4, hk4, hH⟩ := fin (some (.exit id)) W3 hk3
   exact ⟨_, _, hr, .inr ⟨rfl, ⟨.exit id, (hIx _).putObj _ hi3 (by omega) hl3 rfl, hl4, hk4⟩, hH⟩⟩
  | goto t =>
   obtain ⟨hk3, hi3⟩ := hp
   obtain ⟨hr, hl3, hl4, hk4, hH⟩ := fin (some (.goto t)) W3 hk3
   exact ⟨_, _, hr, .inr ⟨rfl, ⟨.goto t, (hIx _).putObj _ hi3 (by omega) hl3 rfl, hl4, hk4⟩, hH⟩⟩
  | panic ch => exact hp.elim
  | outgrown => exact hp.elim
 ·-- behind the iterator
  rintro e W2 ⟨⟨v, rfl⟩, ⟨hi, hl, hk⟩ | ⟨k, hkN, c, hi, hl, hk⟩⟩
  ·have hend := run_endLoop (P := P) hl (by rw [hrc]; simp)
   rw [hrc] at hend
   exact ⟨none, _, hend, hdone _ _ (Nat.le_refl _) (hI.putObj _ hi (by omega) hl rfl) ((World.putObj_heap_other (by omega)).trans hk)⟩
  ·have hend := run_endLoop (P := P) hl (by rw [hrc]; simp)
   rw [hrc] at hend
   exact ⟨some c, _, hend, hstop _ c k _ (Nat.le_refl _) hkN ((hIx c).putObj _ hi (by omega) hl rfl) ((World.putObj_heap_other (by omega)).trans hk)⟩
theorem wpIn_range_paN {g : Operand} {ps : Array Tmp} {assign body : Code} {Q : Exit → Act → World → Prop} {a : Act} {w : World}
  {l₀ : Nat} {r₀ : Loop} (hro : F.round = some l₀) (hl₀ : w.heap[l₀]? = some (.loop r₀)) (h1 : 1 ≤ n) {gf : Nat} {lb : Array Value} (hg : a.eval g = .func (.func gf) #[] lb) (hFg : F.fn gf) (eg : ∀ args w, (callFunc gf args).run P w = .ok (.enter gf args) w)
  {encs : Nat → Array Value} {N : Nat} (E : TypeId) (I : Nat → World → Prop) (Ix : Code → Nat → World → Prop) (hseq : SeqPx E F (n - 1) P gf lb encs I N w.heap.size) (hps : ∀ x, (encs x).size = ps.size)
  (hI : OwnFrom w.heap.size I) (hIx : ∀ c, OwnFrom w.heap.size (Ix c)) (h0 : I 0 w) (ob : Nat → Obj) (hob : ∀ x, (ob x).isCells = true) (a₁ : Nat → Nat → Act)
  (hassign : ∀ (l : Nat) (x : Nat) (W : World) (K : Act → World → Prop), K (a₁ x W.heap.size) (W.alloc (ob x)) →
   assign.wpIn (F.inRound l) (n - 1 - 1) P (Exit.then K (fun _ _ _ => False)) { tmps := (ps.zip (encs x)).foldl (fun t (p, v) => t.setIfInBounds p v) a.tmps, defers := [] } W)
  (hbody : ∀ (l k s : Nat) (W : World), k < N → I k W → w.heap.size ≤ s → W.heap[s]? = some (ob k) → body.wpIn (F.inRound l) (n - 1 - 1) P (pxPost E I Ix k w.heap.size W) (a₁ k s) W)
  (hdone : ∀ (W : World), I N W → Q .normal a W)
  (hstop : ∀ (c : Code) (k : Nat) (W : World), k < N → Ix c k W → c.wpIn F n P Q a W) :
  (Code.rangeFunc g ps assign body).wpIn F n P Q a w := by
 refine wpIn_rangeFunc ?_
 intro fn hfn
 rw [hro]
 obtain ⟨rc, hrc⟩ : ∃ rc : LoopState → Option Code → Loop, rc = fun st pe => { state := st, pending := pe, fn, tmps := a.tmps, params := ps, assign, body, defers := r₀.defers } := ⟨_, rfl⟩
 obtain ⟨W1, hW1⟩ : ∃ W1, W1 = w.alloc (.loop (rc .ready none)) := ⟨_, rfl⟩
 have rec1 : W1.heap[w.heap.size]? = some (.loop (rc .ready none)) := by rw [hW1]; exact World.alloc_heap_new w _
 have inv1 : I 0 W1 := by rw [hW1]; exact hI.alloc _ h0
 have siz1 : w.heap.size + 1 ≤ W1.heap.size := by rw [hW1]; simp
 refine ⟨w.heap.size, [], W1, { target := .fn (.func gf) lb, args := #[.func (.yield w.heap.size) #[] #[]] }, W1, gf, #[.func (.yield w.heap.size) #[] #[]] ++ lb, W1, ?_, ?_, ?_, ?_, fun _ => h1, ?_⟩
 ·rw [hW1, hrc]; exact run_enterLoop_inner hl₀ _ _ _ _ _
 ·simp only [resolve, hg]
  simp [go_sem]
 ·intro f' hf'
  simp [Target.leads] at hf'
  exact hf' ▸ hFg
 ·simp [invoke, go_sem, eg]
 have keep : ∀ {A B : World} {row : Option Nat} {k : Nat} {o : Obj}, A.grownBy B row → (∀ r, row = some r → W1.heap.size ≤ r ∧ ∃ o : Obj, A.heap[r]? = some o ∧ o.isCells = false) → k < w.heap.size + 1 → A.heap[k]? = some o → B.heap[k]? = some o := by
  intro A B row k o hgr hr hk ho
  exact (hgr.block _ (ags ho).1 (fun e => by have := (hr _ e.symm).1; omega)).trans ho
 have hw : ∀ {A : World} {row : Option Nat}, (∀ r, row = some r → W1.heap.size ≤ r ∧ ∃ o : Obj, A.heap[r]? = some o ∧ o.isCells = false) → ∀ r, row = some r → w.heap.size ≤ r ∧ ∃ o : Obj, A.heap[r]? = some o ∧ o.isCells = false := by
  intro A row hr r e
  obtain ⟨hB, ho⟩ := hr r e
  exact ⟨by omega, ho⟩
 refine (hseq (w.heap.size) (fun k W => I k W ∧ W.heap[w.heap.size]? = some (.loop (rc .ready none)))
  (fun k W => ∃ c, Ix c k W ∧ W.heap[w.heap.size]? = some (.loop (rc .done (some c)))) W1 (by omega) ?_ ?_ (fun _ _ h => h.1) ?_ ⟨inv1, rec1⟩).mono ?_
 ·intro s A B row hs hgr hr
  exact ⟨hI s A B row hs.1 hgr (hw hr), keep hgr hr (by omega) hs.2⟩
 ·intro s A B row hs hgr hr
  obtain ⟨c, hc, h2⟩ := hs
  exact ⟨c, hIx c s A B row hc hgr (hw hr), keep hgr hr (by omega) h2⟩
 ·-- a round
  rintro k W hkN ⟨hi, hl⟩
  have hlt : w.heap.size < W.heap.size := (ags hl).1
  have hy := run_yield (P := P) (args := encs k) hl (by rw [hrc]; exact hps k)
  rw [hrc] at hy
  have hl' : (W.alloc (ob k)).heap[w.heap.size]? = some (.loop (rc .ready none)) := (Below.heap_alloc _ _ _ (by omega)).trans hl
  have hlt' : w.heap.size < (W.alloc (ob k)).heap.size := (ags hl').1
  obtain ⟨U, hU⟩ : ∃ U, U = (W.alloc (ob k)).putObj (w.heap.size) (.loop { rc .ready none with state := .busy }) := ⟨_, rfl⟩
  have recU : U.heap[w.heap.size]? = some (.loop { rc .ready none with state := .busy }) := by rw [hU]; exact World.putObj_heap_same hlt'
  have invU : I k U := by rw [hU]; exact hI.putObj _ (hI.alloc _ hi) (by omega) hl' rfl
  have boxU : U.heap[W.heap.size]? = some (ob k) := by rw [hU]; exact (World.putObj_heap_other (by omega)).trans (World.alloc_heap_new _ _)
  have h9 : U.heap.size = W.heap.size + 1 := by rw [hU]; simp [World.putObj]
  refine ⟨fn, _, assign, body, hy, roundIn_of_wpIn hfn (hassign _ k W _ ⟨_, run_beginRound hl' (by rw [hrc]), ?_⟩)⟩
  rw [← hU]
  refine wpIn_mono (hbody _ k W.heap.size U hkN invU (by omega) boxU) ?_
  have fin : ∀ (jump : Option Code) (W3 : World), HiKept E w.heap.size U W3 →
    (Instr.endRound (w.heap.size) jump).run P W3 = .ok (.bool jump.isNone) (W3.putObj (w.heap.size) (.loop (rc (if jump.isNone then .ready else .done) jump))) ∧
    W3.heap[w.heap.size]? = some (.loop { rc .ready none with state := .busy }) ∧
    (W3.putObj (w.heap.size) (.loop (rc (if jump.isNone then .ready else .done) jump))).heap[w.heap.size]? = some (.loop (rc (if jump.isNone then .ready else .done) jump)) ∧
    HiKept E W1.heap.size W (W3.putObj (w.heap.size) (.loop (rc (if jump.isNone then .ready else .done) jump))) := fun jump W3 hk3 => by
   have rec3 := hk3.2 _ _ (by omega) recU rfl
   have hend := run_endRound (P := P) jump rec3
   have lt3 : w.heap.size < W3.heap.size := (ags rec3).1
   rw [hrc] at hend rec3
   refine ⟨by rw [hrc]; exact hend, by rw [hrc]; exact rec3, World.putObj_heap_same lt3, ?_, ?_⟩
   ·have h8 := hk3.1
    simp only [World.putObj, Array.size_setIfInBounds]
    omega
   ·intro j o hjB hjl ho
    have hU' : U.heap[j]? = some o := by rw [hU]; exact (World.putObj_heap_other (by omega)).trans ((Below.heap_alloc _ _ _ (ags hjl).1).trans hjl)
    exact (World.putObj_heap_other (by omega)).trans (hk3.2 _ _ (by omega) hU' ho)
  rintro e a3 W3 hp
  cases e with
  | normal =>
   obtain ⟨hk3, hi3⟩ := hp
   obtain ⟨hr, hl3, hl4, hH⟩ := fin none W3 hk3
   exact ⟨_, _, hr, .inl ⟨rfl, ⟨hI.putObj _ hi3 (by omega) hl3 rfl, hl4⟩, hH⟩⟩
  | ret =>
   obtain ⟨hk3, hi3⟩ := hp
   obtain ⟨hr, hl3, hl4, hH⟩ := fin (some .ret) W3 hk3
   exact ⟨_, _, hr, .inr ⟨rfl, ⟨.ret, (hIx _).putObj _ hi3 (by omega) hl3 rfl, hl4⟩, hH⟩⟩
  | exit id =>
   obtain ⟨hk3, hi3⟩ := hp
   obtain ⟨hr, hl3, hl4, hH⟩ := fin (some (.exit id)) W3 hk3
   exact ⟨_, _, hr, .inr ⟨rfl, ⟨.exit id, (hIx _).putObj _ hi3 (by omega) hl3 rfl, hl4⟩, hH⟩⟩
  | goto t =>
   obtain ⟨hk3, hi3⟩ := hp
   obtain ⟨hr, hl3, hl4, hH⟩ := fin (some (.goto t)) W3 hk3
   exact ⟨_, _, hr, .inr ⟨rfl, ⟨.goto t, (hIx _).putObj _ hi3 (by omega) hl3 rfl, hl4⟩, hH⟩⟩
  | panic ch => exact hp.elim
  | outgrown => exact hp.elim
 ·-- behind the iterator
  rintro e W2 ⟨⟨v, rfl⟩, ⟨hi, hl⟩ | ⟨k, hkN, c, hi, hl⟩⟩
  ·have hend := run_endLoop (P := P) hl (by rw [hrc]; simp)
   rw [hrc] at hend
   exact ⟨none, _, hend, hdone _ (hI.putObj _ hi (by omega) hl rfl)⟩
  ·have hend := run_endLoop (P := P) hl (by rw [hrc]; simp)
   rw [hrc] at hend
   exact ⟨some c, _, hend, hstop c k _ hkN ((hIx c).putObj _ hi (by omega) hl rfl)⟩
end
section
open Go.ChangeShapes Go.WideShapes Go.ChangeAt Go.RowKit Go.Shelf
attribute [local go_sem] Oper.semAt_some
namespace TabS
def Reads (pb b o : Nat) (v : Value) (N : Nat) (keys : Nat → Int) (W : World) : Prop :=
 W.cell? ⟨pb, 0, none⟩ = some (.pointer (some ⟨b, o, none⟩)) ∧ W.cell? ⟨b, o, none⟩ = some v ∧ ∀ g, v.ownBlock = some g → ∀ k, k < N → W.cell? ⟨g, k * 2, none⟩ = some (.int .i64 (keys k))
def encT (v : Value) (keys : Nat → Int) (k : Nat) : Array Value := #[.int .i64 (keys k), .pointer (v.ownBlock.map fun g => ⟨g, k * 2 + 1, none⟩)]
theorem eachT_px (E : TypeId) (q pb b o N B : Nat) (v : Value) (keys : Nat → Int) (I : Nat → World → Prop) (hv : (v = .slice none 0 0 ∧ N = 0) ∨ ∃ g c, v = .slice (some ⟨g, 0, none⟩) N c) (hN : N ≤ 1000000) (hI : ∀ k W, I k W → Reads pb b o v N keys W) :
  SeqPx E Fence.wide (q + 1) Tryz.prog 128 #[.pointer (some ⟨pb, 0, none⟩)] (encT v keys) I N B := by
 intro l J Jx W hBW hAb hAx hJI hY h0
 have hR0 := hI _ _ (hJI _ _ h0)
 have hbp : W.cell? ⟨pb, 0, none⟩ = some (.pointer (some ⟨b, o, none⟩)) := hR0.1
 have hbb : W.cell? ⟨b, o, none⟩ = some v := hR0.2.1
 have HY := hid hY
 have HAB := hid hAb
 have HI := hid (fun k W h => hI k W (hJI k W h))
 clear hY hAb hAx hI hJI hR0
 rcases hv with ⟨rfl, rfl⟩ | ⟨g, c, rfl⟩
 ·have H0 := hid h0
  clear h0
  refine callsIn_of_wp Tryz.func128 rfl trivial ?_ rfl
  simp only [Tryz.ntmps128, List.size_toArray, List.length_cons, List.length_nil, Nat.reduceAdd, Nat.reduceSub, Array.replicate_succ, Array.replicate_zero, List.push_toArray, List.append_toArray, List.nil_append, List.cons_append]
  gi_wp2
  clear hbp hbb
  gi_loopw [9, 3] (fun i x wr => i = .int .i64 0 ∧ J 0 wr) (fun i _ _ => 0)
  case atStart => exact ⟨rfl, H0.out⟩
  case round =>
   obtain ⟨rfl, hJ⟩ := hrel
   have HJ := hid hJ
   clear hJ
   gi_wp2
   go_end0
   exact ⟨⟨_, rfl⟩, .inl HJ.out⟩
 ·refine callsIn_of_wp Tryz.func128 rfl trivial ?_ rfl
  simp only [Tryz.ntmps128, List.size_toArray, List.length_cons, List.length_nil, Nat.reduceAdd, Nat.reduceSub, Array.replicate_succ, Array.replicate_zero, List.push_toArray, List.append_toArray, List.nil_append, List.cons_append]
  gi_wp2
  clear hbp hbb
  gi_loopw [9, 3] (fun i x wr => ∃ k : Nat, k ≤ N ∧ i = .int .i64 k ∧ J k wr) (fun i _ _ => N - (intOf i).toNat)
  case atStart => exact ⟨0, Nat.zero_le _, rfl, h0⟩
  case round =>
   obtain ⟨k, hk, rfl, hJ⟩ := hrel
   by_cases hlt : k < N
   ·obtain ⟨c0, c1, c2'⟩ := HI.out _ _ hJ
    have c2 := c2' g rfl k hlt
    have hltI : (k : Int) < N := by omega
    have hJd : J k wr.drew := HAB.out _ wr wr.drew none hJ ⟨rfl, rfl, rfl, Nat.le_refl _, fun _ _ _ => rfl⟩ (fun r e => by cases e)
    obtain ⟨fn, tmps, assign, body, hy, hR⟩ := HY.out k wr.drew hlt hJd
    unfold encT at hy
    (try dsimp only [Value.ownBlock, Option.map] at hy)
    have HR := hid (hR.mono (fun e W' h => two_ways (A := fun W' => J (k + 1) W' ∧ HiKept E W.heap.size wr.drew W') (B := fun W' => Jx k W' ∧ HiKept E W.heap.size wr.drew W') h))
    clear hR hJ hJd c2'
    generalize hkk : keys k = kk at *
    clear hkk
    gi_wp2
    gi_region_with (first | (refine HR.out.mono ?_; rintro e W' ⟨t, rfl, ht⟩))
    all_goals
     cases t
     ·have hJx := ht.2 rfl
      gi_wp2
      first
       | refine bodyPost_ret (results_none rfl _ _ _) rfl ?_
       | go_end0
      exact ⟨⟨_, rfl⟩, .inr ⟨k, hlt, hJx.1⟩⟩
     ·obtain ⟨hJ', hK'⟩ := ht.1 rfl
      gi_wp2
      go_roundw
      case rel => exact ⟨k + 1, by omega, by go_num, hJ'⟩
      case measure => first | (simp [intOf]; done) | (simp [intOf]; omega)
   ·obtain rfl : k = N := by omega
    have HJ := hid hJ
    clear hJ
    gi_wp2
    go_end0
    exact ⟨⟨_, rfl⟩, .inl HJ.out⟩
theorem each_in (n : Nat) (b o : Nat) (w : World) :
  CallsIn Fence.wide n Tryz.prog 118 #[.pointer (some ⟨b, o, none⟩)] w fun e w' => e = .returned (.func (.func 128) #[] #[.pointer (some ⟨w.heap.size, 0, none⟩)]) ∧ w' = w.alloc (.cells #[.pointer (some ⟨b, o, none⟩)] 158) := by
 refine callsIn_of_wp Tryz.func118 rfl trivial ?_ rfl
 simp only [Tryz.ntmps118, List.size_toArray, List.length_cons, List.length_nil, Nat.reduceAdd, Nat.reduceSub, Array.replicate_succ, Array.replicate_zero, List.push_toArray, List.append_toArray, List.nil_append, List.cons_append]
 gi_wp2
 go_ret
 exact ⟨rfl, rfl⟩
end TabS
end
section
open Go.ChangeShapes Go.WideShapes Go.ChangeAt Go.RowKit Go.Deep
inductive FK where
 | i (k : IntKind)
 | b
def FK.ok : FK → Value → Prop
 | .i k, v => ∃ n, v = .int k n ∧ (Lit.int k n).wf = true
 | .b, v => ∃ x, v = .bool x
def kindAt (P : Program) : Nat → TypeId → Nat → Option FK
 | 0, _, _ => none
 | d + 1, t, j => match P.underlying t with
  | some (.int k) => if j = 0 then some (.i k) else none
  | some .bool => if j = 0 then some .b else none
  | some (.struct fs) => fs.toList.findSome? fun f => if f.offset ≤ j && j < f.offset + P.cellsOf f.type then kindAt P d f.type (j - f.offset) else none
  | some (.array n e) => if j / P.cellsOf e < n && 0 < P.cellsOf e then kindAt P d e (j % P.cellsOf e) else none
  | _ => none
section
variable {H : Type} {enc : TypeId × Value → H} {P : Program} {w : World} {base : Nat} {spare : Nat → Bool} {held : Bool}
theorem kind_trod : ∀ (d fuel : Nat) (t : TypeId) (cs : List Value) (x : DataW H × List MemPlace) (j : Nat) (k : FK), DataW.trod enc P w base spare held fuel t cs = some x → kindAt P d t j = some k → ∃ v, cs[j]? = some v ∧ k.ok v
 | 0, _, _, _, _, _, _, _, h => by simp [kindAt] at h
 | d + 1, fuel, t, cs, x, j, k, hx, h => by
  unfold kindAt at h
  cases hu : P.underlying t with
  | none => simp [hu] at h
  | some u =>
   rw [hu] at h
   cases u with
   | int q =>
    simp only [Option.ite_none_right_eq_some, Option.some.injEq] at h
    obtain ⟨rfl, rfl⟩ := h
    obtain ⟨n, rfl, _, hw⟩ := DataW.trod_int hu hx
    exact ⟨_, rfl, n, rfl, hw⟩
   | bool =>
    simp only [Option.ite_none_right_eq_some, Option.some.injEq] at h
    obtain ⟨rfl, rfl⟩ := h
    obtain ⟨n, rfl, _⟩ := DataW.trod_bool hu hx
    exact ⟨_, rfl, n, rfl⟩
   | struct fs =>
    simp only at h
    obtain ⟨f, hf, hk⟩ := List.exists_of_findSome?_eq_some h
    obtain ⟨i, hi, hfi⟩ := List.mem_iff_getElem.1 hf
    split at hk
    ·rename_i hc
     simp only [Bool.and_eq_true, decide_eq_true_eq] at hc
     obtain ⟨xs, n, _, _, hl, hlen, hg⟩ := DataW.trod_struct hu hx
     have hfs : fs[i]? = some f := by rw [← Array.getElem?_toList, List.getElem?_eq_getElem hi, hfi]
     have hgi := hg i f hfs
     have hil : i < xs.length := by rw [hlen]; simpa using hi
     rw [List.getElem?_eq_getElem hil] at hgi
     obtain ⟨v, hv, ok⟩ := kind_trod d n f.type _ _ _ _ hgi hk
     refine ⟨v, ?_, ok⟩
     rw [List.getElem?_take_of_lt (by omega), List.getElem?_drop] at hv
     rw [← hv]
     congr 1
     omega
    ·cases hk
   | array n e =>
    simp only at h
    split at h
    ·rename_i hc
     simp only [Bool.and_eq_true, decide_eq_true_eq] at hc
     obtain ⟨xs, m, _, _, hl, hlen, hg⟩ := DataW.trod_array hu hx
     have hgi := hg _ hc.1
     rw [List.getElem?_eq_getElem (by omega)] at hgi
     obtain ⟨v, hv, ok⟩ := kind_trod d m e _ _ _ _ hgi h
     refine ⟨v, ?_, ok⟩
     rw [List.getElem?_take_of_lt (Nat.mod_lt _ hc.2), List.getElem?_drop] at hv
     rw [← hv]
     congr 1
     exact (Nat.div_add_mod' j (P.cellsOf e)).symm
    ·cases h
   | _ => simp at h
def intAt (w : World) (b o : Nat) : Int := match w.cell? ⟨b, o, none⟩ with
 | some (.int _ n) => n
 | _ => 0
def boolAt (w : World) (b o : Nat) : Bool := match w.cell? ⟨b, o, none⟩ with
 | some (.bool x) => x
 | _ => false
def KindIs (w : World) (b o : Nat) : FK → Prop
 | .i k => w.cell? ⟨b, o, none⟩ = some (.int k (intAt w b o)) ∧ (Lit.int k (intAt w b o)).wf = true
 | .b => w.cell? ⟨b, o, none⟩ = some (.bool (boolAt w b o))
theorem kindIs_of {b o : Nat} {v : Value} {k : FK} (h : w.cell? ⟨b, o, none⟩ = some v) (hk : k.ok v) : KindIs w b o k := by
 cases k with
 | i k =>
  obtain ⟨n, rfl, hw⟩ := hk
  have e : intAt w b o = n := by simp [intAt, h]
  exact ⟨by rw [e]; exact h, by rw [e]; exact hw⟩
 | b =>
  obtain ⟨x, rfl⟩ := hk
  show _ = _
  rw [h]
  simp [boolAt, h]
def RowsAt (P : Program) (w : World) (e : TypeId) (C : Nat) (p : Option Addr) (n : Nat) : Prop :=
 ∃ b off, (0 < n → p = some ⟨b, off, none⟩ ∧ b < w.heap.size) ∧ ∀ i, i < n → ∀ j k, kindAt P 9 e j = some k → KindIs w b (off + (i * C + j)) k
theorem open_rows {r : Reach} {b0 : Nat} {t e : TypeId} {C : Nat} {v : Value} {d : DataW H} {ps : List MemPlace} (ht : P.underlying t = some (.slice e)) (hC : P.cellsOf e = C) (h0 : (kindAt P 9 e 0).isSome = true) (h0C : 0 < C)
  (hval : Value.okWide P w r b0 t v) (hd : DataW.Trod enc P w base spare held t v d ps) :
  ∃ p n c, v = .slice p n c ∧ n ≤ c ∧ c ≤ maxLen ∧ RowsAt P w e C p n := by
 obtain ⟨p0, l0, c0, rfl⟩ := okWide_slice ht hval
 obtain ⟨fuel, hf⟩ := hd
 rcases open_slice ht hf with ⟨h1, _⟩ | ⟨a, len, cap, m, n, D, Pl, hcs, hb, hl, hm, hmm, hx, hi⟩
 ·have : Value.slice p0 l0 c0 = .slice none 0 0 := by simpa [Value.cells] using h1
  cases this
  exact ⟨_, _, _, rfl, Nat.le_refl _, by unfold maxLen; omega, 0, 0, fun h => absurd h (by omega), fun i hi => absurd hi (by omega)⟩
 ·have : Value.slice p0 l0 c0 = .slice (some a) len cap := by simpa [Value.cells] using hcs
  cases this
  refine ⟨_, _, _, rfl, hl, hm, a.block, a.off, fun hn => ?_, fun i hil j k hk => ?_⟩
  ·obtain ⟨cs', hc, _⟩ := hi 0 (by rw [hmm]; split <;> omega)
   obtain ⟨_, hlen, hcell⟩ := World.cells?_some hc
   rw [hC] at hlen hcell
   have h1 := hcell 0 h0C
   rw [List.getElem?_eq_getElem (by omega)] at h1
   simp only [Nat.zero_mul, Addr.add, if_true] at h1
   have hs := World.cell?_spot h1
   have hb := World.block_lt_of_cell? _ _ h1
   obtain ⟨b, o, s⟩ := a
   simp only at hs
   subst hs
   exact ⟨rfl, hb⟩
  ·obtain ⟨cs', hc, ht'⟩ := hi i (by rw [hmm]; split <;> omega)
   obtain ⟨u, hu, ok⟩ := kind_trod 9 _ _ _ _ _ _ ht' hk
   obtain ⟨_, hlen, hcell⟩ := World.cells?_some hc
   rw [hC] at hlen hcell
   have hCj : j < C := hlen ▸ (lgs hu).1
   have h1 := hcell j hCj
   rw [hu] at h1
   refine kindIs_of (v := u) ?_ ok
   have hs := World.cell?_spot h1
   rw [← h1]
   congr 1
   obtain ⟨b, o, s⟩ := a
   simp only [Addr.add] at hs ⊢
   by_cases g1 : i * C = 0
   ·by_cases g2 : j = 0
    ·subst g2
     simp only [g1, if_true] at hs ⊢
     subst hs
     rfl
    ·simp [g1, g2]
   ·by_cases g2 : j = 0
    ·subst g2; simp [g1]
    ·simp [g1, g2, Nat.add_assoc]
end
end
end Go.Proofs.YtchjfeafkmpmbaaGreatDoor
