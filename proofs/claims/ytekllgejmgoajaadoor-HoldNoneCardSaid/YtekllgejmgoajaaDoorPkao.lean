import Derived.Test.YtekllgejmgoajaaDoorPkan
import Derived.RangeFuncNested
namespace Go.Proofs.YtekllgejmgoajaaDoor
set_option linter.unusedVariables false
set_option linter.unusedSimpArgs false
set_option maxRecDepth 100000
set_option maxHeartbeats 8000000
section
open Go.RowKit Go.Shelf
variable {P : Program} {F : Fence} {n : Nat}
theorem SeqPx.inRound {E : TypeId} {g : Nat} {lb : Array Value} {encs : Nat → Array Value} {I : Nat → World → Prop} {N B : Nat} (l : Nat) (h : SeqPx E F n P g lb encs I N B) : SeqPx E (F.inRound l) n P g lb encs I N B := h
theorem ownFrom_hiKept {β : Type} {E : TypeId} {B B' : Nat} {w₀ : World} (hB : w₀.heap.size ≤ B') : OwnFrom B' (fun (_ : β) W => HiKept E B w₀ W) :=
 fun _ X Y row hs hg hr => ⟨Nat.le_trans hs.1 hg.size, fun k o hk h0 ho => by
  have hX := hs.2 k o hk h0 ho
  refine (hg.block k (ags hX).1 (fun e => ?_)).trans hX
  have h1 := (hr k e.symm).1
  have h2 := (ags h0).1
  omega⟩
theorem wpIn_range_pxH {g : Operand} {ps : Array Tmp} {assign body : Code} {Q : Exit → Act → World → Prop} {a : Act} {w : World}
  (hro : F.round = none) (h1 : 1 ≤ n) {gf : Nat} {lb : Array Value} (hg : a.eval g = .func (.func gf) #[] lb) (hFg : F.fn gf) (eg : ∀ args w, (callFunc gf args).run P w = .ok (.enter gf args) w)
  {encs : Nat → Array Value} {N : Nat} (E : TypeId) (I : Nat → World → Prop) (Ix : Code → Nat → World → Prop) (hseq : SeqPx E F (n - 1) P gf lb encs I N w.heap.size) (hps : ∀ x, (encs x).size = ps.size)
  (hI : OwnFrom w.heap.size I) (hIx : ∀ c, OwnFrom w.heap.size (Ix c)) (h0 : I 0 w) (a₁ : Nat → Act)
  (hassign : ∀ (l : Nat) (x : Nat) (W : World) (K : Act → World → Prop), K (a₁ x) W →
   assign.wpIn (F.inRound l) (n - 1 - 1) P (Exit.then K (fun _ _ _ => False)) { tmps := (ps.zip (encs x)).foldl (fun t (p, v) => t.setIfInBounds p v) a.tmps, defers := [] } W)
  (hbody : ∀ (l k : Nat) (W : World), w.heap.size ≤ l → (∃ r, W.heap[l]? = some (.loop r)) → k < N → I k W → body.wpIn (F.inRound l) (n - 1 - 1) P (pxPost E I Ix k w.heap.size W) (a₁ k) W)
  (hdone : ∀ (D : Nat) (W : World), w.heap.size ≤ D → I N W → W.heap[D]? = some (.deferred (some [])) → Q .normal { a with defers := { target := .collected D, args := #[] } :: a.defers } W)
  (hstop : ∀ (D : Nat) (c : Code) (k : Nat) (W : World), w.heap.size ≤ D → k < N → Ix c k W → W.heap[D]? = some (.deferred (some [])) → c.wpIn F n P Q { a with defers := { target := .collected D, args := #[] } :: a.defers } W) :
  (Code.rangeFunc g ps assign body).wpIn F n P Q a w := by
 refine wpIn_rangeFunc ?_
 intro fn hfn
 rw [hro]
 obtain ⟨rc, hrc⟩ : ∃ rc : LoopState → Option Code → Loop, rc = fun st pe => { state := st, pending := pe, fn, tmps := a.tmps, params := ps, assign, body, defers := w.heap.size } := ⟨_, rfl⟩
 have hent := run_enterLoop_outer (P := P) (w := w) fn a.tmps ps assign body
 obtain ⟨W1, hW1⟩ : ∃ W1, W1 = (w.alloc (.deferred (some []))).alloc (.loop (rc .ready none)) := ⟨_, rfl⟩
 have rec1 : W1.heap[w.heap.size + 1]? = some (.loop (rc .ready none)) := by
  have e := World.alloc_heap_new (w.alloc (.deferred (some []))) (.loop (rc .ready none))
  rw [World.size_alloc] at e
  rw [hW1]; exact e
 have def1 : W1.heap[w.heap.size]? = some (.deferred (some [])) := by
  rw [hW1, Below.heap_alloc _ _ _ (by simp)]
  exact World.alloc_heap_new w _
 have inv1 : I 0 W1 := by rw [hW1]; exact hI.alloc _ (hI.alloc _ h0)
 have siz1 : w.heap.size + 2 ≤ W1.heap.size := by rw [hW1]; simp
 refine ⟨w.heap.size + 1, [{ target := .collected w.heap.size, args := #[] }], W1, { target := .fn (.func gf) lb, args := #[.func (.yield (w.heap.size + 1)) #[] #[]] }, W1, gf, #[.func (.yield (w.heap.size + 1)) #[] #[]] ++ lb, W1, ?_, ?_, ?_, ?_, fun _ => h1, ?_⟩
 ·rw [hW1, hrc]; exact hent
 ·simp only [resolve, hg]
  simp [go_sem]
 ·intro f' hf'
  simp [Target.leads] at hf'
  exact hf' ▸ hFg
 ·simp [invoke, go_sem, eg]
 have keep : ∀ {A B : World} {row : Option Nat} {k : Nat} {o : Obj}, A.grownBy B row → (∀ r, row = some r → W1.heap.size ≤ r ∧ ∃ o : Obj, A.heap[r]? = some o ∧ o.isCells = false) → k < w.heap.size + 2 → A.heap[k]? = some o → B.heap[k]? = some o := by
  intro A B row k o hgr hr hk ho
  exact (hgr.block _ (ags ho).1 (fun e => by have := (hr _ e.symm).1; omega)).trans ho
 have hw : ∀ {A : World} {row : Option Nat}, (∀ r, row = some r → W1.heap.size ≤ r ∧ ∃ o : Obj, A.heap[r]? = some o ∧ o.isCells = false) → ∀ r, row = some r → w.heap.size ≤ r ∧ ∃ o : Obj, A.heap[r]? = some o ∧ o.isCells = false := by
  intro A row hr r e
  obtain ⟨hB, ho⟩ := hr r e
  exact ⟨by omega, ho⟩
 refine (hseq (w.heap.size + 1) (fun k W => I k W ∧ W.heap[w.heap.size + 1]? = some (.loop (rc .ready none)) ∧ W.heap[w.heap.size]? = some (.deferred (some [])))
  (fun k W => ∃ c, Ix c k W ∧ W.heap[w.heap.size + 1]? = some (.loop (rc .done (some c))) ∧ W.heap[w.heap.size]? = some (.deferred (some []))) W1 (by omega) ?_ ?_ (fun _ _ h => h.1) ?_ ⟨inv1, rec1, def1⟩).mono ?_
 ·intro s A B row hs hgr hr
  exact ⟨hI s A B row hs.1 hgr (hw hr), keep hgr hr (by omega) hs.2.1, keep hgr hr (by omega) hs.2.2⟩
 ·intro s A B row hs hgr hr
  obtain ⟨c, hc, h2, h3⟩ := hs
  exact ⟨c, hIx c s A B row hc hgr (hw hr), keep hgr hr (by omega) h2, keep hgr hr (by omega) h3⟩
 ·-- a round
  rintro k W hkN ⟨hi, hl, hk⟩
  have hlt : w.heap.size + 1 < W.heap.size := (ags hl).1
  have hy := run_yield (P := P) (args := encs k) hl (by rw [hrc]; exact hps k)
  rw [hrc] at hy
  obtain ⟨U, hU⟩ : ∃ U, U = W.putObj (w.heap.size + 1) (.loop { rc .ready none with state := .busy }) := ⟨_, rfl⟩
  have recU : U.heap[w.heap.size + 1]? = some (.loop { rc .ready none with state := .busy }) := by rw [hU]; exact World.putObj_heap_same hlt
  have defU : U.heap[w.heap.size]? = some (.deferred (some [])) := by rw [hU]; exact (World.putObj_heap_other (by omega)).trans hk
  have invU : I k U := by rw [hU]; exact hI.putObj _ hi (by omega) hl rfl
  have h9 : U.heap.size = W.heap.size := by rw [hU]; simp [World.putObj]
  refine ⟨fn, _, assign, body, hy, roundIn_of_wpIn hfn (hassign _ k W _ ⟨_, run_beginRound hl (by rw [hrc]), ?_⟩)⟩
  rw [← hU]
  refine wpIn_mono (hbody _ k U (by omega) ⟨_, recU⟩ hkN invU) ?_
  have fin : ∀ (jump : Option Code) (W3 : World), HiKept E w.heap.size U W3 →
    (Instr.endRound (w.heap.size + 1) jump).run P W3 = .ok (.bool jump.isNone) (W3.putObj (w.heap.size + 1) (.loop (rc (if jump.isNone then .ready else .done) jump))) ∧
    W3.heap[w.heap.size + 1]? = some (.loop { rc .ready none with state := .busy }) ∧
    (W3.putObj (w.heap.size + 1) (.loop (rc (if jump.isNone then .ready else .done) jump))).heap[w.heap.size + 1]? = some (.loop (rc (if jump.isNone then .ready else .done) jump)) ∧
    (W3.putObj (w.heap.size + 1) (.loop (rc (if jump.isNone then .ready else .done) jump))).heap[w.heap.size]? = some (.deferred (some [])) ∧
    HiKept E W1.heap.size W (W3.putObj (w.heap.size + 1) (.loop (rc (if jump.isNone then .ready else .done) jump))) := fun jump W3 hk3 => by
   have rec3 := hk3.2 _ _ (by omega) recU rfl
   have def3 := hk3.2 _ _ (by omega) defU rfl
   have hend := run_endRound (P := P) jump rec3
   have lt3 : w.heap.size + 1 < W3.heap.size := (ags rec3).1
   rw [hrc] at hend rec3
   refine ⟨by rw [hrc]; exact hend, by rw [hrc]; exact rec3, World.putObj_heap_same lt3, (World.putObj_heap_other (by omega)).trans def3, ?_, ?_⟩
   ·have h8 := hk3.1
    simp only [World.putObj, Array.size_setIfInBounds]
    omega
   ·intro j o hjB hjl ho
    have hU' : U.heap[j]? = some o := by rw [hU]; exact (World.putObj_heap_other (by omega)).trans hjl
    exact (World.putObj_heap_other (by omega)).trans (hk3.2 _ _ (by omega) hU' ho)
  rintro e a3 W3 hp
  cases e with
  | normal =>
   obtain ⟨hk3, hi3⟩ := hp
   obtain ⟨hr, hl3, hl4, hk4, hH⟩ := fin none W3 hk3
   exact ⟨_, _, hr, .inl ⟨rfl, ⟨hI.putObj _ hi3 (by omega) hl3 rfl, hl4, hk4⟩, hH⟩⟩
  | ret =>
   obtain ⟨hk3, hi3⟩ := hp
   obtain ⟨hr, hl3, hl4, hk4, hH⟩ := fin (some .ret) W3 hk3
   exact ⟨_, _, hr, .inr ⟨rfl, ⟨.ret, (hIx _).putObj _ hi3 (by omega) hl3 rfl, hl4, hk4⟩, hH⟩⟩
  | exit id =>
   obtain ⟨hk3, hi3⟩ := hp
   obtain ⟨hr, hl3, hl4, hk4, hH⟩ := fin (some (.exit id)) W3 hk3
   exact ⟨_, _, hr, .inr ⟨rfl, ⟨.exit id, (hIx _).putObj _ hi3 (by omega) hl3 rfl, hl4, hk4⟩, hH⟩⟩
  | goto t =>
   obtain ⟨hk3, hi3⟩ := hp
   obtain ⟨hr, hl3, hl4, hk4, hH⟩ := fin (some (.goto t)) W3 hk3
   exact ⟨_, _, hr, .inr ⟨rfl, ⟨.goto t, (hIx _).putObj _ hi3 (by omega) hl3 rfl, hl4, hk4⟩, hH⟩⟩
  | panic ch => exact hp.elim
  | outgrown => exact hp.elim
 ·-- behind the iterator
  rintro e W2 ⟨⟨v, rfl⟩, ⟨hi, hl, hk⟩ | ⟨k, hkN, c, hi, hl, hk⟩⟩
  ·have hend := run_endLoop (P := P) hl (by rw [hrc]; simp)
   rw [hrc] at hend
   exact ⟨none, _, hend, hdone _ _ (Nat.le_refl _) (hI.putObj _ hi (by omega) hl rfl) ((World.putObj_heap_other (by omega)).trans hk)⟩
  ·have hend := run_endLoop (P := P) hl (by rw [hrc]; simp)
   rw [hrc] at hend
   exact ⟨some c, _, hend, hstop _ c k _ (Nat.le_refl _) hkN ((hIx c).putObj _ hi (by omega) hl rfl) ((World.putObj_heap_other (by omega)).trans hk)⟩
theorem wpIn_range_paN {g : Operand} {ps : Array Tmp} {assign body : Code} {Q : Exit → Act → World → Prop} {a : Act} {w : World}
  {l₀ : Nat} {r₀ : Loop} (hro : F.round = some l₀) (hl₀ : w.heap[l₀]? = some (.loop r₀)) (h1 : 1 ≤ n) {gf : Nat} {lb : Array Value} (hg : a.eval g = .func (.func gf) #[] lb) (hFg : F.fn gf) (eg : ∀ args w, (callFunc gf args).run P w = .ok (.enter gf args) w)
  {encs : Nat → Array Value} {N : Nat} (E : TypeId) (I : Nat → World → Prop) (Ix : Code → Nat → World → Prop) (hseq : SeqPx E F (n - 1) P gf lb encs I N w.heap.size) (hps : ∀ x, (encs x).size = ps.size)
  (hI : OwnFrom w.heap.size I) (hIx : ∀ c, OwnFrom w.heap.size (Ix c)) (h0 : I 0 w) (ob : Nat → Obj) (hob : ∀ x, (ob x).isCells = true) (a₁ : Nat → Nat → Act)
  (hassign : ∀ (l : Nat) (x : Nat) (W : World) (K : Act → World → Prop), K (a₁ x W.heap.size) (W.alloc (ob x)) →
   assign.wpIn (F.inRound l) (n - 1 - 1) P (Exit.then K (fun _ _ _ => False)) { tmps := (ps.zip (encs x)).foldl (fun t (p, v) => t.setIfInBounds p v) a.tmps, defers := [] } W)
  (hbody : ∀ (l k s : Nat) (W : World), k < N → I k W → w.heap.size ≤ s → W.heap[s]? = some (ob k) → body.wpIn (F.inRound l) (n - 1 - 1) P (pxPost E I Ix k w.heap.size W) (a₁ k s) W)
  (hdone : ∀ (W : World), I N W → Q .normal a W)
  (hstop : ∀ (c : Code) (k : Nat) (W : World), k < N → Ix c k W → c.wpIn F n P Q a W) :
  (Code.rangeFunc g ps assign body).wpIn F n P Q a w := by
 refine wpIn_rangeFunc ?_
 intro fn hfn
 rw [hro]
 obtain ⟨rc, hrc⟩ : ∃ rc : LoopState → Option Code → Loop, rc = fun st pe => { state := st, pending := pe, fn, tmps := a.tmps, params := ps, assign, body, defers := r₀.defers } := ⟨_, rfl⟩
 obtain ⟨W1, hW1⟩ : ∃ W1, W1 = w.alloc (.loop (rc .ready none)) := ⟨_, rfl⟩
 have rec1 : W1.heap[w.heap.size]? = some (.loop (rc .ready none)) := by rw [hW1]; exact World.alloc_heap_new w _
 have inv1 : I 0 W1 := by rw [hW1]; exact hI.alloc _ h0
 have siz1 : w.heap.size + 1 ≤ W1.heap.size := by rw [hW1]; simp
 refine ⟨w.heap.size, [], W1, { target := .fn (.func gf) lb, args := #[.func (.yield w.heap.size) #[] #[]] }, W1, gf, #[.func (.yield w.heap.size) #[] #[]] ++ lb, W1, ?_, ?_, ?_, ?_, fun _ => h1, ?_⟩
 ·rw [hW1, hrc]; exact run_enterLoop_inner hl₀ _ _ _ _ _
 ·simp only [resolve, hg]
  simp [go_sem]
 ·intro f' hf'
  simp [Target.leads] at hf'
  exact hf' ▸ hFg
 ·simp [invoke, go_sem, eg]
 have keep : ∀ {A B : World} {row : Option Nat} {k : Nat} {o : Obj}, A.grownBy B row → (∀ r, row = some r → W1.heap.size ≤ r ∧ ∃ o : Obj, A.heap[r]? = some o ∧ o.isCells = false) → k < w.heap.size + 1 → A.heap[k]? = some o → B.heap[k]? = some o := by
  intro A B row k o hgr hr hk ho
  exact (hgr.block _ (ags ho).1 (fun e => by have := (hr _ e.symm).1; omega)).trans ho
 have hw : ∀ {A : World} {row : Option Nat}, (∀ r, row = some r → W1.heap.size ≤ r ∧ ∃ o : Obj, A.heap[r]? = some o ∧ o.isCells = false) → ∀ r, row = some r → w.heap.size ≤ r ∧ ∃ o : Obj, A.heap[r]? = some o ∧ o.isCells = false := by
  intro A row hr r e
  obtain ⟨hB, ho⟩ := hr r e
  exact ⟨by omega, ho⟩
 refine (hseq (w.heap.size) (fun k W => I k W ∧ W.heap[w.heap.size]? = some (.loop (rc .ready none)))
  (fun k W => ∃ c, Ix c k W ∧ W.heap[w.heap.size]? = some (.loop (rc .done (some c)))) W1 (by omega) ?_ ?_ (fun _ _ h => h.1) ?_ ⟨inv1, rec1⟩).mono ?_
 ·intro s A B row hs hgr hr
  exact ⟨hI s A B row hs.1 hgr (hw hr), keep hgr hr (by omega) hs.2⟩
 ·intro s A B row hs hgr hr
  obtain ⟨c, hc, h2⟩ := hs
  exact ⟨c, hIx c s A B row hc hgr (hw hr), keep hgr hr (by omega) h2⟩
 ·-- a round
  rintro k W hkN ⟨hi, hl⟩
  have hlt : w.heap.size < W.heap.size := (ags hl).1
  have hy := run_yield (P := P) (args := encs k) hl (by rw [hrc]; exact hps k)
  rw [hrc] at hy
  have hl' : (W.alloc (ob k)).heap[w.heap.size]? = some (.loop (rc .ready none)) := (Below.heap_alloc _ _ _ (by omega)).trans hl
  have hlt' : w.heap.size < (W.alloc (ob k)).heap.size := (ags hl').1
  obtain ⟨U, hU⟩ : ∃ U, U = (W.alloc (ob k)).putObj (w.heap.size) (.loop { rc .ready none with state := .busy }) := ⟨_, rfl⟩
  have recU : U.heap[w.heap.size]? = some (.loop { rc .ready none with state := .busy }) := by rw [hU]; exact World.putObj_heap_same hlt'
  have invU : I k U := by rw [hU]; exact hI.putObj _ (hI.alloc _ hi) (by omega) hl' rfl
  have boxU : U.heap[W.heap.size]? = some (ob k) := by rw [hU]; exact (World.putObj_heap_other (by omega)).trans (World.alloc_heap_new _ _)
  have h9 : U.heap.size = W.heap.size + 1 := by rw [hU]; simp [World.putObj]
  refine ⟨fn, _, assign, body, hy, roundIn_of_wpIn hfn (hassign _ k W _ ⟨_, run_beginRound hl' (by rw [hrc]), ?_⟩)⟩
  rw [← hU]
  refine wpIn_mono (hbody _ k W.heap.size U hkN invU (by omega) boxU) ?_
  have fin : ∀ (jump : Option Code) (W3 : World), HiKept E w.heap.size U W3 →
    (Instr.endRound (w.heap.size) jump).run P W3 = .ok (.bool jump.isNone) (W3.putObj (w.heap.size) (.loop (rc (if jump.isNone then .ready else .done) jump))) ∧
    W3.heap[w.heap.size]? = some (.loop { rc .ready none with state := .busy }) ∧
    (W3.putObj (w.heap.size) (.loop (rc (if jump.isNone then .ready else .done) jump))).heap[w.heap.size]? = some (.loop (rc (if jump.isNone then .ready else .done) jump)) ∧
    HiKept E W1.heap.size W (W3.putObj (w.heap.size) (.loop (rc (if jump.isNone then .ready else .done) jump))) := fun jump W3 hk3 => by
   have rec3 := hk3.2 _ _ (by omega) recU rfl
   have hend := run_endRound (P := P) jump rec3
   have lt3 : w.heap.size < W3.heap.size := (ags rec3).1
   rw [hrc] at hend rec3
   refine ⟨by rw [hrc]; exact hend, by rw [hrc]; exact rec3, World.putObj_heap_same lt3, ?_, ?_⟩
   ·have h8 := hk3.1
    simp only [World.putObj, Array.size_setIfInBounds]
    omega
   ·intro j o hjB hjl ho
    have hU' : U.heap[j]? = some o := by rw [hU]; exact (World.putObj_heap_other (by omega)).trans ((Below.heap_alloc _ _ _ (ags hjl).1).trans hjl)
    exact (World.putObj_heap_other (by omega)).trans (hk3.2 _ _ (by omega) hU' ho)
  rintro e a3 W3 hp
  cases e with
  | normal =>
   obtain ⟨hk3, hi3⟩ := hp
   obtain ⟨hr, hl3, hl4, hH⟩ := fin none W3 hk3
   exact ⟨_, _, hr, .inl ⟨rfl, ⟨hI.putObj _ hi3 (by omega) hl3 rfl, hl4⟩, hH⟩⟩
  | ret =>
   obtain ⟨hk3, hi3⟩ := hp
   obtain ⟨hr, hl3, hl4, hH⟩ := fin (some .ret) W3 hk3
   exact ⟨_, _, hr, .inr ⟨rfl, ⟨.ret, (hIx _).putObj _ hi3 (by omega) hl3 rfl, hl4⟩, hH⟩⟩
  | exit id =>
   obtain ⟨hk3, hi3⟩ := hp
   obtain ⟨hr, hl3, hl4, hH⟩ := fin (some (.exit id)) W3 hk3
   exact ⟨_, _, hr, .inr ⟨rfl, ⟨.exit id, (hIx _).putObj _ hi3 (by omega) hl3 rfl, hl4⟩, hH⟩⟩
  | goto t =>
   obtain ⟨hk3, hi3⟩ := hp
   obtain ⟨hr, hl3, hl4, hH⟩ := fin (some (.goto t)) W3 hk3
   exact ⟨_, _, hr, .inr ⟨rfl, ⟨.goto t, (hIx _).putObj _ hi3 (by omega) hl3 rfl, hl4⟩, hH⟩⟩
  | panic ch => exact hp.elim
  | outgrown => exact hp.elim
 ·-- behind the iterator
  rintro e W2 ⟨⟨v, rfl⟩, ⟨hi, hl⟩ | ⟨k, hkN, c, hi, hl⟩⟩
  ·have hend := run_endLoop (P := P) hl (by rw [hrc]; simp)
   rw [hrc] at hend
   exact ⟨none, _, hend, hdone _ (hI.putObj _ hi (by omega) hl rfl)⟩
  ·have hend := run_endLoop (P := P) hl (by rw [hrc]; simp)
   rw [hrc] at hend
   exact ⟨some c, _, hend, hstop c k _ hkN ((hIx c).putObj _ hi (by omega) hl rfl)⟩
end
end Go.Proofs.YtekllgejmgoajaaDoor
