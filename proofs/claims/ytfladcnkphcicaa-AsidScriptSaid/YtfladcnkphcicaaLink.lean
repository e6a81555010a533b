/- A range over an iterator whose rounds turn what the iterator reads: the iterator may lean on what each round leaves. -/
import Derived.Test.YtfladcnkphcicaaNil
namespace Go.Proofs.Ytfladcnkphcicaa
set_option linter.unusedVariables false
open Go.RowKit Go.Shelf
variable {P : Program} {F : Fence} {n : Nat}

/-- What an iterator owes where it may lean on I: rounds never leave the loop. -/
def SeqLinked {α : Type} (F : Fence) (n : Nat) (P : Program) (g : Nat) (lb : Array Value) (encs : α → Array Value) (V : α → Prop) (I : List α → World → Prop) (S : List α → Prop) (N B : Nat) : Prop :=
  ∀ (l : Nat) (J : List α → World → Prop) (W : World), B ≤ W.heap.size → AbidesFrom W.heap.size J → (∀ pre W1, J pre W1 → I pre W1) →
    (∀ pre x W1, V x → J pre W1 → pre.length < N → YieldAt F (n - 1) P l (encs x) W1 fun e W' => e = .returned (.bool true) ∧ J (pre ++ [x]) W') →
    J [] W → CallsIn F n P g (#[.func (.yield l) #[] #[]] ++ lb) W fun e W' => (∃ v, e = .returned v) ∧ ∃ xs, S xs ∧ J xs W'
theorem wpIn_range_linked {α : Type} {g : Operand} {ps : Array Tmp} {assign body : Code} {Q : Exit → Act → World → Prop} {a : Act} {w : World}
    (hro : F.round = none) (h1 : 1 ≤ n) {gf : Nat} {lb : Array Value} (hg : a.eval g = .func (.func gf) #[] lb) (hFg : F.fn gf) (eg : ∀ args w, (callFunc gf args).run P w = .ok (.enter gf args) w)
    {encs : α → Array Value} {V : α → Prop} {S : List α → Prop} {N : Nat} (I : List α → World → Prop) (hseq : SeqLinked F (n - 1) P gf lb encs V I S N w.heap.size) (hps : ∀ x, (encs x).size = ps.size)
    (hI : OwnFrom w.heap.size I) (h0 : I [] w) (a₁ : α → Act)
    (hassign : ∀ (l : Nat) (x : α) (W : World) (K : Act → World → Prop), K (a₁ x) W →
      assign.wpIn (F.inRound l) (n - 1 - 1) P (Exit.then K (fun _ _ _ => False)) { tmps := (ps.zip (encs x)).foldl (fun t (p, v) => t.setIfInBounds p v) a.tmps, defers := [] } W)
    (hbody : ∀ (l : Nat) (pre : List α) (x : α) (W : World), V x → I pre W → pre.length < N → body.wpIn (F.inRound l) (n - 1 - 1) P (fun e _ W' => e = .normal ∧ KeepsOthers W W' ∧ I (pre ++ [x]) W') (a₁ x) W)
    (hdone : ∀ (D : Nat) (xs : List α) (W : World), w.heap.size ≤ D → S xs → I xs W → W.heap[D]? = some (.deferred (some [])) → Q .normal { a with defers := { target := .collected D, args := #[] } :: a.defers } W) :
    (Code.rangeFunc g ps assign body).wpIn F n P Q a w := by
  refine wpIn_rangeFunc ?_
  intro fn hfn
  rw [hro]
  -- the loop's record, by its state
  obtain ⟨rc, hrc⟩ : ∃ rc : LoopState → Loop, rc = fun st => { state := st, pending := none, fn, tmps := a.tmps, params := ps, assign, body, defers := w.heap.size } := ⟨_, rfl⟩
  have hent := run_enterLoop_outer (P := P) (w := w) fn a.tmps ps assign body
  obtain ⟨W1, hW1⟩ : ∃ W1, W1 = (w.alloc (.deferred (some []))).alloc (.loop (rc .ready)) := ⟨_, rfl⟩
  have rec1 : W1.heap[w.heap.size + 1]? = some (.loop (rc .ready)) := by
    have e := World.alloc_heap_new (w.alloc (.deferred (some []))) (.loop (rc .ready))
    rw [World.size_alloc] at e
    rw [hW1]; exact e
  have def1 : W1.heap[w.heap.size]? = some (.deferred (some [])) := by
    rw [hW1, Below.heap_alloc _ _ _ (by simp)]
    exact World.alloc_heap_new w _
  have inv1 : I [] W1 := by rw [hW1]; exact hI.alloc _ (hI.alloc _ h0)
  have siz1 : w.heap.size + 2 ≤ W1.heap.size := by rw [hW1]; simp
  refine ⟨w.heap.size + 1, [{ target := .collected w.heap.size, args := #[] }], W1, { target := .fn (.func gf) lb, args := #[.func (.yield (w.heap.size + 1)) #[] #[]] }, W1, gf, #[.func (.yield (w.heap.size + 1)) #[] #[]] ++ lb, W1, ?_, ?_, ?_, ?_, fun _ => h1, ?_⟩
  · rw [hW1, hrc]; exact hent
  · simp only [resolve, hg]
    simp [go_sem]
  · intro f' hf'
    simp [Target.leads] at hf'
    exact hf' ▸ hFg
  · simp [invoke, go_sem, eg]
  refine (hseq (w.heap.size + 1) (fun pre W => I pre W ∧ W.heap[w.heap.size + 1]? = some (.loop (rc .ready)) ∧ W.heap[w.heap.size]? = some (.deferred (some []))) W1 (by omega) ?_ (fun _ _ h => h.1) ?_ ⟨inv1, rec1, def1⟩).mono ?_
  · -- turns of walks beyond leave all three
    intro s A B row hs hgr hr
    have hw : ∀ r, row = some r → w.heap.size ≤ r ∧ ∃ o : Obj, A.heap[r]? = some o ∧ o.isCells = false := fun r e => by
      obtain ⟨hB, o, ho, hk⟩ := hr r e
      exact ⟨by omega, o, ho, Obj.not_cells_of_walk hk⟩
    exact ⟨hI s A B row hs.1 hgr hw, (grownBy_keeps hgr (fun r e => (hr r e).2) hs.2.1 rfl).trans hs.2.1, (grownBy_keeps hgr (fun r e => (hr r e).2) hs.2.2 rfl).trans hs.2.2⟩
  · -- a round
    rintro pre x W hv ⟨hi, hl, hk⟩ hlen
    have hlt : w.heap.size + 1 < W.heap.size := (Array.getElem?_eq_some_iff.1 hl).1
    have hy := run_yield (P := P) (args := encs x) hl (by rw [hrc]; exact hps x)
    rw [hrc] at hy
    obtain ⟨U, hU⟩ : ∃ U, U = W.putObj (w.heap.size + 1) (.loop { rc .ready with state := .busy }) := ⟨_, rfl⟩
    have recU : U.heap[w.heap.size + 1]? = some (.loop { rc .ready with state := .busy }) := by rw [hU]; exact World.putObj_heap_same hlt
    have defU : U.heap[w.heap.size]? = some (.deferred (some [])) := by rw [hU]; exact (World.putObj_heap_other (by omega)).trans hk
    have invU : I pre U := by rw [hU]; exact hI.putObj _ hi (by omega) hl rfl
    refine ⟨fn, _, assign, body, hy, roundIn_of_wpIn hfn (hassign _ x W _ ⟨_, run_beginRound hl (by rw [hrc]), ?_⟩)⟩
    rw [← hU]
    refine wpIn_mono (hbody _ pre x U hv invU hlen) ?_
    rintro e a3 W3 ⟨rfl, hk3, hi3⟩
    have rec3 := hk3.same _ _ recU rfl
    have def3 := hk3.same _ _ defU rfl
    have hend := run_endRound (P := P) none rec3
    have lt3 : w.heap.size + 1 < W3.heap.size := (Array.getElem?_eq_some_iff.1 rec3).1
    rw [hrc] at hend rec3
    refine ⟨_, _, hend, rfl, ?_, ?_, ?_⟩
    · exact hI.putObj _ hi3 (by omega) rec3 rfl
    · rw [hrc]; exact World.putObj_heap_same lt3
    · exact (World.putObj_heap_other (by omega)).trans def3
  · -- behind the iterator
    rintro e W2 ⟨⟨v, rfl⟩, xs, hS, hi, hl, hk⟩
    have hend := run_endLoop (P := P) hl (by rw [hrc]; simp)
    rw [hrc] at hend
    exact ⟨none, _, hend, hdone _ xs _ (Nat.le_refl _) hS (hI.putObj _ hi (by omega) hl rfl) ((World.putObj_heap_other (by omega)).trans hk)⟩
end Go.Proofs.Ytfladcnkphcicaa
