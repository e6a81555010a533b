import Derived.Test.YtnjdljjmengjbaaDoorPkc
import Derived.Test.YtnjdljjmengjbaaDoorPkh
import Derived.OwnWalkIn
import Derived.TacticsInMore
import Derived.LoopNIn
import Derived.LoopIn
import Derived.Stop.RegionWithIn
import Derived.RangeFuncNested
import Derived.RangeFuncBound
import Derived.RangeFuncCalls
import Derived.RangeFuncFrom
import Derived.RangeFuncLeaves
import Derived.BigQuiet
import Derived.Deep.RegionHeld3
namespace Go.Proofs.YtnjdljjmengjbaaDoor
/- A range over an iterator whose rounds may turn the one row that a box has: the iterator's own boxes may be of the row's type. -/
section
set_option linter.unusedVariables false
open Go.RowKit Go.Shelf
variable {P : Program} {F : Fence} {n : Nat}

/-- Block k is the row that the box pB has. -/
def OwnAt (A : World) (pB k : Nat) : Prop := ∃ v, A.cell? ⟨pB, 0, none⟩ = some v ∧ v.ownBlock = some k
theorem OwnAt.same {A A' : World} {pB k : Nat} (h : A'.heap[pB]? = A.heap[pB]?) : OwnAt A' pB k ↔ OwnAt A pB k := by
  unfold OwnAt
  rw [World.cell?_of_block h]
/-- What lies at or above B, the row of pB apart, is as it was. -/
def HiKeptX (E : TypeId) (pB B : Nat) (A A' : World) : Prop := A.heap.size ≤ A'.heap.size ∧ ∀ (k : Nat) (o : Obj), B ≤ k → A.heap[k]? = some o → (o.rowOf E = false ∨ ¬ OwnAt A pB k) → A'.heap[k]? = some o
theorem HiKeptX.mono {E : TypeId} {pB B B' : Nat} {A A' : World} (h : HiKeptX E pB B A A') (hb : B ≤ B') : HiKeptX E pB B' A A' := ⟨h.1, fun k o hk => h.2 k o (by omega)⟩
/-- It abides more memory, and the turn of a block at or above B that is not the row of pB. -/
def OwnFromX (E : TypeId) (pB B : Nat) (I : Nat → World → Prop) : Prop :=
  ∀ s W W' row, I s W → W.grownBy W' row → (∀ r, row = some r → B ≤ r ∧ ∃ o : Obj, W.heap[r]? = some o ∧ (o.rowOf E = false ∨ ¬ OwnAt W pB r)) → I s W'
theorem OwnFromX.putObj {E : TypeId} {pB B : Nat} {I : Nat → World → Prop} (h : OwnFromX E pB B I) {s : Nat} {W : World} {l : Nat} {o : Obj} (o' : Obj) (hs : I s W) (hB : B ≤ l) (hl : W.heap[l]? = some o) (ho : o.rowOf E = false) : I s (W.putObj l o') :=
  h s W _ (some l) hs (grownBy_putObj' W l o') (fun r e => by cases e; exact ⟨hB, o, hl, .inl ho⟩)
theorem OwnFromX.alloc {E : TypeId} {pB B : Nat} {I : Nat → World → Prop} (h : OwnFromX E pB B I) {s : Nat} {W : World} (o : Obj) (hs : I s W) : I s (W.alloc o) :=
  h s W _ none hs (World.grownBy_alloc W o none) (fun r e => by cases e)
theorem OwnFromX.below {E : TypeId} {pB B : Nat} {I : Nat → World → Prop} (h : OwnFromX E pB B I) {s : Nat} {W W' : World} (hb : Below W.heap.size W W') (hs : I s W) : I s W' :=
  h s W W' none hs ⟨hb.os, hb.tape, hb.output, hb.size, fun k hk _ => hb.block k hk⟩ (fun r e => by cases e)
theorem HiKeptX.drew {E : TypeId} {pB B : Nat} {a b : World} (h : HiKeptX E pB B a b) : HiKeptX E pB B a b.drew := h
/-- What an iterator of N things owes: it yields them in their order, the k-th as encs k; a round may leave. -/
def SeqPy (E : TypeId) (pB : Nat) (F : Fence) (n : Nat) (P : Program) (g : Nat) (lb : Array Value) (encs : Nat → Array Value) (I : Nat → World → Prop) (N B : Nat) : Prop :=
  ∀ (l : Nat) (J Jx : Nat → World → Prop) (W : World), B ≤ W.heap.size → OwnFromX E pB W.heap.size J → OwnFromX E pB W.heap.size Jx → (∀ k W1, J k W1 → I k W1) →
    (∀ k W1, k < N → J k W1 → YieldAt F (n - 1) P l (encs k) W1 fun e W' => (e = .returned (.bool true) ∧ J (k + 1) W' ∧ HiKeptX E pB W.heap.size W1 W') ∨ (e = .returned (.bool false) ∧ Jx k W' ∧ HiKeptX E pB W.heap.size W1 W')) →
    J 0 W → CallsIn F n P g (#[.func (.yield l) #[] #[]] ++ lb) W fun e W' => (∃ v, e = .returned v) ∧ (J N W' ∨ ∃ k, k < N ∧ Jx k W')
/-- How a round may be left. -/
def pyPost (E : TypeId) (pB : Nat) (I : Nat → World → Prop) (Ix : Code → Nat → World → Prop) (k B : Nat) (W : World) : Exit → Act → World → Prop
  | .normal, _, W' => HiKeptX E pB B W W' ∧ I (k + 1) W'
  | .ret, _, W' => HiKeptX E pB B W W' ∧ Ix .ret k W'
  | .exit id, _, W' => HiKeptX E pB B W W' ∧ Ix (.exit id) k W'
  | .goto t, _, W' => HiKeptX E pB B W W' ∧ Ix (.goto t) k W'
  | .panic _, _, _ => False
  | .outgrown, _, _ => False
theorem wpIn_range_py {g : Operand} {ps : Array Tmp} {assign body : Code} {Q : Exit → Act → World → Prop} {a : Act} {w : World}
    (hro : F.round = none) (h1 : 1 ≤ n) {gf : Nat} {lb : Array Value} (hg : a.eval g = .func (.func gf) #[] lb) (hFg : F.fn gf) (eg : ∀ args w, (callFunc gf args).run P w = .ok (.enter gf args) w)
    {encs : Nat → Array Value} {N : Nat} (E : TypeId) (pB : Nat) (hpB : pB < w.heap.size) (I : Nat → World → Prop) (Ix : Code → Nat → World → Prop) (hseq : SeqPy E pB F (n - 1) P gf lb encs I N w.heap.size) (hps : ∀ x, (encs x).size = ps.size)
    (hI : OwnFromX E pB w.heap.size I) (hIx : ∀ c, OwnFromX E pB w.heap.size (Ix c)) (h0 : I 0 w) (a₁ : Nat → Act)
    (hassign : ∀ (l : Nat) (x : Nat) (W : World) (K : Act → World → Prop), K (a₁ x) W →
      assign.wpIn (F.inRound l) (n - 1 - 1) P (Exit.then K (fun _ _ _ => False)) { tmps := (ps.zip (encs x)).foldl (fun t (p, v) => t.setIfInBounds p v) a.tmps, defers := [] } W)
    (hbody : ∀ (l k : Nat) (W : World), k < N → I k W → body.wpIn (F.inRound l) (n - 1 - 1) P (pyPost E pB I Ix k w.heap.size W) (a₁ k) W)
    (hdone : ∀ (D : Nat) (W : World), w.heap.size ≤ D → I N W → W.heap[D]? = some (.deferred (some [])) → Q .normal { a with defers := { target := .collected D, args := #[] } :: a.defers } W)
    (hstop : ∀ (D : Nat) (c : Code) (k : Nat) (W : World), w.heap.size ≤ D → k < N → Ix c k W → W.heap[D]? = some (.deferred (some [])) → c.wpIn F n P Q { a with defers := { target := .collected D, args := #[] } :: a.defers } W) :
    (Code.rangeFunc g ps assign body).wpIn F n P Q a w := by
  refine wpIn_rangeFunc ?_
  intro fn hfn
  rw [hro]
  obtain ⟨rc, hrc⟩ : ∃ rc : LoopState → Option Code → Loop, rc = fun st pe => { state := st, pending := pe, fn, tmps := a.tmps, params := ps, assign, body, defers := w.heap.size } := ⟨_, rfl⟩
  have hent := run_enterLoop_outer (P := P) (w := w) fn a.tmps ps assign body
  obtain ⟨W1, hW1⟩ : ∃ W1, W1 = (w.alloc (.deferred (some []))).alloc (.loop (rc .ready none)) := ⟨_, rfl⟩
  have rec1 : W1.heap[w.heap.size + 1]? = some (.loop (rc .ready none)) := by
    have e := World.alloc_heap_new (w.alloc (.deferred (some []))) (.loop (rc .ready none))
    rw [World.size_alloc] at e
    rw [hW1]; exact e
  have def1 : W1.heap[w.heap.size]? = some (.deferred (some [])) := by
    rw [hW1, Below.heap_alloc _ _ _ (by simp)]
    exact World.alloc_heap_new w _
  have inv1 : I 0 W1 := by rw [hW1]; exact hI.alloc _ (hI.alloc _ h0)
  have siz1 : w.heap.size + 2 ≤ W1.heap.size := by rw [hW1]; simp
  refine ⟨w.heap.size + 1, [{ target := .collected w.heap.size, args := #[] }], W1, { target := .fn (.func gf) lb, args := #[.func (.yield (w.heap.size + 1)) #[] #[]] }, W1, gf, #[.func (.yield (w.heap.size + 1)) #[] #[]] ++ lb, W1, ?_, ?_, ?_, ?_, fun _ => h1, ?_⟩
  · rw [hW1, hrc]; exact hent
  · simp only [resolve, hg]
    simp [go_sem]
  · intro f' hf'
    simp [Target.leads] at hf'
    exact hf' ▸ hFg
  · simp [invoke, go_sem, eg]
  have keep : ∀ {A B : World} {row : Option Nat} {k : Nat} {o : Obj}, A.grownBy B row → (∀ r, row = some r → W1.heap.size ≤ r ∧ ∃ o : Obj, A.heap[r]? = some o ∧ (o.rowOf E = false ∨ ¬ OwnAt A pB r)) → k < w.heap.size + 2 → A.heap[k]? = some o → B.heap[k]? = some o := by
    intro A B row k o hgr hr hk ho
    exact (hgr.block _ (Array.getElem?_eq_some_iff.1 ho).1 (fun e => by have := (hr _ e.symm).1; omega)).trans ho
  have hw : ∀ {A : World} {row : Option Nat}, (∀ r, row = some r → W1.heap.size ≤ r ∧ ∃ o : Obj, A.heap[r]? = some o ∧ (o.rowOf E = false ∨ ¬ OwnAt A pB r)) → ∀ r, row = some r → w.heap.size ≤ r ∧ ∃ o : Obj, A.heap[r]? = some o ∧ (o.rowOf E = false ∨ ¬ OwnAt A pB r) := by
    intro A row hr r e
    obtain ⟨hB, ho⟩ := hr r e
    exact ⟨by omega, ho⟩
  refine (hseq (w.heap.size + 1) (fun k W => I k W ∧ W.heap[w.heap.size + 1]? = some (.loop (rc .ready none)) ∧ W.heap[w.heap.size]? = some (.deferred (some [])))
    (fun k W => ∃ c, Ix c k W ∧ W.heap[w.heap.size + 1]? = some (.loop (rc .done (some c))) ∧ W.heap[w.heap.size]? = some (.deferred (some []))) W1 (by omega) ?_ ?_ (fun _ _ h => h.1) ?_ ⟨inv1, rec1, def1⟩).mono ?_
  · intro s A B row hs hgr hr
    exact ⟨hI s A B row hs.1 hgr (hw hr), keep hgr hr (by omega) hs.2.1, keep hgr hr (by omega) hs.2.2⟩
  · intro s A B row hs hgr hr
    obtain ⟨c, hc, h2, h3⟩ := hs
    exact ⟨c, hIx c s A B row hc hgr (hw hr), keep hgr hr (by omega) h2, keep hgr hr (by omega) h3⟩
  · -- a round
    rintro k W hkN ⟨hi, hl, hk⟩
    have hlt : w.heap.size + 1 < W.heap.size := (Array.getElem?_eq_some_iff.1 hl).1
    have hy := run_yield (P := P) (args := encs k) hl (by rw [hrc]; exact hps k)
    rw [hrc] at hy
    obtain ⟨U, hU⟩ : ∃ U, U = W.putObj (w.heap.size + 1) (.loop { rc .ready none with state := .busy }) := ⟨_, rfl⟩
    have recU : U.heap[w.heap.size + 1]? = some (.loop { rc .ready none with state := .busy }) := by rw [hU]; exact World.putObj_heap_same hlt
    have defU : U.heap[w.heap.size]? = some (.deferred (some [])) := by rw [hU]; exact (World.putObj_heap_other (by omega)).trans hk
    have invU : I k U := by rw [hU]; exact hI.putObj _ hi (by omega) hl rfl
    have h9 : U.heap.size = W.heap.size := by rw [hU]; simp [World.putObj]
    refine ⟨fn, _, assign, body, hy, roundIn_of_wpIn hfn (hassign _ k W _ ⟨_, run_beginRound hl (by rw [hrc]), ?_⟩)⟩
    rw [← hU]
    refine wpIn_mono (hbody _ k U hkN invU) ?_
    have fin : ∀ (jump : Option Code) (W3 : World), HiKeptX E pB w.heap.size U W3 →
        (Instr.endRound (w.heap.size + 1) jump).run P W3 = .ok (.bool jump.isNone) (W3.putObj (w.heap.size + 1) (.loop (rc (if jump.isNone then .ready else .done) jump))) ∧
        W3.heap[w.heap.size + 1]? = some (.loop { rc .ready none with state := .busy }) ∧
        (W3.putObj (w.heap.size + 1) (.loop (rc (if jump.isNone then .ready else .done) jump))).heap[w.heap.size + 1]? = some (.loop (rc (if jump.isNone then .ready else .done) jump)) ∧
        (W3.putObj (w.heap.size + 1) (.loop (rc (if jump.isNone then .ready else .done) jump))).heap[w.heap.size]? = some (.deferred (some [])) ∧
        HiKeptX E pB W1.heap.size W (W3.putObj (w.heap.size + 1) (.loop (rc (if jump.isNone then .ready else .done) jump))) := fun jump W3 hk3 => by
      have rec3 := hk3.2 _ _ (by omega) recU (.inl rfl)
      have def3 := hk3.2 _ _ (by omega) defU (.inl rfl)
      have hend := run_endRound (P := P) jump rec3
      have lt3 : w.heap.size + 1 < W3.heap.size := (Array.getElem?_eq_some_iff.1 rec3).1
      rw [hrc] at hend rec3
      refine ⟨by rw [hrc]; exact hend, by rw [hrc]; exact rec3, World.putObj_heap_same lt3, (World.putObj_heap_other (by omega)).trans def3, ?_, ?_⟩
      · have h8 := hk3.1
        simp only [World.putObj, Array.size_setIfInBounds]
        omega
      · intro j o hjB hjl ho
        have hU' : U.heap[j]? = some o := by rw [hU]; exact (World.putObj_heap_other (by omega)).trans hjl
        have ho' : o.rowOf E = false ∨ ¬ OwnAt U pB j := by
          refine ho.imp id (fun h => ?_)
          rw [OwnAt.same (show U.heap[pB]? = W.heap[pB]? by rw [hU]; exact World.putObj_heap_other (by omega))]
          exact h
        exact (World.putObj_heap_other (by omega)).trans (hk3.2 _ _ (by omega) hU' ho')
    rintro e a3 W3 hp
    cases e with
    | normal =>
      obtain ⟨hk3, hi3⟩ := hp
      obtain ⟨hr, hl3, hl4, hk4, hH⟩ := fin none W3 hk3
      exact ⟨_, _, hr, .inl ⟨rfl, ⟨hI.putObj _ hi3 (by omega) hl3 rfl, hl4, hk4⟩, hH⟩⟩
    | ret =>
      obtain ⟨hk3, hi3⟩ := hp
      obtain ⟨hr, hl3, hl4, hk4, hH⟩ := fin (some .ret) W3 hk3
      exact ⟨_, _, hr, .inr ⟨rfl, ⟨.ret, (hIx _).putObj _ hi3 (by omega) hl3 rfl, hl4, hk4⟩, hH⟩⟩
    | exit id =>
      obtain ⟨hk3, hi3⟩ := hp
      obtain ⟨hr, hl3, hl4, hk4, hH⟩ := fin (some (.exit id)) W3 hk3
      exact ⟨_, _, hr, .inr ⟨rfl, ⟨.exit id, (hIx _).putObj _ hi3 (by omega) hl3 rfl, hl4, hk4⟩, hH⟩⟩
    | goto t =>
      obtain ⟨hk3, hi3⟩ := hp
      obtain ⟨hr, hl3, hl4, hk4, hH⟩ := fin (some (.goto t)) W3 hk3
      exact ⟨_, _, hr, .inr ⟨rfl, ⟨.goto t, (hIx _).putObj _ hi3 (by omega) hl3 rfl, hl4, hk4⟩, hH⟩⟩
    | panic ch => exact hp.elim
    | outgrown => exact hp.elim
  · -- behind the iterator
    rintro e W2 ⟨⟨v, rfl⟩, ⟨hi, hl, hk⟩ | ⟨k, hkN, c, hi, hl, hk⟩⟩
    · have hend := run_endLoop (P := P) hl (by rw [hrc]; simp)
      rw [hrc] at hend
      exact ⟨none, _, hend, hdone _ _ (Nat.le_refl _) (hI.putObj _ hi (by omega) hl rfl) ((World.putObj_heap_other (by omega)).trans hk)⟩
    · have hend := run_endLoop (P := P) hl (by rw [hrc]; simp)
      rw [hrc] at hend
      exact ⟨some c, _, hend, hstop _ c k _ (Nat.le_refl _) hkN ((hIx c).putObj _ hi (by omega) hl rfl) ((World.putObj_heap_other (by omega)).trans hk)⟩
end
/- package lookup: the iterator over the steps. -/
section
set_option linter.unusedVariables false
set_option linter.unusedSimpArgs false
open Go.ChangeShapes Go.WideShapes Go.ChangeAt Go.RowKit Go.Shelf
attribute [local go_sem] Oper.semAt_some

namespace LkS
theorem wpIn_scope_wide {n : Nat} {P : Program} {c : Code} {Q : Exit → Act → World → Prop} {a : Act} {w : World} (h : c.wpIn Fence.wide n P (Exit.noGoto Q) a w) : (Code.scope c).wpIn Fence.wide n P Q a w :=
  wpIn_wide.2 (wp_scope_straight (wpIn_wide.1 h))
open TabS (Cp Sn zC mayC sizS getR Two Pr SlotsAt)
structure Boxes (w : World) (B0 sb b : Nat) (c : Cp) (a d : Nat) : Prop where
  s : w.cell? ⟨B0, 0, none⟩ = some (.pointer (some ⟨sb, 0, none⟩))
  ar : w.cell? ⟨B0 + 1, 0, none⟩ = some (.pointer (some ⟨b, 0, none⟩))
  c : w.heap[B0 + 2]? = some (.cells c.L.toArray 25 (0, 0))
  ad : w.cell? ⟨B0 + 3, 0, none⟩ = some (.int .u64 a)
  d : w.cell? ⟨B0 + 4, 0, none⟩ = some (.int .i64 d)
  hi : B0 + 4 < w.heap.size
theorem Boxes.call {w w' : World} {B0 sb b : Nat} {c : Cp} {a d : Nat} (h : Boxes w B0 sb b c a d) (hb : Below w.heap.size w w') : Boxes w' B0 sb b c a d := by
  have := h.hi
  exact ⟨(hb.cell (p := ⟨B0, 0, none⟩) (by show B0 < _; omega)).trans h.s, (hb.cell (p := ⟨B0 + 1, 0, none⟩) (by show B0 + 1 < _; omega)).trans h.ar, (hb.block _ (by omega)).trans h.c, (hb.cell (p := ⟨B0 + 3, 0, none⟩) (by show B0 + 3 < _; omega)).trans h.ad, (hb.cell (p := ⟨B0 + 4, 0, none⟩) (by show B0 + 4 < _; omega)).trans h.d, Nat.lt_of_lt_of_le h.hi hb.size⟩
def CapsOk (L : List Sn) : Prop := ∀ x ∈ L, ∀ c ∈ x.l, mayC c = true
theorem getR_mem {L : List Sn} {id ix : Int} {c : Cp} (h : getR L id ix = some c) : ∃ x ∈ L, c ∈ x.l := by
  unfold TabS.getR at h
  split at h
  · split at h
    · rename_i x hx
      exact ⟨x, List.mem_of_getElem? hx, List.mem_of_getElem? h⟩
    · cases h
  · cases h
theorem capN_ok {L : List Sn} (h : CapsOk L) (p : Nx) : mayC (capN L p) = true := by
  unfold capN
  cases hg : getR L p.n p.i with
  | none => decide
  | some c =>
    obtain ⟨x, hx, hc⟩ := getR_mem hg
    exact h x hx c hc
theorem may_e {c : Cp} (hm : mayC c = true) : c.e ≤ 9223372036854775807 := by
  unfold TabS.mayC CX.capB at hm
  split at hm
  · simp only [decide_eq_true_eq] at hm; omega
  · split at hm
    · simp only [Bool.and_eq_true, decide_eq_true_eq] at hm; omega
    · split at hm
      · rename_i h2
        simp only [Bool.and_eq_true, CX.guardB, decide_eq_true_eq] at hm
        have : (2 : Nat) ^ c.f.toNat ≤ 2 ^ 12 := Nat.pow_le_pow_right (by decide) (by omega)
        omega
      · split at hm
        · simp only [Bool.and_eq_true, decide_eq_true_eq] at hm; omega
        · split at hm
          · simp only [Bool.and_eq_true, decide_eq_true_eq] at hm; omega
          · cases hm
/-- What the iterator leans on, where it is at hand. -/
structure Its (W : World) (B0 sb b : Nat) (L : List Sn) (O : List Ob) (c : Cp) (a d pB : Nat) : Prop where
  see : Sees W sb b L O
  bx : Boxes W B0 sb b c a d
  own : ∀ g, OwnAt W pB g → g < W.heap.size
  pl : pB < W.heap.size
abbrev encS (P : List Nx) (k : Nat) : Array Value := #[.agg #[.int .i64 ((P[k]?).getD ⟨0, 0, 0⟩).n, .int .i64 (((P[k]?).getD ⟨0, 0, 0⟩).i : Int)], .int .i64 (((P[k]?).getD ⟨0, 0, 0⟩).l : Int)]
theorem steps_in (n : Nat) (sb b : Nat) (c : Cp) (a d : Nat) (w : World) :
    CallsIn Fence.wide n Tryd.prog 28 #[.pointer (some ⟨sb, 0, none⟩), .pointer (some ⟨b, 0, none⟩), c.V, .int .u64 a, .int .i64 d] w fun e w' => e = .returned (.func (.func 47) #[] #[.pointer (some ⟨w.heap.size + 2, 0, none⟩), .pointer (some ⟨w.heap.size + 4, 0, none⟩), .pointer (some ⟨w.heap.size, 0, none⟩), .pointer (some ⟨w.heap.size + 1, 0, none⟩), .pointer (some ⟨w.heap.size + 3, 0, none⟩)]) ∧ Boxes w' w.heap.size sb b c a d ∧ Below w.heap.size w w' ∧ w'.heap.size = w.heap.size + 5 := by
  refine callsIn_of_wp Tryd.func28 rfl trivial ?_ rfl
  simp only [Tryd.ntmps28, List.size_toArray, List.length_cons, List.length_nil, Nat.reduceAdd, Nat.reduceSub, Array.replicate_succ, Array.replicate_zero, List.push_toArray, List.append_toArray, List.nil_append, List.cons_append]
  gi_wp2
  go_ret
  refine ⟨rfl, ⟨by go_simp, by go_simp, ?_, by go_simp, by go_simp, by simp⟩, bal (bal (bal (bal (bal (Below.refl _ _) _) _) _) _) _, by simp⟩
  have h0 := heap_alloc_new ((w.alloc (.cells #[.pointer (some ⟨sb, 0, none⟩)] 27)).alloc (.cells #[.pointer (some ⟨b, 0, none⟩)] 28)) (.cells c.L.toArray 25)
  rw [Below.heap_alloc _ _ _ (by simp), Below.heap_alloc _ _ _ (by simp)]
  rw [World.size_alloc, World.size_alloc] at h0
  exact h0
theorem cap_free {w : World} {k : Nat} {c : Cp} (h : w.heap[k]? = some (.cells c.L.toArray 25 (0, 0))) : w.frozen? ⟨k, 0, none⟩ = false ∧ w.frozen? ⟨k, 1, none⟩ = false ∧ w.frozen? ⟨k, 2, none⟩ = false ∧ w.frozen? ⟨k, 3, none⟩ = false ∧ w.frozen? ⟨k, 4, none⟩ = false ∧ w.frozen? ⟨k, 5, none⟩ = false ∧ w.frozen? ⟨k, 6, none⟩ = false ∧ w.frozen? ⟨k, 7, none⟩ = false := by
  refine ⟨?_, ?_, ?_, ?_, ?_, ?_, ?_, ?_⟩ <;> simp [World.frozen?, h]
theorem store8 (w : World) (k : Nat) (c d : Cp) (h : w.heap[k]? = some (.cells c.L.toArray 25 (0, 0))) : (setL w k 0 d.L).heap[k]? = some (.cells d.L.toArray 25 (0, 0)) ∧ w.grownBy (setL w k 0 d.L) (some k) := by
  obtain ⟨q1, q2, q3, q4⟩ := setL_rest (m := k) d.L w 0
  refine ⟨?_, ⟨q1, q2, q3, Nat.le_of_eq q4.symm, fun j hj hn => setL_other (fun e => hn (by rw [e])) _ _ _⟩⟩
  have e : putL c.L.toArray 0 d.L = d.L.toArray := by simp [putL, TabS.Cp.L]
  rw [← e]
  exact setL_same (m := k) d.L w 0 _ h
/-- What the loop's round finds. -/
structure ItR (W wr : World) (cB k rest : Nat) (cc : Cp) (P : List Nx) (L : List Sn) (O : List Ob) (a : Nat) (J : Nat → World → Prop) : Prop where
  j : J k wr
  cb : wr.heap[cB]? = some (.cells cc.L.toArray 25 (0, 0))
  sz : W.heap.size < wr.heap.size
  path : ∃ f, rest ≤ f ∧ P = P.take k ++ pathP L O a f cc rest
  kl : k ≤ P.length
  ok : cc.e ≤ 9223372036854775807
theorem ItR.stop {W wr : World} {cB k rest : Nat} {cc : Cp} {P : List Nx} {L : List Sn} {O : List Ob} {a : Nat} {J : Nat → World → Prop} (h : ItR W wr cB k rest cc P L O a J) (h0 : rest = 0 ∨ stepP L O cc a rest = none) : k = P.length := by
  obtain ⟨f, hf, hp⟩ := h.path
  rw [pathP_stop h0, List.append_nil] at hp
  have := congrArg List.length hp
  rw [List.length_take] at this
  have := h.kl
  omega
theorem ItR.go {W wr : World} {cB k rest : Nat} {cc : Cp} {P : List Nx} {L : List Sn} {O : List Ob} {a : Nat} {J : Nat → World → Prop} (h : ItR W wr cB k rest cc P L O a J) (hR : Rad O) (h0 : rest ≠ 0) {p : Nx} (hs : stepP L O cc a rest = some p) : P[k]? = some p ∧ k < P.length ∧ ∃ f, p.l ≤ f ∧ P = P.take (k + 1) ++ pathP L O a f (capN L p) p.l := by
  obtain ⟨f, hf, hp⟩ := h.path
  obtain ⟨f', hf', e⟩ := pathP_go hf h0 hs hR
  rw [e] at hp
  have hk := h.kl
  have hg : P[k]? = some p := by
    rw [hp, List.getElem?_append_right (by rw [List.length_take]; omega), List.length_take, Nat.min_eq_left hk, Nat.sub_self]
    rfl
  refine ⟨hg, (List.getElem?_eq_some_iff.1 hg).1, f', hf', ?_⟩
  rw [List.take_add_one, hg]
  simpa using hp
set_option maxRecDepth 100000 in
set_option maxHeartbeats 2000000 in
theorem steps1_py (n B0 sb b pB N0 : Nat) (L : List Sn) (O : List Ob) (c : Cp) (a d : Nat) (I : Nat → World → Prop) (hR : Rad O) (hC : CapsOk L) (hce : c.e ≤ 9223372036854775807) (ha : a < 2 ^ 64) (hd : d ≤ 12) (hI : ∀ k W, I k W → Its W B0 sb b L O c a d pB) :
    SeqPy 34 pB Fence.wide (n + 1) Tryd.prog 47 #[.pointer (some ⟨B0 + 2, 0, none⟩), .pointer (some ⟨B0 + 4, 0, none⟩), .pointer (some ⟨B0, 0, none⟩), .pointer (some ⟨B0 + 1, 0, none⟩), .pointer (some ⟨B0 + 3, 0, none⟩)] (encS (pathP L O a d c d)) I (pathP L O a d c d).length N0 := by
  intro l J Jx W hB hJ hJx hJI hY h0
  obtain ⟨P, hP⟩ : ∃ P, P = pathP L O a d c d := ⟨_, rfl⟩
  rw [← hP] at hY ⊢
  have HP := Lib.hid hP
  have HJ := Lib.hid hJ
  have HJI := Lib.hid (fun k W1 (h : J k W1) => hI k W1 (hJI k W1 h))
  have HY := Lib.hid hY
  have H0 := Lib.hid h0
  have HC := Lib.hid hC
  have HRR := Lib.hid hR
  have HAA := Lib.hid ha
  have i0 := HJI.out 0 W h0
  obtain ⟨x0, x1, x2, x3, x4, x5, x6, x7⟩ := cap_cells i0.bx.c
  have xd := i0.bx.d
  have HI0 := Lib.hid i0
  have hh4 : B0 + 4 < W.heap.size := i0.bx.hi
  have hh2 : B0 + 2 < W.heap.size := by omega
  have hdI : (d : Int) ≤ 12 := by omega
  clear hP hJ hJI hI hY h0 hC hR ha i0 hJx
  refine callsIn_of_wp Tryd.func47 rfl trivial ?_ rfl
  simp only [Tryd.ntmps47, List.size_toArray, List.length_cons, List.length_nil, Nat.reduceAdd, Nat.reduceSub, Array.replicate_succ, Array.replicate_zero, List.push_toArray, List.append_toArray, List.nil_append, List.cons_append]
  gi_wp2
  refine wpIn_scope_wide ?_
  gi_wp2
  gi_region
  obtain ⟨V, hV⟩ : ∃ V, V = (W.alloc (.cells #[.int .i64 c.a, .int .i64 c.b, .int .i64 c.c, .int .u64 c.d, .int .i64 c.e, .int .i64 c.f, .int .i64 c.g, .int .i64 c.h] 25)).drew := ⟨_, rfl⟩
  have hbV : Below W.heap.size W V := hV ▸ (bal (Below.refl _ _) _).drew
  have hcV : V.heap[W.heap.size]? = some (.cells c.L.toArray 25 (0, 0)) := by rw [hV]; exact heap_alloc_new W _
  rw [← hV]
  have HV0 : Hid (ItR W V W.heap.size 0 d c P L O a J) := Lib.hid ⟨HJ.out.below hbV H0.out, hcV, (Array.getElem?_eq_some_iff.1 hcV).1, ⟨d, Nat.le_refl _, by rw [HP.out]; rfl⟩, Nat.zero_le _, hce⟩
  obtain ⟨cB, hcB⟩ : ∃ cB, cB = W.heap.size := ⟨_, rfl⟩
  rw [← hcB] at HV0 ⊢
  have HCB := Lib.hid hcB
  clear hV hbV hcV hcB x0 x1 x2 x3 x4 x5 x6 x7 xd hh4 hh2 H0 HI0
  gi_wp2
  refine wpIn_label ?_
  gi_wp2
  gi_loopw [8, 9, 10, 11] (fun r _ _ _ wr => ∃ (k rest : Nat) (cc : Cp), rest ≤ 12 ∧ r = .int .i64 rest ∧ Hid (ItR W wr cB k rest cc P L O a J)) (fun r _ _ _ _ => (intOf r).toNat)
  case atStart => exact ⟨0, d, c, hd, rfl, HV0⟩
  case round =>
    obtain ⟨k, rest, cc, hr12, rfl, HO⟩ := hrel
    clear HV0 hce hd hdI
    have i1 := HJI.out k _ HO.out.j
    by_cases h0 : rest = 0
    · subst h0
      have hkP : k = P.length := HO.out.stop (.inl rfl)
      subst hkP
      have HF := Lib.hid HO.out.j
      clear i1 hr12
      gi_wp2
      rw [Exit.noGoto_normal]
      gi_wp2
      go_end0
      exact ⟨⟨_, rfl⟩, .inl HF.out⟩
    · have hr1 : (0 : Int) < rest := by omega
      have hr2 : (rest : Int) ≤ 12 := by omega
      have b0 := i1.bx.s
      have b1 := i1.bx.ar
      have b3 := i1.bx.ad
      obtain ⟨x0, x1, x2, x3, x4, x5, x6, x7⟩ := cap_cells HO.out.cb
      have HS := Lib.hid (step_any _ sb b L O cc a rest i1.see HRR.out HO.out.ok HAA.out hr12)
      have HI1 := Lib.hid i1
      cases hs : stepP L O cc a rest with
      | none =>
        rw [hs] at HS
        have hkP : k = P.length := HO.out.stop (.inr hs)
        have HKP := Lib.hid hkP
        clear hs hkP i1
        gi_wp2_with (refine ⟨trivial, ?_⟩; gi_at_call 48; (with_reducible refine (callsIn_wide.2 HS.out).mono ?_); rintro e w1 ⟨rfl, hb1⟩; have HF := Lib.hid (HJ.out.below (bal hb1 (.cells #[.int .i64 0, .int .i64 0] 34)) HO.out.j); clear hb1)
        obtain rfl := HKP.out
        refine ⟨fun _ h => (by cases h), ?_⟩
        gi_wp2
        go_end0
        exact ⟨⟨_, rfl⟩, .inl HF.out⟩
      | some p =>
        rw [hs] at HS
        obtain ⟨hg, hkl, hnx⟩ := HO.out.go HRR.out h0 hs
        have hlt := (stepP_lt HRR.out hs).1
        have HG := Lib.hid hg
        have HKL := Lib.hid hkl
        have HNX := Lib.hid hnx
        have HLT := Lib.hid hlt
        clear hs i1 hg hkl hnx hlt h0
        gi_wp2_with (refine ⟨trivial, ?_⟩; gi_at_call 48; (with_reducible refine (callsIn_wide.2 HS.out).mono ?_); rintro e w1 ⟨rfl, hb1⟩; have HB2 := Lib.hid (bal hb1 (.cells #[.int .i64 p.n, .int .i64 (p.i : Int)] 34)); have HSB := Lib.hid (heap_alloc_new w1 (.cells #[.int .i64 p.n, .int .i64 (p.i : Int)] 34)); have HZ1 := Lib.hid hb1.size; obtain ⟨fn, tmps, assign, body, hy, hR⟩ := HY.out k _ HKL.out (HJ.out.below HB2.out HO.out.j); rw [encS, HG.out] at hy; (try simp only [Option.getD_some] at hy); have HR := Lib.hid hR; clear hR hb1)
        refine (HR.out.mono (fun e W' h => two_ways (A := fun W' => J (k + 1) W' ∧ HiKeptX 34 pB W.heap.size _ W') (B := fun W' => Jx k W' ∧ HiKeptX 34 pB W.heap.size _ W') h)).mono ?_
        rintro e W' ⟨t, rfl, ht⟩
        cases t with
        | false =>
          have hJx := (ht.2 rfl).1
          have HX := Lib.hid hJx
          clear ht hJx
          gi_wp2
          rw [Exit.noGoto_normal]
          gi_wp2
          first
            | refine bodyPost_ret (results_none rfl _ _ _) rfl ?_
            | go_end0
          exact ⟨⟨_, rfl⟩, .inr ⟨k, HKL.out, HX.out⟩⟩
        | true =>
          obtain ⟨hJ', hK'⟩ := ht.1 rfl
          clear ht
          have i2 := HJI.out _ _ hJ'
          have i1 := HI1.out
          have hwr : cB < (w1.alloc (.cells #[.int .i64 p.n, .int .i64 (p.i : Int)] 34)).heap.size := Nat.lt_of_lt_of_le (Array.getElem?_eq_some_iff.1 HO.out.cb).1 HB2.out.size
          have hcb : W'.heap[cB]? = some (.cells cc.L.toArray 25 (0, 0)) := hK'.2 cB _ (by have := HCB.out; omega) ((HB2.out.block cB (Array.getElem?_eq_some_iff.1 HO.out.cb).1).trans HO.out.cb) (.inl rfl)
          have hsb : W'.heap[w1.heap.size]? = some (.cells #[.int .i64 p.n, .int .i64 (p.i : Int)] 34 (0, 0)) := hK'.2 _ _ (by have := HZ1.out; have := HO.out.sz; omega) HSB.out (.inr (fun hn => by
            rw [OwnAt.same (HB2.out.block pB i1.pl)] at hn
            have := i1.own _ hn
            have := HZ1.out
            omega))
          obtain ⟨k0, k1, -, -⟩ := slot_cells hsb
          have hgt := i2.see.get p.n p.i
          rw [show (getR L p.n (p.i : Int)).getD zC = capN L p from rfl] at hgt
          have HGT := Lib.hid hgt
          have HI2 := Lib.hid i2
          have hW : W.heap.size < W'.heap.size := by have := hK'.1; have := HO.out.sz; have := HB2.out.size; omega
          have HW' := Lib.hid hW
          have HCBX := Lib.hid hcb
          have HJ2 := Lib.hid hJ'
          have c0 := i2.bx.s
          have hok := capN_ok HC.out p
          have HCE := Lib.hid (may_e hok)
          generalize w1.heap.size = sB at *
          generalize capN L p = cn at *
          clear b0 b1 b3 x0 x1 x2 x3 x4 x5 x6 x7 i1 i2 hgt hcb hsb hW hK' hJ' hok hwr
          obtain ⟨x0, x1, x2, x3, x4, x5, x6, x7⟩ := cap_cells HCBX.out
          gi_wp2_with (refine ⟨trivial, ?_⟩; gi_at_call 49; (with_reducible refine (callsIn_wide.2 HGT.out).mono ?_); rintro e w3 ⟨rfl, hb3⟩; have HB3 := Lib.hid hb3; have HCB3 := Lib.hid ((hb3.block cB (Array.getElem?_eq_some_iff.1 HCBX.out).1).trans HCBX.out); clear x0 x1 x2 x3 x4 x5 x6 x7 hb3; obtain ⟨x0, x1, x2, x3, x4, x5, x6, x7⟩ := cap_cells HCB3.out; obtain ⟨f0, f1, f2, f3, f4, f5, f6, f7⟩ := cap_free HCB3.out)
          have hs8 := store8 w3 cB cc cn HCB3.out
          rw [TabS.setL_C] at hs8
          simp only [Nat.zero_add] at hs8
          have HS8 := Lib.hid hs8
          clear hs8
          go_roundw
          case rel =>
            obtain ⟨q1, q2⟩ := HS8.out
            refine ⟨k + 1, p.l, cn, by have := HLT.out; omega, rfl, Lib.hid ⟨?_, q1, ?_, HNX.out, HKL.out, HCE.out⟩⟩
            · exact HJ.out _ _ _ (some cB) (HJ.out.below HB3.out HJ2.out) q2 (fun r e => by cases e; exact ⟨by have := HCB.out; omega, _, HCB3.out, .inl rfl⟩)
            · exact Nat.lt_of_lt_of_le HW'.out (Nat.le_trans HB3.out.size q2.size)
          case measure => have := HLT.out; first | (simp [intOf]; done) | (simp [intOf]; omega)
end LkS
end
/- A range over an iterator, its variable boxed each round. -/
section
set_option linter.unusedVariables false
open Go.RowKit Go.Shelf
variable {P : Program} {F : Fence} {n : Nat}

theorem wpIn_range_pz {g : Operand} {ps : Array Tmp} {assign body : Code} {Q : Exit → Act → World → Prop} {a : Act} {w : World}
    (hro : F.round = none) (h1 : 1 ≤ n) {gf : Nat} {lb : Array Value} (hg : a.eval g = .func (.func gf) #[] lb) (hFg : F.fn gf) (eg : ∀ args w, (callFunc gf args).run P w = .ok (.enter gf args) w)
    {encs : Nat → Array Value} {N : Nat} (E : TypeId) (pB : Nat) (hpB : pB < w.heap.size) (I : Nat → World → Prop) (Ix : Code → Nat → World → Prop) (hseq : SeqPy E pB F (n - 1) P gf lb encs I N w.heap.size) (hps : ∀ x, (encs x).size = ps.size)
    (hI : OwnFromX E pB w.heap.size I) (hIx : ∀ c, OwnFromX E pB w.heap.size (Ix c)) (h0 : I 0 w) (Ax : Nat → Act → World → Prop) (hAx : ∀ (k : Nat) (a' : Act) (A : World) (l : Nat) (o o' : Obj), Ax k a' A → A.heap[l]? = some o → o.isCells = false → Ax k a' (A.putObj l o'))
    (hassign : ∀ (l : Nat) (x : Nat) (W : World) (K : Act → World → Prop), w.heap.size ≤ W.heap.size → (∀ a' W', Ax x a' W' → Below W.heap.size W W' → K a' W') →
      assign.wpIn (F.inRound l) (n - 1 - 1) P (Exit.then K (fun _ _ _ => False)) { tmps := (ps.zip (encs x)).foldl (fun t (p, v) => t.setIfInBounds p v) a.tmps, defers := [] } W)
    (hbody : ∀ (l k : Nat) (W : World) (a' : Act), k < N → I k W → Ax k a' W → body.wpIn (F.inRound l) (n - 1 - 1) P (pyPost E pB I Ix k w.heap.size W) a' W)
    (hdone : ∀ (D : Nat) (W : World), w.heap.size ≤ D → I N W → W.heap[D]? = some (.deferred (some [])) → Q .normal { a with defers := { target := .collected D, args := #[] } :: a.defers } W)
    (hstop : ∀ (D : Nat) (c : Code) (k : Nat) (W : World), w.heap.size ≤ D → k < N → Ix c k W → W.heap[D]? = some (.deferred (some [])) → c.wpIn F n P Q { a with defers := { target := .collected D, args := #[] } :: a.defers } W) :
    (Code.rangeFunc g ps assign body).wpIn F n P Q a w := by
  refine wpIn_rangeFunc ?_
  intro fn hfn
  rw [hro]
  obtain ⟨rc, hrc⟩ : ∃ rc : LoopState → Option Code → Loop, rc = fun st pe => { state := st, pending := pe, fn, tmps := a.tmps, params := ps, assign, body, defers := w.heap.size } := ⟨_, rfl⟩
  have hent := run_enterLoop_outer (P := P) (w := w) fn a.tmps ps assign body
  obtain ⟨W1, hW1⟩ : ∃ W1, W1 = (w.alloc (.deferred (some []))).alloc (.loop (rc .ready none)) := ⟨_, rfl⟩
  have rec1 : W1.heap[w.heap.size + 1]? = some (.loop (rc .ready none)) := by
    have e := World.alloc_heap_new (w.alloc (.deferred (some []))) (.loop (rc .ready none))
    rw [World.size_alloc] at e
    rw [hW1]; exact e
  have def1 : W1.heap[w.heap.size]? = some (.deferred (some [])) := by
    rw [hW1, Below.heap_alloc _ _ _ (by simp)]
    exact World.alloc_heap_new w _
  have inv1 : I 0 W1 := by rw [hW1]; exact hI.alloc _ (hI.alloc _ h0)
  have siz1 : w.heap.size + 2 ≤ W1.heap.size := by rw [hW1]; simp
  refine ⟨w.heap.size + 1, [{ target := .collected w.heap.size, args := #[] }], W1, { target := .fn (.func gf) lb, args := #[.func (.yield (w.heap.size + 1)) #[] #[]] }, W1, gf, #[.func (.yield (w.heap.size + 1)) #[] #[]] ++ lb, W1, ?_, ?_, ?_, ?_, fun _ => h1, ?_⟩
  · rw [hW1, hrc]; exact hent
  · simp only [resolve, hg]
    simp [go_sem]
  · intro f' hf'
    simp [Target.leads] at hf'
    exact hf' ▸ hFg
  · simp [invoke, go_sem, eg]
  have keep : ∀ {A B : World} {row : Option Nat} {k : Nat} {o : Obj}, A.grownBy B row → (∀ r, row = some r → W1.heap.size ≤ r ∧ ∃ o : Obj, A.heap[r]? = some o ∧ (o.rowOf E = false ∨ ¬ OwnAt A pB r)) → k < w.heap.size + 2 → A.heap[k]? = some o → B.heap[k]? = some o := by
    intro A B row k o hgr hr hk ho
    exact (hgr.block _ (Array.getElem?_eq_some_iff.1 ho).1 (fun e => by have := (hr _ e.symm).1; omega)).trans ho
  have hw : ∀ {A : World} {row : Option Nat}, (∀ r, row = some r → W1.heap.size ≤ r ∧ ∃ o : Obj, A.heap[r]? = some o ∧ (o.rowOf E = false ∨ ¬ OwnAt A pB r)) → ∀ r, row = some r → w.heap.size ≤ r ∧ ∃ o : Obj, A.heap[r]? = some o ∧ (o.rowOf E = false ∨ ¬ OwnAt A pB r) := by
    intro A row hr r e
    obtain ⟨hB, ho⟩ := hr r e
    exact ⟨by omega, ho⟩
  refine (hseq (w.heap.size + 1) (fun k W => I k W ∧ W.heap[w.heap.size + 1]? = some (.loop (rc .ready none)) ∧ W.heap[w.heap.size]? = some (.deferred (some [])))
    (fun k W => ∃ c, Ix c k W ∧ W.heap[w.heap.size + 1]? = some (.loop (rc .done (some c))) ∧ W.heap[w.heap.size]? = some (.deferred (some []))) W1 (by omega) ?_ ?_ (fun _ _ h => h.1) ?_ ⟨inv1, rec1, def1⟩).mono ?_
  · intro s A B row hs hgr hr
    exact ⟨hI s A B row hs.1 hgr (hw hr), keep hgr hr (by omega) hs.2.1, keep hgr hr (by omega) hs.2.2⟩
  · intro s A B row hs hgr hr
    obtain ⟨c, hc, h2, h3⟩ := hs
    exact ⟨c, hIx c s A B row hc hgr (hw hr), keep hgr hr (by omega) h2, keep hgr hr (by omega) h3⟩
  · -- a round
    rintro k W hkN ⟨hi, hl, hk⟩
    have hlt : w.heap.size + 1 < W.heap.size := (Array.getElem?_eq_some_iff.1 hl).1
    have hy := run_yield (P := P) (args := encs k) hl (by rw [hrc]; exact hps k)
    rw [hrc] at hy
    refine ⟨fn, _, assign, body, hy, roundIn_of_wpIn hfn (hassign _ k W _ (by omega) (fun a' W2 hax hb2 => ?_))⟩
    have hl2 := (hb2.block _ hlt).trans hl
    have hk2 := (hb2.block _ (by omega)).trans hk
    have hi2 : I k W2 := hI.below hb2 hi
    have hlt2 : w.heap.size + 1 < W2.heap.size := Nat.lt_of_lt_of_le hlt hb2.size
    refine ⟨_, run_beginRound hl2 (by rw [hrc]), ?_⟩
    obtain ⟨U, hU⟩ : ∃ U, U = W2.putObj (w.heap.size + 1) (.loop { rc .ready none with state := .busy }) := ⟨_, rfl⟩
    have recU : U.heap[w.heap.size + 1]? = some (.loop { rc .ready none with state := .busy }) := by rw [hU]; exact World.putObj_heap_same hlt2
    have defU : U.heap[w.heap.size]? = some (.deferred (some [])) := by rw [hU]; exact (World.putObj_heap_other (by omega)).trans hk2
    have invU : I k U := by rw [hU]; exact hI.putObj _ hi2 (by omega) hl2 rfl
    have axU : Ax k a' U := by rw [hU]; exact hAx k a' W2 _ _ _ hax hl2 rfl
    have h9 : U.heap.size = W2.heap.size := by rw [hU]; simp [World.putObj]
    have h7 := hb2.size
    rw [← hU]
    refine wpIn_mono (hbody _ k U a' hkN invU axU) ?_
    have fin : ∀ (jump : Option Code) (W3 : World), HiKeptX E pB w.heap.size U W3 →
        (Instr.endRound (w.heap.size + 1) jump).run P W3 = .ok (.bool jump.isNone) (W3.putObj (w.heap.size + 1) (.loop (rc (if jump.isNone then .ready else .done) jump))) ∧
        W3.heap[w.heap.size + 1]? = some (.loop { rc .ready none with state := .busy }) ∧
        (W3.putObj (w.heap.size + 1) (.loop (rc (if jump.isNone then .ready else .done) jump))).heap[w.heap.size + 1]? = some (.loop (rc (if jump.isNone then .ready else .done) jump)) ∧
        (W3.putObj (w.heap.size + 1) (.loop (rc (if jump.isNone then .ready else .done) jump))).heap[w.heap.size]? = some (.deferred (some [])) ∧
        HiKeptX E pB W1.heap.size W (W3.putObj (w.heap.size + 1) (.loop (rc (if jump.isNone then .ready else .done) jump))) := fun jump W3 hk3 => by
      have rec3 := hk3.2 _ _ (by omega) recU (.inl rfl)
      have def3 := hk3.2 _ _ (by omega) defU (.inl rfl)
      have hend := run_endRound (P := P) jump rec3
      have lt3 : w.heap.size + 1 < W3.heap.size := (Array.getElem?_eq_some_iff.1 rec3).1
      rw [hrc] at hend rec3
      refine ⟨by rw [hrc]; exact hend, by rw [hrc]; exact rec3, World.putObj_heap_same lt3, (World.putObj_heap_other (by omega)).trans def3, ?_, ?_⟩
      · have h8 := hk3.1
        simp only [World.putObj, Array.size_setIfInBounds]
        omega
      · intro j o hjB hjl ho
        have hU' : U.heap[j]? = some o := by rw [hU]; exact (World.putObj_heap_other (by omega)).trans ((hb2.block j (Array.getElem?_eq_some_iff.1 hjl).1).trans hjl)
        have ho' : o.rowOf E = false ∨ ¬ OwnAt U pB j := by
          refine ho.imp id (fun h => ?_)
          rw [OwnAt.same (show U.heap[pB]? = W.heap[pB]? by rw [hU]; exact (World.putObj_heap_other (by omega)).trans (hb2.block pB (by omega)))]
          exact h
        exact (World.putObj_heap_other (by omega)).trans (hk3.2 _ _ (by omega) hU' ho')
    rintro e a3 W3 hp
    cases e with
    | normal =>
      obtain ⟨hk3, hi3⟩ := hp
      obtain ⟨hr, hl3, hl4, hk4, hH⟩ := fin none W3 hk3
      exact ⟨_, _, hr, .inl ⟨rfl, ⟨hI.putObj _ hi3 (by omega) hl3 rfl, hl4, hk4⟩, hH⟩⟩
    | ret =>
      obtain ⟨hk3, hi3⟩ := hp
      obtain ⟨hr, hl3, hl4, hk4, hH⟩ := fin (some .ret) W3 hk3
      exact ⟨_, _, hr, .inr ⟨rfl, ⟨.ret, (hIx _).putObj _ hi3 (by omega) hl3 rfl, hl4, hk4⟩, hH⟩⟩
    | exit id =>
      obtain ⟨hk3, hi3⟩ := hp
      obtain ⟨hr, hl3, hl4, hk4, hH⟩ := fin (some (.exit id)) W3 hk3
      exact ⟨_, _, hr, .inr ⟨rfl, ⟨.exit id, (hIx _).putObj _ hi3 (by omega) hl3 rfl, hl4, hk4⟩, hH⟩⟩
    | goto t =>
      obtain ⟨hk3, hi3⟩ := hp
      obtain ⟨hr, hl3, hl4, hk4, hH⟩ := fin (some (.goto t)) W3 hk3
      exact ⟨_, _, hr, .inr ⟨rfl, ⟨.goto t, (hIx _).putObj _ hi3 (by omega) hl3 rfl, hl4, hk4⟩, hH⟩⟩
    | panic ch => exact hp.elim
    | outgrown => exact hp.elim
  · -- behind the iterator
    rintro e W2 ⟨⟨v, rfl⟩, ⟨hi, hl, hk⟩ | ⟨k, hkN, c, hi, hl, hk⟩⟩
    · have hend := run_endLoop (P := P) hl (by rw [hrc]; simp)
      rw [hrc] at hend
      exact ⟨none, _, hend, hdone _ _ (Nat.le_refl _) (hI.putObj _ hi (by omega) hl rfl) ((World.putObj_heap_other (by omega)).trans hk)⟩
    · have hend := run_endLoop (P := P) hl (by rw [hrc]; simp)
      rw [hrc] at hend
      exact ⟨some c, _, hend, hstop _ c k _ (Nat.le_refl _) hkN ((hIx c).putObj _ hi (by omega) hl rfl) ((World.putObj_heap_other (by omega)).trans hk)⟩
end
/- package lookup: Resolve. -/
section
set_option linter.unusedVariables false
set_option linter.unusedSimpArgs false
open Go.ChangeShapes Go.WideShapes Go.ChangeAt Go.RowKit Go.Shelf
attribute [local go_sem] Oper.semAt_some

namespace LkS
open TabS (Cp Sn zC mayC sizS getR Two Pr SlotsAt)
abbrev resV : Option Nx → Value
  | none => .tuple #[.agg #[.int .i64 0, .int .i64 0], .int .i64 12]
  | some p => .tuple #[.agg #[.int .i64 p.n, .int .i64 (p.i : Int)], .int .i64 0]
theorem resP_none {P : List Nx} (h : ∀ j p, j < P.length → P[j]? = some p → p.l ≠ 0) : resP P = none := by
  unfold resP
  cases hl : P.getLast? with
  | none => rfl
  | some p =>
    obtain ⟨j, hj⟩ := List.mem_iff_getElem?.1 (List.mem_of_getLast? hl)
    simp only []
    rw [if_neg (h j p (List.getElem?_eq_some_iff.1 hj).1 hj)]
theorem resP_some {L : List Sn} {O : List Ob} {a f rest k : Nat} {c : Cp} {P : List Nx} {p : Nx} (hP : P = pathP L O a f c rest) (hk : P[k]? = some p) (h0 : p.l = 0) : resP P = some p := by
  have hlt := (List.getElem?_eq_some_iff.1 hk).1
  have e : P = P.take k ++ p :: P.drop (k + 1) := by
    have h1 := List.take_append_drop k P
    rw [List.drop_eq_getElem_cons hlt, (List.getElem?_eq_some_iff.1 hk).2] at h1
    exact h1.symm
  have hpost := last_of f c rest (P.take k) (P.drop (k + 1)) p (hP.symm.trans e) h0
  rw [hpost] at e
  unfold resP
  rw [e]
  simp [h0]
theorem Boxes.keep {w w' : World} {B0 sb b : Nat} {c : Cp} {a d : Nat} (h : Boxes w B0 sb b c a d) (hs : w.heap.size ≤ w'.heap.size) (hk : ∀ j, B0 ≤ j → j ≤ B0 + 4 → w'.heap[j]? = w.heap[j]?) : Boxes w' B0 sb b c a d :=
  ⟨(cell_of_block (hk _ (by omega) (by omega))).trans h.s, (cell_of_block (hk _ (by omega) (by omega))).trans h.ar, (hk _ (by omega) (by omega)).trans h.c, (cell_of_block (hk _ (by omega) (by omega))).trans h.ad, (cell_of_block (hk _ (by omega) (by omega))).trans h.d, Nat.lt_of_lt_of_le h.hi hs⟩
/-- What the rounds leave, the two boxes F and F + 1 apart. -/
structure RsK (wA W : World) (F : Nat) : Prop where
  os : W.os = wA.os
  tape : W.tape = wA.tape
  output : W.output = wA.output
  size : wA.heap.size ≤ W.heap.size
  keep : ∀ j, j < wA.heap.size → j ≠ F → j ≠ F + 1 → W.heap[j]? = wA.heap[j]?
theorem RsK.grown {wA A C : World} {F : Nat} {row : Option Nat} (h : RsK wA A F) (hg : A.grownBy C row) (hr : ∀ r, row = some r → wA.heap.size ≤ r) : RsK wA C F :=
  ⟨hg.os.trans h.os, hg.tape.trans h.tape, hg.output.trans h.output, Nat.le_trans h.size hg.size, fun j hj h1 h2 => (hg.block j (Nat.lt_of_lt_of_le hj h.size) (fun e => by have := hr j e.symm; omega)).trans (h.keep j hj h1 h2)⟩
theorem RsK.below {w wA W : World} {F : Nat} (h : RsK wA W F) (hb : Below w.heap.size w wA) (hF : w.heap.size ≤ F) : Below w.heap.size w W :=
  hb.trans ⟨h.os, h.tape, h.output, h.size, fun j hj => h.keep j (by have := hb.size; omega) (by omega) (by omega)⟩
theorem RsK.set {wA A : World} {F k j : Nat} (h : RsK wA A F) (hk : k = F ∨ k = F + 1) (v : Value) : RsK wA (A.setCell ⟨k, j, none⟩ v) F :=
  ⟨h.os, h.tape, h.output, by simpa using h.size, fun i hi h1 h2 => (Go.heap_setCell_other _ _ _ _ (by show i ≠ k; omega)).trans (h.keep i hi h1 h2)⟩
structure RsI (wA : World) (F : Nat) (P : List Nx) (k : Nat) (W : World) : Prop where
  kp : RsK wA W F
  f0 : W.heap[F]? = some (.cells #[.int .i64 0, .int .i64 0] 34 (0, 0))
  f1 : W.heap[F + 1]? = some (.cells #[.int .i64 12] 35 (0, 0))
  pre : ∀ j p, j < k → P[j]? = some p → p.l ≠ 0
structure RsX (wA : World) (F : Nat) (P : List Nx) (c : Code) (k : Nat) (W : World) : Prop where
  kp : RsK wA W F
  c : c = .exit 0
  at_ : ∃ p, P[k]? = some p ∧ p.l = 0 ∧ W.heap[F]? = some (.cells #[.int .i64 p.n, .int .i64 (p.i : Int)] 34 (0, 0)) ∧ W.heap[F + 1]? = some (.cells #[.int .i64 0] 35 (0, 0))
theorem RsI.from {wA : World} {F : Nat} {P : List Nx} {E : TypeId} {pB : Nat} (hF : F + 1 < wA.heap.size) : OwnFromX E pB wA.heap.size (RsI wA F P) := by
  intro s A C row h hg hr
  have e : ∀ k, k < wA.heap.size → C.heap[k]? = A.heap[k]? := fun k hk => hg.block k (Nat.lt_of_lt_of_le hk h.kp.size) (fun e => by have := (hr k e.symm).1; omega)
  exact ⟨h.kp.grown hg (fun r e => (hr r e).1), (e _ (by omega)).trans h.f0, (e _ (by omega)).trans h.f1, h.pre⟩
theorem RsX.from {wA : World} {F : Nat} {P : List Nx} {E : TypeId} {pB : Nat} (hF : F + 1 < wA.heap.size) (c : Code) : OwnFromX E pB wA.heap.size (RsX wA F P c) := by
  intro s A C row h hg hr
  have e : ∀ k, k < wA.heap.size → C.heap[k]? = A.heap[k]? := fun k hk => hg.block k (Nat.lt_of_lt_of_le hk h.kp.size) (fun e => by have := (hr k e.symm).1; omega)
  obtain ⟨p, h1, h2, h3, h4⟩ := h.at_
  exact ⟨h.kp.grown hg (fun r e => (hr r e).1), h.c, p, h1, h2, (e _ (by omega)).trans h3, (e _ (by omega)).trans h4⟩
set_option maxRecDepth 100000 in
set_option maxHeartbeats 2000000 in
theorem resolve_in (w : World) (sb b : Nat) (L : List Sn) (O : List Ob) (c : Cp) (a d : Nat) (h : Sees w sb b L O) (hR : Rad O) (hC : CapsOk L) (he : c.e ≤ 9223372036854775807) (ha : a < 2 ^ 64) (hd : d ≤ 12) (hk : chkN a d = 0) :
    CallsIn Fence.wide 3 Tryd.prog 10 #[.pointer (some ⟨sb, 0, none⟩), .pointer (some ⟨b, 0, none⟩), c.V, .int .u64 a, .int .i64 d] w fun e w' => e = .returned (resV (resP (pathP L O a d c d))) ∧ Below w.heap.size w w' := by
  have HS := Lib.hid h
  have HCK : Hid (∀ v, Sees v sb b L O → Calls Tryd.prog 27 #[.pointer (some ⟨sb, 0, none⟩), .pointer (some ⟨b, 0, none⟩), .int .u64 a, .int .i64 d] v fun e w' => e = .returned (.int .i64 0) ∧ Below v.heap.size v w') := Lib.hid (fun v hv => by rw [← hk]; exact check_any v sb b a d hv.tg ha)
  clear h hk
  have hal : Below w.heap.size w ((w.alloc (.cells #[.int .i64 c.a, .int .i64 c.b, .int .i64 c.c, .int .u64 c.d, .int .i64 c.e, .int .i64 c.f, .int .i64 c.g, .int .i64 c.h] 25)).alloc (.cells #[.int .i64 0, .int .i64 0] 34)) := bal (bal (Below.refl _ _) _) _
  have HAL := Lib.hid hal
  refine callsIn_of_wp_marks Tryd.func10 rfl trivial ?_ rfl
  simp only [Tryd.ntmps10, List.size_toArray, List.length_cons, List.length_nil, Nat.reduceAdd, Nat.reduceSub, Array.replicate_succ, Array.replicate_zero, List.push_toArray, List.append_toArray, List.nil_append, List.cons_append]
  gi_wp2
  refine wpIn_scope_wide ?_
  gi_wp2_with (refine ⟨trivial, ?_⟩; gi_at_call 27; (with_reducible refine (callsIn_wide.2 (HCK.out _ (HS.out.call HAL.out))).mono ?_); rintro e w1 ⟨rfl, hb1⟩; have HB1 := Lib.hid hb1; have hz1 := hb1.size; obtain ⟨hc1, hf1⟩ := bcell hb1; clear hb1)
  obtain ⟨w2, hw2⟩ : ∃ y, y = (w1.alloc (.cells #[.int .i64 0, .int .i64 0] 34)).alloc (.cells #[.int .i64 12] 35) := ⟨_, rfl⟩
  have hb2 : Below w1.heap.size w1 w2 := hw2 ▸ bal (bal (Below.refl _ _) _) _
  have hs2 : w2.heap.size = w1.heap.size + 2 := by rw [hw2]; simp
  have hF0 : w2.heap[w1.heap.size]? = some (.cells #[.int .i64 0, .int .i64 0] 34 (0, 0)) := by
    have h0 := heap_alloc_new w1 (.cells #[.int .i64 0, .int .i64 0] 34)
    rw [hw2, Below.heap_alloc _ _ _ (by simp)]
    exact h0
  have hF1 : w2.heap[w1.heap.size + 1]? = some (.cells #[.int .i64 12] 35 (0, 0)) := by
    have h0 := heap_alloc_new (w1.alloc (.cells #[.int .i64 0, .int .i64 0] 34)) (.cells #[.int .i64 12] 35)
    rw [World.size_alloc] at h0
    rw [hw2]
    exact h0
  rw [← hw2]
  have hbw1 := HAL.out.trans (HB1.out.mono HAL.out.size)
  have hbw2 := hbw1.trans (hb2.mono hbw1.size)
  have hcB : w2.heap[w.heap.size]? = some (.cells c.L.toArray 25 (0, 0)) := by
    have h0 := heap_alloc_new w (.cells c.L.toArray 25)
    have h1 : ((w.alloc (.cells c.L.toArray 25)).alloc (.cells #[.int .i64 0, .int .i64 0] 34)).heap[w.heap.size]? = some (.cells c.L.toArray 25 (0, 0)) := by rw [Below.heap_alloc _ _ _ (by simp)]; exact h0
    exact (hb2.block _ (by simp at hz1; omega)).trans ((HB1.out.block _ (by simp; omega)).trans h1)
  have hrB : w2.heap[w.heap.size + 1]? = some (.cells #[.int .i64 0, .int .i64 0] 34 (0, 0)) := by
    have h0 := heap_alloc_new (w.alloc (.cells c.L.toArray 25)) (.cells #[.int .i64 0, .int .i64 0] 34)
    rw [World.size_alloc] at h0
    exact (hb2.block _ (by simp at hz1; omega)).trans ((HB1.out.block _ (by simp)).trans h0)
  have HS2 := Lib.hid (HS.out.call hbw2)
  have HBW2 := Lib.hid hbw2
  have HBF : Hid (w.heap.size + 2 ≤ w1.heap.size) := Lib.hid (by simpa using hz1)
  have HF0 := Lib.hid hF0
  have HF1 := Lib.hid hF1
  have HRB := Lib.hid hrB
  have HZ2 := Lib.hid hs2
  obtain ⟨x0, x1, x2, x3, x4, x5, x6, x7⟩ := cap_cells hcB
  obtain ⟨F, hF⟩ : ∃ F, F = w1.heap.size := ⟨_, rfl⟩
  rw [← hF] at HF0 HF1 HZ2 HBF ⊢
  clear hw2 hb2 hs2 hF0 hF1 hbw1 hbw2 hcB hrB hc1 hf1 hz1 hal HAL HB1 HCK hF
  refine wpIn_label ?_
  gi_wp2_with (refine ⟨trivial, ?_⟩; gi_at_call 28; (with_reducible refine (steps_in _ sb b c a d _).mono ?_); rintro e wA ⟨rfl, hbx, hbA, hsA⟩; have HBX := Lib.hid hbx; have HBA := Lib.hid hbA; have HSA := Lib.hid hsA; clear hbx hbA hsA)
  rw [HZ2.out]
  have hbx := HBX.out
  have hsA := HSA.out
  rw [HZ2.out] at hbx hsA
  have HBX' := Lib.hid hbx
  have hF5 : F + 6 < wA.heap.size := by omega
  have HBwA := Lib.hid (HBW2.out.trans (HBA.out.mono HBW2.out.size))
  have HFA0 := Lib.hid ((HBA.out.block F (by have := HZ2.out; omega)).trans HF0.out)
  have HFA1 := Lib.hid ((HBA.out.block (F + 1) (by have := HZ2.out; omega)).trans HF1.out)
  have HRA := Lib.hid ((HBA.out.block (w.heap.size + 1) (by have := HZ2.out; have := HBF.out; omega)).trans HRB.out)
  obtain ⟨P, hP⟩ : ∃ P, P = pathP L O a d c d := ⟨_, rfl⟩
  have HP := Lib.hid hP
  have HRR := Lib.hid hR
  have HCC := Lib.hid hC
  clear x0 x1 x2 x3 x4 x5 x6 x7 hbx hsA hP HBX HSA HBA HRB HF0 HF1 HBW2 HS2 hR hC
  have HWB := Lib.hid (fun (W : World) (h : RsK wA W F) => h.below HBwA.out (by have := HBF.out; omega))
  have hIts : ∀ k W, RsI wA F P k W → Its W (F + 2) sb b L O c a d (F + 1) := fun k W h => ⟨HS.out.call (HWB.out W h.kp), HBX'.out.keep h.kp.size (fun j h1 h2 => h.kp.keep j (by omega) (by omega) (by omega)), fun g hg => (by
      obtain ⟨v, h1, h2⟩ := hg
      rw [(cell_box h.f1).1] at h1
      cases h1
      cases h2), (Array.getElem?_eq_some_iff.1 h.f1).1⟩
  refine wpIn_range_pz rfl (by decide) (gf := 47) (lb := #[.pointer (some ⟨F + 2 + 2, 0, none⟩), .pointer (some ⟨F + 2 + 4, 0, none⟩), .pointer (some ⟨F + 2, 0, none⟩), .pointer (some ⟨F + 2 + 1, 0, none⟩), .pointer (some ⟨F + 2 + 3, 0, none⟩)]) rfl trivial (enters_of Tryd.func47 (by kernel_rfl) rfl)
    (encs := encS P) (N := P.length) 34 (F + 1) (by omega) (RsI wA F P) (RsX wA F P) (by rw [HP.out]; exact steps1_py 1 (F + 2) sb b (F + 1) _ L O c a d _ HRR.out HCC.out he ha hd (by rw [← HP.out]; exact hIts)) (fun _ => rfl) (RsI.from (by omega)) (fun c => RsX.from (by omega) c) ⟨⟨rfl, rfl, rfl, Nat.le_refl _, fun _ _ _ _ => rfl⟩, HFA0.out, HFA1.out, fun j p h => by omega⟩
    (fun k a' W => ∃ (dB : Nat) (p : Nx), wA.heap.size ≤ dB ∧ p = (P[k]?).getD ⟨0, 0, 0⟩ ∧ W.heap[dB]? = some (.cells #[.int .i64 p.n, .int .i64 (p.i : Int)] 34 (0, 0)) ∧ a' = { tmps := #[.pointer (some ⟨sb, 0, none⟩), .pointer (some ⟨b, 0, none⟩), c.V, .int .u64 a, .int .i64 d, undef, undef, .pointer (some ⟨w.heap.size, 0, none⟩), undef, undef, .pointer (some ⟨w.heap.size + 1, 0, none⟩), .int .i64 0, .int .i64 0, .pointer (some ⟨F, 0, none⟩), .pointer (some ⟨F + 1, 0, none⟩), .pointer (some ⟨dB, 0, none⟩), .int .i64 p.l, .pointer (some ⟨sb, 0, none⟩), .pointer (some ⟨b, 0, none⟩), .int .u64 a, .int .i64 d, .int .i64 0, .int .i64 0, .bool false, undef, undef, .agg #[.int .i64 0, .int .i64 0], .pointer (some ⟨sb, 0, none⟩), .pointer (some ⟨b, 0, none⟩), .agg #[.int .i64 c.a, .int .i64 c.b, .int .i64 c.c, .int .u64 c.d, .int .i64 c.e, .int .i64 c.f, .int .i64 c.g, .int .i64 c.h], .int .u64 a, .int .i64 d, .func (.func 47) #[] #[.pointer (some ⟨F + 2 + 2, 0, none⟩), .pointer (some ⟨F + 2 + 4, 0, none⟩), .pointer (some ⟨F + 2, 0, none⟩), .pointer (some ⟨F + 2 + 1, 0, none⟩), .pointer (some ⟨F + 2 + 3, 0, none⟩)], .agg #[.int .i64 p.n, .int .i64 (p.i : Int)], .int .i64 p.l, undef, undef, undef, undef, undef], defers := [] }) ?hAx ?hassign ?hbody ?hdone ?hstop
  case hAx =>
    rintro k a' A l o o' ⟨dB, p, h1, h2, h3, h4⟩ hl ho
    exact ⟨dB, p, h1, h2, by
      by_cases e : dB = l
      · subst e; rw [h3] at hl; cases hl; cases ho
      · exact (World.putObj_heap_other e).trans h3, h4⟩
  case hassign =>
    intro l x W K hW hK
    gi_wp2
    exact hK _ _ ⟨W.heap.size, _, hW, rfl, heap_alloc_new W _, rfl⟩ (bal (Below.refl _ _) _)
  case hbody =>
    rintro l k W a' hkN hI ⟨dB, p, hd1, hd2, hd3, rfl⟩
    have hpk : P[k]? = some p := by rw [hd2, List.getElem?_eq_getElem hkN]; rfl
    have HPK := Lib.hid hpk
    have HI := Lib.hid hI
    obtain ⟨k0, k1, -, -⟩ := slot_cells hd3
    obtain ⟨f0, f1, ff0, ff1⟩ := slot_cells hI.f0
    obtain ⟨g0, gf0⟩ := cell_box hI.f1
    have hsz := hI.kp.size
    have hdF : dB ≠ F := by omega
    have hdF1 : dB ≠ F + 1 := by omega
    clear hd2 hpk hI hd3
    by_cases h0 : p.l = 0
    · have h0' : ((p.l : Int) == 0) = true := by rw [h0]; rfl
      have H0 := Lib.hid h0
      clear h0
      gi_wp2
      have z0 := Go.heap_setCell_same W F 0 _ _ (.int .i64 p.n) HI.out.f0
      have z1 := Go.heap_setCell_same _ F 1 _ _ (.int .i64 (p.i : Int)) z0
      refine ⟨⟨by simp, fun j o hj hl _ => ?_⟩, ((HI.out.kp.set (.inl rfl) _).set (.inl rfl) _).set (.inr rfl) _, rfl, p, HPK.out, H0.out, ?_, ?_⟩
      · rw [Go.heap_setCell_other _ _ _ _ (by show j ≠ F + 1; omega), Go.heap_setCell_other _ _ _ _ (by show j ≠ F; omega), Go.heap_setCell_other _ _ _ _ (by show j ≠ F; omega)]
        exact hl
      · rw [Go.heap_setCell_other _ _ _ _ (by show F ≠ F + 1; omega)]
        exact z1
      · have g9 : ((W.setCell ⟨F, 0, none⟩ (.int .i64 p.n)).setCell ⟨F, 1, none⟩ (.int .i64 (p.i : Int))).heap[F + 1]? = some (.cells #[.int .i64 12] 35 (0, 0)) := by
          rw [Go.heap_setCell_other _ _ _ _ (by show F + 1 ≠ F; omega), Go.heap_setCell_other _ _ _ _ (by show F + 1 ≠ F; omega)]
          exact HI.out.f1
        exact Go.heap_setCell_same _ (F + 1) 0 _ _ (.int .i64 0) g9
    · have h0' : ((p.l : Int) == 0) = false := beq_eq_false_iff_ne.2 (by omega)
      have H0 := Lib.hid h0
      clear h0
      gi_wp2
      refine ⟨⟨Nat.le_refl _, fun _ _ _ h _ => h⟩, HI.out.kp, HI.out.f0, HI.out.f1, fun j q hj hq => ?_⟩
      by_cases e : j = k
      · subst e; rw [HPK.out] at hq; cases hq; exact H0.out
      · exact HI.out.pre j q (by omega) hq
  case hdone =>
    intro D W hD hI hdef
    have hRS : resP P = none := resP_none hI.pre
    have HRS := Lib.hid hRS
    have HBE := Lib.hid (HWB.out W hI.kp)
    have HDF := Lib.hid hdef
    obtain ⟨f0, f1, ff0, ff1⟩ := slot_cells hI.f0
    obtain ⟨g0, gf0⟩ := cell_box hI.f1
    have hr := (hI.kp.keep (w.heap.size + 1) (by have := HBF.out; omega) (by have := HBF.out; omega) (by have := HBF.out; omega)).trans HRA.out
    obtain ⟨r0, r1, rf0, rf1⟩ := slot_cells hr
    have HRW := Lib.hid hr
    have hn1 : F ≠ w.heap.size + 1 := by have := HBF.out; omega
    have hn2 : F + 1 ≠ w.heap.size + 1 := by have := HBF.out; omega
    clear hRS hI hdef hr
    gi_wp2
    gi_region
    all_goals
      gi_wp2
      rw [Exit.noGoto_ret]
      have hDn : D ≠ w.heap.size + 1 := by have := HBF.out; omega
      have hd9 : (((W.setCell ⟨w.heap.size + 1, 0, none⟩ (.int .i64 0)).setCell ⟨w.heap.size + 1, 1, none⟩ (.int .i64 0)).drew).heap[D]? = some (.deferred (some [])) := by
        show ((W.setCell ⟨w.heap.size + 1, 0, none⟩ (.int .i64 0)).setCell ⟨w.heap.size + 1, 1, none⟩ (.int .i64 0)).heap[D]? = _
        rw [Go.heap_setCell_other _ _ _ _ hDn, Go.heap_setCell_other _ _ _ _ hDn]
        exact HDF.out
      have hb9 : Below w.heap.size w ((W.setCell ⟨w.heap.size + 1, 0, none⟩ (.int .i64 0)).setCell ⟨w.heap.size + 1, 1, none⟩ (.int .i64 0)).drew := ((HBE.out.setCell (p := ⟨w.heap.size + 1, 0, none⟩) (by simp) _).setCell (p := ⟨w.heap.size + 1, 1, none⟩) (by simp) _).drew
      have hd8 : (((W.setCell ⟨w.heap.size + 1, 0, none⟩ (.int .i64 0)).setCell ⟨w.heap.size + 1, 1, none⟩ (.int .i64 0)).drew).heap[w.heap.size + 1]? = some (.cells #[.int .i64 0, .int .i64 0] 34 (0, 0)) := Go.heap_setCell_same _ (w.heap.size + 1) 1 _ _ (.int .i64 0) (Go.heap_setCell_same W (w.heap.size + 1) 0 _ _ (.int .i64 0) HRW.out)
      refine ⟨by simp, .inl ⟨_, _, rfl, run_takeDeferred hd9, ?_⟩⟩
      generalize ((W.setCell ⟨w.heap.size + 1, 0, none⟩ (.int .i64 0)).setCell ⟨w.heap.size + 1, 1, none⟩ (.int .i64 0)).drew = wY at *
      have hd7 : (wY.putObj D (.deferred none)).heap[w.heap.size + 1]? = some (.cells #[.int .i64 0, .int .i64 0] 34 (0, 0)) := (World.putObj_heap_other (by omega)).trans hd8
      have hb7 : Below w.heap.size w (wY.putObj D (.deferred none)) := ⟨hb9.os, hb9.tape, hb9.output, by simpa [World.putObj] using hb9.size, fun k hk => (World.putObj_heap_other (by have := HBF.out; omega)).trans (hb9.block k hk)⟩
      generalize wY.putObj D (.deferred none) = wZ at *
      obtain ⟨e0, e1, -, -⟩ := slot_cells hd7
      exact ⟨resV none, by simp [results, Tryd.results10, go_sem, e0, e1], by rw [← HP.out, HRS.out], hb7⟩
  case hstop =>
    rintro D c' k W hD hkN ⟨hkp, rfl, p, h1, h2, h3, h4⟩ hdef
    have hRS : resP P = some p := resP_some HP.out h1 h2
    have HRS := Lib.hid hRS
    have HBE := Lib.hid (HWB.out W hkp)
    have HDF := Lib.hid hdef
    obtain ⟨f0, f1, ff0, ff1⟩ := slot_cells h3
    obtain ⟨g0, gf0⟩ := cell_box h4
    have hr := (hkp.keep (w.heap.size + 1) (by have := HBF.out; omega) (by have := HBF.out; omega) (by have := HBF.out; omega)).trans HRA.out
    obtain ⟨r0, r1, rf0, rf1⟩ := slot_cells hr
    have HRW := Lib.hid hr
    have hn1 : F ≠ w.heap.size + 1 := by have := HBF.out; omega
    have hn2 : F + 1 ≠ w.heap.size + 1 := by have := HBF.out; omega
    clear hRS hkp hdef hr h1 h2 h3 h4
    gi_wp2
    gi_region
    all_goals
      gi_wp2
      rw [Exit.noGoto_ret]
      have hDn : D ≠ w.heap.size + 1 := by have := HBF.out; omega
      have hd9 : (((W.setCell ⟨w.heap.size + 1, 0, none⟩ (.int .i64 p.n)).setCell ⟨w.heap.size + 1, 1, none⟩ (.int .i64 (p.i : Int))).drew).heap[D]? = some (.deferred (some [])) := by
        show ((W.setCell ⟨w.heap.size + 1, 0, none⟩ (.int .i64 p.n)).setCell ⟨w.heap.size + 1, 1, none⟩ (.int .i64 (p.i : Int))).heap[D]? = _
        rw [Go.heap_setCell_other _ _ _ _ hDn, Go.heap_setCell_other _ _ _ _ hDn]
        exact HDF.out
      have hb9 : Below w.heap.size w ((W.setCell ⟨w.heap.size + 1, 0, none⟩ (.int .i64 p.n)).setCell ⟨w.heap.size + 1, 1, none⟩ (.int .i64 (p.i : Int))).drew := ((HBE.out.setCell (p := ⟨w.heap.size + 1, 0, none⟩) (by simp) _).setCell (p := ⟨w.heap.size + 1, 1, none⟩) (by simp) _).drew
      have hd8 : (((W.setCell ⟨w.heap.size + 1, 0, none⟩ (.int .i64 p.n)).setCell ⟨w.heap.size + 1, 1, none⟩ (.int .i64 (p.i : Int))).drew).heap[w.heap.size + 1]? = some (.cells #[.int .i64 p.n, .int .i64 (p.i : Int)] 34 (0, 0)) := Go.heap_setCell_same _ (w.heap.size + 1) 1 _ _ (.int .i64 (p.i : Int)) (Go.heap_setCell_same W (w.heap.size + 1) 0 _ _ (.int .i64 p.n) HRW.out)
      refine ⟨by simp, .inl ⟨_, _, rfl, run_takeDeferred hd9, ?_⟩⟩
      generalize ((W.setCell ⟨w.heap.size + 1, 0, none⟩ (.int .i64 p.n)).setCell ⟨w.heap.size + 1, 1, none⟩ (.int .i64 (p.i : Int))).drew = wY at *
      have hd7 : (wY.putObj D (.deferred none)).heap[w.heap.size + 1]? = some (.cells #[.int .i64 p.n, .int .i64 (p.i : Int)] 34 (0, 0)) := (World.putObj_heap_other (by omega)).trans hd8
      have hb7 : Below w.heap.size w (wY.putObj D (.deferred none)) := ⟨hb9.os, hb9.tape, hb9.output, by simpa [World.putObj] using hb9.size, fun k hk => (World.putObj_heap_other (by have := HBF.out; omega)).trans (hb9.block k hk)⟩
      generalize wY.putObj D (.deferred none) = wZ at *
      obtain ⟨e0, e1, -, -⟩ := slot_cells hd7
      exact ⟨resV (some p), by simp [results, Tryd.results10, go_sem, e0, e1], by rw [← HP.out, HRS.out], hb7⟩
end LkS
end
/- package lookup: Resolve and Path that check refuses; Resolve of anything. -/
section
set_option linter.unusedVariables false
set_option linter.unusedSimpArgs false
open Go.ChangeShapes Go.WideShapes Go.ChangeAt Go.RowKit Go.Shelf

namespace LkS
open TabS (Cp Sn zC mayC sizS getR Two Pr SlotsAt)
set_option maxRecDepth 100000 in
set_option maxHeartbeats 1000000 in
theorem resolve_code (w : World) (p q : Option Addr) (c : Cp) (a : Nat) (d er : Int) (he : er ≠ 0) (hC : ∀ v, Below w.heap.size w v → Calls Tryd.prog 27 #[.pointer p, .pointer q, .int .u64 a, .int .i64 d] v fun e w' => e = .returned (.int .i64 er) ∧ Below v.heap.size v w') :
    Calls Tryd.prog 10 #[.pointer p, .pointer q, c.V, .int .u64 a, .int .i64 d] w fun e w' => e = .returned (.tuple #[.agg #[.int .i64 0, .int .i64 0], .int .i64 er]) ∧ Below w.heap.size w w' := by
  have HC := Lib.hid hC
  have HAL := Lib.hid (show Below w.heap.size w ((w.alloc (.cells #[.int .i64 c.a, .int .i64 c.b, .int .i64 c.c, .int .u64 c.d, .int .i64 c.e, .int .i64 c.f, .int .i64 c.g, .int .i64 c.h] 25)).alloc (.cells #[.int .i64 0, .int .i64 0] 34)) from bal (bal (Below.refl _ _) _) _)
  clear hC
  go_enter Tryd.func10, Tryd.ntmps10
  go_wp2
  go_step3
  go_wp2_with (go_at_call 27; (with_reducible refine (HC.out _ HAL.out).mono ?_); rintro e w1 ⟨rfl, hb1⟩; obtain ⟨hc1, hf1⟩ := bcell hb1; have hz1 := hb1.size; have hz2 : w.heap.size + 1 < w1.heap.size := (by simp at hz1; omega); have HB1 := Lib.hid hb1; clear hb1)
  rw [Exit.noGoto_ret]
  exact bodyPost_ret (v := .tuple #[.agg #[.int .i64 0, .int .i64 0], .int .i64 er]) (by simp [results, Tryd.results10, go_sem, hc1, hf1, hz2]) rfl ⟨rfl, done2 rfl (HAL.out.trans (HB1.out.mono HAL.out.size))⟩
set_option maxRecDepth 100000 in
set_option maxHeartbeats 1000000 in
theorem path_code (w : World) (p q : Option Addr) (c : Cp) (a : Nat) (d er : Int) (he : er ≠ 0) (hC : ∀ v, Below w.heap.size w v → Calls Tryd.prog 27 #[.pointer p, .pointer q, .int .u64 a, .int .i64 d] v fun e w' => e = .returned (.int .i64 er) ∧ Below v.heap.size v w') :
    Calls Tryd.prog 12 #[.pointer p, .pointer q, c.V, .int .u64 a, .int .i64 d] w fun e w' => e = .returned (.slice none 0 0) ∧ Below w.heap.size w w' := by
  have HC := Lib.hid hC
  have HAL := Lib.hid (show Below w.heap.size w (w.alloc (.cells #[.int .i64 c.a, .int .i64 c.b, .int .i64 c.c, .int .u64 c.d, .int .i64 c.e, .int .i64 c.f, .int .i64 c.g, .int .i64 c.h] 25)) from bal (Below.refl _ _) _)
  clear hC
  go_enter Tryd.func12, Tryd.ntmps12
  go_wp2_with (go_at_call 27; (with_reducible refine (HC.out _ HAL.out).mono ?_); rintro e w1 ⟨rfl, hb1⟩)
  go_ret
  exact ⟨rfl, HAL.out.trans (hb1.mono HAL.out.size)⟩
/-- Without slots or arena. -/
theorem resolve_nil (w : World) (p q : Option Addr) (c : Cp) (a : Nat) (d : Int) (h : p = none ∨ q = none) :
    Calls Tryd.prog 10 #[.pointer p, .pointer q, c.V, .int .u64 a, .int .i64 d] w fun e w' => e = .returned (.tuple #[.agg #[.int .i64 0, .int .i64 0], .int .i64 1]) ∧ Below w.heap.size w w' :=
  resolve_code w p q c a d 1 (by decide) (fun v _ => (check_none v p q a d h).mono fun e w' ⟨he, hw⟩ => ⟨he, hw ▸ Below.refl _ _⟩)
theorem path_nil (w : World) (p q : Option Addr) (c : Cp) (a : Nat) (d : Int) (h : p = none ∨ q = none) :
    Calls Tryd.prog 12 #[.pointer p, .pointer q, c.V, .int .u64 a, .int .i64 d] w fun e w' => e = .returned (.slice none 0 0) ∧ Below w.heap.size w w' :=
  path_code w p q c a d 1 (by decide) (fun v _ => (check_none v p q a d h).mono fun e w' ⟨he, hw⟩ => ⟨he, hw ▸ Below.refl _ _⟩)
/-- What Resolve answers. -/
def resR (L : List Sn) (O : List Ob) (c : Cp) (a : Nat) (d : Int) : Int × Int × Int :=
  if chkN a d = 0 then (match resP (pathP L O a d.toNat c d.toNat) with | some p => (p.n, (p.i : Int), 0) | none => (0, 0, 12)) else (0, 0, chkN a d)
theorem resolve_any (w : World) (sb b : Nat) (L : List Sn) (O : List Ob) (c : Cp) (a : Nat) (d : Int) (h : Sees w sb b L O) (hR : Rad O) (hC : CapsOk L) (he : c.e ≤ 9223372036854775807) (ha : a < 2 ^ 64) :
    Calls Tryd.prog 10 #[.pointer (some ⟨sb, 0, none⟩), .pointer (some ⟨b, 0, none⟩), c.V, .int .u64 a, .int .i64 d] w fun e w' => e = .returned (.tuple #[.agg #[.int .i64 (resR L O c a d).1, .int .i64 (resR L O c a d).2.1], .int .i64 (resR L O c a d).2.2]) ∧ Below w.heap.size w w' := by
  unfold resR
  by_cases hk : chkN a d = 0
  · rw [if_pos hk]
    have h12 : 1 ≤ d ∧ d ≤ 12 := by
      unfold chkN at hk
      split at hk
      · cases hk
      · omega
    obtain ⟨n, rfl⟩ : ∃ n : Nat, d = n := ⟨d.toNat, by omega⟩
    refine (callsIn_wide.1 (resolve_in w sb b L O c a n h hR hC he ha (by omega) hk)).mono ?_
    rintro e w' ⟨rfl, hb⟩
    refine ⟨?_, hb⟩
    rw [show ((n : Int)).toNat = n by simp]
    cases resP (pathP L O a n c n) <;> rfl
  · rw [if_neg hk]
    exact resolve_code w _ _ c a d _ hk (fun v hb => check_any v sb b a d (h.call hb).tg ha)
end LkS
end
/- chapter 16: the room's objects and slots, one added behind the other. -/
section
set_option linter.unusedVariables false
set_option linter.unusedSimpArgs false
open Go.ChangeShapes Go.WideShapes Go.ChangeAt Go.RowKit Go.Shelf

namespace LkS
open TabS (Cp Sn zC mayC sizS getR Two Pr SlotsAt SameS AddRel addSR setN setM rowsS hasS insS)
def kdA : Nat → Int | 0 => 2 | 1 => 2 | 2 => 2 | 3 => 2 | _ => 9
def szA : Nat → Int | 0 => 1 | 1 => 2 | 2 => 3 | 3 => 4 | _ => 0
def atA : Nat → Int | 0 => 0 | 1 => 1 | 2 => 2 | 3 => 4 | _ => 8
def nA : Nat → Int | 0 => 2 | 1 => 4 | 2 => 8 | 3 => 16 | _ => 3
def stO : Nat → List Int × List Ob
  | 0 => (zerosA 16, [])
  | t + 1 => (addC 16 (stO t).1 (stO t).2 (kdA t) (szA t) (atA t), addL 16 (stO t).1 (stO t).2 (kdA t) (szA t) (atA t))
def cnS : Nat → List Sn
  | 0 => []
  | t + 1 => insS (cnS t) ⟨atA t + 1, 0, List.replicate (nA t).toNat zC⟩
theorem stO_add : ∀ t, t < 5 → addR 16 (stO t).1 (stO t).2 (kdA t) (szA t) (atA t) = (atA t + 1, 0) := by decide +kernel
theorem stO_fresh : ∀ t, t < 5 → ∀ y ∈ (stO t).2, y.id ≠ nextA (stO t).1 (atA t) := by decide +kernel
theorem stO_asc : ∀ t, t < 5 → Asc (rowsO (stO t).2) := by
  intro t ht
  unfold Asc
  revert t
  decide +kernel
theorem stO_len : ∀ t, t < 6 → (stO t).2.length < 1000000 := by decide +kernel
theorem cnS_add : ∀ t, t < 5 → addSR (cnS t) (atA t + 1) (nA t) = 0 := by decide +kernel
theorem cnS_len : ∀ t, t < 6 → (cnS t).length < 1000000 := by decide +kernel
theorem atA_in : ∀ t, t < 5 → -9223372036854775808 ≤ atA t ∧ atA t ≤ 9223372036854775807 := by decide +kernel
theorem cnS_asc : ∀ t, t < 6 → Asc (rowsS (cnS t)) := by
  intro t ht
  unfold Asc
  revert t
  decide +kernel
theorem cnS_rel {t : Nat} (ht : t < 5) : AddRel (cnS t) (atA t + 1) (nA t) (cnS (t + 1)) := .inl ⟨cnS_add t ht, 0, rfl⟩
def RmT (W w : World) (sb srb b rb t1 t2 t3 t4 : Nat) : Prop := ∃ L M G, Rm W w sb srb b rb L M (stO t1).1 (stO t1).2 (stO t2).2 G ∧ G.take 16 = (stO t2).1 ∧ SameS L (cnS t3) ∧ SameS M (cnS t4)
theorem RmT.below {W w : World} {sb srb b rb t1 t2 t3 t4 : Nat} (h : RmT W w sb srb b rb t1 t2 t3 t4) : Below W.heap.size W w := by
  obtain ⟨L, M, G, h1, _⟩ := h
  exact h1.below
theorem RmT.call {W w w' : World} {sb srb b rb t1 t2 t3 t4 : Nat} (h : RmT W w sb srb b rb t1 t2 t3 t4) (hb : Below w.heap.size w w') : RmT W w' sb srb b rb t1 t2 t3 t4 := by
  obtain ⟨L, M, G, h1, h2⟩ := h
  exact ⟨L, M, G, h1.call hb, h2⟩
theorem RmT.a {W w : World} {sb srb b rb t : Nat} (ht : t < 5) (h : RmT W w sb srb b rb t t t t) :
    Calls Tryd.prog 21 #[.pointer (some ⟨b, 0, none⟩), .int .i64 (kdA t), .int .i64 (szA t), .int .i64 (atA t)] w fun e w' => e = .returned (.tuple #[.int .i64 (atA t + 1), .int .i64 0]) ∧ RmT W w' sb srb b rb (t + 1) t t t := by
  obtain ⟨L, M, G, h1, h2⟩ := h
  refine (h1.addA (stO_len t (by omega)) (kdA t) (szA t) (atA t) (atA_in t ht)).mono ?_
  rintro e w' ⟨rfl, h3⟩
  rw [stO_add t ht]
  exact ⟨rfl, L, M, G, h3, h2⟩
theorem RmT.b {W w : World} {sb srb b rb t : Nat} (ht : t < 5) (h : RmT W w sb srb b rb (t + 1) t t t) :
    Calls Tryd.prog 22 #[.pointer (some ⟨rb, 0, none⟩), .int .i64 (kdA t), .int .i64 (szA t), .int .i64 (atA t)] w fun e w' => e = .returned (.tuple #[.int .i64 (atA t + 1), .int .i64 0]) ∧ RmT W w' sb srb b rb (t + 1) (t + 1) t t := by
  obtain ⟨L, M, G, h1, h2, h3⟩ := h
  refine (h1.addB (stO_len t (by omega)) (stO_asc t ht) (kdA t) (szA t) (atA t) (fun _ => by rw [h2]; exact stO_fresh t ht)).mono ?_
  rw [h2, stO_add t ht]
  rintro e w' ⟨rfl, G', h4, h5⟩
  exact ⟨rfl, L, M, G', h5, h4, h3⟩
theorem RmT.c {W w : World} {sb srb b rb t : Nat} (ht : t < 5) (h : RmT W w sb srb b rb (t + 1) (t + 1) t t) :
    Calls Tryd.prog 23 #[.pointer (some ⟨sb, 0, none⟩), .int .i64 (atA t + 1), .int .i64 (nA t)] w fun e w' => e = .returned (.int .i64 0) ∧ RmT W w' sb srb b rb (t + 1) (t + 1) (t + 1) t := by
  obtain ⟨L, M, G, h1, h2, h3, h4⟩ := h
  refine (h1.addP (by rw [h3.len]; exact cnS_len t (by omega)) _ _).mono ?_
  rintro e w' ⟨rfl, L', hr, h5⟩
  obtain ⟨q1, q2⟩ := TabS.add_same h3 hr (cnS_rel ht)
  rw [q2, cnS_add t ht]
  exact ⟨rfl, L', M, G, h5, h2, q1, h4⟩
theorem RmT.d {W w : World} {sb srb b rb t : Nat} (ht : t < 5) (h : RmT W w sb srb b rb (t + 1) (t + 1) (t + 1) t) :
    Calls Tryd.prog 24 #[.pointer (some ⟨srb, 0, none⟩), .int .i64 (atA t + 1), .int .i64 (nA t)] w fun e w' => e = .returned (.int .i64 0) ∧ RmT W w' sb srb b rb (t + 1) (t + 1) (t + 1) (t + 1) := by
  obtain ⟨L, M, G, h1, h2, h3, h4⟩ := h
  have hA : Asc (rowsS M) := h4.symm.asc (cnS_asc t (by omega))
  refine (h1.addQ hA (by rw [h4.len]; exact cnS_len t (by omega)) _ _).mono ?_
  rintro e w' ⟨rfl, M', hr, h5⟩
  obtain ⟨q1, q2⟩ := TabS.add_same h4 hr (cnS_rel ht)
  rw [q2, cnS_add t ht]
  exact ⟨rfl, L, M', G, h5, h2, h3, q1⟩
/-- Where it begins: the slots' object, the arena, the two own answers, one made behind the other. -/
theorem rmt_start {W w : World} {sb srb b rb ab base : Nat} (h1 : SlotsAt w sb (sb + 1) (.slice none 0 0) []) (h2 : ArAt w b ab base 16 (zerosA 16) (.slice none 0 0) []) (h3 : w.heap[srb]? = some (.cells #[.slice none 0 0] 65 (0, 0))) (h4 : RefA w rb (rb + 1) 16 (.slice none 0 0) [] zeroG) (hb : Below W.heap.size W w) (l1 : W.heap.size ≤ sb) (l2 : sb < b) (l3 : sb < ab) (l4 : b < srb) (l5 : ab < srb) (l6 : srb < rb) : RmT W w sb srb b rb 0 0 0 0 := by
  have hs := (Array.getElem?_eq_some_iff.1 h3).1
  have hr : rb < w.heap.size := Nat.lt_of_lt_of_le h4.lt h4.bs
  have hRS : TabS.RefS w srb (srb + 1) (.slice none 0 0) [] := ⟨h3, World.ownsRow_nil _ _ _ _, Nat.lt_succ_self _, hs, (fun x hx => by cases hx), List.Pairwise.nil, (fun x hx => by cases hx), (fun x hx => by cases hx)⟩
  refine ⟨[], [], zeroG, ⟨ab, base, rb + 1, .slice none 0 0, .slice none 0 0, ⟨h2, h4, by omega, by omega, (fun e => by cases e), (fun e => by cases e), (fun e => by cases e), (fun k e => by cases e), by omega, by omega, by omega, hb⟩, sb + 1, .slice none 0 0, srb + 1, .slice none 0 0, ⟨h1, hRS, l1, by omega, hb, fun k p q => ?_, fun k hk => ?_⟩⟩, zeroG_take (by decide), rfl, rfl⟩
  · rcases p with rfl | e | ⟨x, hx, _⟩
    · rcases q with e | e | ⟨x, hx, _⟩
      · omega
      · cases e
      · cases hx
    · cases e
    · cases hx
  · have hk' : k = b ∨ k = ab ∨ k = rb := by
      rcases hk with h | h | h | h | h
      · exact .inl h
      · exact .inr (.inl h)
      · exact .inr (.inr h)
      · cases h
      · cases h
    have h5 := h2.bl
    have h6 := h2.al
    refine ⟨by omega, fun p => ?_, fun p => ?_⟩
    · rcases p with e | e | ⟨x, hx, _⟩
      · omega
      · cases e
      · cases hx
    · rcases p with e | e | ⟨x, hx, _⟩
      · omega
      · cases e
      · cases hx
/-- What is put in. -/
structure PutC where
  s : Int
  i : Int
  c : Cp
def playP (D : Nat → PutC) : Nat → List Sn
  | 0 => cnS 5
  | k + 1 => setM (playP D k) (D k).s (D k).i (D k).c
def RmP (W w : World) (sb srb b rb : Nat) (L0 M0 : List Sn) : Prop := ∃ L M G, Rm W w sb srb b rb L M (stO 5).1 (stO 5).2 (stO 5).2 G ∧ SameS L L0 ∧ SameS M M0 ∧ L0.length = 5 ∧ M0.length = 5 ∧ Asc (rowsS M0)
theorem RmP.below {W w : World} {sb srb b rb : Nat} {L0 M0 : List Sn} (h : RmP W w sb srb b rb L0 M0) : Below W.heap.size W w := by
  obtain ⟨L, M, G, h1, _⟩ := h
  exact h1.below
theorem RmP.call {W w w' : World} {sb srb b rb : Nat} {L0 M0 : List Sn} (h : RmP W w sb srb b rb L0 M0) (hb : Below w.heap.size w w') : RmP W w' sb srb b rb L0 M0 := by
  obtain ⟨L, M, G, h1, h2⟩ := h
  exact ⟨L, M, G, h1.call hb, h2⟩
theorem RmT.done {W w : World} {sb srb b rb : Nat} (h : RmT W w sb srb b rb 5 5 5 5) : RmP W w sb srb b rb (cnS 5) (cnS 5) := by
  obtain ⟨L, M, G, h1, h2, h3, h4⟩ := h
  exact ⟨L, M, G, h1, h3, h4, by decide +kernel, by decide +kernel, cnS_asc 5 (by decide)⟩
theorem RmP.set {W w : World} {sb srb b rb : Nat} {L0 M0 : List Sn} (h : RmP W w sb srb b rb L0 M0) (hT : CX.TabG W) (id ix : Int) (c : Cp) (he : c.e ≤ 9223372036854775807) :
    Calls Tryd.prog 25 #[.pointer (some ⟨sb, 0, none⟩), .agg #[.int .i64 id, .int .i64 ix], c.V] w fun e w' => (∃ n : Int, e = .returned (.int .i64 n)) ∧ RmP W w' sb srb b rb (setM L0 id ix c) M0 := by
  obtain ⟨L, M, G, h1, h3, h4, h5, h6, h7⟩ := h
  refine (h1.setP hT id ix c he).mono ?_
  rintro e w' ⟨rfl, h8⟩
  exact ⟨⟨_, rfl⟩, _, M, G, h8, (TabS.set_same h3 id ix c).2, h4, by rw [TabS.set_len]; exact h5, h6, h7⟩
theorem setM_keys (L : List Sn) (id ix : Int) (c : Cp) : (setM L id ix c).map (fun x => x.id) = L.map (fun x => x.id) := by
  unfold TabS.setM
  split
  · split
    · rename_i x hx
      unfold TabS.putS
      rw [List.map_set]
      have : (L.map fun x => x.id)[TabS.posS L id]? = some x.id := by rw [List.getElem?_map, hx]; rfl
      refine List.ext_getElem? (fun j => ?_)
      rw [List.getElem?_set]
      split
      · rename_i e
        subst e
        rw [this, if_pos (List.getElem?_eq_some_iff.1 this).1]
      · rfl
    · rfl
  · rfl
theorem asc_keys {L M : List Sn} (h : L.map (fun x => x.id) = M.map (fun x => x.id)) (hA : Asc (rowsS L)) : Asc (rowsS M) := by
  have e : ∀ N : List Sn, (rowsS N).map Prod.fst = N.map (fun x => x.id) := fun N => by simp [TabS.rowsS, TabS.rowS, Function.comp_def]
  unfold Asc at *
  rw [e] at *
  rw [← h]
  exact hA
theorem RmP.rset {W w : World} {sb srb b rb : Nat} {L0 M0 : List Sn} (h : RmP W w sb srb b rb L0 M0) (id ix : Int) (c : Cp) :
    Calls Tryd.prog 26 #[.pointer (some ⟨srb, 0, none⟩), .agg #[.int .i64 id, .int .i64 ix], c.V] w fun e w' => (∃ n : Int, e = .returned (.int .i64 n)) ∧ RmP W w' sb srb b rb L0 (setM M0 id ix c) := by
  obtain ⟨L, M, G, h1, h3, h4, h5, h6, h7⟩ := h
  refine (h1.setQ (h4.symm.asc h7) (by rw [h4.len, h6]; decide) id ix c).mono ?_
  rintro e w' ⟨rfl, h8⟩
  exact ⟨⟨_, rfl⟩, L, _, G, h8, h3, (TabS.set_same h4 id ix c).2, h5, by rw [TabS.set_len]; exact h6, asc_keys (setM_keys M0 id ix c).symm h7⟩
/-- What the reading calls see. -/
theorem pathP_same {L M : List Sn} (h : SameS L M) (O : List Ob) (a : Nat) : ∀ (k : Nat) (c : Cp) (rest : Nat), pathP L O a k c rest = pathP M O a k c rest := by
  have e1 : ∀ id, sizS L id = sizS M id := fun id => TabS.size_same h id
  have e2 : ∀ id ix, getR L id ix = getR M id ix := fun id ix => TabS.getR_same h id ix
  have e3 : ∀ c rest, stepP L O c a rest = stepP M O c a rest := fun c rest => by unfold stepP; simp only [e1]
  have e4 : ∀ p, capN L p = capN M p := fun p => by unfold capN; rw [e2]
  intro k
  induction k with
  | zero => intro c rest; rfl
  | succ k ih =>
    intro c rest
    unfold pathP
    rw [e3]
    split
    · rfl
    · split
      · rfl
      · rw [e4, ih]
theorem resR_same {L M : List Sn} (h : SameS L M) (O : List Ob) (c : Cp) (a : Nat) (d : Int) : resR L O c a d = resR M O c a d := by
  unfold resR
  rw [pathP_same h]
theorem capsOk_same {L M : List Sn} (h : SameS L M) (hM : CapsOk M) : CapsOk L := by
  intro x hx c hc
  obtain ⟨k, hk⟩ := List.mem_iff_getElem?.1 hx
  obtain ⟨y, hy, _, e⟩ := h.get hk
  exact hM y (List.mem_of_getElem? hy) c (e ▸ hc)
theorem capsOk_set {L : List Sn} (h : CapsOk L) (id ix : Int) (c : Cp) : CapsOk (setM L id ix c) := by
  unfold TabS.setM
  split
  · rename_i hN
    split
    · rename_i x hx
      unfold TabS.putS
      intro y hy d hd
      rcases List.mem_or_eq_of_mem_set hy with hy | rfl
      · exact h y hy d hd
      · rcases List.mem_or_eq_of_mem_set hd with hd | rfl
        · exact h x (List.mem_of_getElem? hx) d hd
        · unfold TabS.setN at hN
          split at hN
          · cases hN
          · split at hN
            · assumption
            · cases hN
    · exact h
  · exact h
theorem caps_cn : CapsOk (cnS 5) := by
  have : ∀ x ∈ cnS 5, ∀ c ∈ x.l, mayC c = true := by decide +kernel
  exact this
theorem caps_play (D : Nat → PutC) : ∀ n, CapsOk (playP D n)
  | 0 => caps_cn
  | n + 1 => capsOk_set (caps_play D n) _ _ _
theorem rad5 : Rad (stO 5).2 := by
  have h : ∀ o ∈ (stO 5).2, o.kd = 2 → 1 ≤ o.sz ∧ o.sz ≤ 4 := by decide +kernel
  intro id o ho hk
  unfold getO at ho
  split at ho
  · exact h o (List.mem_of_getElem? ho) hk
  · cases ho
theorem RmP.sees {W w : World} {sb srb b rb : Nat} {L0 M0 : List Sn} (h : RmP W w sb srb b rb L0 M0) (hT : CX.TabG W) : ∃ L, Sees w sb b L (stO 5).2 ∧ SameS L L0 := by
  obtain ⟨L, M, G, ⟨ab, base, rbase, v, u, hP, ⟨b0, tv, rb0, v0, hS⟩⟩, h3, _⟩ := h
  exact ⟨L, ⟨⟨b0, tv, hS.pk⟩, ⟨ab, base, 16, _, v, hP.ar⟩, hT.call hS.bl⟩, h3⟩
/-- Resolve in the room. -/
theorem RmP.resolve {W w : World} {sb srb b rb : Nat} {L0 M0 : List Sn} (h : RmP W w sb srb b rb L0 M0) (hT : CX.TabG W) (hC : CapsOk L0) (c : Cp) (a : Nat) (d : Int) (he : c.e ≤ 9223372036854775807) (ha : a < 2 ^ 64) :
    Calls Tryd.prog 10 #[.pointer (some ⟨sb, 0, none⟩), .pointer (some ⟨b, 0, none⟩), c.V, .int .u64 a, .int .i64 d] w fun e w' => e = .returned (.tuple #[.agg #[.int .i64 (resR L0 (stO 5).2 c a d).1, .int .i64 (resR L0 (stO 5).2 c a d).2.1], .int .i64 (resR L0 (stO 5).2 c a d).2.2]) ∧ Below w.heap.size w w' := by
  obtain ⟨L, hs, hl⟩ := h.sees hT
  rw [← resR_same hl]
  exact resolve_any w sb b L _ c a d hs rad5 (capsOk_same hl hC) he ha
end LkS
end
/- chapter 16: the room. -/
section
set_option linter.unusedVariables false
set_option linter.unusedSimpArgs false
open Go.ChangeShapes Go.WideShapes Go.ChangeAt Go.RowKit Go.Shelf

namespace LkS
open TabS (Cp Sn zC mayC sizS getR Two Pr SlotsAt SameS AddRel addSR setN setM rowsS hasS insS)
theorem new16 (w : World) : Calls Tryd.prog 19 #[.int .i64 16] w fun e w' => ∃ b, e = .returned (.tuple #[.pointer (some ⟨b, 0, none⟩), .int .i64 0]) ∧ NewA w w' b 16 := new_any w 16 (by decide)
def PutC.cells (x : PutC) : List Value := .int .i64 x.s :: .int .i64 x.i :: x.c.L
/-- What is put in, as it came. -/
def PutsAt (w : World) (p : Option Addr) (n : Nat) (D : Nat → PutC) : Prop :=
  ∃ b off, (1 ≤ n → p = some ⟨b, off, none⟩ ∧ b < w.heap.size) ∧ ∀ k, k < n → w.rangeAt b (off + k * 10) (D k).cells ∧ (D k).c.e ≤ 9223372036854775807
theorem PutsAt.below {w w' : World} {p : Option Addr} {n : Nat} {D : Nat → PutC} (h : PutsAt w p n D) (hb : Below w.heap.size w w') : PutsAt w' p n D := by
  obtain ⟨b, off, h1, h2⟩ := h
  refine ⟨b, off, fun hn => ⟨(h1 hn).1, Nat.lt_of_lt_of_le (h1 hn).2 hb.size⟩, fun k hk => ⟨fun j v hj => ?_, (h2 k hk).2⟩⟩
  exact (hb.cell (p := ⟨b, _, none⟩) (h1 (by omega)).2).trans ((h2 k hk).1 j v hj)
set_option maxRecDepth 100000 in
set_option maxHeartbeats 2000000 in
theorem room_any (W : World) (q : Option Addr) (n cc : Nat) (D : Nat → PutC) (hn : n ≤ 40) (hD : PutsAt W q n D) (hT : CX.TabG W) :
    Calls Tryd.prog 9 #[.slice q n cc] W fun e w' => ∃ sb srb b rb, e = .returned (.tuple #[.pointer (some ⟨sb, 0, none⟩), .pointer (some ⟨b, 0, none⟩), .pointer (some ⟨srb, 0, none⟩), .pointer (some ⟨rb, 0, none⟩)]) ∧ RmP W w' sb srb b rb (playP D n) (playP D n) := by
  have HD := Lib.hid hD
  have HT := Lib.hid hT
  have hz := zero_ref
  have hne := zA_ne
  clear hD hT
  go_enter Tryd.func9, Tryd.ntmps9
  go_upto_region 5 with (first
    | (go_at_call 18; (with_reducible refine (TabS.snew_any' _).mono ?_); rintro e w1 ⟨rfl, ha1, hb1⟩; have HA1 := Lib.hid ha1; have HB1 := Lib.hid hb1; clear ha1 hb1)
    | (go_at_call 19; (with_reducible refine (new16 _).mono ?_); rintro e w2 ⟨b, rfl, hn2⟩; have HN2 := Lib.hid hn2; clear hn2)
    | (go_at_call 20; (with_reducible refine (rnew_yes _ 16 (by decide) (by decide)).mono ?_); rintro e w3 ⟨rb, rfl, hr3, hb3, hrb⟩; have HR3 := Lib.hid hr3; have HB3 := Lib.hid hb3; have HRB := Lib.hid hrb; clear hr3 hb3 hrb))
  have hst : RmT W w3 W.heap.size w2.heap.size b rb 0 0 0 0 := by
    obtain ⟨ab, base, hA, p1, p2, p3⟩ := HN2.out
    have z1 := HA1.out.lt
    have z2 := hA.bl
    have z3 := hA.al
    have z4 := HRB.out
    rw [World.size_alloc, World.size_alloc] at z4
    rw [World.size_alloc] at p1 p2
    have b13 : Below w2.heap.size w2 w3 := bgo (bal (bal (Below.refl w2.heap.size w2) _) _) HB3.out
    have b12 : Below w1.heap.size w1 w2 := bgo (bal (Below.refl w1.heap.size w1) _) p3
    have b1 : Below w1.heap.size w1 w3 := bgo b12 b13
    have hsr : w3.heap[w2.heap.size]? = some (.cells #[.slice none 0 0] 65 (0, 0)) := by
      rw [HB3.out.block _ (by simp; omega), Below.heap_alloc _ _ _ (by simp)]
      exact heap_alloc_new w2 _
    exact rmt_start (HA1.out.call b1) (hA.call b13) hsr HR3.out (bgo HB1.out b1) (Nat.le_refl _) (by omega) (by omega) z2 z3 (by omega)
  have HST := Lib.hid hst
  obtain ⟨sb, hsb⟩ : ∃ x, x = W.heap.size := ⟨_, rfl⟩
  obtain ⟨srb, hsrb⟩ : ∃ x, x = w2.heap.size := ⟨_, rfl⟩
  rw [← hsb, ← hsrb] at HST ⊢
  clear hst hsb hsrb HN2 HA1 HB1 HR3 HB3 HRB hz hne
  go_wp2
  go_loopw [10, 11, 12, 13] (fun x k _ _ wr => ∃ t : Nat, t ≤ 4 ∧ x = .int .i64 (atA t) ∧ k = .int .i64 ((t : Int) + 1) ∧ Hid (RmT W wr sb srb b rb t t t t)) (fun _ k _ _ _ => 6 - (intOf k).toNat)
  case atStart => exact ⟨0, by omega, rfl, rfl, HST⟩
  case round =>
    obtain ⟨t, ht, rfl, rfl, HO⟩ := hrel
    clear HST
    obtain rfl | rfl | rfl | rfl | rfl : t = 0 ∨ t = 1 ∨ t = 2 ∨ t = 3 ∨ t = 4 := by omega
    · rw [show (((0 : Nat) : Int) + 1) = 1 from rfl, show atA 0 = 0 from rfl]
      have HA : Hid (Calls Tryd.prog 21 #[.pointer (some ⟨b, 0, none⟩), .int .i64 2, .int .i64 1, .int .i64 0] wr fun e w' => e = .returned (.tuple #[.int .i64 1, .int .i64 0]) ∧ RmT W w' sb srb b rb 1 0 0 0) := Lib.hid (RmT.a (t := 0) (by decide) HO.out)
      go_wp2_with (first
          | (go_at_call 21; (with_reducible refine HA.out.mono ?_); rintro e w4 ⟨rfl, h4⟩; have HB : Hid (Calls Tryd.prog 22 #[.pointer (some ⟨rb, 0, none⟩), .int .i64 2, .int .i64 1, .int .i64 0] w4 fun e w' => e = .returned (.tuple #[.int .i64 1, .int .i64 0]) ∧ RmT W w' sb srb b rb 1 1 0 0) := Lib.hid (RmT.b (t := 0) (by decide) h4); clear h4)
          | (go_at_call 22; (with_reducible refine HB.out.mono ?_); rintro e w5 ⟨rfl, h5⟩; have HC : Hid (Calls Tryd.prog 23 #[.pointer (some ⟨sb, 0, none⟩), .int .i64 1, .int .i64 2] w5 fun e w' => e = .returned (.int .i64 0) ∧ RmT W w' sb srb b rb 1 1 1 0) := Lib.hid (RmT.c (t := 0) (by decide) h5); clear h5)
          | (go_at_call 23; (with_reducible refine HC.out.mono ?_); rintro e w6 ⟨rfl, h6⟩; have HDD : Hid (Calls Tryd.prog 24 #[.pointer (some ⟨srb, 0, none⟩), .int .i64 1, .int .i64 2] w6 fun e w' => e = .returned (.int .i64 0) ∧ RmT W w' sb srb b rb 1 1 1 1) := Lib.hid (RmT.d (t := 0) (by decide) h6); clear h6)
          | (go_at_call 24; (with_reducible refine HDD.out.mono ?_); rintro e w7 ⟨rfl, h7⟩; have H7 := Lib.hid h7; clear h7))
      go_roundw
      case rel => exact ⟨1, by omega, rfl, rfl, Lib.hid (H7.out.call (bal (Below.refl _ _) _))⟩
      case measure => simp [intOf]
    · rw [show (((1 : Nat) : Int) + 1) = 2 from rfl, show atA 1 = 1 from rfl]
      have HA : Hid (Calls Tryd.prog 21 #[.pointer (some ⟨b, 0, none⟩), .int .i64 2, .int .i64 2, .int .i64 1] wr fun e w' => e = .returned (.tuple #[.int .i64 2, .int .i64 0]) ∧ RmT W w' sb srb b rb 2 1 1 1) := Lib.hid (RmT.a (t := 1) (by decide) HO.out)
      go_wp2_with (first
          | (go_at_call 21; (with_reducible refine HA.out.mono ?_); rintro e w4 ⟨rfl, h4⟩; have HB : Hid (Calls Tryd.prog 22 #[.pointer (some ⟨rb, 0, none⟩), .int .i64 2, .int .i64 2, .int .i64 1] w4 fun e w' => e = .returned (.tuple #[.int .i64 2, .int .i64 0]) ∧ RmT W w' sb srb b rb 2 2 1 1) := Lib.hid (RmT.b (t := 1) (by decide) h4); clear h4)
          | (go_at_call 22; (with_reducible refine HB.out.mono ?_); rintro e w5 ⟨rfl, h5⟩; have HC : Hid (Calls Tryd.prog 23 #[.pointer (some ⟨sb, 0, none⟩), .int .i64 2, .int .i64 4] w5 fun e w' => e = .returned (.int .i64 0) ∧ RmT W w' sb srb b rb 2 2 2 1) := Lib.hid (RmT.c (t := 1) (by decide) h5); clear h5)
          | (go_at_call 23; (with_reducible refine HC.out.mono ?_); rintro e w6 ⟨rfl, h6⟩; have HDD : Hid (Calls Tryd.prog 24 #[.pointer (some ⟨srb, 0, none⟩), .int .i64 2, .int .i64 4] w6 fun e w' => e = .returned (.int .i64 0) ∧ RmT W w' sb srb b rb 2 2 2 2) := Lib.hid (RmT.d (t := 1) (by decide) h6); clear h6)
          | (go_at_call 24; (with_reducible refine HDD.out.mono ?_); rintro e w7 ⟨rfl, h7⟩; have H7 := Lib.hid h7; clear h7))
      go_roundw
      case rel => exact ⟨2, by omega, rfl, rfl, Lib.hid (H7.out.call (bal (Below.refl _ _) _))⟩
      case measure => simp [intOf]
    · rw [show (((2 : Nat) : Int) + 1) = 3 from rfl, show atA 2 = 2 from rfl]
      have HA : Hid (Calls Tryd.prog 21 #[.pointer (some ⟨b, 0, none⟩), .int .i64 2, .int .i64 3, .int .i64 2] wr fun e w' => e = .returned (.tuple #[.int .i64 3, .int .i64 0]) ∧ RmT W w' sb srb b rb 3 2 2 2) := Lib.hid (RmT.a (t := 2) (by decide) HO.out)
      go_wp2_with (first
          | (go_at_call 21; (with_reducible refine HA.out.mono ?_); rintro e w4 ⟨rfl, h4⟩; have HB : Hid (Calls Tryd.prog 22 #[.pointer (some ⟨rb, 0, none⟩), .int .i64 2, .int .i64 3, .int .i64 2] w4 fun e w' => e = .returned (.tuple #[.int .i64 3, .int .i64 0]) ∧ RmT W w' sb srb b rb 3 3 2 2) := Lib.hid (RmT.b (t := 2) (by decide) h4); clear h4)
          | (go_at_call 22; (with_reducible refine HB.out.mono ?_); rintro e w5 ⟨rfl, h5⟩; have HC : Hid (Calls Tryd.prog 23 #[.pointer (some ⟨sb, 0, none⟩), .int .i64 3, .int .i64 8] w5 fun e w' => e = .returned (.int .i64 0) ∧ RmT W w' sb srb b rb 3 3 3 2) := Lib.hid (RmT.c (t := 2) (by decide) h5); clear h5)
          | (go_at_call 23; (with_reducible refine HC.out.mono ?_); rintro e w6 ⟨rfl, h6⟩; have HDD : Hid (Calls Tryd.prog 24 #[.pointer (some ⟨srb, 0, none⟩), .int .i64 3, .int .i64 8] w6 fun e w' => e = .returned (.int .i64 0) ∧ RmT W w' sb srb b rb 3 3 3 3) := Lib.hid (RmT.d (t := 2) (by decide) h6); clear h6)
          | (go_at_call 24; (with_reducible refine HDD.out.mono ?_); rintro e w7 ⟨rfl, h7⟩; have H7 := Lib.hid h7; clear h7))
      go_roundw
      case rel => exact ⟨3, by omega, rfl, rfl, Lib.hid (H7.out.call (bal (Below.refl _ _) _))⟩
      case measure => simp [intOf]
    · rw [show (((3 : Nat) : Int) + 1) = 4 from rfl, show atA 3 = 4 from rfl]
      have HA : Hid (Calls Tryd.prog 21 #[.pointer (some ⟨b, 0, none⟩), .int .i64 2, .int .i64 4, .int .i64 4] wr fun e w' => e = .returned (.tuple #[.int .i64 5, .int .i64 0]) ∧ RmT W w' sb srb b rb 4 3 3 3) := Lib.hid (RmT.a (t := 3) (by decide) HO.out)
      go_wp2_with (first
          | (go_at_call 21; (with_reducible refine HA.out.mono ?_); rintro e w4 ⟨rfl, h4⟩; have HB : Hid (Calls Tryd.prog 22 #[.pointer (some ⟨rb, 0, none⟩), .int .i64 2, .int .i64 4, .int .i64 4] w4 fun e w' => e = .returned (.tuple #[.int .i64 5, .int .i64 0]) ∧ RmT W w' sb srb b rb 4 4 3 3) := Lib.hid (RmT.b (t := 3) (by decide) h4); clear h4)
          | (go_at_call 22; (with_reducible refine HB.out.mono ?_); rintro e w5 ⟨rfl, h5⟩; have HC : Hid (Calls Tryd.prog 23 #[.pointer (some ⟨sb, 0, none⟩), .int .i64 5, .int .i64 16] w5 fun e w' => e = .returned (.int .i64 0) ∧ RmT W w' sb srb b rb 4 4 4 3) := Lib.hid (RmT.c (t := 3) (by decide) h5); clear h5)
          | (go_at_call 23; (with_reducible refine HC.out.mono ?_); rintro e w6 ⟨rfl, h6⟩; have HDD : Hid (Calls Tryd.prog 24 #[.pointer (some ⟨srb, 0, none⟩), .int .i64 5, .int .i64 16] w6 fun e w' => e = .returned (.int .i64 0) ∧ RmT W w' sb srb b rb 4 4 4 4) := Lib.hid (RmT.d (t := 3) (by decide) h6); clear h6)
          | (go_at_call 24; (with_reducible refine HDD.out.mono ?_); rintro e w7 ⟨rfl, h7⟩; have H7 := Lib.hid h7; clear h7))
      go_roundw
      case rel => exact ⟨4, by omega, rfl, rfl, Lib.hid (H7.out.call (bal (Below.refl _ _) _))⟩
      case measure => simp [intOf]
    · rw [show (((4 : Nat) : Int) + 1) = 5 from rfl, show atA 4 = 8 from rfl]
      have HA : Hid (Calls Tryd.prog 21 #[.pointer (some ⟨b, 0, none⟩), .int .i64 9, .int .i64 0, .int .i64 8] wr fun e w' => e = .returned (.tuple #[.int .i64 9, .int .i64 0]) ∧ RmT W w' sb srb b rb 5 4 4 4) := Lib.hid (RmT.a (t := 4) (by decide) HO.out)
      go_wp2_with (first
          | (go_at_call 21; (with_reducible refine HA.out.mono ?_); rintro e w4 ⟨rfl, h4⟩; have HB : Hid (Calls Tryd.prog 22 #[.pointer (some ⟨rb, 0, none⟩), .int .i64 9, .int .i64 0, .int .i64 8] w4 fun e w' => e = .returned (.tuple #[.int .i64 9, .int .i64 0]) ∧ RmT W w' sb srb b rb 5 5 4 4) := Lib.hid (RmT.b (t := 4) (by decide) h4); clear h4)
          | (go_at_call 22; (with_reducible refine HB.out.mono ?_); rintro e w5 ⟨rfl, h5⟩; have HC : Hid (Calls Tryd.prog 23 #[.pointer (some ⟨sb, 0, none⟩), .int .i64 9, .int .i64 3] w5 fun e w' => e = .returned (.int .i64 0) ∧ RmT W w' sb srb b rb 5 5 5 4) := Lib.hid (RmT.c (t := 4) (by decide) h5); clear h5)
          | (go_at_call 23; (with_reducible refine HC.out.mono ?_); rintro e w6 ⟨rfl, h6⟩; have HDD : Hid (Calls Tryd.prog 24 #[.pointer (some ⟨srb, 0, none⟩), .int .i64 9, .int .i64 3] w6 fun e w' => e = .returned (.int .i64 0) ∧ RmT W w' sb srb b rb 5 5 5 5) := Lib.hid (RmT.d (t := 4) (by decide) h6); clear h6)
          | (go_at_call 24; (with_reducible refine HDD.out.mono ?_); rintro e w7 ⟨rfl, h7⟩; have H7 := Lib.hid h7; clear h7))
      have HP0 : Hid (RmP W w7 sb srb b rb (playP D 0) (playP D 0)) := Lib.hid H7.out.done
      clear H7
      go_loopw [16] (fun i wr => ∃ t : Nat, t ≤ n ∧ i = .int .i64 t ∧ Hid (RmP W wr sb srb b rb (playP D t) (playP D t))) (fun i _ => n - (intOf i).toNat)
      case atStart => exact ⟨0, by omega, rfl, HP0⟩
      case round =>
        obtain ⟨t, ht, rfl, HO⟩ := hrel
        clear HP0
        by_cases hlt : t < n
        · have hltI : (t : Int) < n := by omega
          obtain ⟨aB, aO, hq, hcs⟩ := HD.out
          obtain ⟨rfl, hal⟩ := hq (by omega)
          obtain ⟨hrow, hce⟩ := hcs t hlt
          have hbl := HO.out.below
          have hcell : ∀ v, Below W.heap.size W v → ∀ j u, (D t).cells[j]? = some u → v.cell? ⟨aB, aO + t * 10 + j, none⟩ = some u := fun v hv j u hj => (hv.cell (p := ⟨aB, _, none⟩) hal).trans (hrow j u hj)
          have HCELL := Lib.hid hcell
          have HS1 : Hid (Calls Tryd.prog 25 #[.pointer (some ⟨sb, 0, none⟩), .agg #[.int .i64 (D t).s, .int .i64 (D t).i], (D t).c.V] wr.drew fun e w' => (∃ n : Int, e = .returned (.int .i64 n)) ∧ RmP W w' sb srb b rb (playP D (t + 1)) (playP D t)) := Lib.hid ((HO.out.call (show Below wr.heap.size wr wr.drew from (Below.refl _ _).drew)).set HT.out _ _ _ hce)
          have hpl : playP D (t + 1) = setM (playP D t) (D t).s (D t).i (D t).c := rfl
          have HPL := Lib.hid hpl
          obtain ⟨L1, hL1⟩ : ∃ x, x = playP D (t + 1) := ⟨_, rfl⟩
          rw [← hL1] at HS1 HPL
          have HL1 := Lib.hid hL1
          clear hL1
          generalize D t = x at *
          obtain ⟨xs, xi, xa, xb, xc, xd, xe, xf, xg, xh⟩ := x
          simp only [] at HS1
          have c0 := HCELL.out _ hbl 0 _ rfl
          rw [Nat.add_zero] at c0
          have c1 := HCELL.out _ hbl 1 _ rfl
          have c2 := HCELL.out _ hbl 2 _ rfl
          have c3 := HCELL.out _ hbl 3 _ rfl
          have c4 := HCELL.out _ hbl 4 _ rfl
          have c5 := HCELL.out _ hbl 5 _ rfl
          have c6 := HCELL.out _ hbl 6 _ rfl
          have c7 := HCELL.out _ hbl 7 _ rfl
          have c8 := HCELL.out _ hbl 8 _ rfl
          have c9 := HCELL.out _ hbl 9 _ rfl
          clear hq hcs hrow hcell hal hbl hce hpl
          simp only [] at c0 c1 c2 c3 c4 c5 c6 c7 c8 c9
          go_upto_region 23 with fail
          go_still_tail 11, (by kernel_rfl)
          repeat still_step
          change wpList _ _ _ _ _ wr.drew
          go_upto_region 24 with (go_at_call 25; (with_reducible refine HS1.out.mono ?_); rintro e w8 ⟨⟨er, rfl⟩, h8⟩; have H8 := Lib.hid h8; clear h8)
          clear c0 c1 c2 c3 c4 c5 c6 c7 c8 c9 HS1
          have c0 := HCELL.out _ H8.out.below 0 _ rfl
          rw [Nat.add_zero] at c0
          have c1 := HCELL.out _ H8.out.below 1 _ rfl
          have c2 := HCELL.out _ H8.out.below 2 _ rfl
          have c3 := HCELL.out _ H8.out.below 3 _ rfl
          have c4 := HCELL.out _ H8.out.below 4 _ rfl
          have c5 := HCELL.out _ H8.out.below 5 _ rfl
          have c6 := HCELL.out _ H8.out.below 6 _ rfl
          have c7 := HCELL.out _ H8.out.below 7 _ rfl
          have c8 := HCELL.out _ H8.out.below 8 _ rfl
          have c9 := HCELL.out _ H8.out.below 9 _ rfl
          simp only [] at c0 c1 c2 c3 c4 c5 c6 c7 c8 c9
          have HS2 : Hid (Calls Tryd.prog 26 #[.pointer (some ⟨srb, 0, none⟩), .agg #[.int .i64 xs, .int .i64 xi], .agg #[.int .i64 xa, .int .i64 xb, .int .i64 xc, .int .u64 xd, .int .i64 xe, .int .i64 xf, .int .i64 xg, .int .i64 xh]] w8.drew fun e w' => (∃ n : Int, e = .returned (.int .i64 n)) ∧ RmP W w' sb srb b rb L1 L1) := Lib.hid (by
            have := (H8.out.call (show Below w8.heap.size w8 w8.drew from (Below.refl _ _).drew)).rset xs xi ⟨xa, xb, xc, xd, xe, xf, xg, xh⟩
            rw [← HPL.out] at this
            exact this)
          go_still_tail 11, (by kernel_rfl)
          repeat still_step
          change wpList _ _ _ _ _ w8.drew
          go_wp2_with (go_at_call 26; (with_reducible refine HS2.out.mono ?_); rintro e w9 ⟨⟨er2, rfl⟩, h9⟩; have H9 := Lib.hid h9; clear h9)
          go_roundw
          case rel => exact ⟨t + 1, by omega, by go_num, by rw [← HL1.out]; exact H9⟩
          case measure => first | (simp [intOf]; done) | (simp [intOf]; omega)
        · obtain rfl : t = n := by omega
          go_wp2
          exact bodyPost_ret (v := .tuple #[.pointer (some ⟨sb, 0, none⟩), .pointer (some ⟨b, 0, none⟩), .pointer (some ⟨srb, 0, none⟩), .pointer (some ⟨rb, 0, none⟩)]) (by simp [results, Tryd.results9, go_sem]) rfl ⟨sb, srb, b, rb, rfl, HO.out⟩
end LkS
end
end Go.Proofs.YtnjdljjmengjbaaDoor
