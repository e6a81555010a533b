import Derived.Test.YtekllgejmgoajaaDoorPkav
import Derived.LoopIn
import Derived.LoopTactic
import Derived.Outline
import Derived.Stop.RegionWithIn
import Derived.Sort.QuietIn
import Derived.Lib.SmallJoins
namespace Go.Proofs.YtekllgejmgoajaaDoor
set_option linter.unusedVariables false
set_option linter.unusedSimpArgs false
set_option maxRecDepth 100000
set_option maxHeartbeats 8000000
open Lib (hid)
section
open Go.RowKit Go.Shelf
variable {P : Program} {F : Fence} {n : Nat}
def SeqLinkedP {α : Type} (F : Fence) (n : Nat) (P : Program) (g : Nat) (lb : Array Value) (encs : α → Array Value) (V : List α → α → Prop) (I : List α → World → Prop) (S : List α → Prop) (N B : Nat) : Prop :=
 ∀ (l : Nat) (J : List α → World → Prop) (W : World), B ≤ W.heap.size → AbidesFrom W.heap.size J → (∀ pre W1, J pre W1 → I pre W1) →
  (∀ pre x W1, V pre x → J pre W1 → pre.length < N → YieldAt F (n - 1) P l (encs x) W1 fun e W' => e = .returned (.bool true) ∧ J (pre ++ [x]) W') →
  J [] W → CallsIn F n P g (#[.func (.yield l) #[] #[]] ++ lb) W fun e W' => (∃ v, e = .returned v) ∧ ∃ xs, S xs ∧ J xs W'
theorem wpIn_range_linkedP {α : Type} {g : Operand} {ps : Array Tmp} {assign body : Code} {Q : Exit → Act → World → Prop} {a : Act} {w : World}
  (hro : F.round = none) (h1 : 1 ≤ n) {gf : Nat} {lb : Array Value} (hg : a.eval g = .func (.func gf) #[] lb) (hFg : F.fn gf) (eg : ∀ args w, (callFunc gf args).run P w = .ok (.enter gf args) w)
  {encs : α → Array Value} {V : List α → α → Prop} {S : List α → Prop} {N : Nat} (I : List α → World → Prop) (hseq : SeqLinkedP F (n - 1) P gf lb encs V I S N w.heap.size) (hps : ∀ x, (encs x).size = ps.size)
  (hI : OwnFrom w.heap.size I) (h0 : I [] w) (a₁ : α → Act)
  (hassign : ∀ (l : Nat) (x : α) (W : World) (K : Act → World → Prop), K (a₁ x) W →
   assign.wpIn (F.inRound l) (n - 1 - 1) P (Exit.then K (fun _ _ _ => False)) { tmps := (ps.zip (encs x)).foldl (fun t (p, v) => t.setIfInBounds p v) a.tmps, defers := [] } W)
  (hbody : ∀ (l : Nat) (pre : List α) (x : α) (W : World), V pre x → I pre W → pre.length < N → body.wpIn (F.inRound l) (n - 1 - 1) P (fun e _ W' => e = .normal ∧ KeepsOthers W W' ∧ I (pre ++ [x]) W') (a₁ x) W)
  (hdone : ∀ (D : Nat) (xs : List α) (W : World), w.heap.size ≤ D → S xs → I xs W → W.heap[D]? = some (.deferred (some [])) → Q .normal { a with defers := { target := .collected D, args := #[] } :: a.defers } W) :
  (Code.rangeFunc g ps assign body).wpIn F n P Q a w := by
 refine wpIn_rangeFunc ?_
 intro fn hfn
 rw [hro]
 -- the loop's record, by its state
 obtain ⟨rc, hrc⟩ : ∃ rc : LoopState → Loop, rc = fun st => { state := st, pending := none, fn, tmps := a.tmps, params := ps, assign, body, defers := w.heap.size } := ⟨_, rfl⟩
 have hent := run_enterLoop_outer (P := P) (w := w) fn a.tmps ps assign body
 obtain ⟨W1, hW1⟩ : ∃ W1, W1 = (w.alloc (.deferred (some []))).alloc (.loop (rc .ready)) := ⟨_, rfl⟩
 have rec1 : W1.heap[w.heap.size + 1]? = some (.loop (rc .ready)) := by
  have e := World.alloc_heap_new (w.alloc (.deferred (some []))) (.loop (rc .ready))
  rw [World.size_alloc] at e
  rw [hW1]; exact e
 have def1 : W1.heap[w.heap.size]? = some (.deferred (some [])) := by
  rw [hW1, Below.heap_alloc _ _ _ (by simp)]
  exact World.alloc_heap_new w _
 have inv1 : I [] W1 := by rw [hW1]; exact hI.alloc _ (hI.alloc _ h0)
 have siz1 : w.heap.size + 2 ≤ W1.heap.size := by rw [hW1]; simp
 refine ⟨w.heap.size + 1, [{ target := .collected w.heap.size, args := #[] }], W1, { target := .fn (.func gf) lb, args := #[.func (.yield (w.heap.size + 1)) #[] #[]] }, W1, gf, #[.func (.yield (w.heap.size + 1)) #[] #[]] ++ lb, W1, ?_, ?_, ?_, ?_, fun _ => h1, ?_⟩
 ·rw [hW1, hrc]; exact hent
 ·simp only [resolve, hg]
  simp [go_sem]
 ·intro f' hf'
  simp [Target.leads] at hf'
  exact hf' ▸ hFg
 ·simp [invoke, go_sem, eg]
 refine (hseq (w.heap.size + 1) (fun pre W => I pre W ∧ W.heap[w.heap.size + 1]? = some (.loop (rc .ready)) ∧ W.heap[w.heap.size]? = some (.deferred (some []))) W1 (by omega) ?_ (fun _ _ h => h.1) ?_ ⟨inv1, rec1, def1⟩).mono ?_
 ·-- turns of walks beyond leave all three
  intro s A B row hs hgr hr
  have hw : ∀ r, row = some r → w.heap.size ≤ r ∧ ∃ o : Obj, A.heap[r]? = some o ∧ o.isCells = false := fun r e => by
   obtain ⟨hB, o, ho, hk⟩ := hr r e
   exact ⟨by omega, o, ho, Obj.not_cells_of_walk hk⟩
  exact ⟨hI s A B row hs.1 hgr hw, (grownBy_keeps hgr (fun r e => (hr r e).2) hs.2.1 rfl).trans hs.2.1, (grownBy_keeps hgr (fun r e => (hr r e).2) hs.2.2 rfl).trans hs.2.2⟩
 ·-- a round
  rintro pre x W hv ⟨hi, hl, hk⟩ hlen
  have hlt : w.heap.size + 1 < W.heap.size := (ags hl).1
  have hy := run_yield (P := P) (args := encs x) hl (by rw [hrc]; exact hps x)
  rw [hrc] at hy
  obtain ⟨U, hU⟩ : ∃ U, U = W.putObj (w.heap.size + 1) (.loop { rc .ready with state := .busy }) := ⟨_, rfl⟩
  have recU : U.heap[w.heap.size + 1]? = some (.loop { rc .ready with state := .busy }) := by rw [hU]; exact World.putObj_heap_same hlt
  have defU : U.heap[w.heap.size]? = some (.deferred (some [])) := by rw [hU]; exact (World.putObj_heap_other (by omega)).trans hk
  have invU : I pre U := by rw [hU]; exact hI.putObj _ hi (by omega) hl rfl
  refine ⟨fn, _, assign, body, hy, roundIn_of_wpIn hfn (hassign _ x W _ ⟨_, run_beginRound hl (by rw [hrc]), ?_⟩)⟩
  rw [← hU]
  refine wpIn_mono (hbody _ pre x U hv invU hlen) ?_
  rintro e a3 W3 ⟨rfl, hk3, hi3⟩
  have rec3 := hk3.same _ _ recU rfl
  have def3 := hk3.same _ _ defU rfl
  have hend := run_endRound (P := P) none rec3
  have lt3 : w.heap.size + 1 < W3.heap.size := (ags rec3).1
  rw [hrc] at hend rec3
  refine ⟨_, _, hend, rfl, ?_, ?_, ?_⟩
  ·exact hI.putObj _ hi3 (by omega) rec3 rfl
  ·rw [hrc]; exact World.putObj_heap_same lt3
  ·exact (World.putObj_heap_other (by omega)).trans def3
 ·-- behind the iterator
  rintro e W2 ⟨⟨v, rfl⟩, xs, hS, hi, hl, hk⟩
  have hend := run_endLoop (P := P) hl (by rw [hrc]; simp)
  rw [hrc] at hend
  exact ⟨none, _, hend, hdone _ xs _ (Nat.le_refl _) hS (hI.putObj _ hi (by omega) hl rfl) ((World.putObj_heap_other (by omega)).trans hk)⟩
end
section
open Go.RowKit Go.Shelf
attribute [local go_sem] Oper.semAt_some
def pos (ps : List Nat) : Value → Nat
 | .pointer (some a) => ps.idxOf a.block
 | _ => ps.length
theorem idx_of {ps : List Nat} (hi : ∀ (k j p : Nat), ps[k]? = some p → ps[j]? = some p → k = j) {j p : Nat} (h : ps[j]? = some p) : ps.idxOf p = j := by
 have hlt : ps.idxOf p < ps.length := List.idxOf_lt_length_of_mem (List.mem_of_getElem? h)
 refine hi _ _ p ?_ h
 rw [List.getElem?_eq_getElem hlt, List.getElem_idxOf hlt]
theorem pos_at {ps : List Nat} (hi : ∀ (k j p : Nat), ps[k]? = some p → ps[j]? = some p → k = j) (j : Nat) (hj : j ≤ ps.length) : pos ps (ptrV ps[j]?) = j := by
 cases h : ps[j]? with
 | none =>
  have := List.getElem?_eq_none_iff.1 h
  show ps.length = j
  omega
 | some p => exact idx_of hi h
def belowN (l : List Nod) (k : Nat) : Nat := ((l.drop (k + 1)).takeWhile fun x => decide (((l[k]?).map Nod.d).getD 0 < x.d)).length
theorem takeWhile_in {α : Type} {q : α → Bool} : ∀ {a : List α} {j : Nat}, j < (a.takeWhile q).length → ∃ x, a[j]? = some x ∧ q x = true
 | [], j, h => by simp at h
 | x :: a, j, h => by
  rw [List.takeWhile_cons] at h
  split at h
  ·rename_i hq
   cases j with
   | zero => exact ⟨x, rfl, hq⟩
   | succ j => exact takeWhile_in (a := a) (by simpa using h)
  ·simp at h
theorem takeWhile_out {α : Type} {q : α → Bool} : ∀ {a : List α} {x : α}, a[(a.takeWhile q).length]? = some x → q x = false
 | [], x, h => by simp at h
 | y :: a, x, h => by
  rw [List.takeWhile_cons] at h
  split at h
  ·exact takeWhile_out (a := a) (by simpa using h)
  ·rename_i hq
   simp at h
   subst h
   simpa using hq
theorem takeWhile_le {α : Type} (q : α → Bool) : ∀ (a : List α), (a.takeWhile q).length ≤ a.length
 | [] => by simp
 | x :: a => by
  rw [List.takeWhile_cons]
  split
  ·have := takeWhile_le q a
   simpa using this
  ·simp
theorem belowN_in {l : List Nod} {k c : Nat} {y : Nod} (hy : l[k]? = some y) (h : c < belowN l k) : ∃ x, l[k + 1 + c]? = some x ∧ y.d < x.d := by
 obtain ⟨x, h1, h2⟩ := takeWhile_in h
 rw [List.getElem?_drop] at h1
 exact ⟨x, h1, by simpa [hy] using h2⟩
theorem belowN_out {l : List Nod} {k : Nat} {x y : Nod} (hy : l[k]? = some y) (h : l[k + 1 + belowN l k]? = some x) : x.d ≤ y.d := by
 have := takeWhile_out (a := l.drop (k + 1)) (q := fun x => decide (((l[k]?).map Nod.d).getD 0 < x.d)) (x := x) (by rw [List.getElem?_drop]; exact h)
 simp [hy] at this
 omega
theorem belowN_le {l : List Nod} {k : Nat} (hk : k < l.length) : k + 1 + belowN l k ≤ l.length := by
 have := takeWhile_le (fun x => decide (((l[k]?).map Nod.d).getD 0 < x.d)) (l.drop (k + 1))
 rw [List.length_drop] at this
 unfold belowN
 omega
theorem below_in (n : Nat) (p : Option Addr) (w : World) :
  CallsIn Fence.wide n Tryd.prog 46 #[.pointer p] w fun e w' => e = .returned (.func (.func 66) #[] #[.pointer (some ⟨w.heap.size, 0, none⟩)]) ∧ w' = w.alloc (.cells #[.pointer p] 70) := by
 refine callsIn_of_wp Tryd.func46 rfl trivial ?_ rfl
 simp only [Tryd.ntmps46, List.size_toArray, List.length_cons, List.length_nil, Nat.reduceAdd, Nat.reduceSub, Array.replicate_succ, Array.replicate_zero, List.push_toArray, List.append_toArray, List.nil_append, List.cons_append]
 gi_wp2
 go_ret
 exact ⟨rfl, rfl⟩
structure Rows (W : World) (ps : List Nat) (l : List Nod) (k c Bn pk : Nat) : Prop where
 box : W.cell? ⟨Bn, 0, none⟩ = some (.pointer (some ⟨pk, 0, none⟩))
 next : ∀ (j p : Nat), ps[j]? = some p → W.cell? ⟨p, 4, none⟩ = some (ptrV ps[j + 1]?)
 depth : ∀ (j p : Nat) (x : Nod), ps[j]? = some p → l[j]? = some x → j = k ∨ k + c < j → W.cell? ⟨p, 2, none⟩ = some (.int .i64 x.d)
theorem below1_linked (n lb Bn : Nat) (W : World) (ps : List Nat) (l : List Nod) (k pk : Nat) (y : Nod) (hlen : ps.length = l.length) (hinj : ∀ (k j p : Nat), ps[k]? = some p → ps[j]? = some p → k = j) (hk : ps[k]? = some pk) (hy : l[k]? = some y) (J : List Nat → World → Prop)
   (hY : ∀ pre x W1, (x = k + 1 + pre.length ∧ pre.length < belowN l k) → J pre W1 → pre.length < belowN l k → YieldAt Fence.wide n Tryd.prog lb #[ptrV ps[x]?] W1 fun e W' => e = .returned (.bool true) ∧ J (pre ++ [x]) W') (h0 : J [] W) (hJd : ∀ pre W1 k, J pre W1 → J pre (W1.drewN k))
   (hJ : ∀ pre W1, J pre W1 → Rows W1 ps l k pre.length Bn pk) :
    CallsIn Fence.wide (n + 1) Tryd.prog 66 #[.func (.yield lb) #[] #[], .pointer (some ⟨Bn, 0, none⟩)] W fun e W' => (∃ v, e = .returned v) ∧ ∃ xs, xs = List.range' (k + 1) (belowN l k) ∧ J xs W' := by
  have hc := (hJ [] W h0).box
  have hc4 := (hJ [] W h0).next k pk hk
  have HY := hid hY
  have HJ := hid hJ
  have hkl : k < l.length := (lgs hy).1
  have hble := belowN_le hkl
  have HK := hid hk
  have HYK := hid hy
  have HIN := hid hinj
  clear hY hJ hk hy hinj
  refine callsIn_of_wp Tryd.func66 rfl trivial ?_ rfl
  simp only [Tryd.ntmps66, List.size_toArray, List.length_cons, List.length_nil, Nat.reduceAdd, Nat.reduceSub, Array.replicate_succ, Array.replicate_zero, List.push_toArray, List.append_toArray, List.nil_append, List.cons_append]
  gi_wp2
  clear hc hc4
  gi_loopw [3] (fun q wr => ∃ c : Nat, c ≤ belowN l k ∧ q = ptrV ps[k + 1 + c]? ∧ J (List.range' (k + 1) c) wr) (fun q _ => ps.length - pos ps q)
  case atStart => exact ⟨0, by omega, rfl, h0⟩
  case round =>
    obtain ⟨c, hc, rfl, hJc⟩ := hrel
    have hR := HJ.out _ _ hJc
    rw [List.length_range'] at hR
    have hb := hR.box
    have hdk := hR.depth k pk y HK.out HYK.out (.inl rfl)
    cases hq : ps[k + 1 + c]? with
    | none =>
      have hce : c = belowN l k := by
        rcases Nat.lt_or_ge c (belowN l k) with h | h
        · obtain ⟨x, hx, _⟩ := belowN_in HYK.out h
          obtain ⟨p, hp⟩ := get_len hlen.symm hx
          rw [hq] at hp; cases hp
        · omega
      subst hce
      rw [ptrV_none]
      gi_wp2
      gi_quiet (fail)
      gi_wp2
      go_end0
      exact ⟨⟨_, rfl⟩, _, rfl, hJd _ _ _ hJc⟩
    | some p =>
      obtain ⟨x, hx⟩ := get_len hlen hq
      have hdx := hR.depth (k + 1 + c) p x hq hx (.inr (by omega))
      have hnx := hR.next (k + 1 + c) p hq
      rw [ptrV_some]
      by_cases hlt : c < belowN l k
      · have hgt : y.d < x.d := by
          obtain ⟨x', hx', h⟩ := belowN_in HYK.out hlt
          rw [hx] at hx'; cases hx'; exact h
        have HRN := hid (show List.range' (k + 1) (c + 1) = List.range' (k + 1) c ++ [k + 1 + c] by rw [List.range'_1_concat])
        gi_wp2
        gi_quiet (fail)
        obtain ⟨fn, tmps, assign, body, hy, hR2⟩ := HY.out _ (k + 1 + c) (wr.drewN nq) ⟨by rw [List.length_range'], by rw [List.length_range']; exact hlt⟩ (hJd _ _ _ hJc) (by rw [List.length_range']; exact hlt)
        rw [hq] at hy
        dsimp only [ptrV] at hy
        have HR2 := hid hR2
        clear hR2
        gi_wp2
        refine HR2.out.mono ?_
        rintro e W' ⟨rfl, hJ'⟩
        rw [← HRN.out] at hJ'
        have hn2 := (HJ.out _ _ hJ').next (k + 1 + c) p hq
        gi_wp2
        go_roundw
        case rel => exact ⟨c + 1, by omega, rfl, hJ'⟩
        case measure =>
          rw [show k + 1 + c + 1 = k + 1 + (c + 1) from rfl, pos_at HIN.out _ (by omega)]
          have h1 : pos ps (.pointer (some ⟨p, 0, none⟩)) = k + 1 + c := by
            have := pos_at HIN.out (k + 1 + c) (by omega)
            rw [hq] at this
            exact this
          rw [h1]
          omega
      · have hce : c = belowN l k := by omega
        subst hce
        have hle : ¬ y.d < x.d := by have := belowN_out HYK.out hx; omega
        gi_wp2
        gi_quiet (fail)
        gi_wp2
        go_end0
        exact ⟨⟨_, rfl⟩, _, rfl, hJd _ _ _ hJc⟩
end
section
open Go.ChangeShapes Go.WideShapes Go.ChangeAt Go.RowKit Go.MapKept Go.ChangeMaps
end
section
open Go.ChangeShapes Go.WideShapes Go.ChangeAt Go.RowKit Go.MapKept Go.ChangeMaps
section
variable {α : Type}
end
def back (k j : Nat) : Nat := if j < k then j else j + 1
abbrev unlW (w : World) (A C : Addr) (v1 v2 : Value) : World := (w.setCell A v1).setCell C v2
end
section
open Go.ChangeShapes Go.WideShapes Go.ChangeAt Go.RowKit Go.Shelf
attribute [local go_sem] Oper.semAt_some
def low (l : List Nod) (k c : Nat) : List Nod := l.mapIdx fun j x => if k < j ∧ j < k + 1 + c then { x with d := x.d - 1 } else x
def removeA (l : List Nod) (o i : Int) : List Nod × Int :=
 match idx l o i with
 | none => (l, 10)
 | some k => ((low l k (belowN l k)).eraseIdx k, 0)
structure RemI (w : World) (B b m n : Nat) (ps : List Nat) (l : List Nod) (f : Int → Int → Option Nat) (k p : Nat) (pre : List Nat) (W : World) : Prop where
 tree : TreeAt W B b m n ps (low l k pre.length) f
 box : W.cell? ⟨w.heap.size + 1, 0, none⟩ = some (.pointer (some ⟨p, 0, none⟩))
 lt : w.heap.size + 2 ≤ W.heap.size
 only : TOnly w W b m ps ps
end
end Go.Proofs.YtekllgejmgoajaaDoor
