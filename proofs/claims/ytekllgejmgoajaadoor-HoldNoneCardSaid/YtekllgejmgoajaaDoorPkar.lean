import Derived.Test.YtekllgejmgoajaaDoorPkaq
import Derived.StillTailTactics
import Derived.BigQuiet
import Derived.Maps.AppendAt
import Derived.Deep.MidRow
import Derived.BigRegion
import Derived.Deep.RegionHeld3
import Derived.Deep.Cut
import Derived.Deep.RegionWith
import Derived.Maps.Keyed
import Derived.Maps.Own
import Derived.DeepKeys4
namespace Go.Proofs.YtekllgejmgoajaaDoor
set_option linter.unusedVariables false
set_option linter.unusedSimpArgs false
set_option maxRecDepth 100000
set_option maxHeartbeats 8000000
section
section
open Go.ChangeShapes Go.WideShapes Go.ChangeAt Go.RowKit Go.Shelf
namespace TabS
def FirstS (L : List Sn) (id : Int) (k : Nat) (x : Sn) : Prop := L[k]? = some x ∧ x.id = id ∧ ∀ i y, i < k → L[i]? = some y → y.id ≠ id
end TabS
end
section
open Go.ChangeShapes Go.WideShapes Go.ChangeAt Go.RowKit Go.Shelf
namespace TabS
def NoSlotR (R : List Sn) (id ix : Int) : Prop := (∀ x ∈ R, x.id ≠ id) ∨ ∃ k x, FirstS R id k x ∧ (ix < 0 ∨ (x.l.length : Int) ≤ ix)
def putR (R : List Sn) (k : Nat) (x : Sn) (i : Nat) (c : Cp) : List Sn := putS R k x i c
structure OnlyS (w w' : World) (rb : Nat) (v v' : Value) (R R' : List Sn) : Prop where
 os : w'.os = w.os
 tape : w'.tape = w.tape
 output : w'.output = w.output
 size : w.heap.size ≤ w'.heap.size
 block : ∀ k, k < w.heap.size → k ≠ rb → v.ownBlock ≠ some k → (∀ x ∈ R, x.g ≠ k) → w'.heap[k]? = w.heap[k]?
 foot : ∀ k, k < w.heap.size → (v'.ownBlock = some k ∨ ∃ x ∈ R', x.g = k) → (v.ownBlock = some k ∨ ∃ x ∈ R, x.g = k)
end TabS
end
section
open Go.ChangeShapes Go.WideShapes Go.ChangeAt Go.RowKit Go.Shelf
namespace TabS
end TabS
end
section
open Go.ChangeShapes Go.WideShapes Go.ChangeAt Go.RowKit Go.Shelf
namespace TabS
theorem eqHd (x : Hd) (w : World) : (binOp .eql 100 (.agg x.L.toArray) (.agg x.L.toArray)).run Tryd.prog w = .ok (.bool true) w := by
 unfold Hd.L
 go_simp
theorem neq_of_eqlH (t : TypeId) (xs ys : Array Value) (w : World) (b : Bool) (hg : Tryd.prog.eqGuardType 10000 t = false) (h : (binOp .eql t (.agg xs) (.agg ys)).run Tryd.prog w = .ok (.bool b) w) : (binOp .neq t (.agg xs) (.agg ys)).run Tryd.prog w = .ok (.bool (!b)) w := by
 rw [run_eql_struct] at h
 rw [run_neq_struct]
 cases hr : (Op.equalIn 10000 t (.agg xs) (.agg ys)).run Tryd.prog w with
 | ok r w1 =>
  rw [hr] at h
  simp only [Result.andThen_ok] at h ⊢
  cases h
  rfl
 | halt c w1 =>
  rw [hr] at h
  cases h
theorem neHd (x : Hd) (w : World) : (binOp .neq 100 (.agg x.L.toArray) (.agg x.L.toArray)).run Tryd.prog w = .ok (.bool false) w := neq_of_eqlH _ _ _ w true (by kernel_rfl) (eqHd x w)
def HsAt (w : World) (g : Nat) (L : List Hd) : Prop := ∀ (i : Nat) (x : Hd), L[i]? = some x → w.rangeAt g (i * 10) x.L
theorem hs_get : ∀ (L : List Hd) (i j : Nat) (x : Hd) (u : Value), L[i]? = some x → x.L[j]? = some u → (hdsC L)[i * 10 + j]? = some u
 | [], i, j, x, u, hi, _ => by simp at hi
 | y :: L, 0, j, x, u, hi, hj => by
  simp at hi
  subst hi
  have e : hdsC (y :: L) = y.L ++ hdsC L := rfl
  have hl : y.L.length = 10 := rfl
  rw [e, List.getElem?_append_left (by have := (lgs hj).1; omega)]
  simpa using hj
 | y :: L, i + 1, j, x, u, hi, hj => by
  have e : hdsC (y :: L) = y.L ++ hdsC L := rfl
  have hl : y.L.length = 10 := rfl
  rw [e, List.getElem?_append_right (by omega), hl, show (i + 1) * 10 + j - 10 = i * 10 + j by omega]
  exact hs_get L i j x u (by simpa using hi) hj
theorem hs_of {w : World} {base : Nat} {r : Value} {L : List Hd} (h : w.ownsRow base 100 10 r L.length (hdsC L)) : ∃ ra rc, r = .slice ra L.length rc ∧ L.length ≤ rc ∧ ∀ i, i < L.length → ∃ g, ra = some ⟨g, 0, none⟩ ∧ base ≤ g ∧ g < w.heap.size ∧ HsAt w g L := by
 have hlt := h.lt
 have hcs := fun g hg => h.cells (g := g) hg
 rcases h.2 with ⟨rfl, h0⟩ | ⟨g, cap, cur, rfl, q1, q2, q3, q4, q5, q6⟩
 ·exact ⟨none, 0, by rw [h0], by omega, fun i hi => by omega⟩
 ·refine ⟨_, _, rfl, q3, fun _ _ => ⟨g, rfl, (hlt g rfl).1, (hlt g rfl).2, fun i x hi j u hj => ?_⟩⟩
  have := hcs g rfl _ _ (hs_get L i j x u hi hj)
  rwa [Addr.add_mid, Nat.zero_add] at this
def HsIs (w : World) (a : Option Addr) (L : List Hd) : Prop := ∀ i, i < L.length → ∃ g, a = some ⟨g, 0, none⟩ ∧ g < w.heap.size ∧ HsAt w g L
theorem news_at (wr W : World) (cs : List Value) (t : TypeId) (h : W.heap = (wr.alloc (.cells cs.toArray t)).heap) : ∀ j u, cs[j]? = some u → W.cell? ((⟨wr.heap.size, 0, none⟩ : Addr).add j) = some u := by
 intro j u hj
 rw [Addr.add_mid, Nat.zero_add]
 have hb : W.heap[wr.heap.size]? = some (.cells cs.toArray t (0, 0)) := by rw [h]; exact World.alloc_heap_new _ _
 simp [World.cell?, hb, hj]
def overT : Hd := ⟨-9, 0, zC⟩
attribute [local go_sem ↓] neHd
attribute [-go_sem] loadVar
end TabS
end
section
open Go.ChangeShapes Go.WideShapes Go.ChangeAt Go.RowKit Go.Shelf
attribute [-go_sem] Builtin.append_
namespace TabS
def onesC (L : List Sn) : List Value := L.flatMap fun x => [.int .i64 x.id, x.v]
end TabS
end
section
open Go.ChangeShapes Go.WideShapes Go.ChangeAt Go.RowKit Go.Shelf
namespace TabS
def insP (L : List Sn) (p t : Nat) (x : Sn) : List Sn := if p < t then L.take p ++ x :: (L.drop p).take (t - p) else L.take t
end TabS
end
section
open Go.ChangeShapes Go.WideShapes Go.ChangeAt Go.RowKit Go.Shelf
attribute [-go_sem] Builtin.append_
namespace TabS
structure UsS (w wr : World) (l : Value) (H : List Hd) : Prop where
 bl : Below w.heap.size w wr
 row : wr.ownsRow w.heap.size 100 10 l H.length (hdsC H)
end TabS
end
end
section
open Go.ChangeShapes Go.WideShapes Go.ChangeAt Go.RowKit Go.Shelf
attribute [local go_sem] Oper.semAt_some
namespace TabS
structure DrI (w : World) (b base : Nat) (tv : Value) (L : List Sn) (C g n : Nat) (id : Int) (k : Nat) (U : World) : Prop where
 k : k = 0
 r0 : U.heap[w.heap.size]? = some (.cells #[.int .i64 0] 30 (0, 0))
 i : U.heap[C]? = some (.cells #[.int .i64 id] 3 (0, 0))
 c : U.heap[C + 1]? = some (.cells #[.slice (some ⟨g, 0, none⟩) n n] 92 (0, 0))
 s : C + 2 ≤ U.heap.size
 sl : SlotsAt U b base tv L
 bl : Below w.heap.size w U
 wc : w.heap.size < C
structure DrX (w : World) (C : Nat) (c : Code) (k : Nat) (U : World) : Prop where
 c : c = .ret
 r0 : U.heap[w.heap.size]? = some (.cells #[.int .i64 16] 30 (0, 0))
 s : C + 2 ≤ U.heap.size
 bl : Below w.heap.size w U
 wc : w.heap.size < C
def DropPost (w : World) (b base : Nat) (tv : Value) (L : List Sn) (id : Int) (N : Nat) (e : Ending) (w' : World) : Prop :=
 (N ≠ 0 ∧ e = .returned (.int .i64 16) ∧ Below w.heap.size w w') ∨ (N = 0 ∧ e = .returned (.int .i64 0) ∧ ∃ tv', SlotsAt w' b base tv' (delS L id) ∧ SOnly w w' b tv tv' L (delS L id))
end TabS
end
section
section
open Go.ChangeShapes Go.WideShapes Go.ChangeAt Go.RowKit Go.Shelf
namespace TabS
def abS (x : Sn) : Int × List Cp := (x.id, x.l)
def SameS (L M : List Sn) : Prop := L.map abS = M.map abS
def FootP (b : Nat) (tv : Value) (L : List Sn) (k : Nat) : Prop := k = b ∨ tv.ownBlock = some k ∨ ∃ x ∈ L, x.g = k
theorem foot_ltP {w : World} {b base : Nat} {tv : Value} {L : List Sn} (h : SlotsAt w b base tv L) {k : Nat} (hk : FootP b tv L k) : k < w.heap.size := by
 rcases hk with rfl | e | ⟨x, hx, rfl⟩
 ·exact h.lt
 ·exact (h.tab.own e).2
 ·exact h.glt hx
theorem foot_loP {w : World} {b base : Nat} {tv : Value} {L : List Sn} (h : SlotsAt w b base tv L) {k : Nat} (hk : FootP b tv L k) : b ≤ k := by
 have := h.tab.ne
 rcases hk with rfl | e | ⟨x, hx, rfl⟩
 ·exact Nat.le_refl _
 ·have := (h.tab.own e).1; omega
 ·have := (h.blk x hx).2; omega
theorem SlotsAt.of {w w' : World} {b base : Nat} {tv : Value} {L : List Sn} (h : SlotsAt w b base tv L) (hs : w.heap.size ≤ w'.heap.size) (hb : ∀ k, FootP b tv L k → w'.heap[k]? = w.heap[k]?) : SlotsAt w' b base tv L :=
 ⟨h.tab.of hs (World.cell?_of_block (hb b (.inl rfl))) (World.frozen?_of_block (hb b (.inl rfl))) (fun g hg => hb g (.inr (.inl hg))), fun x hx => ⟨(hb x.g (.inr (.inr ⟨x, hx, rfl⟩))).trans (h.blk x hx).1, (h.blk x hx).2⟩, h.ap, h.nt, h.bd⟩
end TabS
end
section
open Go.ChangeShapes Go.WideShapes Go.ChangeAt Go.RowKit Go.Shelf
namespace TabS
def AddRel (L : List Sn) (id n : Int) (L' : List Sn) : Prop := (addSR L id n = 0 ∧ ∃ g, L' = insS L ⟨id, g, List.replicate n.toNat zC⟩) ∨ (addSR L id n ≠ 0 ∧ L' = L)
def sizS (L : List Sn) (id : Int) : Int := if hasS L id = true then (match L[posS L id]? with | some x => (x.l.length : Int) | none => 0) else 0
def dropSR (L : List Sn) (id : Int) : Int := if hasS L id = true then (match L[posS L id]? with | some x => if (heldL id 0 x.l).length = 0 then 0 else 16 | none => 2) else 2
def dropSL (L : List Sn) (id : Int) : List Sn := if dropSR L id = 0 then L.take (posS L id) ++ L.drop (posS L id + 1) else L
end TabS
end
section
open Go.ChangeShapes Go.WideShapes Go.ChangeAt Go.RowKit Go.Shelf
namespace TabS
def getR (L : List Sn) (id ix : Int) : Option Cp := if hasS L id = true ∧ 0 ≤ ix then (match L[posS L id]? with | some x => x.l[ix.toNat]? | none => none) else none
theorem getR_no {w : World} {b base : Nat} {tv : Value} {L : List Sn} (h : SlotsAt w b base tv L) {id ix : Int} (hn : NoSlot L id ix) : getR L id ix = none := by
 unfold getR
 rcases hn with hh | ⟨x, hx, hid, hi⟩
 ·rw [if_neg (by rw [hh]; simp)]
 ·by_cases h0 : hasS L id = true ∧ 0 ≤ ix
  ·rw [if_pos h0, hx]
   exact List.getElem?_eq_none (by omega)
  ·rw [if_neg h0]
theorem getR_yes {L : List Sn} {id : Int} {x : Sn} {i : Nat} (hh : hasS L id = true) (hx : L[posS L id]? = some x) : getR L id i = x.l[i]? := by
 unfold getR
 rw [if_pos ⟨hh, by omega⟩, hx]
 simp
def getN (o : Option Cp) : Int := match o with | some _ => 0 | none => 3
def setN (L : List Sn) (id ix : Int) (c : Cp) : Int := match getR L id ix with | none => 3 | some _ => if mayC c = true then 0 else 5
def setM (L : List Sn) (id ix : Int) (c : Cp) : List Sn := if setN L id ix c = 0 then (match L[posS L id]? with | some x => putS L (posS L id) x ix.toNat c | none => L) else L
end TabS
end
section
open Go.ChangeShapes Go.WideShapes Go.ChangeAt Go.RowKit Go.Shelf
namespace TabS
end TabS
end
end
section
open Go.RowKit Go.Shelf
variable {P : Program} {F : Fence} {n : Nat}
def SeqLinked {α : Type} (F : Fence) (n : Nat) (P : Program) (g : Nat) (lb : Array Value) (encs : α → Array Value) (V : α → Prop) (I : List α → World → Prop) (S : List α → Prop) (N B : Nat) : Prop :=
 ∀ (l : Nat) (J : List α → World → Prop) (W : World), B ≤ W.heap.size → AbidesFrom W.heap.size J → (∀ pre W1, J pre W1 → I pre W1) →
  (∀ pre x W1, V x → J pre W1 → pre.length < N → YieldAt F (n - 1) P l (encs x) W1 fun e W' => e = .returned (.bool true) ∧ J (pre ++ [x]) W') →
  J [] W → CallsIn F n P g (#[.func (.yield l) #[] #[]] ++ lb) W fun e W' => (∃ v, e = .returned v) ∧ ∃ xs, S xs ∧ J xs W'
end
section
open Go.ChangeShapes Go.WideShapes Go.ChangeAt Go.RowKit
abbrev slV (o i : Int) : Value := .agg #[.int .i64 o, .int .i64 i]
end
section
open Go.ChangeShapes Go.WideShapes Go.ChangeAt Go.RowKit
open Go.Maps (Keyed IsMap)
theorem laidS : laidOutB Tryd.prog = true := by kernel_rfl
theorem lawS : Keyed Tryd.prog 23 := Keyed.of_law (deep_law_laid laidS (m := 4) (by decide) (of_decide_eq_true (by kernel_rfl)) (by kernel_rfl) (by kernel_rfl))
def InS (x : Int) : Prop := -9223372036854775808 ≤ x ∧ x ≤ 9223372036854775807
theorem wfS {x : Int} (h : InS x) : (Lit.int .i64 x).wf = true := by
 obtain ⟨a, b⟩ := h
 have e1 : IntKind.i64.min = -9223372036854775808 := by decide
 have e2 : IntKind.i64.max = 9223372036854775807 := by decide
 simp only [Lit.wf, e1, e2, Bool.and_eq_true, decide_eq_true_eq]
 exact ⟨a, b⟩
def KS (o i : Int) : Lit := .string (keyBytes [.int .i64 o, .int .i64 i])
theorem keyS (o i : Int) (ho : InS o) (hi : InS i) : keyOf Tryd.prog 23 (slV o i) = some (KS o i) := by
 have e1 := wfS ho
 have e2 := wfS hi
 obtain ⟨N, hN⟩ : ∃ N, Tryd.prog.types.size = N + 1 + 1 := ⟨Tryd.prog.types.size - 2, by kernel_rfl⟩
 have hf : (slV o i).formed Tryd.prog 23 = true := by kernel_rfl
 have hc : Tryd.prog.cellsOf 3 = 1 := by kernel_rfl
 unfold keyOf KS
 rw [Tryd.underlying23]
 simp only [hf, if_true, hN]
 unfold Program.keyLits
 simp only [Tryd.underlying23]
 unfold Program.keyLits
 simp [Tryd.underlying3, mapKey, e1, e2, hc, Value.cells]
 exact ⟨by kernel_rfl, by kernel_rfl⟩
theorem KS_inj {o i p j : Int} (ho : InS o) (hi : InS i) (hp : InS p) (hj : InS j) (h : KS o i = KS p j) : o = p ∧ i = j := by
 have := lawS.inj (keyS o i ho hi) (h ▸ keyS p j hp hj)
 simpa using this
end
end Go.Proofs.YtekllgejmgoajaaDoor
