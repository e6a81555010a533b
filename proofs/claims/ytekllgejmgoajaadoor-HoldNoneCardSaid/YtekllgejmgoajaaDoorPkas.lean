import Derived.Test.YtekllgejmgoajaaDoorPkar
import Derived.Maps.OwnSet
import Derived.Maps.OwnIn
import Derived.Maps.Views
namespace Go.Proofs.YtekllgejmgoajaaDoor
set_option linter.unusedVariables false
set_option linter.unusedSimpArgs false
set_option maxRecDepth 100000
set_option maxHeartbeats 8000000
section
open Go.ChangeShapes Go.WideShapes Go.ChangeAt Go.RowKit
open Go.Maps (Keyed IsMap)
def ptrV : Option Nat → Value
 | none => .pointer none
 | some b => .pointer (some ⟨b, 0, none⟩)
theorem ptrV_none : ptrV none = .pointer none := rfl
theorem ptrV_some (b : Nat) : ptrV (some b) = .pointer (some ⟨b, 0, none⟩) := rfl
def litP : Option Nat → DataW Unit
 | none => .lit (.int .i64 0)
 | some b => .lit (.int .i64 ((b + 1 : Nat) : Int))
def elP : Value → Option (DataW Unit × List MemPlace)
 | .pointer none => some (litP none, [])
 | .pointer (some ⟨b, 0, none⟩) => some (litP (some b), [])
 | _ => none
theorem elP_mk (x : Option Nat) : elP (ptrV x) = some (litP x, []) := by cases x <;> rfl
theorem litP_inj {x y : Option Nat} (h : litP x = litP y) : x = y := by
 cases x <;> cases y <;> simp [litP] at h ⊢ <;> omega
theorem elP_inv {v : Value} {x : Option Nat} {ps : List MemPlace} (h : elP v = some (litP x, ps)) : v = ptrV x := by
 unfold elP at h
 split at h
 ·simp only [Option.some.injEq, Prod.mk.injEq] at h
  rw [← litP_inj h.1]; rfl
 ·simp only [Option.some.injEq, Prod.mk.injEq] at h
  rw [← litP_inj h.1]; rfl
 ·cases h
theorem zeroP (w : World) : (zeroValue 70).run Tryd.prog w = .ok (ptrV none) w := by kernel_rfl
theorem kS (o i : Int) : WideAt.IsKeyLit (KS o i) := by
 first | trivial | (simp [WideAt.IsKeyLit, KS]; done) | exact ⟨_, _, rfl⟩
def MapS (W : World) (m n : Nat) (f : Int → Int → Option Nat) : Prop :=
 ∃ D : DataW Unit, W.ownsMap Tryd.prog 23 elP m n D ∧ ∀ o i, InS o → InS i → Maps.has D (KS o i) = (f o i).isSome ∧ D.atKey (KS o i) (litP none) = litP (f o i)
theorem MapS.lt {W : World} {m n : Nat} {f : Int → Int → Option Nat} (h : MapS W m n f) : m < W.heap.size := by
 obtain ⟨D, ho, _⟩ := h
 exact ho.lt
theorem MapS.mono {W : World} {m n k : Nat} {f : Int → Int → Option Nat} (h : MapS W m n f) (hk : n ≤ k) : MapS W m k f := by
 obtain ⟨D, ho, hf⟩ := h
 exact ⟨D, ho.mono hk, hf⟩
theorem MapS.of_block {W W' : World} {m n : Nat} {f : Int → Int → Option Nat} (h : MapS W m n f) (e : W'.heap[m]? = W.heap[m]?) : MapS W' m n f := by
 obtain ⟨D, ⟨es, clock, hb, r⟩, hf⟩ := h
 exact ⟨D, ⟨es, clock, e.trans hb, r⟩, hf⟩
theorem MapS.obj {W : World} {m n : Nat} {f : Int → Int → Option Nat} (h : MapS W m n f) : ∃ es clock, W.heap[m]? = some (.map es clock) := by
 obtain ⟨D, ⟨es, clock, hb, r⟩, hf⟩ := h
 exact ⟨es, clock, hb⟩
theorem MapS.made (w : World) : MapS (w.alloc (.map #[] 0)) w.heap.size 0 (fun _ _ => none) :=
 ⟨.map [], World.ownsMap_made w _ _ _, fun o i _ _ => ⟨rfl, rfl⟩⟩
theorem MapS.look {W : World} {m n : Nat} {f : Int → Int → Option Nat} (h : MapS W m n f) {o i : Int} (ho : InS o) (hi : InS i) :
  (Instr.lookup 72 (.map (some m)) (slV o i) false).run Tryd.prog W = .ok (ptrV (f o i)) W := by
 obtain ⟨D, hm, hf⟩ := h
 obtain ⟨v, ps, hr, hv⟩ := hm.lookup lawS Tryd.underlying72 (zeroP W) (elP_mk none) (keyS o i ho hi)
 rw [(hf o i ho hi).2] at hv
 rw [← elP_inv hv]
 exact hr
theorem MapS.look_ok {W : World} {m n : Nat} {f : Int → Int → Option Nat} (h : MapS W m n f) {o i : Int} (ho : InS o) (hi : InS i) :
  (Instr.lookup 72 (.map (some m)) (slV o i) true).run Tryd.prog W = .ok (.tuple #[ptrV (f o i), .bool (f o i).isSome]) W := by
 obtain ⟨D, hm, hf⟩ := h
 obtain ⟨v, ps, hr, hv⟩ := hm.look_ok lawS Tryd.underlying72 (zeroP W) (elP_mk none) (keyS o i ho hi)
 rw [(hf o i ho hi).2] at hv
 rw [(hf o i ho hi).1, elP_inv hv] at hr
 exact hr
def fput (f : Int → Int → Option Nat) (o i : Int) (p : Nat) : Int → Int → Option Nat := fun a b => if a = o ∧ b = i then some p else f a b
def fdel (f : Int → Int → Option Nat) (o i : Int) : Int → Int → Option Nat := fun a b => if a = o ∧ b = i then none else f a b
theorem MapS.put {W : World} {m n : Nat} {f : Int → Int → Option Nat} (h : MapS W m n f) (hn : n < maxLen) {o i : Int} (ho : InS o) (hi : InS i) (p : Nat) :
  ∃ W', (Instr.mapUpdate 72 (.map (some m)) (slV o i) (ptrV (some p))).run Tryd.prog W = .ok () W' ∧ MapS W' m (n + 1) (fput f o i p) ∧ W.mapTurned W' m := by
 obtain ⟨D, hm, hf⟩ := h
 obtain ⟨W', hr, hm', ht⟩ := hm.store lawS Tryd.underlying72 hn (keyS o i ho hi) (elP_mk (some p))
 refine ⟨W', hr, ⟨_, hm', fun a b ha hb => ?_⟩, ht⟩
 unfold fput
 by_cases e : a = o ∧ b = i
 ·obtain ⟨rfl, rfl⟩ := e
  rw [if_pos ⟨rfl, rfl⟩]
  exact ⟨Maps.has_put_same hm.isMap (kS _ _) _, Maps.atKey_put_same hm.isMap (kS _ _) _ _⟩
 ·rw [if_neg e]
  have hne : KS a b ≠ KS o i := fun q => e (KS_inj ha hb ho hi q)
  exact ⟨(Maps.has_put_other hne _).trans (hf a b ha hb).1, (Maps.atKey_put_other hne _ _).trans (hf a b ha hb).2⟩
structure Nod where
 o : Int
 i : Int
 d : Int
deriving DecidableEq
def prv (ps : List Nat) : Nat → Option Nat
 | 0 => none
 | k + 1 => ps[k]?
abbrev placeO (x : Nod) (a b : Option Nat) : Obj := .cells #[.int .i64 x.o, .int .i64 x.i, .int .i64 x.d, ptrV a, ptrV b] 79 (0, 0)
abbrev treeO (a b : Option Nat) (m : Nat) : Obj := .cells #[ptrV a, ptrV b, .map (some m)] 74 (0, 0)
def Finds (ps : List Nat) (l : List Nod) (f : Int → Int → Option Nat) : Prop :=
 ∀ o i p, InS o → InS i → (f o i = some p ↔ ∃ (k : Nat) (x : Nod), ps[k]? = some p ∧ l[k]? = some x ∧ x.o = o ∧ x.i = i)
structure TreeAt (W : World) (B b m n : Nat) (ps : List Nat) (l : List Nod) (f : Int → Int → Option Nat) : Prop where
 len : ps.length = l.length
 le : l.length ≤ n
 head : W.heap[b]? = some (treeO ps[0]? (prv ps ps.length) m)
 row : ∀ (k p : Nat) (x : Nod), ps[k]? = some p → l[k]? = some x → W.heap[p]? = some (placeO x (prv ps k) ps[k + 1]?)
 inj : ∀ (k j p : Nat), ps[k]? = some p → ps[j]? = some p → k = j
 gb : B ≤ b
 gm : B ≤ m
 gp : ∀ (k p : Nat), ps[k]? = some p → B ≤ p
 slots : ∀ (k j : Nat) (x y : Nod), l[k]? = some x → l[j]? = some y → x.o = y.o → x.i = y.i → k = j
 ins : ∀ (k : Nat) (x : Nod), l[k]? = some x → InS x.o ∧ InS x.i ∧ 0 ≤ x.d ∧ x.d ≤ n
 map : MapS W m n f
 finds : Finds ps l f
def foot (b m : Nat) (ps : List Nat) (k : Nat) : Prop := k = b ∨ k = m ∨ ∃ j : Nat, ps[j]? = some k
structure TOnly (w w' : World) (b m : Nat) (ps ps' : List Nat) : Prop where
 os : w'.os = w.os
 tape : w'.tape = w.tape
 output : w'.output = w.output
 size : w.heap.size ≤ w'.heap.size
 block : ∀ k, k < w.heap.size → ¬ foot b m ps k → w'.heap[k]? = w.heap[k]?
 foot : ∀ k, k < w.heap.size → foot b m ps' k → foot b m ps k
theorem TOnly.of_below {w w' : World} {b m : Nat} {ps : List Nat} (h : Below w.heap.size w w') : TOnly w w' b m ps ps :=
 ⟨h.os, h.tape, h.output, h.size, fun k hk _ => h.block k hk, fun k _ h => h⟩
theorem TreeAt.ge {W : World} {B b m n : Nat} {ps : List Nat} {l : List Nod} {f : Int → Int → Option Nat} (h : TreeAt W B b m n ps l f) {k : Nat} (hk : foot b m ps k) : B ≤ k := by
 rcases hk with rfl | rfl | ⟨j, hj⟩
 ·exact h.gb
 ·exact h.gm
 ·exact h.gp j k hj
theorem TreeAt.lt {W : World} {B b m n : Nat} {ps : List Nat} {l : List Nod} {f : Int → Int → Option Nat} (h : TreeAt W B b m n ps l f) {k : Nat} (hk : foot b m ps k) : k < W.heap.size := by
 rcases hk with rfl | rfl | ⟨j, hj⟩
 ·exact (ags h.head).1
 ·exact h.map.lt
 ·have hl : j < ps.length := (lgs hj).1
  have hx : l[j]? = some (l[j]'(by rw [← h.len]; exact hl)) := List.getElem?_eq_getElem _
  exact (ags (h.row j k _ hj hx)).1
theorem TreeAt.of_blocks {W W' : World} {B b m n : Nat} {ps : List Nat} {l : List Nod} {f : Int → Int → Option Nat} (h : TreeAt W B b m n ps l f) (e : ∀ k, foot b m ps k → W'.heap[k]? = W.heap[k]?) : TreeAt W' B b m n ps l f :=
 { h with
  head := (e b (.inl rfl)).trans h.head
  row := fun k p x hp hx => (e p (.inr (.inr ⟨k, hp⟩))).trans (h.row k p x hp hx)
  map := h.map.of_block (e m (.inr (.inl rfl))) }
theorem TreeAt.call {W W' : World} {B b m n : Nat} {ps : List Nat} {l : List Nod} {f : Int → Int → Option Nat} (h : TreeAt W B b m n ps l f) (hb : Below W.heap.size W W') : TreeAt W' B b m n ps l f :=
 h.of_blocks fun k hk => hb.block k (h.lt hk)
theorem TreeAt.mono {W : World} {B b m n n' : Nat} {ps : List Nat} {l : List Nod} {f : Int → Int → Option Nat} (h : TreeAt W B b m n ps l f) (hn : n ≤ n') : TreeAt W B b m n' ps l f :=
 { h with le := Nat.le_trans h.le hn, ins := fun k x hx => by obtain ⟨a, b, c, d⟩ := h.ins k x hx; exact ⟨a, b, c, by omega⟩, map := h.map.mono hn }
theorem new_any (w : World) : Calls Tryd.prog 62 #[] w fun e w' => e = .returned (.pointer (some ⟨w.heap.size + 1, 0, none⟩)) ∧ TreeAt w' w.heap.size (w.heap.size + 1) w.heap.size 0 [] [] (fun _ _ => none) ∧ Below w.heap.size w w' := by
 have hmm := @run_makeMap Tryd.prog
 go_enter Tryd.func62, Tryd.ntmps62
 go_wp2
 go_ret
 refine ⟨rfl, ⟨rfl, Nat.le_refl _, ?_, fun k p x h => by simp at h, fun k j p h => by simp at h, by omega, by omega, fun k p h => by simp at h, fun k j x y h => by simp at h, fun k x h => by simp at h, ?_, fun o i p _ _ => by simp⟩, bal (bal (Below.refl _ _) _) _⟩
 ·have h := World.alloc_heap_new (w.alloc (.map #[] 0)) (treeO none none w.heap.size)
  rw [World.size_alloc] at h
  exact h
 ·exact (MapS.made w).of_block (Below.heap_alloc _ _ _ (by simp))
end
section
open Go.ChangeShapes Go.WideShapes Go.ChangeAt Go.RowKit
theorem head_cells {W : World} {b m : Nat} {x y : Option Nat} (h : W.heap[b]? = some (treeO x y m)) :
  W.cell? ⟨b, 0, none⟩ = some (ptrV x) ∧ W.cell? ⟨b, 1, none⟩ = some (ptrV y) ∧ W.cell? ⟨b, 2, none⟩ = some (.map (some m)) ∧ ∀ k, W.frozen? ⟨b, k, none⟩ = false := by
 refine ⟨?_, ?_, ?_, fun k => ?_⟩ <;> simp [World.cell?, World.frozen?, h]
theorem place_cells {W : World} {p : Nat} {x : Nod} {a c : Option Nat} (h : W.heap[p]? = some (placeO x a c)) :
  W.cell? ⟨p, 0, none⟩ = some (.int .i64 x.o) ∧ W.cell? ⟨p, 1, none⟩ = some (.int .i64 x.i) ∧ W.cell? ⟨p, 2, none⟩ = some (.int .i64 x.d) ∧ W.cell? ⟨p, 3, none⟩ = some (ptrV a) ∧ W.cell? ⟨p, 4, none⟩ = some (ptrV c) ∧ ∀ k, W.frozen? ⟨p, k, none⟩ = false := by
 refine ⟨?_, ?_, ?_, ?_, ?_, fun k => ?_⟩ <;> simp [World.cell?, World.frozen?, h]
theorem has_any (w : World) (B b m n : Nat) (ps : List Nat) (l : List Nod) (f : Int → Int → Option Nat) (o i : Int) (ho : InS o) (hi : InS i) (h : TreeAt w B b m n ps l f) :
  Calls Tryd.prog 48 #[.pointer (some ⟨b, 0, none⟩), slV o i] w fun e w' => e = .returned (.bool (f o i).isSome) ∧ Below w.heap.size w w' := by
 have hm := (h.map.of_block (W' := w.alloc (.cells #[.int .i64 o, .int .i64 i] 23)) (Below.heap_alloc _ _ _ h.map.lt)).look ho hi
 obtain ⟨c0, c1, c2, hz⟩ := head_cells h.head
 have hlt : b < w.heap.size := h.lt (.inl rfl)
 have hl : ∀ W : World, W = (w.alloc (.cells #[.int .i64 o, .int .i64 i] 23)).drew → (Instr.lookup 72 (.map (some m)) (slV o i) false).run Tryd.prog W = .ok (ptrV (f o i)) W := by
  rintro W rfl
  exact ((h.map.of_block (W' := (w.alloc (.cells #[.int .i64 o, .int .i64 i] 23)).drew) (Below.heap_alloc _ _ _ h.map.lt)).look ho hi)
 have hl2 := hl _ rfl
 clear h hm hl
 cases hf : f o i
 all_goals
  rw [hf] at hl2
  simp only [ptrV] at hl2
  go_enter Tryd.func48, Tryd.ntmps48
  go_upto_region 1 with fail
  go_region
  all_goals go_wp2
  all_goals go_ret
  all_goals exact ⟨rfl, (bal (Below.refl _ _) _).drew⟩
end
end Go.Proofs.YtekllgejmgoajaaDoor
