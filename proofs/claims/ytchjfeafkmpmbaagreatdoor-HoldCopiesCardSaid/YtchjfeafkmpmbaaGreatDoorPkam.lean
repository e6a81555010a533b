import Derived.Test.YtchjfeafkmpmbaaGreatDoorPkal
import Derived.Maps.OwnSet
import Derived.Maps.OwnIn
import Derived.Maps.Views
import Derived.Lib.SmallJoins
import Derived.Deep.RegionLaw
namespace Go.Proofs.YtchjfeafkmpmbaaGreatDoor
set_option linter.unusedVariables false
set_option linter.unusedSimpArgs false
set_option maxRecDepth 100000
set_option maxHeartbeats 8000000
open Lib (hid)
section
open Go.ChangeShapes Go.WideShapes Go.ChangeAt Go.RowKit
open Go.Maps (Keyed IsMap)
def ptrV : Option Nat → Value
 | none => .pointer none
 | some b => .pointer (some ⟨b, 0, none⟩)
theorem ptrV_none : ptrV none = .pointer none := rfl
theorem ptrV_some (b : Nat) : ptrV (some b) = .pointer (some ⟨b, 0, none⟩) := rfl
def litP : Option Nat → DataW Unit
 | none => .lit (.int .i64 0)
 | some b => .lit (.int .i64 ((b + 1 : Nat) : Int))
def elP : Value → Option (DataW Unit × List MemPlace)
 | .pointer none => some (litP none, [])
 | .pointer (some ⟨b, 0, none⟩) => some (litP (some b), [])
 | _ => none
theorem elP_mk (x : Option Nat) : elP (ptrV x) = some (litP x, []) := by cases x <;> rfl
theorem litP_inj {x y : Option Nat} (h : litP x = litP y) : x = y := by
 cases x <;> cases y <;> simp [litP] at h ⊢ <;> omega
theorem elP_inv {v : Value} {x : Option Nat} {ps : List MemPlace} (h : elP v = some (litP x, ps)) : v = ptrV x := by
 unfold elP at h
 split at h
 ·simp only [Option.some.injEq, Prod.mk.injEq] at h
  rw [← litP_inj h.1]; rfl
 ·simp only [Option.some.injEq, Prod.mk.injEq] at h
  rw [← litP_inj h.1]; rfl
 ·cases h
theorem zeroP (w : World) : (zeroValue 119).run Tryz.prog w = .ok (ptrV none) w := by kernel_rfl
theorem kS (o i : Int) : WideAt.IsKeyLit (KS o i) := by
 first | trivial | (simp [WideAt.IsKeyLit, KS]; done) | exact ⟨_, _, rfl⟩
def MapS (W : World) (m n : Nat) (f : Int → Int → Option Nat) : Prop :=
 ∃ D : DataW Unit, W.ownsMap Tryz.prog 30 elP m n D ∧ ∀ o i, InS o → InS i → Maps.has D (KS o i) = (f o i).isSome ∧ D.atKey (KS o i) (litP none) = litP (f o i)
theorem MapS.lt {W : World} {m n : Nat} {f : Int → Int → Option Nat} (h : MapS W m n f) : m < W.heap.size := by
 obtain ⟨D, ho, _⟩ := h
 exact ho.lt
theorem MapS.mono {W : World} {m n k : Nat} {f : Int → Int → Option Nat} (h : MapS W m n f) (hk : n ≤ k) : MapS W m k f := by
 obtain ⟨D, ho, hf⟩ := h
 exact ⟨D, ho.mono hk, hf⟩
theorem MapS.of_block {W W' : World} {m n : Nat} {f : Int → Int → Option Nat} (h : MapS W m n f) (e : W'.heap[m]? = W.heap[m]?) : MapS W' m n f := by
 obtain ⟨D, ⟨es, clock, hb, r⟩, hf⟩ := h
 exact ⟨D, ⟨es, clock, e.trans hb, r⟩, hf⟩
theorem MapS.obj {W : World} {m n : Nat} {f : Int → Int → Option Nat} (h : MapS W m n f) : ∃ es clock, W.heap[m]? = some (.map es clock) := by
 obtain ⟨D, ⟨es, clock, hb, r⟩, hf⟩ := h
 exact ⟨es, clock, hb⟩
theorem MapS.made (w : World) : MapS (w.alloc (.map #[] 0)) w.heap.size 0 (fun _ _ => none) :=
 ⟨.map [], World.ownsMap_made w _ _ _, fun o i _ _ => ⟨rfl, rfl⟩⟩
theorem MapS.look {W : World} {m n : Nat} {f : Int → Int → Option Nat} (h : MapS W m n f) {o i : Int} (ho : InS o) (hi : InS i) :
  (Instr.lookup 120 (.map (some m)) (slV o i) false).run Tryz.prog W = .ok (ptrV (f o i)) W := by
 obtain ⟨D, hm, hf⟩ := h
 obtain ⟨v, ps, hr, hv⟩ := hm.lookup lawS Tryz.underlying120 (zeroP W) (elP_mk none) (keyS o i ho hi)
 rw [(hf o i ho hi).2] at hv
 rw [← elP_inv hv]
 exact hr
theorem MapS.look_ok {W : World} {m n : Nat} {f : Int → Int → Option Nat} (h : MapS W m n f) {o i : Int} (ho : InS o) (hi : InS i) :
  (Instr.lookup 120 (.map (some m)) (slV o i) true).run Tryz.prog W = .ok (.tuple #[ptrV (f o i), .bool (f o i).isSome]) W := by
 obtain ⟨D, hm, hf⟩ := h
 obtain ⟨v, ps, hr, hv⟩ := hm.look_ok lawS Tryz.underlying120 (zeroP W) (elP_mk none) (keyS o i ho hi)
 rw [(hf o i ho hi).2] at hv
 rw [(hf o i ho hi).1, elP_inv hv] at hr
 exact hr
def fput (f : Int → Int → Option Nat) (o i : Int) (p : Nat) : Int → Int → Option Nat := fun a b => if a = o ∧ b = i then some p else f a b
def fdel (f : Int → Int → Option Nat) (o i : Int) : Int → Int → Option Nat := fun a b => if a = o ∧ b = i then none else f a b
theorem MapS.put {W : World} {m n : Nat} {f : Int → Int → Option Nat} (h : MapS W m n f) (hn : n < maxLen) {o i : Int} (ho : InS o) (hi : InS i) (p : Nat) :
  ∃ W', (Instr.mapUpdate 120 (.map (some m)) (slV o i) (ptrV (some p))).run Tryz.prog W = .ok () W' ∧ MapS W' m (n + 1) (fput f o i p) ∧ W.mapTurned W' m := by
 obtain ⟨D, hm, hf⟩ := h
 obtain ⟨W', hr, hm', ht⟩ := hm.store lawS Tryz.underlying120 hn (keyS o i ho hi) (elP_mk (some p))
 refine ⟨W', hr, ⟨_, hm', fun a b ha hb => ?_⟩, ht⟩
 unfold fput
 by_cases e : a = o ∧ b = i
 ·obtain ⟨rfl, rfl⟩ := e
  rw [if_pos ⟨rfl, rfl⟩]
  exact ⟨Maps.has_put_same hm.isMap (kS _ _) _, Maps.atKey_put_same hm.isMap (kS _ _) _ _⟩
 ·rw [if_neg e]
  have hne : KS a b ≠ KS o i := fun q => e (KS_inj ha hb ho hi q)
  exact ⟨(Maps.has_put_other hne _).trans (hf a b ha hb).1, (Maps.atKey_put_other hne _ _).trans (hf a b ha hb).2⟩
theorem MapS.del {W : World} {m n : Nat} {f : Int → Int → Option Nat} (h : MapS W m n f) {o i : Int} (ho : InS o) (hi : InS i) (ty : TypeId) :
  ∃ W', (Builtin.delete_ #[120, 30] ty #[.map (some m), slV o i]).run Tryz.prog W = .ok (.tuple #[]) W' ∧ MapS W' m n (fdel f o i) ∧ W.mapTurned W' m := by
 obtain ⟨D, hm, hf⟩ := h
 obtain ⟨W', hr, hm', ht⟩ := hm.drop lawS Tryz.underlying120 (keyS o i ho hi) ty
 refine ⟨W', hr, ⟨_, hm', fun a b ha hb => ?_⟩, ht⟩
 unfold fdel
 by_cases e : a = o ∧ b = i
 ·obtain ⟨rfl, rfl⟩ := e
  rw [if_pos ⟨rfl, rfl⟩]
  exact ⟨Maps.has_del_same, Maps.atKey_del_same _⟩
 ·rw [if_neg e]
  have hne : KS a b ≠ KS o i := fun q => e (KS_inj ha hb ho hi q)
  exact ⟨(Maps.has_del_other hne).trans (hf a b ha hb).1, (Maps.atKey_del_other hne _).trans (hf a b ha hb).2⟩
structure Nod where
 o : Int
 i : Int
 d : Int
deriving DecidableEq
def prv (ps : List Nat) : Nat → Option Nat
 | 0 => none
 | k + 1 => ps[k]?
abbrev placeO (x : Nod) (a b : Option Nat) : Obj := .cells #[.int .i64 x.o, .int .i64 x.i, .int .i64 x.d, ptrV a, ptrV b] 124 (0, 0)
abbrev treeO (a b : Option Nat) (m : Nat) : Obj := .cells #[ptrV a, ptrV b, .map (some m)] 122 (0, 0)
def Finds (ps : List Nat) (l : List Nod) (f : Int → Int → Option Nat) : Prop :=
 ∀ o i p, InS o → InS i → (f o i = some p ↔ ∃ (k : Nat) (x : Nod), ps[k]? = some p ∧ l[k]? = some x ∧ x.o = o ∧ x.i = i)
structure TreeAt (W : World) (B b m n : Nat) (ps : List Nat) (l : List Nod) (f : Int → Int → Option Nat) : Prop where
 len : ps.length = l.length
 le : l.length ≤ n
 head : W.heap[b]? = some (treeO ps[0]? (prv ps ps.length) m)
 row : ∀ (k p : Nat) (x : Nod), ps[k]? = some p → l[k]? = some x → W.heap[p]? = some (placeO x (prv ps k) ps[k + 1]?)
 inj : ∀ (k j p : Nat), ps[k]? = some p → ps[j]? = some p → k = j
 gb : B ≤ b
 gm : B ≤ m
 gp : ∀ (k p : Nat), ps[k]? = some p → B ≤ p
 slots : ∀ (k j : Nat) (x y : Nod), l[k]? = some x → l[j]? = some y → x.o = y.o → x.i = y.i → k = j
 ins : ∀ (k : Nat) (x : Nod), l[k]? = some x → InS x.o ∧ InS x.i ∧ 0 ≤ x.d ∧ x.d ≤ n
 map : MapS W m n f
 finds : Finds ps l f
def foot (b m : Nat) (ps : List Nat) (k : Nat) : Prop := k = b ∨ k = m ∨ ∃ j : Nat, ps[j]? = some k
structure TOnly (w w' : World) (b m : Nat) (ps ps' : List Nat) : Prop where
 os : w'.os = w.os
 tape : w'.tape = w.tape
 output : w'.output = w.output
 size : w.heap.size ≤ w'.heap.size
 block : ∀ k, k < w.heap.size → ¬ foot b m ps k → w'.heap[k]? = w.heap[k]?
 foot : ∀ k, k < w.heap.size → foot b m ps' k → foot b m ps k
theorem TOnly.trans {a c d : World} {b m : Nat} {p0 p1 p2 : List Nat} (h : TOnly a c b m p0 p1) (k : TOnly c d b m p1 p2) : TOnly a d b m p0 p2 :=
  ⟨k.os.trans h.os, k.tape.trans h.tape, k.output.trans h.output, Nat.le_trans h.size k.size,
   fun j hj hf => (k.block j (Nat.lt_of_lt_of_le hj h.size) (fun e => hf (h.foot j hj e))).trans (h.block j hj hf),
   fun j hj hf => h.foot j hj (k.foot j (Nat.lt_of_lt_of_le hj h.size) hf)⟩
theorem TOnly.of_below {w w' : World} {b m : Nat} {ps : List Nat} (h : Below w.heap.size w w') : TOnly w w' b m ps ps :=
 ⟨h.os, h.tape, h.output, h.size, fun k hk _ => h.block k hk, fun k _ h => h⟩
theorem TreeAt.ge {W : World} {B b m n : Nat} {ps : List Nat} {l : List Nod} {f : Int → Int → Option Nat} (h : TreeAt W B b m n ps l f) {k : Nat} (hk : foot b m ps k) : B ≤ k := by
 rcases hk with rfl | rfl | ⟨j, hj⟩
 ·exact h.gb
 ·exact h.gm
 ·exact h.gp j k hj
theorem TreeAt.lt {W : World} {B b m n : Nat} {ps : List Nat} {l : List Nod} {f : Int → Int → Option Nat} (h : TreeAt W B b m n ps l f) {k : Nat} (hk : foot b m ps k) : k < W.heap.size := by
 rcases hk with rfl | rfl | ⟨j, hj⟩
 ·exact (ags h.head).1
 ·exact h.map.lt
 ·have hl : j < ps.length := (lgs hj).1
  have hx : l[j]? = some (l[j]'(by rw [← h.len]; exact hl)) := List.getElem?_eq_getElem _
  exact (ags (h.row j k _ hj hx)).1
theorem TreeAt.of_blocks {W W' : World} {B b m n : Nat} {ps : List Nat} {l : List Nod} {f : Int → Int → Option Nat} (h : TreeAt W B b m n ps l f) (e : ∀ k, foot b m ps k → W'.heap[k]? = W.heap[k]?) : TreeAt W' B b m n ps l f :=
 { h with
  head := (e b (.inl rfl)).trans h.head
  row := fun k p x hp hx => (e p (.inr (.inr ⟨k, hp⟩))).trans (h.row k p x hp hx)
  map := h.map.of_block (e m (.inr (.inl rfl))) }
theorem TreeAt.call {W W' : World} {B b m n : Nat} {ps : List Nat} {l : List Nod} {f : Int → Int → Option Nat} (h : TreeAt W B b m n ps l f) (hb : Below W.heap.size W W') : TreeAt W' B b m n ps l f :=
 h.of_blocks fun k hk => hb.block k (h.lt hk)
theorem TreeAt.mono {W : World} {B b m n n' : Nat} {ps : List Nat} {l : List Nod} {f : Int → Int → Option Nat} (h : TreeAt W B b m n ps l f) (hn : n ≤ n') : TreeAt W B b m n' ps l f :=
 { h with le := Nat.le_trans h.le hn, ins := fun k x hx => by obtain ⟨a, b, c, d⟩ := h.ins k x hx; exact ⟨a, b, c, by omega⟩, map := h.map.mono hn }
theorem new_any (w : World) : Calls Tryz.prog 74 #[] w fun e w' => e = .returned (.pointer (some ⟨w.heap.size + 1, 0, none⟩)) ∧ TreeAt w' w.heap.size (w.heap.size + 1) w.heap.size 0 [] [] (fun _ _ => none) ∧ Below w.heap.size w w' := by
 have hmm := @run_makeMap Tryz.prog
 go_enter Tryz.func74, Tryz.ntmps74
 go_wp2
 go_ret
 refine ⟨rfl, ⟨rfl, Nat.le_refl _, ?_, fun k p x h => by simp at h, fun k j p h => by simp at h, by omega, by omega, fun k p h => by simp at h, fun k j x y h => by simp at h, fun k x h => by simp at h, ?_, fun o i p _ _ => by simp⟩, bal (bal (Below.refl _ _) _) _⟩
 ·have h := World.alloc_heap_new (w.alloc (.map #[] 0)) (treeO none none w.heap.size)
  rw [World.size_alloc] at h
  exact h
 ·exact (MapS.made w).of_block (Below.heap_alloc _ _ _ (by simp))
end
section
open Go.ChangeShapes Go.WideShapes Go.ChangeAt Go.RowKit
theorem head_cells {W : World} {b m : Nat} {x y : Option Nat} (h : W.heap[b]? = some (treeO x y m)) :
  W.cell? ⟨b, 0, none⟩ = some (ptrV x) ∧ W.cell? ⟨b, 1, none⟩ = some (ptrV y) ∧ W.cell? ⟨b, 2, none⟩ = some (.map (some m)) ∧ ∀ k, W.frozen? ⟨b, k, none⟩ = false := by
 refine ⟨?_, ?_, ?_, fun k => ?_⟩ <;> simp [World.cell?, World.frozen?, h]
theorem place_cells {W : World} {p : Nat} {x : Nod} {a c : Option Nat} (h : W.heap[p]? = some (placeO x a c)) :
  W.cell? ⟨p, 0, none⟩ = some (.int .i64 x.o) ∧ W.cell? ⟨p, 1, none⟩ = some (.int .i64 x.i) ∧ W.cell? ⟨p, 2, none⟩ = some (.int .i64 x.d) ∧ W.cell? ⟨p, 3, none⟩ = some (ptrV a) ∧ W.cell? ⟨p, 4, none⟩ = some (ptrV c) ∧ ∀ k, W.frozen? ⟨p, k, none⟩ = false := by
 refine ⟨?_, ?_, ?_, ?_, ?_, fun k => ?_⟩ <;> simp [World.cell?, World.frozen?, h]
theorem has_any (w : World) (B b m n : Nat) (ps : List Nat) (l : List Nod) (f : Int → Int → Option Nat) (o i : Int) (ho : InS o) (hi : InS i) (h : TreeAt w B b m n ps l f) :
  Calls Tryz.prog 103 #[.pointer (some ⟨b, 0, none⟩), slV o i] w fun e w' => e = .returned (.bool (f o i).isSome) ∧ Below w.heap.size w w' := by
 have hm := (h.map.of_block (W' := w.alloc (.cells #[.int .i64 o, .int .i64 i] 30)) (Below.heap_alloc _ _ _ h.map.lt)).look ho hi
 obtain ⟨c0, c1, c2, hz⟩ := head_cells h.head
 have hlt : b < w.heap.size := h.lt (.inl rfl)
 have hl : ∀ W : World, W = (w.alloc (.cells #[.int .i64 o, .int .i64 i] 30)).drew → (Instr.lookup 120 (.map (some m)) (slV o i) false).run Tryz.prog W = .ok (ptrV (f o i)) W := by
  rintro W rfl
  exact ((h.map.of_block (W' := (w.alloc (.cells #[.int .i64 o, .int .i64 i] 30)).drew) (Below.heap_alloc _ _ _ h.map.lt)).look ho hi)
 have hl2 := hl _ rfl
 clear h hm hl
 cases hf : f o i
 all_goals
  rw [hf] at hl2
  simp only [ptrV] at hl2
  go_enter Tryz.func103, Tryz.ntmps103
  go_upto_region 1 with fail
  go_region
  all_goals go_wp2
  all_goals go_ret
  all_goals exact ⟨rfl, (bal (Below.refl _ _) _).drew⟩
end
section
open Go.ChangeShapes Go.WideShapes Go.ChangeAt Go.RowKit
section
variable {α : Type}
theorem ins_lo {a : List α} {q k : Nat} {x : α} (h : k < q) : (a.insertIdx q x)[k]? = a[k]? := by
 rw [List.getElem?_insertIdx, if_pos h]
theorem ins_at {a : List α} {q : Nat} {x : α} (h : q ≤ a.length) : (a.insertIdx q x)[q]? = some x := by
 rw [List.getElem?_insertIdx, if_neg (by omega), if_pos rfl, if_pos h]
theorem ins_hi {a : List α} {q k : Nat} {x : α} (h : q ≤ k) : (a.insertIdx q x)[k + 1]? = a[k]? := by
 rw [List.getElem?_insertIdx, if_neg (by omega), if_neg (by omega)]
 rfl
theorem ins_get {a : List α} {q k : Nat} {x y : α} (hq : q ≤ a.length) (h : (a.insertIdx q x)[k]? = some y) :
  (k < q ∧ a[k]? = some y) ∨ (k = q ∧ y = x) ∨ (∃ j, k = j + 1 ∧ q ≤ j ∧ a[j]? = some y) := by
 rcases Nat.lt_trichotomy k q with e | rfl | e
 ·rw [ins_lo e] at h
  exact .inl ⟨e, h⟩
 ·rw [ins_at hq] at h
  exact .inr (.inl ⟨rfl, (Option.some.inj h).symm⟩)
 ·obtain ⟨j, rfl⟩ : ∃ j, k = j + 1 := ⟨k - 1, by omega⟩
  rw [ins_hi (by omega)] at h
  exact .inr (.inr ⟨j, rfl, by omega, h⟩)
end
theorem prv_ins_lo {ps : List Nat} {q k p : Nat} (h : k ≤ q) : prv (ps.insertIdx q p) k = prv ps k := by
 cases k with
 | zero => rfl
 | succ k => exact ins_lo (by omega)
theorem prv_ins_hi {ps : List Nat} {q k p : Nat} (h : q < k) : prv (ps.insertIdx q p) (k + 1) = prv ps k := by
 obtain ⟨j, rfl⟩ : ∃ j, k = j + 1 := ⟨k - 1, by omega⟩
 exact ins_hi (by omega)
theorem prv_ins_at {ps : List Nat} {q p : Nat} (h : q ≤ ps.length) : prv (ps.insertIdx q p) (q + 1) = some p := ins_at h
theorem finds_none {ps : List Nat} {l : List Nod} {f : Int → Int → Option Nat} {o i : Int} (h : Finds ps l f) (hl : ps.length = l.length) (ho : InS o) (hi : InS i) (hf : f o i = none) {k : Nat} {y : Nod} (hk : l[k]? = some y) : ¬ (y.o = o ∧ y.i = i) := by
 intro e
 have hlt : k < ps.length := by rw [hl]; exact (lgs hk).1
 have := (h o i _ ho hi).2 ⟨k, y, List.getElem?_eq_getElem hlt, hk, e⟩
 rw [hf] at this
 cases this
theorem ins_tree {w W : World} {B b m n : Nat} {ps : List Nat} {l : List Nod} {f : Int → Int → Option Nat} {p q : Nat} {x : Nod} (h : TreeAt w B b m n ps l f) (hq : q ≤ ps.length) (hpn : ∀ k : Nat, ps[k]? ≠ some p) (hB : B ≤ p)
  (hx : InS x.o ∧ InS x.i ∧ 0 ≤ x.d ∧ x.d ≤ (n + 1 : Nat)) (hf : f x.o x.i = none)
  (hp : W.heap[p]? = some (placeO x (prv ps q) ps[q]?))
  (hb : W.heap[b]? = some (treeO (if q = 0 then some p else ps[0]?) (if q = ps.length then some p else prv ps ps.length) m))
  (hpv : ∀ (k r : Nat) (y : Nod), q = k + 1 → ps[k]? = some r → l[k]? = some y → W.heap[r]? = some (placeO y (prv ps k) (some p)))
  (hnx : ∀ (r : Nat) (y : Nod), ps[q]? = some r → l[q]? = some y → W.heap[r]? = some (placeO y (some p) ps[q + 1]?))
  (hot : ∀ k r : Nat, ps[k]? = some r → k ≠ q → k + 1 ≠ q → W.heap[r]? = w.heap[r]?)
  (hm : MapS W m (n + 1) (fput f x.o x.i p)) : TreeAt W B b m (n + 1) (ps.insertIdx q p) (l.insertIdx q x) (fput f x.o x.i p) := by
 have hql : q ≤ l.length := h.len ▸ hq
 have hl1 : (ps.insertIdx q p).length = ps.length + 1 := by rw [List.length_insertIdx]; simp [hq]
 have hl2 : (l.insertIdx q x).length = l.length + 1 := by rw [List.length_insertIdx]; simp [hql]
 have hno := fun k y (hk : l[k]? = some y) => finds_none h.finds h.len hx.1 hx.2.1 hf hk
 refine ⟨by rw [hl1, hl2, h.len], by rw [hl2]; have := h.le; omega, ?_, ?_, ?_, h.gb, h.gm, ?_, ?_, ?_, hm, ?_⟩
 ·rw [hb, hl1]
  congr 2
  ·by_cases e : q = 0
   ·subst e; rw [if_pos rfl, ins_at (Nat.zero_le _)]
   ·rw [if_neg e, ins_lo (by omega)]
  ·by_cases e : q = ps.length
   ·subst e; rw [if_pos rfl, prv_ins_at (Nat.le_refl _)]
   ·rw [if_neg e, prv_ins_hi (by omega)]
 ·intro k r y hk hy
  rcases ins_get hq hk with ⟨e, hr⟩ | ⟨rfl, rfl⟩ | ⟨j, rfl, hj, hr⟩
  ·rw [ins_lo e] at hy
   rw [prv_ins_lo (by omega)]
   by_cases e2 : k + 1 = q
   ·subst e2
    rw [ins_at hq]
    exact hpv k r y rfl hr hy
   ·rw [ins_lo (by omega)]
    exact (hot k r hr (by omega) e2).trans (h.row k r y hr hy)
  ·rw [ins_at hql] at hy
   cases hy
   rw [prv_ins_lo (Nat.le_refl _), ins_hi (Nat.le_refl _)]
   exact hp
  ·rw [ins_hi hj] at hy
   rw [ins_hi (by omega)]
   by_cases e2 : j = q
   ·subst e2
    rw [prv_ins_at hq]
    exact hnx r y hr hy
   ·rw [prv_ins_hi (by omega)]
    exact (hot j r hr e2 (by omega)).trans (h.row j r y hr hy)
 ·intro k j r hk hj
  rcases ins_get hq hk with ⟨e, hr⟩ | ⟨rfl, rfl⟩ | ⟨k, rfl, e, hr⟩ <;> rcases ins_get hq hj with ⟨e', hr'⟩ | ⟨rfl, e'⟩ | ⟨j, rfl, e', hr'⟩
  ·exact h.inj _ _ _ hr hr'
  ·exact absurd (e' ▸ hr) (hpn _)
  ·have := h.inj _ _ _ hr hr'; omega
  ·exact absurd hr' (hpn _)
  ·rfl
  ·exact absurd hr' (hpn _)
  ·have := h.inj _ _ _ hr hr'; omega
  ·exact absurd (e' ▸ hr) (hpn _)
  ·rw [h.inj _ _ _ hr hr']
 ·intro k r hk
  rcases ins_get hq hk with ⟨e, hr⟩ | ⟨rfl, rfl⟩ | ⟨k, rfl, e, hr⟩
  ·exact h.gp _ _ hr
  ·exact hB
  ·exact h.gp _ _ hr
 ·intro k j y z hk hj h1 h2
  rcases ins_get hql hk with ⟨e, hr⟩ | ⟨rfl, rfl⟩ | ⟨k, rfl, e, hr⟩ <;> rcases ins_get hql hj with ⟨e', hr'⟩ | ⟨rfl, rfl⟩ | ⟨j, rfl, e', hr'⟩
  ·exact h.slots _ _ _ _ hr hr' h1 h2
  ·exact absurd ⟨h1, h2⟩ (hno _ _ hr)
  ·have := h.slots _ _ _ _ hr hr' h1 h2; omega
  ·exact absurd ⟨h1.symm, h2.symm⟩ (hno _ _ hr')
  ·rfl
  ·exact absurd ⟨h1.symm, h2.symm⟩ (hno _ _ hr')
  ·have := h.slots _ _ _ _ hr hr' h1 h2; omega
  ·exact absurd ⟨h1, h2⟩ (hno _ _ hr)
  ·rw [h.slots _ _ _ _ hr hr' h1 h2]
 ·intro k y hk
  have hi := fun k y (q : l[k]? = some y) => h.ins k y q
  rcases ins_get hql hk with ⟨e, hr⟩ | ⟨rfl, rfl⟩ | ⟨k, rfl, e, hr⟩
  ·obtain ⟨a, b, c, d⟩ := hi _ _ hr; exact ⟨a, b, c, by omega⟩
  ·exact hx
  ·obtain ⟨a, b, c, d⟩ := hi _ _ hr; exact ⟨a, b, c, by omega⟩
 ·intro o i r ho hi
  unfold fput
  constructor
  ·intro hr
   split at hr
   ·rename_i e
    cases hr
    exact ⟨q, x, ins_at hq, ins_at hql, e.1.symm, e.2.symm⟩
   ·obtain ⟨k, y, h1, h2, h3⟩ := (h.finds o i r ho hi).1 hr
    by_cases e : k < q
    ·exact ⟨k, y, (ins_lo e).trans h1, (ins_lo e).trans h2, h3⟩
    ·exact ⟨k + 1, y, (ins_hi (by omega)).trans h1, (ins_hi (by omega)).trans h2, h3⟩
  ·rintro ⟨k, y, h1, h2, h3⟩
   rcases ins_get hql h2 with ⟨e, hr⟩ | ⟨rfl, rfl⟩ | ⟨k, rfl, e, hr⟩
   ·rw [ins_lo e] at h1
    rw [if_neg (fun q => hno _ _ hr ⟨h3.1.trans q.1, h3.2.trans q.2⟩)]
    exact (h.finds o i r ho hi).2 ⟨k, y, h1, hr, h3⟩
   ·rw [ins_at hq] at h1
    rw [if_pos ⟨h3.1.symm, h3.2.symm⟩]
    exact h1
   ·rw [ins_hi e] at h1
    rw [if_neg (fun q => hno _ _ hr ⟨h3.1.trans q.1, h3.2.trans q.2⟩)]
    exact (h.finds o i r ho hi).2 ⟨k, y, h1, hr, h3⟩
end
section
open Go.ChangeShapes Go.WideShapes Go.ChangeAt Go.RowKit Go.MapKept Go.ChangeMaps
def insW (w : World) (p : Nat) (A C : Addr) (v1 v2 : Value) : World :=
 (((w.setCell ⟨p, 3, none⟩ v1).setCell ⟨p, 4, none⟩ v2).setCell A (.pointer (some ⟨p, 0, none⟩))).setCell C (.pointer (some ⟨p, 0, none⟩))
theorem insW_p {w : World} {p : Nat} {A C : Addr} {x : Nod} {a c a' c' : Option Nat} (h : w.heap[p]? = some (placeO x a c)) (hA : p ≠ A.block) (hC : p ≠ C.block) : (insW w p A C (ptrV a') (ptrV c')).heap[p]? = some (placeO x a' c') := by
 unfold insW
 rw [Go.heap_setCell_other _ _ _ _ hC, Go.heap_setCell_other _ _ _ _ hA]
 have e1 := Go.heap_setCell_same _ _ 3 _ _ (ptrV a') h
 exact Go.heap_setCell_same _ _ 4 _ _ (ptrV c') e1
theorem insW_other {w : World} {p k : Nat} {A C : Addr} {v1 v2 : Value} (h1 : k ≠ p) (hA : k ≠ A.block) (hC : k ≠ C.block) : (insW w p A C v1 v2).heap[k]? = w.heap[k]? := by
 unfold insW
 rw [Go.heap_setCell_other _ _ _ _ hC, Go.heap_setCell_other _ _ _ _ hA, Go.heap_setCell_other _ _ _ _ h1, Go.heap_setCell_other _ _ _ _ h1]
theorem insW_A {w : World} {p b i : Nat} {C : Addr} {v1 v2 : Value} {cs : Array Value} {t : TypeId} (h : w.heap[b]? = some (.cells cs t (0, 0))) (h1 : b ≠ p) (hC : b ≠ C.block) :
  (insW w p ⟨b, i, none⟩ C v1 v2).heap[b]? = some (.cells (cs.setIfInBounds i (.pointer (some ⟨p, 0, none⟩))) t (0, 0)) := by
 unfold insW
 rw [Go.heap_setCell_other _ _ _ _ hC]
 refine Go.heap_setCell_same _ _ _ _ _ _ ?_
 rw [Go.heap_setCell_other _ _ _ _ h1, Go.heap_setCell_other _ _ _ _ h1]
 exact h
theorem insW_C {w : World} {p b i : Nat} {A : Addr} {v1 v2 : Value} {cs : Array Value} {t : TypeId} (h : w.heap[b]? = some (.cells cs t (0, 0))) (h1 : b ≠ p) (hA : b ≠ A.block) :
  (insW w p A ⟨b, i, none⟩ v1 v2).heap[b]? = some (.cells (cs.setIfInBounds i (.pointer (some ⟨p, 0, none⟩))) t (0, 0)) := by
 unfold insW
 refine Go.heap_setCell_same _ _ _ _ _ _ ?_
 rw [Go.heap_setCell_other _ _ _ _ hA, Go.heap_setCell_other _ _ _ _ h1, Go.heap_setCell_other _ _ _ _ h1]
 exact h
theorem insW_AC {w : World} {p b i j : Nat} {v1 v2 : Value} {cs : Array Value} {t : TypeId} (h : w.heap[b]? = some (.cells cs t (0, 0))) (h1 : b ≠ p) :
  (insW w p ⟨b, i, none⟩ ⟨b, j, none⟩ v1 v2).heap[b]? = some (.cells ((cs.setIfInBounds i (.pointer (some ⟨p, 0, none⟩))).setIfInBounds j (.pointer (some ⟨p, 0, none⟩))) t (0, 0)) := by
 unfold insW
 refine Go.heap_setCell_same _ _ _ _ _ _ (Go.heap_setCell_same _ _ _ _ _ _ ?_)
 rw [Go.heap_setCell_other _ _ _ _ h1, Go.heap_setCell_other _ _ _ _ h1]
 exact h
theorem head_place {w : World} {b p m : Nat} {x : Nod} {a c u v : Option Nat} (h : w.heap[b]? = some (treeO a c m)) (k : w.heap[p]? = some (placeO x u v)) : b ≠ p := by
 rintro rfl
 rw [h] at k
 injection k with k
 injection k with _ k _
 exact absurd k (by decide)
theorem map_head {w : World} {b m n q : Nat} {f : Int → Int → Option Nat} {a c : Option Nat} (h : w.heap[b]? = some (treeO a c q)) (k : MapS w m n f) : m ≠ b := by
 rintro rfl
 obtain ⟨es, cl, e⟩ := k.obj
 rw [h] at e
 cases e
theorem map_place {w : World} {p m n : Nat} {f : Int → Int → Option Nat} {x : Nod} {a c : Option Nat} (h : w.heap[p]? = some (placeO x a c)) (k : MapS w m n f) : m ≠ p := by
 rintro rfl
 obtain ⟨es, cl, e⟩ := k.obj
 rw [h] at e
 cases e
structure InsPost (w w' : World) (B b m n : Nat) (ps : List Nat) (l : List Nod) (f : Int → Int → Option Nat) (p q : Nat) (x : Nod) : Prop where
 tree : TreeAt w' B b m (n + 1) (ps.insertIdx q p) (l.insertIdx q x) (fput f x.o x.i p)
 os : w'.os = w.os
 tape : w'.tape = w.tape
 output : w'.output = w.output
 size : w'.heap.size = w.heap.size
 block : ∀ k, ¬ foot b m ps k → k ≠ p → w'.heap[k]? = w.heap[k]?
theorem ins_post {w W W' : World} {B b m n : Nat} {ps : List Nat} {l : List Nod} {f : Int → Int → Option Nat} {p q : Nat} {x : Nod} {A C : Addr} (hW : W = insW w p A C (ptrV (prv ps q)) (ptrV ps[q]?)) (ht : W.drew.mapTurned W' m) (hA : foot b m ps A.block) (hC : foot b m ps C.block)
  (hT : TreeAt W' B b m (n + 1) (ps.insertIdx q p) (l.insertIdx q x) (fput f x.o x.i p)) : InsPost w W' B b m n ps l f p q x := by
 obtain ⟨es, c, es', c', hb, rfl⟩ := ht
 refine ⟨hT, ?_, ?_, ?_, ?_, ?_⟩
 ·rw [hW]; simp [setBlock, insW, World.drew, World.setCell]
 ·rw [hW]; simp [setBlock, insW, World.drew, World.setCell]
 ·rw [hW]; simp [setBlock, insW, World.drew, World.setCell]
 ·rw [hW]; simp [setBlock, insW, World.drew, World.setCell]
 ·intro k hk hp
  refine (heap_setBlock_other hb _ (fun e => hk (.inr (.inl e)))).trans ?_
  rw [hW]
  exact insW_other hp (fun e => hk (e ▸ hA)) (fun e => hk (e ▸ hC))
theorem foot_at {b m k p : Nat} {ps : List Nat} (h : ps[k]? = some p) : foot b m ps p := .inr (.inr ⟨k, h⟩)
theorem turned_block {W W' : World} {m k : Nat} (h : W.drew.mapTurned W' m) (hk : k ≠ m) : W'.heap[k]? = W.heap[k]? := by
 obtain ⟨es, c, es', c', hb, rfl⟩ := h
 exact heap_setBlock_other hb _ hk
end
section
open Go.ChangeShapes Go.WideShapes Go.ChangeAt Go.RowKit
theorem insert_wA (w : World) (b p m : Nat) (o i : Int) (u1 u3 u4 d : Value) (Q : World → Prop) (n0 : b ≠ p) (n1 : p ≠ b) (c0 : w.cell? ⟨b, 0, none⟩ = some (.pointer none)) (c1 : w.cell? ⟨b, 1, none⟩ = some u1) (c2 : w.cell? ⟨b, 2, none⟩ = some (.map (some m))) (cz : ∀ k, w.frozen? ⟨b, k, none⟩ = false)
  (p0 : w.cell? ⟨p, 0, none⟩ = some (.int .i64 o)) (p1 : w.cell? ⟨p, 1, none⟩ = some (.int .i64 i)) (p2 : w.cell? ⟨p, 2, none⟩ = some d) (p3 : w.cell? ⟨p, 3, none⟩ = some u3) (p4 : w.cell? ⟨p, 4, none⟩ = some u4) (pz : ∀ k, w.frozen? ⟨p, k, none⟩ = false)
  (hQ : ∃ W', (Instr.mapUpdate 120 (.map (some m)) (slV o i) (.pointer (some ⟨p, 0, none⟩))).run Tryz.prog (insW w p ⟨b, 0, none⟩ ⟨b, 1, none⟩ (.pointer none) (.pointer none)).drew = .ok () W' ∧ Q W') :
  Calls Tryz.prog 108 #[.pointer (some ⟨b, 0, none⟩), .pointer (some ⟨p, 0, none⟩), .pointer none] w fun e w' => (∃ v, e = .returned v) ∧ Q w' := by
 obtain ⟨W', hr, hQ⟩ := hQ
 unfold insW at hr
 have HQ := hid hQ
 clear hQ
 go_enter Tryz.func108, Tryz.ntmps108
 go_upto_region 7 with fail
 go_region
 all_goals
  go_wp2
  go_end0
  exact ⟨⟨_, rfl⟩, HQ.out⟩
theorem insert_wB (w : World) (b p m : Nat) (o i : Int) (r : Nat) (u1 u3 u4 d : Value) (Q : World → Prop) (n0 : b ≠ p) (n1 : p ≠ b) (n2 : r ≠ p) (n3 : p ≠ r) (n4 : r ≠ b) (n5 : b ≠ r) (c0 : w.cell? ⟨b, 0, none⟩ = some (.pointer (some ⟨r, 0, none⟩))) (c1 : w.cell? ⟨b, 1, none⟩ = some u1) (c2 : w.cell? ⟨b, 2, none⟩ = some (.map (some m))) (cz : ∀ k, w.frozen? ⟨b, k, none⟩ = false)
  (p0 : w.cell? ⟨p, 0, none⟩ = some (.int .i64 o)) (p1 : w.cell? ⟨p, 1, none⟩ = some (.int .i64 i)) (p2 : w.cell? ⟨p, 2, none⟩ = some d) (p3 : w.cell? ⟨p, 3, none⟩ = some u3) (p4 : w.cell? ⟨p, 4, none⟩ = some u4) (pz : ∀ k, w.frozen? ⟨p, k, none⟩ = false)
  (v3 : Value) (r3 : w.cell? ⟨r, 3, none⟩ = some v3) (rz : ∀ k, w.frozen? ⟨r, k, none⟩ = false)
  (hQ : ∃ W', (Instr.mapUpdate 120 (.map (some m)) (slV o i) (.pointer (some ⟨p, 0, none⟩))).run Tryz.prog (insW w p ⟨b, 0, none⟩ ⟨r, 3, none⟩ (.pointer none) (.pointer (some ⟨r, 0, none⟩))).drew = .ok () W' ∧ Q W') :
  Calls Tryz.prog 108 #[.pointer (some ⟨b, 0, none⟩), .pointer (some ⟨p, 0, none⟩), .pointer none] w fun e w' => (∃ v, e = .returned v) ∧ Q w' := by
 obtain ⟨W', hr, hQ⟩ := hQ
 unfold insW at hr
 have HQ := hid hQ
 clear hQ
 go_enter Tryz.func108, Tryz.ntmps108
 go_upto_region 7 with fail
 go_region
 all_goals
  go_wp2
  go_end0
  exact ⟨⟨_, rfl⟩, HQ.out⟩
theorem insert_wC (w : World) (b p m : Nat) (o i : Int) (s : Nat) (u0 u1 u3 u4 d : Value) (Q : World → Prop) (n0 : b ≠ p) (n1 : p ≠ b) (n2 : s ≠ p) (n3 : p ≠ s) (n4 : s ≠ b) (n5 : b ≠ s) (c0 : w.cell? ⟨b, 0, none⟩ = some (u0)) (c1 : w.cell? ⟨b, 1, none⟩ = some u1) (c2 : w.cell? ⟨b, 2, none⟩ = some (.map (some m))) (cz : ∀ k, w.frozen? ⟨b, k, none⟩ = false)
  (p0 : w.cell? ⟨p, 0, none⟩ = some (.int .i64 o)) (p1 : w.cell? ⟨p, 1, none⟩ = some (.int .i64 i)) (p2 : w.cell? ⟨p, 2, none⟩ = some d) (p3 : w.cell? ⟨p, 3, none⟩ = some u3) (p4 : w.cell? ⟨p, 4, none⟩ = some u4) (pz : ∀ k, w.frozen? ⟨p, k, none⟩ = false)
  (s4 : w.cell? ⟨s, 4, none⟩ = some (.pointer none)) (sz : ∀ k, w.frozen? ⟨s, k, none⟩ = false)
  (hQ : ∃ W', (Instr.mapUpdate 120 (.map (some m)) (slV o i) (.pointer (some ⟨p, 0, none⟩))).run Tryz.prog (insW w p ⟨s, 4, none⟩ ⟨b, 1, none⟩ (.pointer (some ⟨s, 0, none⟩)) (.pointer none)).drew = .ok () W' ∧ Q W') :
  Calls Tryz.prog 108 #[.pointer (some ⟨b, 0, none⟩), .pointer (some ⟨p, 0, none⟩), .pointer (some ⟨s, 0, none⟩)] w fun e w' => (∃ v, e = .returned v) ∧ Q w' := by
 obtain ⟨W', hr, hQ⟩ := hQ
 unfold insW at hr
 have HQ := hid hQ
 clear hQ
 go_enter Tryz.func108, Tryz.ntmps108
 go_upto_region 7 with fail
 go_region
 all_goals
  go_wp2
  go_end0
  exact ⟨⟨_, rfl⟩, HQ.out⟩
theorem insert_wD (w : World) (b p m : Nat) (o i : Int) (s : Nat) (r : Nat) (u0 u1 u3 u4 d : Value) (Q : World → Prop) (n0 : b ≠ p) (n1 : p ≠ b) (n2 : s ≠ p) (n3 : p ≠ s) (n4 : s ≠ b) (n5 : b ≠ s) (n6 : r ≠ p) (n7 : p ≠ r) (n8 : r ≠ b) (n9 : b ≠ r) (n10 : s ≠ r) (n11 : r ≠ s) (c0 : w.cell? ⟨b, 0, none⟩ = some (u0)) (c1 : w.cell? ⟨b, 1, none⟩ = some u1) (c2 : w.cell? ⟨b, 2, none⟩ = some (.map (some m))) (cz : ∀ k, w.frozen? ⟨b, k, none⟩ = false)
  (p0 : w.cell? ⟨p, 0, none⟩ = some (.int .i64 o)) (p1 : w.cell? ⟨p, 1, none⟩ = some (.int .i64 i)) (p2 : w.cell? ⟨p, 2, none⟩ = some d) (p3 : w.cell? ⟨p, 3, none⟩ = some u3) (p4 : w.cell? ⟨p, 4, none⟩ = some u4) (pz : ∀ k, w.frozen? ⟨p, k, none⟩ = false)
  (s4 : w.cell? ⟨s, 4, none⟩ = some (.pointer (some ⟨r, 0, none⟩))) (sz : ∀ k, w.frozen? ⟨s, k, none⟩ = false)
  (v3 : Value) (r3 : w.cell? ⟨r, 3, none⟩ = some v3) (rz : ∀ k, w.frozen? ⟨r, k, none⟩ = false)
  (hQ : ∃ W', (Instr.mapUpdate 120 (.map (some m)) (slV o i) (.pointer (some ⟨p, 0, none⟩))).run Tryz.prog (insW w p ⟨s, 4, none⟩ ⟨r, 3, none⟩ (.pointer (some ⟨s, 0, none⟩)) (.pointer (some ⟨r, 0, none⟩))).drew = .ok () W' ∧ Q W') :
  Calls Tryz.prog 108 #[.pointer (some ⟨b, 0, none⟩), .pointer (some ⟨p, 0, none⟩), .pointer (some ⟨s, 0, none⟩)] w fun e w' => (∃ v, e = .returned v) ∧ Q w' := by
 obtain ⟨W', hr, hQ⟩ := hQ
 unfold insW at hr
 have HQ := hid hQ
 clear hQ
 go_enter Tryz.func108, Tryz.ntmps108
 go_upto_region 7 with fail
 go_region
 all_goals
  go_wp2
  go_end0
  exact ⟨⟨_, rfl⟩, HQ.out⟩
end
end Go.Proofs.YtchjfeafkmpmbaaGreatDoor
