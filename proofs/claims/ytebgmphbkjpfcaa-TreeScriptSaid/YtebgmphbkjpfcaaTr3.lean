/- package tree: its map of slots, and what its object holds; New, Has. -/
import Derived.Test.YtebgmphbkjpfcaaTr2
import Derived.Maps.OwnSet
import Derived.Maps.OwnIn
import Derived.Maps.Views
namespace Go.Proofs.Ytebgmphbkjpfcaa
set_option linter.unusedVariables false
set_option linter.unusedSimpArgs false
open Go.ChangeShapes Go.WideShapes Go.ChangeAt Go.RowKit
open Go.Maps (Keyed IsMap)

/-- A pointer to a place, or to none. -/
def ptrV : Option Nat → Value
  | none => .pointer none
  | some b => .pointer (some ⟨b, 0, none⟩)
theorem ptrV_none : ptrV none = .pointer none := rfl
theorem ptrV_some (b : Nat) : ptrV (some b) = .pointer (some ⟨b, 0, none⟩) := rfl
def litP : Option Nat → DataW Unit
  | none => .lit (.int .i64 0)
  | some b => .lit (.int .i64 ((b + 1 : Nat) : Int))
def elP : Value → Option (DataW Unit × List MemPlace)
  | .pointer none => some (litP none, [])
  | .pointer (some ⟨b, 0, none⟩) => some (litP (some b), [])
  | _ => none
theorem elP_mk (x : Option Nat) : elP (ptrV x) = some (litP x, []) := by cases x <;> rfl
theorem litP_inj {x y : Option Nat} (h : litP x = litP y) : x = y := by
  cases x <;> cases y <;> simp [litP] at h ⊢ <;> omega
theorem elP_inv {v : Value} {x : Option Nat} {ps : List MemPlace} (h : elP v = some (litP x, ps)) : v = ptrV x := by
  unfold elP at h
  split at h
  · simp only [Option.some.injEq, Prod.mk.injEq] at h
    rw [← litP_inj h.1]; rfl
  · simp only [Option.some.injEq, Prod.mk.injEq] at h
    rw [← litP_inj h.1]; rfl
  · cases h
theorem zeroP (w : World) : (zeroValue 60).run Try.prog w = .ok (ptrV none) w := by kernel_rfl
theorem kS (o i : Int) : WideAt.IsKeyLit (KS o i) := by
  first | trivial | (simp [WideAt.IsKeyLit, KS]; done) | exact ⟨_, _, rfl⟩
/-- Block m is a map of at most n slots that reads as f. -/
def MapS (W : World) (m n : Nat) (f : Int → Int → Option Nat) : Prop :=
  ∃ D : DataW Unit, W.ownsMap Try.prog 31 elP m n D ∧ ∀ o i, InS o → InS i → Maps.has D (KS o i) = (f o i).isSome ∧ D.atKey (KS o i) (litP none) = litP (f o i)
theorem MapS.lt {W : World} {m n : Nat} {f : Int → Int → Option Nat} (h : MapS W m n f) : m < W.heap.size := by
  obtain ⟨D, ho, _⟩ := h
  exact ho.lt
theorem MapS.mono {W : World} {m n k : Nat} {f : Int → Int → Option Nat} (h : MapS W m n f) (hk : n ≤ k) : MapS W m k f := by
  obtain ⟨D, ho, hf⟩ := h
  exact ⟨D, ho.mono hk, hf⟩
theorem MapS.of_block {W W' : World} {m n : Nat} {f : Int → Int → Option Nat} (h : MapS W m n f) (e : W'.heap[m]? = W.heap[m]?) : MapS W' m n f := by
  obtain ⟨D, ⟨es, clock, hb, r⟩, hf⟩ := h
  exact ⟨D, ⟨es, clock, e.trans hb, r⟩, hf⟩
theorem MapS.obj {W : World} {m n : Nat} {f : Int → Int → Option Nat} (h : MapS W m n f) : ∃ es clock, W.heap[m]? = some (.map es clock) := by
  obtain ⟨D, ⟨es, clock, hb, r⟩, hf⟩ := h
  exact ⟨es, clock, hb⟩
theorem MapS.made (w : World) : MapS (w.alloc (.map #[] 0)) w.heap.size 0 (fun _ _ => none) :=
  ⟨.map [], World.ownsMap_made w _ _ _, fun o i _ _ => ⟨rfl, rfl⟩⟩
theorem MapS.look {W : World} {m n : Nat} {f : Int → Int → Option Nat} (h : MapS W m n f) {o i : Int} (ho : InS o) (hi : InS i) :
    (Instr.lookup 59 (.map (some m)) (slV o i) false).run Try.prog W = .ok (ptrV (f o i)) W := by
  obtain ⟨D, hm, hf⟩ := h
  obtain ⟨v, ps, hr, hv⟩ := hm.lookup lawS Try.underlying59 (zeroP W) (elP_mk none) (keyS o i ho hi)
  rw [(hf o i ho hi).2] at hv
  rw [← elP_inv hv]
  exact hr
theorem MapS.look_ok {W : World} {m n : Nat} {f : Int → Int → Option Nat} (h : MapS W m n f) {o i : Int} (ho : InS o) (hi : InS i) :
    (Instr.lookup 59 (.map (some m)) (slV o i) true).run Try.prog W = .ok (.tuple #[ptrV (f o i), .bool (f o i).isSome]) W := by
  obtain ⟨D, hm, hf⟩ := h
  obtain ⟨v, ps, hr, hv⟩ := hm.look_ok lawS Try.underlying59 (zeroP W) (elP_mk none) (keyS o i ho hi)
  rw [(hf o i ho hi).2] at hv
  rw [(hf o i ho hi).1, elP_inv hv] at hr
  exact hr
def fput (f : Int → Int → Option Nat) (o i : Int) (p : Nat) : Int → Int → Option Nat := fun a b => if a = o ∧ b = i then some p else f a b
def fdel (f : Int → Int → Option Nat) (o i : Int) : Int → Int → Option Nat := fun a b => if a = o ∧ b = i then none else f a b
theorem MapS.put {W : World} {m n : Nat} {f : Int → Int → Option Nat} (h : MapS W m n f) (hn : n < maxLen) {o i : Int} (ho : InS o) (hi : InS i) (p : Nat) :
    ∃ W', (Instr.mapUpdate 59 (.map (some m)) (slV o i) (ptrV (some p))).run Try.prog W = .ok () W' ∧ MapS W' m (n + 1) (fput f o i p) ∧ W.mapTurned W' m := by
  obtain ⟨D, hm, hf⟩ := h
  obtain ⟨W', hr, hm', ht⟩ := hm.store lawS Try.underlying59 hn (keyS o i ho hi) (elP_mk (some p))
  refine ⟨W', hr, ⟨_, hm', fun a b ha hb => ?_⟩, ht⟩
  unfold fput
  by_cases e : a = o ∧ b = i
  · obtain ⟨rfl, rfl⟩ := e
    rw [if_pos ⟨rfl, rfl⟩]
    exact ⟨Maps.has_put_same hm.isMap (kS _ _) _, Maps.atKey_put_same hm.isMap (kS _ _) _ _⟩
  · rw [if_neg e]
    have hne : KS a b ≠ KS o i := fun q => e (KS_inj ha hb ho hi q)
    exact ⟨(Maps.has_put_other hne _).trans (hf a b ha hb).1, (Maps.atKey_put_other hne _ _).trans (hf a b ha hb).2⟩
theorem MapS.del {W : World} {m n : Nat} {f : Int → Int → Option Nat} (h : MapS W m n f) {o i : Int} (ho : InS o) (hi : InS i) (ty : TypeId) :
    ∃ W', (Builtin.delete_ #[59, 31] ty #[.map (some m), slV o i]).run Try.prog W = .ok (.tuple #[]) W' ∧ MapS W' m n (fdel f o i) ∧ W.mapTurned W' m := by
  obtain ⟨D, hm, hf⟩ := h
  obtain ⟨W', hr, hm', ht⟩ := hm.drop lawS Try.underlying59 (keyS o i ho hi) ty
  refine ⟨W', hr, ⟨_, hm', fun a b ha hb => ?_⟩, ht⟩
  unfold fdel
  by_cases e : a = o ∧ b = i
  · obtain ⟨rfl, rfl⟩ := e
    rw [if_pos ⟨rfl, rfl⟩]
    exact ⟨Maps.has_del_same, Maps.atKey_del_same _⟩
  · rw [if_neg e]
    have hne : KS a b ≠ KS o i := fun q => e (KS_inj ha hb ho hi q)
    exact ⟨(Maps.has_del_other hne).trans (hf a b ha hb).1, (Maps.atKey_del_other hne _).trans (hf a b ha hb).2⟩
/-- A slot and its depth. -/
structure Nod where
  o : Int
  i : Int
  d : Int
deriving DecidableEq
/-- The place ahead of the k-th. -/
def prv (ps : List Nat) : Nat → Option Nat
  | 0 => none
  | k + 1 => ps[k]?
abbrev placeO (x : Nod) (a b : Option Nat) : Obj := .cells #[.int .i64 x.o, .int .i64 x.i, .int .i64 x.d, ptrV a, ptrV b] 67 (0, 0)
abbrev treeO (a b : Option Nat) (m : Nat) : Obj := .cells #[ptrV a, ptrV b, .map (some m)] 62 (0, 0)
/-- What the map tells: the places of the slots in the list. -/
def Finds (ps : List Nat) (l : List Nod) (f : Int → Int → Option Nat) : Prop :=
  ∀ o i p, InS o → InS i → (f o i = some p ↔ ∃ (k : Nat) (x : Nod), ps[k]? = some p ∧ l[k]? = some x ∧ x.o = o ∧ x.i = i)
/-- The tree in block b, its map in block m; its places lie in the blocks ps, and hold l. -/
structure TreeAt (W : World) (B b m n : Nat) (ps : List Nat) (l : List Nod) (f : Int → Int → Option Nat) : Prop where
  len : ps.length = l.length
  le : l.length ≤ n
  head : W.heap[b]? = some (treeO ps[0]? (prv ps ps.length) m)
  row : ∀ (k p : Nat) (x : Nod), ps[k]? = some p → l[k]? = some x → W.heap[p]? = some (placeO x (prv ps k) ps[k + 1]?)
  inj : ∀ (k j p : Nat), ps[k]? = some p → ps[j]? = some p → k = j
  gb : B ≤ b
  gm : B ≤ m
  gp : ∀ (k p : Nat), ps[k]? = some p → B ≤ p
  slots : ∀ (k j : Nat) (x y : Nod), l[k]? = some x → l[j]? = some y → x.o = y.o → x.i = y.i → k = j
  ins : ∀ (k : Nat) (x : Nod), l[k]? = some x → InS x.o ∧ InS x.i ∧ 0 ≤ x.d ∧ x.d ≤ n
  map : MapS W m n f
  finds : Finds ps l f
/-- Where a tree lies. -/
def foot (b m : Nat) (ps : List Nat) (k : Nat) : Prop := k = b ∨ k = m ∨ ∃ j : Nat, ps[j]? = some k
/-- What a call of a tree leaves of the world: the tree's own blocks alone are turned. -/
structure TOnly (w w' : World) (b m : Nat) (ps ps' : List Nat) : Prop where
  os : w'.os = w.os
  tape : w'.tape = w.tape
  output : w'.output = w.output
  size : w.heap.size ≤ w'.heap.size
  block : ∀ k, k < w.heap.size → ¬ foot b m ps k → w'.heap[k]? = w.heap[k]?
  foot : ∀ k, k < w.heap.size → foot b m ps' k → foot b m ps k
theorem TOnly.trans {a c d : World} {b m : Nat} {p0 p1 p2 : List Nat} (h : TOnly a c b m p0 p1) (k : TOnly c d b m p1 p2) : TOnly a d b m p0 p2 :=
  ⟨k.os.trans h.os, k.tape.trans h.tape, k.output.trans h.output, Nat.le_trans h.size k.size,
   fun j hj hf => (k.block j (Nat.lt_of_lt_of_le hj h.size) (fun e => hf (h.foot j hj e))).trans (h.block j hj hf),
   fun j hj hf => h.foot j hj (k.foot j (Nat.lt_of_lt_of_le hj h.size) hf)⟩
theorem TOnly.of_below {w w' : World} {b m : Nat} {ps : List Nat} (h : Below w.heap.size w w') : TOnly w w' b m ps ps :=
  ⟨h.os, h.tape, h.output, h.size, fun k hk _ => h.block k hk, fun k _ h => h⟩
theorem TreeAt.ge {W : World} {B b m n : Nat} {ps : List Nat} {l : List Nod} {f : Int → Int → Option Nat} (h : TreeAt W B b m n ps l f) {k : Nat} (hk : foot b m ps k) : B ≤ k := by
  rcases hk with rfl | rfl | ⟨j, hj⟩
  · exact h.gb
  · exact h.gm
  · exact h.gp j k hj
theorem TreeAt.lt {W : World} {B b m n : Nat} {ps : List Nat} {l : List Nod} {f : Int → Int → Option Nat} (h : TreeAt W B b m n ps l f) {k : Nat} (hk : foot b m ps k) : k < W.heap.size := by
  rcases hk with rfl | rfl | ⟨j, hj⟩
  · exact (Array.getElem?_eq_some_iff.1 h.head).1
  · exact h.map.lt
  · have hl : j < ps.length := (List.getElem?_eq_some_iff.1 hj).1
    have hx : l[j]? = some (l[j]'(by rw [← h.len]; exact hl)) := List.getElem?_eq_getElem _
    exact (Array.getElem?_eq_some_iff.1 (h.row j k _ hj hx)).1
theorem TOnly.below {w w' : World} {B b m n : Nat} {ps ps' : List Nat} {l : List Nod} {f : Int → Int → Option Nat} (h : TreeAt w B b m n ps l f) (k : TOnly w w' b m ps ps') (hB : B ≤ w.heap.size) : Below B w w' :=
  ⟨k.os, k.tape, k.output, k.size, fun j hj => k.block j (by omega) (fun e => by have := h.ge e; omega)⟩
theorem TreeAt.of_blocks {W W' : World} {B b m n : Nat} {ps : List Nat} {l : List Nod} {f : Int → Int → Option Nat} (h : TreeAt W B b m n ps l f) (e : ∀ k, foot b m ps k → W'.heap[k]? = W.heap[k]?) : TreeAt W' B b m n ps l f :=
  { h with
    head := (e b (.inl rfl)).trans h.head
    row := fun k p x hp hx => (e p (.inr (.inr ⟨k, hp⟩))).trans (h.row k p x hp hx)
    map := h.map.of_block (e m (.inr (.inl rfl))) }
theorem TreeAt.call {W W' : World} {B b m n : Nat} {ps : List Nat} {l : List Nod} {f : Int → Int → Option Nat} (h : TreeAt W B b m n ps l f) (hb : Below W.heap.size W W') : TreeAt W' B b m n ps l f :=
  h.of_blocks fun k hk => hb.block k (h.lt hk)
theorem TreeAt.mono {W : World} {B b m n n' : Nat} {ps : List Nat} {l : List Nod} {f : Int → Int → Option Nat} (h : TreeAt W B b m n ps l f) (hn : n ≤ n') : TreeAt W B b m n' ps l f :=
  { h with le := Nat.le_trans h.le hn, ins := fun k x hx => by obtain ⟨a, b, c, d⟩ := h.ins k x hx; exact ⟨a, b, c, by omega⟩, map := h.map.mono hn }
theorem new_any (w : World) : Calls Try.prog 11 #[] w fun e w' => e = .returned (.pointer (some ⟨w.heap.size + 1, 0, none⟩)) ∧ TreeAt w' w.heap.size (w.heap.size + 1) w.heap.size 0 [] [] (fun _ _ => none) ∧ Below w.heap.size w w' := by
  have hmm := @run_makeMap Try.prog
  go_enter Try.func11, Try.ntmps11
  go_wp2
  go_ret
  refine ⟨rfl, ⟨rfl, Nat.le_refl _, ?_, fun k p x h => by simp at h, fun k j p h => by simp at h, by omega, by omega, fun k p h => by simp at h, fun k j x y h => by simp at h, fun k x h => by simp at h, ?_, fun o i p _ _ => by simp⟩, bal (bal (Below.refl _ _) _) _⟩
  · have h := World.alloc_heap_new (w.alloc (.map #[] 0)) (treeO none none w.heap.size)
    rw [World.size_alloc] at h
    exact h
  · exact (MapS.made w).of_block (Below.heap_alloc _ _ _ (by simp))
end Go.Proofs.Ytebgmphbkjpfcaa
