/- package tree: put, Swap, Move. -/
import Derived.Test.YtebgmphbkjpfcaaTrG
namespace Go.Proofs.Ytebgmphbkjpfcaa
set_option linter.unusedVariables false
set_option linter.unusedSimpArgs false
open Go.ChangeShapes Go.WideShapes Go.ChangeAt Go.RowKit Go.MapKept Go.ChangeMaps

def fset (f : Int → Int → Option Nat) (o i : Int) (p : Option Nat) : Int → Int → Option Nat := fun a b => if a = o ∧ b = i then p else f a b
/-- What put leaves. -/
structure PutPost (w w' : World) (m n : Nat) (f : Int → Int → Option Nat) (pp : Option Nat) (x : Nod) (u v : Option Nat) (o i : Int) : Prop where
  map : MapS w' m (n + 1) (fset f o i pp)
  at_ : ∀ p, pp = some p → w'.heap[p]? = some (placeO ⟨o, i, x.d⟩ u v)
  os : w'.os = w.os
  tape : w'.tape = w.tape
  output : w'.output = w.output
  size : w.heap.size ≤ w'.heap.size
  block : ∀ k, k < w.heap.size → k ≠ m → pp ≠ some k → w'.heap[k]? = w.heap[k]?
set_option maxRecDepth 100000 in
theorem put_any (w : World) (b m n : Nat) (f : Int → Int → Option Nat) (pp : Option Nat) (x : Nod) (u v h0 h1 : Option Nat) (o i : Int) (ho : InS o) (hi : InS i) (hh : w.heap[b]? = some (treeO h0 h1 m)) (hm : MapS w m n f) (hn : n < maxLen)
    (hp : ∀ p, pp = some p → w.heap[p]? = some (placeO x u v)) :
    Calls Try.prog 42 #[.pointer (some ⟨b, 0, none⟩), ptrV pp, slV o i] w fun e w' => (∃ v, e = .returned v) ∧ PutPost w w' m n f pp x u v o i := by
  have hmb := map_head hh hm
  have hbl : b < w.heap.size := (Array.getElem?_eq_some_iff.1 hh).1
  obtain ⟨c0, c1, c2, cz⟩ := head_cells hh
  have hml := hm.lt
  cases pp with
  | none =>
    have hmW : MapS (w.alloc (slO o i)).drew m n f := hm.of_block (Below.heap_alloc _ _ _ hml)
    obtain ⟨W', hr, hm', ht⟩ := hmW.del ho hi 0
    have HP : Hid (PutPost w W' m n f none x u v o i) := by
      refine Lib.hid ?_
      obtain ⟨es, c, es', c', hb, rfl⟩ := ht
      refine ⟨hm'.mono (Nat.le_succ _), fun p e => (by cases e), rfl, rfl, rfl, ?_, fun k hk hkm _ => ?_⟩
      · simp [setBlock]
      · exact (heap_setBlock_other hb _ hkm).trans (Below.heap_alloc _ _ _ hk)
    clear hm' ht hmW
    rw [ptrV_none]
    go_enter Try.func42, Try.ntmps42
    go_upto_region 2 with fail
    go_region
    all_goals
      go_wp2
      (try rw [Exit.noGoto_ret])
      refine bodyPost_ret (results_none rfl _ _ _) rfl ⟨⟨_, rfl⟩, HP.out⟩
  | some p =>
    have hpo := hp p rfl
    have hbp := head_place hh hpo
    have hmp := map_place hpo hm
    have hpl : p < w.heap.size := (Array.getElem?_eq_some_iff.1 hpo).1
    obtain ⟨p0, p1, p2, p3, p4, pz⟩ := place_cells hpo
    have hpb : p ≠ b := hbp.symm
    obtain ⟨W, hW⟩ : ∃ W, W = (((w.setCell ⟨p, 0, none⟩ (.int .i64 o)).setCell ⟨p, 1, none⟩ (.int .i64 i)).alloc (slO o i)) := ⟨_, rfl⟩
    have hoth : ∀ k, k < w.heap.size → k ≠ p → W.heap[k]? = w.heap[k]? := fun k hk hkp => by
      rw [hW, Below.heap_alloc _ _ _ (by simpa using hk), Go.heap_setCell_other _ _ _ _ hkp, Go.heap_setCell_other _ _ _ _ hkp]
    have hpW : W.heap[p]? = some (placeO ⟨o, i, x.d⟩ u v) := by
      rw [hW, Below.heap_alloc _ _ _ (by simpa using hpl)]
      exact Go.heap_setCell_same _ _ _ _ _ _ (Go.heap_setCell_same _ _ _ _ _ _ hpo)
    have hmW : MapS W.drew m n f := hm.of_block (hoth m hml hmp)
    obtain ⟨W', hr, hm', ht⟩ := hmW.put hn ho hi p
    rw [ptrV_some] at hr
    have HP : Hid (PutPost w W' m n f (some p) x u v o i) := by
      refine Lib.hid ?_
      obtain ⟨es, c, es', c', hb, rfl⟩ := ht
      refine ⟨hm', fun q e => ?_, ?_, ?_, ?_, ?_, fun k hk hkm hkp => ?_⟩
      · cases e
        exact (heap_setBlock_other hb _ (fun e => hmp e.symm)).trans hpW
      · rw [hW]; simp [setBlock, World.drew, World.setCell, World.alloc]
      · rw [hW]; simp [setBlock, World.drew, World.setCell, World.alloc]
      · rw [hW]; simp [setBlock, World.drew, World.setCell, World.alloc]
      · rw [hW]; simp [setBlock]
      · exact (heap_setBlock_other hb _ hkm).trans (hoth k hk (fun e => hkp (by rw [e])))
    have hh2 : W.cell? ⟨b, 2, none⟩ = some (.map (some m)) := (head_cells ((hoth b hbl hbp).trans hh)).2.2.1
    clear hm' ht hmW hpW hoth
    rw [ptrV_some]
    go_enter Try.func42, Try.ntmps42
    go_upto_region 4 with fail
    subst hW
    go_region
    all_goals
      go_wp2
      go_end0
      exact ⟨⟨_, rfl⟩, HP.out⟩
/-- Two slots changed for one another. -/
def sw (o i p j : Int) (x : Nod) : Nod := if x.o = o ∧ x.i = i then ⟨p, j, x.d⟩ else if x.o = p ∧ x.i = j then ⟨o, i, x.d⟩ else x
def swapA (l : List Nod) (o i p j : Int) : List Nod := l.map (sw o i p j)
theorem sw_slot (o i p j : Int) (x : Nod) (a c : Int) : ((sw o i p j x).o = a ∧ (sw o i p j x).i = c) ↔ (x.o = (sw o i p j ⟨a, c, 0⟩).o ∧ x.i = (sw o i p j ⟨a, c, 0⟩).i) := by
  obtain ⟨xo, xi, xd⟩ := x
  unfold sw
  simp only
  repeat' split
  all_goals (try simp only)
  all_goals omega
theorem fset_sw (f : Int → Int → Option Nat) (o i p j a c : Int) : fset (fset f p j (f o i)) o i (f p j) a c = f (sw o i p j ⟨a, c, 0⟩).o (sw o i p j ⟨a, c, 0⟩).i := by
  unfold fset sw
  simp only
  split
  · rfl
  · split
    · rfl
    · rfl
theorem sw_in {o i p j : Int} (ho : InS o) (hi : InS i) (hp : InS p) (hj : InS j) {x : Nod} (h1 : InS x.o) (h2 : InS x.i) : InS (sw o i p j x).o ∧ InS (sw o i p j x).i ∧ (sw o i p j x).d = x.d := by
  unfold sw
  split
  · exact ⟨hp, hj, rfl⟩
  · split
    · exact ⟨ho, hi, rfl⟩
    · exact ⟨h1, h2, rfl⟩
theorem swap_tree {w W : World} {B b m n : Nat} {ps : List Nat} {l : List Nod} {f : Int → Int → Option Nat} {o i p j : Int} (ho : InS o) (hi : InS i) (hp : InS p) (hj : InS j) (h : TreeAt w B b m n ps l f)
    (hb : W.heap[b]? = w.heap[b]?) (hr : ∀ (k r : Nat) (x : Nod), ps[k]? = some r → l[k]? = some x → W.heap[r]? = some (placeO (sw o i p j x) (prv ps k) ps[k + 1]?))
    (hm : MapS W m (n + 1 + 1) (fset (fset f p j (f o i)) o i (f p j))) : TreeAt W B b m (n + 1 + 1) ps (swapA l o i p j) (fset (fset f p j (f o i)) o i (f p j)) := by
  have hget : ∀ {k : Nat} {y : Nod}, (swapA l o i p j)[k]? = some y → ∃ x, l[k]? = some x ∧ y = sw o i p j x := by
    intro k y hy
    unfold swapA at hy
    rw [List.getElem?_map] at hy
    obtain ⟨x, hx, e⟩ := Option.map_eq_some_iff.1 hy
    exact ⟨x, hx, e.symm⟩
  have hll : (swapA l o i p j).length = l.length := by unfold swapA; simp
  have hle := h.le
  refine ⟨by rw [hll]; exact h.len, by omega, hb.trans h.head, ?_, h.inj, h.gb, h.gm, h.gp, ?_, ?_, hm, ?_⟩
  · intro k r y hk hy
    obtain ⟨x, hx, rfl⟩ := hget hy
    exact hr k r x hk hx
  · intro k q y z hk hq h1 h2
    obtain ⟨x, hx, rfl⟩ := hget hk
    obtain ⟨x', hx', rfl⟩ := hget hq
    have e1 := (sw_slot o i p j x _ _).1 ⟨rfl, rfl⟩
    have e2 := (sw_slot o i p j x' _ _).1 ⟨rfl, rfl⟩
    rw [← h1, ← h2] at e2
    exact h.slots _ _ _ _ hx hx' (e1.1.trans e2.1.symm) (e1.2.trans e2.2.symm)
  · intro k y hk
    obtain ⟨x, hx, rfl⟩ := hget hk
    obtain ⟨a, c, d, e⟩ := h.ins k x hx
    obtain ⟨a', c', d'⟩ := sw_in ho hi hp hj a c
    exact ⟨a', c', by rw [d']; exact d, by rw [d']; omega⟩
  · intro a c r ha hc
    obtain ⟨a', c', _⟩ := sw_in (x := ⟨a, c, 0⟩) ho hi hp hj ha hc
    rw [fset_sw, h.finds _ _ r a' c']
    constructor
    · rintro ⟨k, x, h1, h2, h3⟩
      exact ⟨k, sw o i p j x, h1, by unfold swapA; rw [List.getElem?_map, h2]; rfl, (sw_slot o i p j x a c).2 h3⟩
    · rintro ⟨k, y, h1, h2, h3⟩
      obtain ⟨x, hx, rfl⟩ := hget h2
      exact ⟨k, x, h1, hx, (sw_slot o i p j x a c).1 h3⟩
end Go.Proofs.Ytebgmphbkjpfcaa
