import Derived.Test.YtekllgejmgoajaaDoorPkas
import Derived.Lib.SmallJoins
namespace Go.Proofs.YtekllgejmgoajaaDoor
set_option linter.unusedVariables false
set_option linter.unusedSimpArgs false
set_option maxRecDepth 100000
set_option maxHeartbeats 8000000
section
open Go.ChangeShapes Go.WideShapes Go.ChangeAt Go.RowKit
section
variable {α : Type}
theorem ins_lo {a : List α} {q k : Nat} {x : α} (h : k < q) : (a.insertIdx q x)[k]? = a[k]? := by
 rw [List.getElem?_insertIdx, if_pos h]
theorem ins_at {a : List α} {q : Nat} {x : α} (h : q ≤ a.length) : (a.insertIdx q x)[q]? = some x := by
 rw [List.getElem?_insertIdx, if_neg (by omega), if_pos rfl, if_pos h]
theorem ins_hi {a : List α} {q k : Nat} {x : α} (h : q ≤ k) : (a.insertIdx q x)[k + 1]? = a[k]? := by
 rw [List.getElem?_insertIdx, if_neg (by omega), if_neg (by omega)]
 rfl
theorem ins_get {a : List α} {q k : Nat} {x y : α} (hq : q ≤ a.length) (h : (a.insertIdx q x)[k]? = some y) :
  (k < q ∧ a[k]? = some y) ∨ (k = q ∧ y = x) ∨ (∃ j, k = j + 1 ∧ q ≤ j ∧ a[j]? = some y) := by
 rcases Nat.lt_trichotomy k q with e | rfl | e
 ·rw [ins_lo e] at h
  exact .inl ⟨e, h⟩
 ·rw [ins_at hq] at h
  exact .inr (.inl ⟨rfl, (Option.some.inj h).symm⟩)
 ·obtain ⟨j, rfl⟩ : ∃ j, k = j + 1 := ⟨k - 1, by omega⟩
  rw [ins_hi (by omega)] at h
  exact .inr (.inr ⟨j, rfl, by omega, h⟩)
end
theorem prv_ins_lo {ps : List Nat} {q k p : Nat} (h : k ≤ q) : prv (ps.insertIdx q p) k = prv ps k := by
 cases k with
 | zero => rfl
 | succ k => exact ins_lo (by omega)
theorem prv_ins_hi {ps : List Nat} {q k p : Nat} (h : q < k) : prv (ps.insertIdx q p) (k + 1) = prv ps k := by
 obtain ⟨j, rfl⟩ : ∃ j, k = j + 1 := ⟨k - 1, by omega⟩
 exact ins_hi (by omega)
theorem prv_ins_at {ps : List Nat} {q p : Nat} (h : q ≤ ps.length) : prv (ps.insertIdx q p) (q + 1) = some p := ins_at h
theorem finds_none {ps : List Nat} {l : List Nod} {f : Int → Int → Option Nat} {o i : Int} (h : Finds ps l f) (hl : ps.length = l.length) (ho : InS o) (hi : InS i) (hf : f o i = none) {k : Nat} {y : Nod} (hk : l[k]? = some y) : ¬ (y.o = o ∧ y.i = i) := by
 intro e
 have hlt : k < ps.length := by rw [hl]; exact (lgs hk).1
 have := (h o i _ ho hi).2 ⟨k, y, List.getElem?_eq_getElem hlt, hk, e⟩
 rw [hf] at this
 cases this
theorem ins_tree {w W : World} {B b m n : Nat} {ps : List Nat} {l : List Nod} {f : Int → Int → Option Nat} {p q : Nat} {x : Nod} (h : TreeAt w B b m n ps l f) (hq : q ≤ ps.length) (hpn : ∀ k : Nat, ps[k]? ≠ some p) (hB : B ≤ p)
  (hx : InS x.o ∧ InS x.i ∧ 0 ≤ x.d ∧ x.d ≤ (n + 1 : Nat)) (hf : f x.o x.i = none)
  (hp : W.heap[p]? = some (placeO x (prv ps q) ps[q]?))
  (hb : W.heap[b]? = some (treeO (if q = 0 then some p else ps[0]?) (if q = ps.length then some p else prv ps ps.length) m))
  (hpv : ∀ (k r : Nat) (y : Nod), q = k + 1 → ps[k]? = some r → l[k]? = some y → W.heap[r]? = some (placeO y (prv ps k) (some p)))
  (hnx : ∀ (r : Nat) (y : Nod), ps[q]? = some r → l[q]? = some y → W.heap[r]? = some (placeO y (some p) ps[q + 1]?))
  (hot : ∀ k r : Nat, ps[k]? = some r → k ≠ q → k + 1 ≠ q → W.heap[r]? = w.heap[r]?)
  (hm : MapS W m (n + 1) (fput f x.o x.i p)) : TreeAt W B b m (n + 1) (ps.insertIdx q p) (l.insertIdx q x) (fput f x.o x.i p) := by
 have hql : q ≤ l.length := h.len ▸ hq
 have hl1 : (ps.insertIdx q p).length = ps.length + 1 := by rw [List.length_insertIdx]; simp [hq]
 have hl2 : (l.insertIdx q x).length = l.length + 1 := by rw [List.length_insertIdx]; simp [hql]
 have hno := fun k y (hk : l[k]? = some y) => finds_none h.finds h.len hx.1 hx.2.1 hf hk
 refine ⟨by rw [hl1, hl2, h.len], by rw [hl2]; have := h.le; omega, ?_, ?_, ?_, h.gb, h.gm, ?_, ?_, ?_, hm, ?_⟩
 ·rw [hb, hl1]
  congr 2
  ·by_cases e : q = 0
   ·subst e; rw [if_pos rfl, ins_at (Nat.zero_le _)]
   ·rw [if_neg e, ins_lo (by omega)]
  ·by_cases e : q = ps.length
   ·subst e; rw [if_pos rfl, prv_ins_at (Nat.le_refl _)]
   ·rw [if_neg e, prv_ins_hi (by omega)]
 ·intro k r y hk hy
  rcases ins_get hq hk with ⟨e, hr⟩ | ⟨rfl, rfl⟩ | ⟨j, rfl, hj, hr⟩
  ·rw [ins_lo e] at hy
   rw [prv_ins_lo (by omega)]
   by_cases e2 : k + 1 = q
   ·subst e2
    rw [ins_at hq]
    exact hpv k r y rfl hr hy
   ·rw [ins_lo (by omega)]
    exact (hot k r hr (by omega) e2).trans (h.row k r y hr hy)
  ·rw [ins_at hql] at hy
   cases hy
   rw [prv_ins_lo (Nat.le_refl _), ins_hi (Nat.le_refl _)]
   exact hp
  ·rw [ins_hi hj] at hy
   rw [ins_hi (by omega)]
   by_cases e2 : j = q
   ·subst e2
    rw [prv_ins_at hq]
    exact hnx r y hr hy
   ·rw [prv_ins_hi (by omega)]
    exact (hot j r hr e2 (by omega)).trans (h.row j r y hr hy)
 ·intro k j r hk hj
  rcases ins_get hq hk with ⟨e, hr⟩ | ⟨rfl, rfl⟩ | ⟨k, rfl, e, hr⟩ <;> rcases ins_get hq hj with ⟨e', hr'⟩ | ⟨rfl, e'⟩ | ⟨j, rfl, e', hr'⟩
  ·exact h.inj _ _ _ hr hr'
  ·exact absurd (e' ▸ hr) (hpn _)
  ·have := h.inj _ _ _ hr hr'; omega
  ·exact absurd hr' (hpn _)
  ·rfl
  ·exact absurd hr' (hpn _)
  ·have := h.inj _ _ _ hr hr'; omega
  ·exact absurd (e' ▸ hr) (hpn _)
  ·rw [h.inj _ _ _ hr hr']
 ·intro k r hk
  rcases ins_get hq hk with ⟨e, hr⟩ | ⟨rfl, rfl⟩ | ⟨k, rfl, e, hr⟩
  ·exact h.gp _ _ hr
  ·exact hB
  ·exact h.gp _ _ hr
 ·intro k j y z hk hj h1 h2
  rcases ins_get hql hk with ⟨e, hr⟩ | ⟨rfl, rfl⟩ | ⟨k, rfl, e, hr⟩ <;> rcases ins_get hql hj with ⟨e', hr'⟩ | ⟨rfl, rfl⟩ | ⟨j, rfl, e', hr'⟩
  ·exact h.slots _ _ _ _ hr hr' h1 h2
  ·exact absurd ⟨h1, h2⟩ (hno _ _ hr)
  ·have := h.slots _ _ _ _ hr hr' h1 h2; omega
  ·exact absurd ⟨h1.symm, h2.symm⟩ (hno _ _ hr')
  ·rfl
  ·exact absurd ⟨h1.symm, h2.symm⟩ (hno _ _ hr')
  ·have := h.slots _ _ _ _ hr hr' h1 h2; omega
  ·exact absurd ⟨h1, h2⟩ (hno _ _ hr)
  ·rw [h.slots _ _ _ _ hr hr' h1 h2]
 ·intro k y hk
  have hi := fun k y (q : l[k]? = some y) => h.ins k y q
  rcases ins_get hql hk with ⟨e, hr⟩ | ⟨rfl, rfl⟩ | ⟨k, rfl, e, hr⟩
  ·obtain ⟨a, b, c, d⟩ := hi _ _ hr; exact ⟨a, b, c, by omega⟩
  ·exact hx
  ·obtain ⟨a, b, c, d⟩ := hi _ _ hr; exact ⟨a, b, c, by omega⟩
 ·intro o i r ho hi
  unfold fput
  constructor
  ·intro hr
   split at hr
   ·rename_i e
    cases hr
    exact ⟨q, x, ins_at hq, ins_at hql, e.1.symm, e.2.symm⟩
   ·obtain ⟨k, y, h1, h2, h3⟩ := (h.finds o i r ho hi).1 hr
    by_cases e : k < q
    ·exact ⟨k, y, (ins_lo e).trans h1, (ins_lo e).trans h2, h3⟩
    ·exact ⟨k + 1, y, (ins_hi (by omega)).trans h1, (ins_hi (by omega)).trans h2, h3⟩
  ·rintro ⟨k, y, h1, h2, h3⟩
   rcases ins_get hql h2 with ⟨e, hr⟩ | ⟨rfl, rfl⟩ | ⟨k, rfl, e, hr⟩
   ·rw [ins_lo e] at h1
    rw [if_neg (fun q => hno _ _ hr ⟨h3.1.trans q.1, h3.2.trans q.2⟩)]
    exact (h.finds o i r ho hi).2 ⟨k, y, h1, hr, h3⟩
   ·rw [ins_at hq] at h1
    rw [if_pos ⟨h3.1.symm, h3.2.symm⟩]
    exact h1
   ·rw [ins_hi e] at h1
    rw [if_neg (fun q => hno _ _ hr ⟨h3.1.trans q.1, h3.2.trans q.2⟩)]
    exact (h.finds o i r ho hi).2 ⟨k, y, h1, hr, h3⟩
end
section
open Go.ChangeShapes Go.WideShapes Go.ChangeAt Go.RowKit Go.MapKept Go.ChangeMaps
def insW (w : World) (p : Nat) (A C : Addr) (v1 v2 : Value) : World :=
 (((w.setCell ⟨p, 3, none⟩ v1).setCell ⟨p, 4, none⟩ v2).setCell A (.pointer (some ⟨p, 0, none⟩))).setCell C (.pointer (some ⟨p, 0, none⟩))
theorem insW_p {w : World} {p : Nat} {A C : Addr} {x : Nod} {a c a' c' : Option Nat} (h : w.heap[p]? = some (placeO x a c)) (hA : p ≠ A.block) (hC : p ≠ C.block) : (insW w p A C (ptrV a') (ptrV c')).heap[p]? = some (placeO x a' c') := by
 unfold insW
 rw [Go.heap_setCell_other _ _ _ _ hC, Go.heap_setCell_other _ _ _ _ hA]
 have e1 := Go.heap_setCell_same _ _ 3 _ _ (ptrV a') h
 exact Go.heap_setCell_same _ _ 4 _ _ (ptrV c') e1
theorem insW_other {w : World} {p k : Nat} {A C : Addr} {v1 v2 : Value} (h1 : k ≠ p) (hA : k ≠ A.block) (hC : k ≠ C.block) : (insW w p A C v1 v2).heap[k]? = w.heap[k]? := by
 unfold insW
 rw [Go.heap_setCell_other _ _ _ _ hC, Go.heap_setCell_other _ _ _ _ hA, Go.heap_setCell_other _ _ _ _ h1, Go.heap_setCell_other _ _ _ _ h1]
theorem insW_A {w : World} {p b i : Nat} {C : Addr} {v1 v2 : Value} {cs : Array Value} {t : TypeId} (h : w.heap[b]? = some (.cells cs t (0, 0))) (h1 : b ≠ p) (hC : b ≠ C.block) :
  (insW w p ⟨b, i, none⟩ C v1 v2).heap[b]? = some (.cells (cs.setIfInBounds i (.pointer (some ⟨p, 0, none⟩))) t (0, 0)) := by
 unfold insW
 rw [Go.heap_setCell_other _ _ _ _ hC]
 refine Go.heap_setCell_same _ _ _ _ _ _ ?_
 rw [Go.heap_setCell_other _ _ _ _ h1, Go.heap_setCell_other _ _ _ _ h1]
 exact h
theorem insW_C {w : World} {p b i : Nat} {A : Addr} {v1 v2 : Value} {cs : Array Value} {t : TypeId} (h : w.heap[b]? = some (.cells cs t (0, 0))) (h1 : b ≠ p) (hA : b ≠ A.block) :
  (insW w p A ⟨b, i, none⟩ v1 v2).heap[b]? = some (.cells (cs.setIfInBounds i (.pointer (some ⟨p, 0, none⟩))) t (0, 0)) := by
 unfold insW
 refine Go.heap_setCell_same _ _ _ _ _ _ ?_
 rw [Go.heap_setCell_other _ _ _ _ hA, Go.heap_setCell_other _ _ _ _ h1, Go.heap_setCell_other _ _ _ _ h1]
 exact h
theorem insW_AC {w : World} {p b i j : Nat} {v1 v2 : Value} {cs : Array Value} {t : TypeId} (h : w.heap[b]? = some (.cells cs t (0, 0))) (h1 : b ≠ p) :
  (insW w p ⟨b, i, none⟩ ⟨b, j, none⟩ v1 v2).heap[b]? = some (.cells ((cs.setIfInBounds i (.pointer (some ⟨p, 0, none⟩))).setIfInBounds j (.pointer (some ⟨p, 0, none⟩))) t (0, 0)) := by
 unfold insW
 refine Go.heap_setCell_same _ _ _ _ _ _ (Go.heap_setCell_same _ _ _ _ _ _ ?_)
 rw [Go.heap_setCell_other _ _ _ _ h1, Go.heap_setCell_other _ _ _ _ h1]
 exact h
theorem head_place {w : World} {b p m : Nat} {x : Nod} {a c u v : Option Nat} (h : w.heap[b]? = some (treeO a c m)) (k : w.heap[p]? = some (placeO x u v)) : b ≠ p := by
 rintro rfl
 rw [h] at k
 injection k with k
 injection k with _ k _
 exact absurd k (by decide)
theorem map_head {w : World} {b m n q : Nat} {f : Int → Int → Option Nat} {a c : Option Nat} (h : w.heap[b]? = some (treeO a c q)) (k : MapS w m n f) : m ≠ b := by
 rintro rfl
 obtain ⟨es, cl, e⟩ := k.obj
 rw [h] at e
 cases e
theorem map_place {w : World} {p m n : Nat} {f : Int → Int → Option Nat} {x : Nod} {a c : Option Nat} (h : w.heap[p]? = some (placeO x a c)) (k : MapS w m n f) : m ≠ p := by
 rintro rfl
 obtain ⟨es, cl, e⟩ := k.obj
 rw [h] at e
 cases e
structure InsPost (w w' : World) (B b m n : Nat) (ps : List Nat) (l : List Nod) (f : Int → Int → Option Nat) (p q : Nat) (x : Nod) : Prop where
 tree : TreeAt w' B b m (n + 1) (ps.insertIdx q p) (l.insertIdx q x) (fput f x.o x.i p)
 os : w'.os = w.os
 tape : w'.tape = w.tape
 output : w'.output = w.output
 size : w'.heap.size = w.heap.size
 block : ∀ k, ¬ foot b m ps k → k ≠ p → w'.heap[k]? = w.heap[k]?
theorem ins_post {w W W' : World} {B b m n : Nat} {ps : List Nat} {l : List Nod} {f : Int → Int → Option Nat} {p q : Nat} {x : Nod} {A C : Addr} (hW : W = insW w p A C (ptrV (prv ps q)) (ptrV ps[q]?)) (ht : W.drew.mapTurned W' m) (hA : foot b m ps A.block) (hC : foot b m ps C.block)
  (hT : TreeAt W' B b m (n + 1) (ps.insertIdx q p) (l.insertIdx q x) (fput f x.o x.i p)) : InsPost w W' B b m n ps l f p q x := by
 obtain ⟨es, c, es', c', hb, rfl⟩ := ht
 refine ⟨hT, ?_, ?_, ?_, ?_, ?_⟩
 ·rw [hW]; simp [setBlock, insW, World.drew, World.setCell]
 ·rw [hW]; simp [setBlock, insW, World.drew, World.setCell]
 ·rw [hW]; simp [setBlock, insW, World.drew, World.setCell]
 ·rw [hW]; simp [setBlock, insW, World.drew, World.setCell]
 ·intro k hk hp
  refine (heap_setBlock_other hb _ (fun e => hk (.inr (.inl e)))).trans ?_
  rw [hW]
  exact insW_other hp (fun e => hk (e ▸ hA)) (fun e => hk (e ▸ hC))
theorem foot_at {b m k p : Nat} {ps : List Nat} (h : ps[k]? = some p) : foot b m ps p := .inr (.inr ⟨k, h⟩)
theorem turned_block {W W' : World} {m k : Nat} (h : W.drew.mapTurned W' m) (hk : k ≠ m) : W'.heap[k]? = W.heap[k]? := by
 obtain ⟨es, c, es', c', hb, rfl⟩ := h
 exact heap_setBlock_other hb _ hk
end
end Go.Proofs.YtekllgejmgoajaaDoor
