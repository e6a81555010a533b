/- package tree: insert. -/
import Derived.Test.YtebgmphbkjpfcaaTr5
import Derived.Lib.SmallJoins
namespace Go.Proofs.Ytebgmphbkjpfcaa
set_option linter.unusedVariables false
set_option linter.unusedSimpArgs false
open Go.ChangeShapes Go.WideShapes Go.ChangeAt Go.RowKit Go.MapKept Go.ChangeMaps

/-- What insert has stored ahead of the map. -/
def insW (w : World) (p : Nat) (A C : Addr) (v1 v2 : Value) : World :=
  (((w.setCell ⟨p, 3, none⟩ v1).setCell ⟨p, 4, none⟩ v2).setCell A (.pointer (some ⟨p, 0, none⟩))).setCell C (.pointer (some ⟨p, 0, none⟩))
theorem insW_p {w : World} {p : Nat} {A C : Addr} {x : Nod} {a c a' c' : Option Nat} (h : w.heap[p]? = some (placeO x a c)) (hA : p ≠ A.block) (hC : p ≠ C.block) : (insW w p A C (ptrV a') (ptrV c')).heap[p]? = some (placeO x a' c') := by
  unfold insW
  rw [Go.heap_setCell_other _ _ _ _ hC, Go.heap_setCell_other _ _ _ _ hA]
  have e1 := Go.heap_setCell_same _ _ 3 _ _ (ptrV a') h
  exact Go.heap_setCell_same _ _ 4 _ _ (ptrV c') e1
theorem insW_other {w : World} {p k : Nat} {A C : Addr} {v1 v2 : Value} (h1 : k ≠ p) (hA : k ≠ A.block) (hC : k ≠ C.block) : (insW w p A C v1 v2).heap[k]? = w.heap[k]? := by
  unfold insW
  rw [Go.heap_setCell_other _ _ _ _ hC, Go.heap_setCell_other _ _ _ _ hA, Go.heap_setCell_other _ _ _ _ h1, Go.heap_setCell_other _ _ _ _ h1]
theorem insW_A {w : World} {p b i : Nat} {C : Addr} {v1 v2 : Value} {cs : Array Value} {t : TypeId} (h : w.heap[b]? = some (.cells cs t (0, 0))) (h1 : b ≠ p) (hC : b ≠ C.block) :
    (insW w p ⟨b, i, none⟩ C v1 v2).heap[b]? = some (.cells (cs.setIfInBounds i (.pointer (some ⟨p, 0, none⟩))) t (0, 0)) := by
  unfold insW
  rw [Go.heap_setCell_other _ _ _ _ hC]
  refine Go.heap_setCell_same _ _ _ _ _ _ ?_
  rw [Go.heap_setCell_other _ _ _ _ h1, Go.heap_setCell_other _ _ _ _ h1]
  exact h
theorem insW_C {w : World} {p b i : Nat} {A : Addr} {v1 v2 : Value} {cs : Array Value} {t : TypeId} (h : w.heap[b]? = some (.cells cs t (0, 0))) (h1 : b ≠ p) (hA : b ≠ A.block) :
    (insW w p A ⟨b, i, none⟩ v1 v2).heap[b]? = some (.cells (cs.setIfInBounds i (.pointer (some ⟨p, 0, none⟩))) t (0, 0)) := by
  unfold insW
  refine Go.heap_setCell_same _ _ _ _ _ _ ?_
  rw [Go.heap_setCell_other _ _ _ _ hA, Go.heap_setCell_other _ _ _ _ h1, Go.heap_setCell_other _ _ _ _ h1]
  exact h
theorem insW_AC {w : World} {p b i j : Nat} {v1 v2 : Value} {cs : Array Value} {t : TypeId} (h : w.heap[b]? = some (.cells cs t (0, 0))) (h1 : b ≠ p) :
    (insW w p ⟨b, i, none⟩ ⟨b, j, none⟩ v1 v2).heap[b]? = some (.cells ((cs.setIfInBounds i (.pointer (some ⟨p, 0, none⟩))).setIfInBounds j (.pointer (some ⟨p, 0, none⟩))) t (0, 0)) := by
  unfold insW
  refine Go.heap_setCell_same _ _ _ _ _ _ (Go.heap_setCell_same _ _ _ _ _ _ ?_)
  rw [Go.heap_setCell_other _ _ _ _ h1, Go.heap_setCell_other _ _ _ _ h1]
  exact h
/-- A tree's head is no place. -/
theorem head_place {w : World} {b p m : Nat} {x : Nod} {a c u v : Option Nat} (h : w.heap[b]? = some (treeO a c m)) (k : w.heap[p]? = some (placeO x u v)) : b ≠ p := by
  rintro rfl
  rw [h] at k
  injection k with k
  injection k with _ k _
  exact absurd k (by decide)
theorem map_head {w : World} {b m n q : Nat} {f : Int → Int → Option Nat} {a c : Option Nat} (h : w.heap[b]? = some (treeO a c q)) (k : MapS w m n f) : m ≠ b := by
  rintro rfl
  obtain ⟨es, cl, e⟩ := k.obj
  rw [h] at e
  cases e
theorem map_place {w : World} {p m n : Nat} {f : Int → Int → Option Nat} {x : Nod} {a c : Option Nat} (h : w.heap[p]? = some (placeO x a c)) (k : MapS w m n f) : m ≠ p := by
  rintro rfl
  obtain ⟨es, cl, e⟩ := k.obj
  rw [h] at e
  cases e
/-- What insert leaves. -/
structure InsPost (w w' : World) (B b m n : Nat) (ps : List Nat) (l : List Nod) (f : Int → Int → Option Nat) (p q : Nat) (x : Nod) : Prop where
  tree : TreeAt w' B b m (n + 1) (ps.insertIdx q p) (l.insertIdx q x) (fput f x.o x.i p)
  os : w'.os = w.os
  tape : w'.tape = w.tape
  output : w'.output = w.output
  size : w'.heap.size = w.heap.size
  block : ∀ k, ¬ foot b m ps k → k ≠ p → w'.heap[k]? = w.heap[k]?
theorem ins_post {w W W' : World} {B b m n : Nat} {ps : List Nat} {l : List Nod} {f : Int → Int → Option Nat} {p q : Nat} {x : Nod} {A C : Addr} (hW : W = insW w p A C (ptrV (prv ps q)) (ptrV ps[q]?)) (ht : W.drew.mapTurned W' m) (hA : foot b m ps A.block) (hC : foot b m ps C.block)
    (hT : TreeAt W' B b m (n + 1) (ps.insertIdx q p) (l.insertIdx q x) (fput f x.o x.i p)) : InsPost w W' B b m n ps l f p q x := by
  obtain ⟨es, c, es', c', hb, rfl⟩ := ht
  refine ⟨hT, ?_, ?_, ?_, ?_, ?_⟩
  · rw [hW]; simp [setBlock, insW, World.drew, World.setCell]
  · rw [hW]; simp [setBlock, insW, World.drew, World.setCell]
  · rw [hW]; simp [setBlock, insW, World.drew, World.setCell]
  · rw [hW]; simp [setBlock, insW, World.drew, World.setCell]
  · intro k hk hp
    refine (heap_setBlock_other hb _ (fun e => hk (.inr (.inl e)))).trans ?_
    rw [hW]
    exact insW_other hp (fun e => hk (e ▸ hA)) (fun e => hk (e ▸ hC))
theorem foot_at {b m k p : Nat} {ps : List Nat} (h : ps[k]? = some p) : foot b m ps p := .inr (.inr ⟨k, h⟩)
theorem turned_block {W W' : World} {m k : Nat} (h : W.drew.mapTurned W' m) (hk : k ≠ m) : W'.heap[k]? = W.heap[k]? := by
  obtain ⟨es, c, es', c', hb, rfl⟩ := h
  exact heap_setBlock_other hb _ hk
end Go.Proofs.Ytebgmphbkjpfcaa
