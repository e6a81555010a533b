/- chapter 12: the arena and the own answer side by side. -/
import Derived.Test.YtkladhbamkomnaaAxF
namespace Go.Proofs.Ytkladhbamkomnaa
set_option linter.unusedVariables false
set_option linter.unusedSimpArgs false
open Go.ChangeShapes Go.WideShapes Go.ChangeAt Go.RowKit Go.Shelf
open TabA

/-- The arena of b beside the own answer of rb, both made since W. -/
structure PT (W w : World) (b ab base rb rbase F : Nat) (cnt : List Int) (v : Value) (L : List Ob) (u : Value) (M : List Ob) (G : List Int) : Prop where
  ar : ArAt w b ab base F cnt v L
  rf : RefA w rb rbase F u M G
  n1 : rb ≠ b
  n2 : rb ≠ ab
  n3 : v.ownBlock ≠ some rb
  n4 : u.ownBlock ≠ some b
  n5 : u.ownBlock ≠ some ab
  n6 : ∀ k, u.ownBlock = some k → v.ownBlock ≠ some k
  l1 : W.heap.size ≤ b
  l2 : W.heap.size ≤ ab
  l3 : W.heap.size ≤ rb
  bl : Below W.heap.size W w
theorem RefA.keep {w w' : World} {rb base : Nat} {F : Int} {v : Value} {L : List Ob} {G : List Int} (h : RefA w rb base F v L G) (hs : w.heap.size ≤ w'.heap.size) (h1 : w'.heap[rb]? = w.heap[rb]?) (h2 : ∀ k, v.ownBlock = some k → w'.heap[k]? = w.heap[k]?) : RefA w' rb base F v L G :=
  ⟨h1.trans h.blk, h.gl, row_of_block h.row h2, h.lt, Nat.le_trans h.bs hs, h.cn⟩
/-- An act of the arena alone. -/
theorem PT.arena {W w w' : World} {b ab base rb rbase F : Nat} {cnt cnt' : List Int} {v v' : Value} {L L' : List Ob} {u : Value} {M : List Ob} {G : List Int} (h : PT W w b ab base rb rbase F cnt v L u M G) (hA : ArAt w' b ab base F cnt' v' L') (hO : OnlyA w w' b ab v v') : PT W w' b ab base rb rbase F cnt' v' L' u M G := by
  have hrl : rb < w.heap.size := Nat.lt_of_lt_of_le h.rf.lt h.rf.bs
  have hul : ∀ k, u.ownBlock = some k → k < w.heap.size := fun k e => (h.rf.row.lt k e).2
  have hv : ∀ k, k < w.heap.size → v.ownBlock ≠ some k → v'.ownBlock ≠ some k := by
    intro k hk hn
    rcases hO.foot with q | ⟨g, q, hg⟩
    · rw [q]; exact hn
    · rw [q]; intro e; cases e; omega
  refine ⟨hA, h.rf.keep hO.size (hO.block rb hrl h.n1 h.n2 h.n3) (fun k e => hO.block k (hul k e) (fun q => h.n4 (by rw [← q]; exact e)) (fun q => h.n5 (by rw [← q]; exact e)) (h.n6 k e)), h.n1, h.n2, hv rb hrl h.n3, h.n4, h.n5, fun k e => hv k (hul k e) (h.n6 k e), h.l1, h.l2, h.l3, h.bl.trans (hO.below h.ar h.l1 h.l2)⟩
theorem ArAt.keep {w w' : World} {b ab base F : Nat} {cnt : List Int} {v : Value} {L : List Ob} (h : ArAt w b ab base F cnt v L) (hs : w.heap.size ≤ w'.heap.size) (h1 : w'.heap[b]? = w.heap[b]?) (h2 : w'.heap[ab]? = w.heap[ab]?) (h3 : ∀ k, v.ownBlock = some k → w'.heap[k]? = w.heap[k]?) : ArAt w' b ab base F cnt v L :=
  ⟨(World.cell?_of_block h1).trans h.c0, h2.trans h.ad, h.fl, h.f1, h.tab.of hs (World.cell?_of_block h1) (World.frozen?_of_block h1) h3, h.abl, h.ne, h.cn, h.good⟩
/-- An act of the own answer alone. -/
theorem PT.own {W w w' : World} {b ab base rb rbase F : Nat} {cnt : List Int} {v : Value} {L : List Ob} {u u' : Value} {M M' : List Ob} {G G' : List Int} (h : PT W w b ab base rb rbase F cnt v L u M G) (hR : RefA w' rb rbase F u' M' G') (hO : OnlyR w w' rb u u') : PT W w' b ab base rb rbase F cnt v L u' M' G' := by
  have hvl : ∀ k, v.ownBlock = some k → k < w.heap.size := fun k e => (h.ar.tab.own e).2
  refine ⟨h.ar.keep hO.size (hO.block b h.ar.bl (fun e => h.n1 e.symm) h.n4) (hO.block ab h.ar.al (fun e => h.n2 e.symm) h.n5) (fun k e => hO.block k (hvl k e) (fun q => h.n3 (by rw [← q]; exact e)) (fun q => h.n6 k q e)), hR, h.n1, h.n2, h.n3, fun e => h.n4 (hO.foot b h.ar.bl e), fun e => h.n5 (hO.foot ab h.ar.al e), fun k e e2 => h.n6 k (hO.foot k (hvl k e2) e) e2, h.l1, h.l2, h.l3, ?_⟩
  refine h.bl.trans ⟨hO.os, hO.tape, hO.output, hO.size, fun k hk => hO.block k (Nat.lt_of_lt_of_le hk h.bl.size) (fun e => by have := h.l3; omega) (fun e => ?_)⟩
  have := (h.rf.row.lt k e).1
  have := h.rf.lt
  have := h.l3
  omega
/-- What is below leaves both. -/
theorem PT.call {W w w' : World} {b ab base rb rbase F : Nat} {cnt : List Int} {v : Value} {L : List Ob} {u : Value} {M : List Ob} {G : List Int} (h : PT W w b ab base rb rbase F cnt v L u M G) (hb : Below w.heap.size w w') : PT W w' b ab base rb rbase F cnt v L u M G :=
  ⟨h.ar.call hb, h.rf.call hb, h.n1, h.n2, h.n3, h.n4, h.n5, h.n6, h.l1, h.l2, h.l3, h.bl.trans (hb.mono h.bl.size)⟩
end Go.Proofs.Ytkladhbamkomnaa
