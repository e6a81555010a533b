import Derived.Test.YtekllgejmgoajaaDoorPkaw
import Derived.Lib.SmallJoins
namespace Go.Proofs.YtekllgejmgoajaaDoor
set_option linter.unusedVariables false
set_option linter.unusedSimpArgs false
set_option maxRecDepth 100000
set_option maxHeartbeats 8000000
section
open Go.ChangeShapes Go.WideShapes Go.ChangeAt Go.RowKit Go.Shelf
abbrev ndV (x : Nod) : Value := .agg #[.int .i64 x.o, .int .i64 x.i, .int .i64 x.d]
def NodesAt (W : World) (v : Value) (l : List Nod) : Prop :=
 (v = .slice none 0 0 ∧ l = []) ∨ ∃ g c, v = .slice (some ⟨g, 0, none⟩) l.length c ∧ g < W.heap.size ∧ ∀ (k : Nat) (x : Nod), l[k]? = some x → W.cell? ⟨g, k * 3, none⟩ = some (.int .i64 x.o) ∧ W.cell? ⟨g, k * 3 + 1, none⟩ = some (.int .i64 x.i) ∧ W.cell? ⟨g, k * 3 + 2, none⟩ = some (.int .i64 x.d)
def St (w0 : World) (b m n : Nat) (l : List Nod) (W : World) : Prop := ∃ ps f, TreeAt W w0.heap.size b m n ps l f ∧ Below w0.heap.size w0 W
theorem new_st (w : World) : Calls Tryd.prog 62 #[] w fun e w' => e = .returned (.pointer (some ⟨w.heap.size + 1, 0, none⟩)) ∧ St w (w.heap.size + 1) w.heap.size 0 [] w' :=
 (new_any w).mono fun e w' ⟨he, hT, hb⟩ => ⟨he, [], _, hT, hb⟩
theorem St.below {w0 W : World} {b m n : Nat} {l : List Nod} (h : St w0 b m n l W) : Below w0.heap.size w0 W := by
 obtain ⟨ps, f, hT, hB⟩ := h
 exact hB
end
section
open Go.ChangeShapes Go.WideShapes Go.ChangeAt Go.RowKit Go.MapKept Go.ChangeMaps
def fset (f : Int → Int → Option Nat) (o i : Int) (p : Option Nat) : Int → Int → Option Nat := fun a b => if a = o ∧ b = i then p else f a b
structure PutPost (w w' : World) (m n : Nat) (f : Int → Int → Option Nat) (pp : Option Nat) (x : Nod) (u v : Option Nat) (o i : Int) : Prop where
 map : MapS w' m (n + 1) (fset f o i pp)
 at_ : ∀ p, pp = some p → w'.heap[p]? = some (placeO ⟨o, i, x.d⟩ u v)
 os : w'.os = w.os
 tape : w'.tape = w.tape
 output : w'.output = w.output
 size : w.heap.size ≤ w'.heap.size
 block : ∀ k, k < w.heap.size → k ≠ m → pp ≠ some k → w'.heap[k]? = w.heap[k]?
def sw (o i p j : Int) (x : Nod) : Nod := if x.o = o ∧ x.i = i then ⟨p, j, x.d⟩ else if x.o = p ∧ x.i = j then ⟨o, i, x.d⟩ else x
def swapA (l : List Nod) (o i p j : Int) : List Nod := l.map (sw o i p j)
end
section
open Go.ChangeShapes Go.WideShapes Go.ChangeAt Go.RowKit
def moveA (l : List Nod) (o i p j : Int) : List Nod × Int := if (idx l o i).isSome then (if (idx l p j).isSome then (l, 11) else (swapA l o i p j, 0)) else (l, 10)
structure Sl2 (W : World) (s : Nat) (o i : Int) : Prop where
 c0 : W.cell? ⟨s, 0, none⟩ = some (.int .i64 o)
 c1 : W.cell? ⟨s, 1, none⟩ = some (.int .i64 i)
 lt : s < W.heap.size
theorem Sl2.call {W W' : World} {s : Nat} {o i : Int} (h : Sl2 W s o i) (hb : Below W.heap.size W W') : Sl2 W' s o i :=
 ⟨(hb.cell (p := ⟨s, 0, none⟩) h.lt).trans h.c0, (hb.cell (p := ⟨s, 1, none⟩) h.lt).trans h.c1, Nat.lt_of_lt_of_le h.lt hb.size⟩
theorem Sl2.fresh (W : World) (o i : Int) : Sl2 (W.alloc (slO o i)) W.heap.size o i := by
 have hb := World.alloc_heap_new W (slO o i)
 refine ⟨?_, ?_, by simp⟩ <;> (unfold World.cell?; simp only [hb]; rfl)
end
section
open Go.ChangeShapes Go.WideShapes Go.ChangeAt Go.RowKit Go.Shelf
structure ActT where
 d : Int
 a : Int
 b : Int
 p : Int
 q : Int
def ActCells (w : World) (b o : Nat) (x : ActT) : Prop :=
 w.cell? ⟨b, o, none⟩ = some (.int .i64 x.d) ∧ w.cell? ⟨b, o + 1, none⟩ = some (.int .i64 x.a) ∧ w.cell? ⟨b, o + 2, none⟩ = some (.int .i64 x.b) ∧ w.cell? ⟨b, o + 3, none⟩ = some (.int .i64 x.p) ∧ w.cell? ⟨b, o + 4, none⟩ = some (.int .i64 x.q)
def ActT.Ok (x : ActT) : Prop := InS x.a ∧ InS x.b ∧ InS x.p ∧ InS x.q
def ActsAt (w : World) (p : Option Addr) (n : Nat) (D : Nat → ActT) : Prop :=
 ∃ b off, (0 < n → p = some ⟨b, off, none⟩ ∧ b < w.heap.size) ∧ ∀ k, k < n → ActCells w b (off + k * 5) (D k) ∧ (D k).Ok
def stepA (l : List Nod) (x : ActT) : List Nod :=
 if x.d = 0 then (rootA l x.a x.b).1 else if x.d = 1 then (childA l x.a x.b x.p x.q).1 else if x.d = 2 then (removeA l x.a x.b).1 else if x.d = 3 then (moveA l x.a x.b x.p x.q).1 else if x.d = 4 then swapA l x.a x.b x.p x.q else l
def playL (D : Nat → ActT) : Nat → List Nod
 | 0 => []
 | k + 1 => stepA (playL D k) (D k)
def StK (w0 : World) (b m n : Nat) (l : List Nod) (K : Nat → Prop) (W : World) : Prop :=
 ∃ ps f, TreeAt W w0.heap.size b m n ps l f ∧ Below w0.heap.size w0 W ∧ ∀ k, K k → k < W.heap.size ∧ ¬ foot b m ps k
def SameK (K : Nat → Prop) (W W' : World) : Prop := ∀ k, K k → W'.heap[k]? = W.heap[k]?
def KV (v : Value) (k : Nat) : Prop := v.ownBlock = some k
end
end Go.Proofs.YtekllgejmgoajaaDoor
