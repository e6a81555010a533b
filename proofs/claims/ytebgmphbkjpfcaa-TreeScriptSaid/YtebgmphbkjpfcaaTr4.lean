/- package tree: Has; insert, Root, Child. -/
import Derived.Test.YtebgmphbkjpfcaaTr3
namespace Go.Proofs.Ytebgmphbkjpfcaa
set_option linter.unusedVariables false
set_option linter.unusedSimpArgs false
open Go.ChangeShapes Go.WideShapes Go.ChangeAt Go.RowKit

theorem head_cells {W : World} {b m : Nat} {x y : Option Nat} (h : W.heap[b]? = some (treeO x y m)) :
    W.cell? ⟨b, 0, none⟩ = some (ptrV x) ∧ W.cell? ⟨b, 1, none⟩ = some (ptrV y) ∧ W.cell? ⟨b, 2, none⟩ = some (.map (some m)) ∧ ∀ k, W.frozen? ⟨b, k, none⟩ = false := by
  refine ⟨?_, ?_, ?_, fun k => ?_⟩ <;> simp [World.cell?, World.frozen?, h]
theorem place_cells {W : World} {p : Nat} {x : Nod} {a c : Option Nat} (h : W.heap[p]? = some (placeO x a c)) :
    W.cell? ⟨p, 0, none⟩ = some (.int .i64 x.o) ∧ W.cell? ⟨p, 1, none⟩ = some (.int .i64 x.i) ∧ W.cell? ⟨p, 2, none⟩ = some (.int .i64 x.d) ∧ W.cell? ⟨p, 3, none⟩ = some (ptrV a) ∧ W.cell? ⟨p, 4, none⟩ = some (ptrV c) ∧ ∀ k, W.frozen? ⟨p, k, none⟩ = false := by
  refine ⟨?_, ?_, ?_, ?_, ?_, fun k => ?_⟩ <;> simp [World.cell?, World.frozen?, h]
theorem has_any (w : World) (B b m n : Nat) (ps : List Nat) (l : List Nod) (f : Int → Int → Option Nat) (o i : Int) (ho : InS o) (hi : InS i) (h : TreeAt w B b m n ps l f) :
    Calls Try.prog 17 #[.pointer (some ⟨b, 0, none⟩), slV o i] w fun e w' => e = .returned (.bool (f o i).isSome) ∧ Below w.heap.size w w' := by
  have hm := (h.map.of_block (W' := w.alloc (.cells #[.int .i64 o, .int .i64 i] 31)) (Below.heap_alloc _ _ _ h.map.lt)).look ho hi
  obtain ⟨c0, c1, c2, hz⟩ := head_cells h.head
  have hlt : b < w.heap.size := h.lt (.inl rfl)
  have hl : ∀ W : World, W = (w.alloc (.cells #[.int .i64 o, .int .i64 i] 31)).drew → (Instr.lookup 59 (.map (some m)) (slV o i) false).run Try.prog W = .ok (ptrV (f o i)) W := by
    rintro W rfl
    exact ((h.map.of_block (W' := (w.alloc (.cells #[.int .i64 o, .int .i64 i] 31)).drew) (Below.heap_alloc _ _ _ h.map.lt)).look ho hi)
  have hl2 := hl _ rfl
  clear h hm hl
  cases hf : f o i
  all_goals
    rw [hf] at hl2
    simp only [ptrV] at hl2 
    go_enter Try.func17, Try.ntmps17
    go_upto_region 1 with fail
    go_region
    all_goals go_wp2
    all_goals go_ret
    all_goals exact ⟨rfl, (bal (Below.refl _ _) _).drew⟩
end Go.Proofs.Ytebgmphbkjpfcaa
