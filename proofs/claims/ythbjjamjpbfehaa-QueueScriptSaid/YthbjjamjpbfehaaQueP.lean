/- The laws of chapter 21: acts that a slice holds. -/
import Derived.Test.YthbjjamjpbfehaaQueR
import Derived.Test.YthbjjamjpbfehaaActs
namespace Go.Proofs.Ythbjjamjpbfehaa
set_option linter.unusedVariables false
set_option linter.unusedSimpArgs false
open Go.ChangeShapes Go.WideShapes Go.ChangeAt Go.RowKit Go.Shelf

structure ActQ where
  d : Int
  a : Int
  b : Int
/-- An act's cells. -/
def ActCells (w : World) (b o : Nat) (x : ActQ) : Prop :=
  w.cell? ⟨b, o, none⟩ = some (.int .i64 x.d) ∧ w.cell? ⟨b, o + 1, none⟩ = some (.int .i64 x.a) ∧ w.cell? ⟨b, o + 2, none⟩ = some (.int .i64 x.b)
/-- The acts that a slice holds. -/
def ActsAt (w : World) (p : Option Addr) (n : Nat) (D : Nat → ActQ) : Prop :=
  ∃ b off, (0 < n → p = some ⟨b, off, none⟩ ∧ b < w.heap.size) ∧ ∀ k, k < n → ActCells w b (off + k * 3) (D k) ∧ InI (D k).d ∧ InI (D k).a ∧ InI (D k).b
theorem open_s22 {H : Type} {enc : TypeId × Value → H} {W : World} {base : Nat} {v : Value} {d : DataW H} {ps : List MemPlace} (hval : Value.okWide Try.prog W .any base 22 v) (hd : DataW.Trod enc Try.prog W 0 (fun _ => true) true 22 v d ps) :
    ∃ p n c, v = .slice p n c ∧ n ≤ c ∧ c ≤ maxLen ∧ ∃ D, ActsAt W p n D := by
  obtain ⟨p, n, c, rfl, h1, h2, b, off, h3, h4⟩ := open_rows (C := 3) Try.underlying22 (by kernel_rfl) (by kernel_rfl) (by decide) hval hd
  refine ⟨p, n, c, rfl, h1, h2, fun k => ⟨intAt W b (off + (k * 3 + 0)), intAt W b (off + (k * 3 + 1)), intAt W b (off + (k * 3 + 2))⟩, b, off, h3, fun k hk => ?_⟩
  obtain ⟨c0, o0⟩ := h4 k hk 0 (.i .i64) (by kernel_rfl)
  obtain ⟨c1, o1⟩ := h4 k hk 1 (.i .i64) (by kernel_rfl)
  obtain ⟨c2, o2⟩ := h4 k hk 2 (.i .i64) (by kernel_rfl)
  refine ⟨⟨?_, ?_, ?_⟩, i64_of o0, i64_of o1, i64_of o2⟩
  all_goals first | exact c0 | exact c1 | exact c2 | (simp only [Nat.add_assoc]; first | exact c0 | exact c1 | exact c2)
theorem row_below {B : Nat} {w w' : World} {e : TypeId} {size : Nat} {v : Value} {n : Nat} {xs : List Value} (h : w.ownsRow B e size v n xs) (ho : Below w.heap.size w w') : w'.ownsRow B e size v n xs := by
  refine h.kept (row := none) ⟨ho.os, ho.tape, ho.output, ho.size, fun k hk _ => ho.block k hk⟩ ?_
  cases hv : v.ownBlock with
  | none => exact .inl rfl
  | some k => exact .inr (by simp)
/-- What a row's slice is. -/
theorem row_place {B : Nat} {w : World} {e : TypeId} {q : Option Addr} {c : Nat} {n : Nat} {xs : List Value} (h : w.ownsRow B e 1 (.slice q n c) n xs) : n ≤ c ∧ c ≤ maxLen ∧ (0 < n → ∃ g, q = some ⟨g, 0, none⟩ ∧ B ≤ g ∧ g < w.heap.size ∧ ∀ j u, xs[j]? = some u → w.cell? ⟨g, j, none⟩ = some u) := by
  have hlt := h.lt
  have hcs := fun g hg => h.cells (g := g) hg
  obtain ⟨hl, h | ⟨g, cap, cur, hv, hg, hblk, h1, h2, h3, h4⟩⟩ := h
  · obtain ⟨hv, h0⟩ := h
    cases hv
    exact ⟨Nat.le_refl _, by unfold maxLen; omega, fun h => absurd h (by omega)⟩
  · cases hv
    refine ⟨h1, h2, fun _ => ⟨g, rfl, hg, (hlt g rfl).2, fun j u hj => ?_⟩⟩
    have := hcs g rfl j u hj
    have e : ((⟨g, 0, none⟩ : Addr).add j) = ⟨g, j, none⟩ := by unfold Addr.add; split <;> simp_all
    rwa [e] at this
theorem ids_get {R : List (Int × Nat)} {j : Nat} {e : Int × Nat} (h : R[j]? = some e) : ((R.map (·.1)).map (Value.int .i64))[j]? = some (.int .i64 e.1) := by simp [h]
end Go.Proofs.Ythbjjamjpbfehaa
