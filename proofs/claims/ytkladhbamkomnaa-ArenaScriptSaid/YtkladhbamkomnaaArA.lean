/- chapter 12's acts. -/
import Derived.Test.YtkladhbamkomnaaAr5
import Derived.Test.YtkladhbamkomnaaActs
import Derived.Deep.CutRange
namespace Go.Proofs.Ytkladhbamkomnaa
set_option linter.unusedVariables false
set_option linter.unusedSimpArgs false
open Go.ChangeShapes Go.WideShapes Go.ChangeAt Go.RowKit Go.Shelf
open TabA

structure ActT where
  d : Int
  a : Int
  b : Int
  p : Int
  q : Int
/-- An act's cells. -/
def ActCells (w : World) (b o : Nat) (x : ActT) : Prop :=
  w.cell? ⟨b, o, none⟩ = some (.int .i64 x.d) ∧ w.cell? ⟨b, o + 1, none⟩ = some (.int .i64 x.a) ∧ w.cell? ⟨b, o + 2, none⟩ = some (.int .i64 x.b) ∧ w.cell? ⟨b, o + 3, none⟩ = some (.int .i64 x.p) ∧ w.cell? ⟨b, o + 4, none⟩ = some (.int .i64 x.q)
def InS (n : Int) : Prop := -9223372036854775808 ≤ n ∧ n ≤ 9223372036854775807
def ActT.Ok (x : ActT) : Prop := InS x.d ∧ InS x.a ∧ InS x.b ∧ InS x.p ∧ InS x.q
/-- The acts that a slice holds. -/
def ActsAt (w : World) (p : Option Addr) (n : Nat) (D : Nat → ActT) : Prop :=
  ∃ b off, (0 < n → p = some ⟨b, off, none⟩ ∧ b < w.heap.size) ∧ ∀ k, k < n → ActCells w b (off + k * 5) (D k) ∧ (D k).Ok
theorem wf_S {n : Int} (h : (Lit.int .i64 n).wf = true) : InS n := by
  have e1 : IntKind.i64.min = -9223372036854775808 := by decide
  have e2 : IntKind.i64.max = 9223372036854775807 := by decide
  simp only [Lit.wf, e1, e2, Bool.and_eq_true, decide_eq_true_eq] at h
  exact h
theorem open_s22 {H : Type} {enc : TypeId × Value → H} {W : World} {base : Nat} {v : Value} {d : DataW H} {ps : List MemPlace} (hval : Value.okWide Try.prog W .any base 22 v) (hd : DataW.Trod enc Try.prog W 0 (fun _ => true) true 22 v d ps) :
    ∃ p n c, v = .slice p n c ∧ n ≤ c ∧ c ≤ maxLen ∧ ∃ D, ActsAt W p n D := by
  obtain ⟨p, n, c, rfl, h1, h2, b, off, h3, h4⟩ := open_rows (C := 5) Try.underlying22 (by kernel_rfl) (by kernel_rfl) (by decide) hval hd
  refine ⟨p, n, c, rfl, h1, h2, fun k => ⟨intAt W b (off + (k * 5 + 0)), intAt W b (off + (k * 5 + 1)), intAt W b (off + (k * 5 + 2)), intAt W b (off + (k * 5 + 3)), intAt W b (off + (k * 5 + 4))⟩, b, off, h3, fun k hk => ?_⟩
  obtain ⟨c0, o0⟩ := h4 k hk 0 (.i .i64) (by kernel_rfl)
  obtain ⟨c1, o1⟩ := h4 k hk 1 (.i .i64) (by kernel_rfl)
  obtain ⟨c2, o2⟩ := h4 k hk 2 (.i .i64) (by kernel_rfl)
  obtain ⟨c3, o3⟩ := h4 k hk 3 (.i .i64) (by kernel_rfl)
  obtain ⟨c4, o4⟩ := h4 k hk 4 (.i .i64) (by kernel_rfl)
  exact ⟨⟨by simpa using c0, by simpa [Nat.add_assoc] using c1, by simpa [Nat.add_assoc] using c2, by simpa [Nat.add_assoc] using c3, by simpa [Nat.add_assoc] using c4⟩, wf_S o0, wf_S o1, wf_S o2, wf_S o3, wf_S o4⟩
theorem ActsAt.below {w w' : World} {p : Option Addr} {n : Nat} {D : Nat → ActT} (h : ActsAt w p n D) (hb : Below w.heap.size w w') : ActsAt w' p n D := by
  obtain ⟨b, off, h1, h2⟩ := h
  refine ⟨b, off, fun hn => ⟨(h1 hn).1, Nat.lt_of_lt_of_le (h1 hn).2 hb.size⟩, fun k hk => ?_⟩
  obtain ⟨⟨a0, a1, a2, a3, a4⟩, ok⟩ := h2 k hk
  have hl := (h1 (by omega)).2
  have q := fun o => hb.cell (p := ⟨b, o, none⟩) hl
  exact ⟨⟨(q _).trans a0, (q _).trans a1, (q _).trans a2, (q _).trans a3, (q _).trans a4⟩, ok⟩
end Go.Proofs.Ytkladhbamkomnaa
