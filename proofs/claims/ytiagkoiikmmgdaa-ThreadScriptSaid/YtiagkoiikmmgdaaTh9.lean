/- chapter 20's acts; rows of threads; blocks beside package thread's own. -/
import Derived.Test.YtiagkoiikmmgdaaTh8
import Derived.Test.YtiagkoiikmmgdaaActs
import Derived.Deep.CutRange
namespace Go.Proofs.Ytiagkoiikmmgdaa
set_option linter.unusedVariables false
set_option linter.unusedSimpArgs false
open Go.ChangeShapes Go.WideShapes Go.ChangeAt Go.RowKit Go.Shelf
open TabT

structure ActT where
  d : Int
  id : Int
  t : Th
def ActT.cells (x : ActT) : List Value := .int .i64 x.d :: .int .i64 x.id :: x.t.cells
def InS (n : Int) : Prop := -9223372036854775808 ≤ n ∧ n ≤ 9223372036854775807
def ActT.Ok (x : ActT) : Prop := InS x.d ∧ InS x.id ∧ InS x.t.id
/-- The acts that a slice holds. -/
def ActsAt (w : World) (p : Option Addr) (n : Nat) (D : Nat → ActT) : Prop :=
  ∃ b off, (0 < n → p = some ⟨b, off, none⟩ ∧ b < w.heap.size) ∧ ∀ k, k < n → w.rangeAt b (off + k * 26) (D k).cells ∧ (D k).Ok
theorem wf_S {n : Int} (h : (Lit.int .i64 n).wf = true) : InS n := by
  have e1 : IntKind.i64.min = -9223372036854775808 := by decide
  have e2 : IntKind.i64.max = 9223372036854775807 := by decide
  simp only [Lit.wf, e1, e2, Bool.and_eq_true, decide_eq_true_eq] at h
  exact h
theorem range_nil (w : World) (b o : Nat) : w.rangeAt b o [] := fun j v h => by simp at h
theorem range_cons {w : World} {b o : Nat} {v : Value} {cs : List Value} (h : w.cell? ⟨b, o, none⟩ = some v) (k : w.rangeAt b (o + 1) cs) : w.rangeAt b o (v :: cs) := by
  intro j u hj
  cases j with
  | zero => simp at hj; subst hj; exact h
  | succ j =>
    rw [show o + (j + 1) = o + 1 + j by omega]
    exact k j u (by simpa using hj)
set_option maxRecDepth 100000 in
theorem open_s22 {H : Type} {enc : TypeId × Value → H} {W : World} {base : Nat} {v : Value} {d : DataW H} {ps : List MemPlace} (hval : Value.okWide Try.prog W .any base 22 v) (hd : DataW.Trod enc Try.prog W 0 (fun _ => true) true 22 v d ps) :
    ∃ p n c, v = .slice p n c ∧ n ≤ c ∧ c ≤ maxLen ∧ ∃ D, ActsAt W p n D := by
  obtain ⟨p, n, c, rfl, h1, h2, b, off, h3, h4⟩ := open_rows (C := 26) Try.underlying22 (by kernel_rfl) (by kernel_rfl) (by decide) hval hd
  refine ⟨p, n, c, rfl, h1, h2, fun k => ⟨intAt W b (off + (k * 26 + 0)), intAt W b (off + (k * 26 + 1)), ⟨intAt W b (off + (k * 26 + 2)), intAt W b (off + (k * 26 + 3)), intAt W b (off + (k * 26 + 4)), intAt W b (off + (k * 26 + 5)), intAt W b (off + (k * 26 + 6)), intAt W b (off + (k * 26 + 7)), intAt W b (off + (k * 26 + 8)), intAt W b (off + (k * 26 + 9)), boolAt W b (off + (k * 26 + 10)), intAt W b (off + (k * 26 + 11)), intAt W b (off + (k * 26 + 12)), intAt W b (off + (k * 26 + 13)), intAt W b (off + (k * 26 + 14)), intAt W b (off + (k * 26 + 15)), intAt W b (off + (k * 26 + 16)), intAt W b (off + (k * 26 + 17)), intAt W b (off + (k * 26 + 18)), intAt W b (off + (k * 26 + 19)), boolAt W b (off + (k * 26 + 20)), boolAt W b (off + (k * 26 + 21)), boolAt W b (off + (k * 26 + 22)), boolAt W b (off + (k * 26 + 23)), intAt W b (off + (k * 26 + 24)), intAt W b (off + (k * 26 + 25))⟩⟩, b, off, h3, fun k hk => ?_⟩
  obtain ⟨c0, o0⟩ := h4 k hk 0 (.i .i64) (by kernel_rfl)
  obtain ⟨c1, o1⟩ := h4 k hk 1 (.i .i64) (by kernel_rfl)
  obtain ⟨c2, o2⟩ := h4 k hk 2 (.i .i64) (by kernel_rfl)
  obtain ⟨c3, o3⟩ := h4 k hk 3 (.i .i64) (by kernel_rfl)
  obtain ⟨c4, o4⟩ := h4 k hk 4 (.i .i64) (by kernel_rfl)
  obtain ⟨c5, o5⟩ := h4 k hk 5 (.i .u64) (by kernel_rfl)
  obtain ⟨c6, o6⟩ := h4 k hk 6 (.i .u64) (by kernel_rfl)
  obtain ⟨c7, o7⟩ := h4 k hk 7 (.i .u64) (by kernel_rfl)
  obtain ⟨c8, o8⟩ := h4 k hk 8 (.i .u64) (by kernel_rfl)
  obtain ⟨c9, o9⟩ := h4 k hk 9 (.i .u64) (by kernel_rfl)
  have c10 := h4 k hk 10 .b (by kernel_rfl)
  obtain ⟨c11, o11⟩ := h4 k hk 11 (.i .i64) (by kernel_rfl)
  obtain ⟨c12, o12⟩ := h4 k hk 12 (.i .i64) (by kernel_rfl)
  obtain ⟨c13, o13⟩ := h4 k hk 13 (.i .u64) (by kernel_rfl)
  obtain ⟨c14, o14⟩ := h4 k hk 14 (.i .u64) (by kernel_rfl)
  obtain ⟨c15, o15⟩ := h4 k hk 15 (.i .u64) (by kernel_rfl)
  obtain ⟨c16, o16⟩ := h4 k hk 16 (.i .u64) (by kernel_rfl)
  obtain ⟨c17, o17⟩ := h4 k hk 17 (.i .u64) (by kernel_rfl)
  obtain ⟨c18, o18⟩ := h4 k hk 18 (.i .i64) (by kernel_rfl)
  obtain ⟨c19, o19⟩ := h4 k hk 19 (.i .i64) (by kernel_rfl)
  have c20 := h4 k hk 20 .b (by kernel_rfl)
  have c21 := h4 k hk 21 .b (by kernel_rfl)
  have c22 := h4 k hk 22 .b (by kernel_rfl)
  have c23 := h4 k hk 23 .b (by kernel_rfl)
  obtain ⟨c24, o24⟩ := h4 k hk 24 (.i .u64) (by kernel_rfl)
  obtain ⟨c25, o25⟩ := h4 k hk 25 (.i .u64) (by kernel_rfl)
  exact ⟨range_cons c0 (range_cons c1 (range_cons c2 (range_cons c3 (range_cons c4 (range_cons c5 (range_cons c6 (range_cons c7 (range_cons c8 (range_cons c9 (range_cons c10 (range_cons c11 (range_cons c12 (range_cons c13 (range_cons c14 (range_cons c15 (range_cons c16 (range_cons c17 (range_cons c18 (range_cons c19 (range_cons c20 (range_cons c21 (range_cons c22 (range_cons c23 (range_cons c24 (range_cons c25 (range_nil _ _ _)))))))))))))))))))))))))), wf_S o0, wf_S o1, wf_S o2⟩
theorem ActsAt.below {w w' : World} {p : Option Addr} {n : Nat} {D : Nat → ActT} (h : ActsAt w p n D) (hb : Below w.heap.size w w') : ActsAt w' p n D := by
  obtain ⟨b, off, h1, h2⟩ := h
  refine ⟨b, off, fun hn => ⟨(h1 hn).1, Nat.lt_of_lt_of_le (h1 hn).2 hb.size⟩, fun k hk => ⟨fun j v hj => ?_, (h2 k hk).2⟩⟩
  have hl := (h1 (by omega)).2
  exact (hb.cell (p := ⟨b, _, none⟩) hl).trans ((h2 k hk).1 j v hj)
/-- A row of threads. -/
def ThsAt (w : World) (g : Nat) (L : List Th) : Prop := ∀ (i : Nat) (x : Th), L[i]? = some x → w.rangeAt g (i * 24) x.cells
theorem ths_get : ∀ (L : List Th) (i j : Nat) (x : Th) (u : Value), L[i]? = some x → x.cells[j]? = some u → (thsC L)[i * 24 + j]? = some u
  | [], i, j, x, u, hi, _ => by simp at hi
  | y :: L, 0, j, x, u, hi, hj => by
    simp at hi
    subst hi
    have e : thsC (y :: L) = y.cells ++ thsC L := rfl
    have hl : y.cells.length = 24 := rfl
    rw [e, List.getElem?_append_left (by have := (List.getElem?_eq_some_iff.1 hj).1; omega)]
    simpa using hj
  | y :: L, i + 1, j, x, u, hi, hj => by
    have e : thsC (y :: L) = y.cells ++ thsC L := rfl
    have hl : y.cells.length = 24 := rfl
    rw [e, List.getElem?_append_right (by omega), hl, show (i + 1) * 24 + j - 24 = i * 24 + j by omega]
    exact ths_get L i j x u (by simpa using hi) hj
theorem ths_of {w : World} {base : Nat} {r : Value} {L : List Th} (h : w.ownsRow base 35 24 r L.length (thsC L)) : ∃ ra rc, r = .slice ra L.length rc ∧ L.length ≤ rc ∧ ∀ i, i < L.length → ∃ g, ra = some ⟨g, 0, none⟩ ∧ base ≤ g ∧ g < w.heap.size ∧ ThsAt w g L := by
  have hlt := h.lt
  have hcs := fun g hg => h.cells (g := g) hg
  rcases h.2 with ⟨rfl, h0⟩ | ⟨g, cap, cur, rfl, q1, q2, q3, q4, q5, q6⟩
  · exact ⟨none, 0, by rw [h0], by omega, fun i hi => by omega⟩
  · refine ⟨_, _, rfl, q3, fun _ _ => ⟨g, rfl, (hlt g rfl).1, (hlt g rfl).2, fun i x hi j u hj => ?_⟩⟩
    have := hcs g rfl _ _ (ths_get L i j x u hi hj)
    rwa [Addr.add_mid, Nat.zero_add] at this
theorem ThsAt.kept {w w' : World} {g : Nat} {L : List Th} (h : ThsAt w g L) (e : w'.heap[g]? = w.heap[g]?) : ThsAt w' g L := fun i x hi j u hj => (World.cell?_of_block e).trans (h i x hi j u hj)
/-- Package thread's object, and blocks beside it. -/
def StS (W w : World) (b : Nat) (L : List Th) (S : Nat → Prop) : Prop := ∃ base v, ThrAt w b base v L ∧ W.heap.size ≤ b ∧ Below W.heap.size W w ∧ ∀ k, S k → k < w.heap.size ∧ k ≠ b ∧ v.ownBlock ≠ some k
def SameK (S : Nat → Prop) (w w' : World) : Prop := ∀ k, S k → w'.heap[k]? = w.heap[k]?
theorem StT.beside {W w w' : World} {b : Nat} {L : List Th} (h : StT W w b L) (hb : Below w.heap.size w w') : StS W w' b L (fun k => w.heap.size ≤ k ∧ k < w'.heap.size) := by
  obtain ⟨base, v, hA, h1, h2⟩ := h
  have := hA.lt
  exact ⟨base, v, hA.call hb, h1, h2.trans (hb.mono h2.size), fun k hk => ⟨hk.2, by omega, fun e => by have := (TabAt.own hA e).2; omega⟩⟩
theorem StS.st {W w : World} {b : Nat} {L : List Th} {S : Nat → Prop} (h : StS W w b L S) : StT W w b L := by
  obtain ⟨base, v, hA, h1, h2, _⟩ := h
  exact ⟨base, v, hA, h1, h2⟩
theorem StS.call {W w w' : World} {b : Nat} {L : List Th} {S : Nat → Prop} (h : StS W w b L S) (hb : Below w.heap.size w w') : StS W w' b L S := by
  obtain ⟨base, v, hA, h1, h2, h3⟩ := h
  exact ⟨base, v, hA.call hb, h1, h2.trans (hb.mono h2.size), fun k hk => ⟨Nat.lt_of_lt_of_le (h3 k hk).1 hb.size, (h3 k hk).2⟩⟩
theorem StS.act {W w w' : World} {b base : Nat} {v v' : Value} {L L' : List Th} {S : Nat → Prop} (hA : ThrAt w b base v L) (h1 : W.heap.size ≤ b) (h2 : Below W.heap.size W w) (h3 : ∀ k, S k → k < w.heap.size ∧ k ≠ b ∧ v.ownBlock ≠ some k) (hA' : ThrAt w' b base v' L') (hO : Only w w' b 0 v v') : StS W w' b L' S ∧ SameK S w w' := by
  obtain ⟨_, _, _, _, q⟩ := StT.act hA h1 h2 hA' hO
  refine ⟨⟨base, v', hA', h1, q, fun k hk => ?_⟩, fun k hk => hO.block k (h3 k hk).1 (h3 k hk).2.1 (h3 k hk).2.2⟩
  obtain ⟨a1, a2, a3⟩ := h3 k hk
  refine ⟨Nat.lt_of_lt_of_le a1 hO.size, a2, ?_⟩
  rcases hO.foot with e | ⟨g, e, hg⟩
  · rw [e]; exact a3
  · rw [e]; intro e2; cases e2; omega
theorem StS.set {W w : World} {b : Nat} {L : List Th} {S : Nat → Prop} (h : StS W w b L S) (x : Th) :
    Calls Try.prog 13 #[.pointer (some ⟨b, 0, none⟩), .agg x.cells.toArray] w fun e w' => e = .returned (.int .i64 (setTR L x)) ∧ StS W w' b (setTL L x) S ∧ SameK S w w' := by
  obtain ⟨base, v, hA, h1, h2, h3⟩ := h
  exact (tset_any w b base v L x hA).mono fun e w' ⟨he, hA', hO⟩ => ⟨he, StS.act hA h1 h2 h3 hA' hO⟩
theorem StS.add {W w : World} {b : Nat} {L : List Th} {S : Nat → Prop} (h : StS W w b L S) (hl : L.length < 1000000) (id : Int) :
    Calls Try.prog 9 #[.pointer (some ⟨b, 0, none⟩), .int .i64 id] w fun e w' => e = .returned (.int .i64 (addTR L id)) ∧ StS W w' b (addTL L id) S ∧ SameK S w w' := by
  obtain ⟨base, v, hA, h1, h2, h3⟩ := h
  exact (tadd_any w b base v L id hA hl).mono fun e w' ⟨he, v', hA', hO⟩ => ⟨he, StS.act hA h1 h2 h3 hA' hO⟩
theorem StS.drop {W w : World} {b : Nat} {L : List Th} {S : Nat → Prop} (h : StS W w b L S) (id : Int) :
    Calls Try.prog 11 #[.pointer (some ⟨b, 0, none⟩), .int .i64 id] w fun e w' => e = .returned (.int .i64 (dropTR L id)) ∧ StS W w' b (dropTL L id) S ∧ SameK S w w' := by
  obtain ⟨base, v, hA, h1, h2, h3⟩ := h
  exact (tdrop_any w b base v L id hA).mono fun e w' ⟨he, v', hA', hO⟩ => ⟨he, StS.act hA h1 h2 h3 hA' hO⟩
/-- A thread in a box. -/
def XT (w : World) (k : Nat) (x : Th) : Prop := w.heap[k]? = some (.cells x.cells.toArray 35 (0, 0))
theorem XT.lt {w : World} {k : Nat} {x : Th} (h : XT w k x) : k < w.heap.size := (Array.getElem?_eq_some_iff.1 h).1
theorem XT.cell {w : World} {k : Nat} {x : Th} (h : XT w k x) (j : Nat) : w.cell? ⟨k, j, none⟩ = x.cells[j]? := cell_cur (cur := x.cells) h j
theorem XT.range {w : World} {k : Nat} {x : Th} (h : XT w k x) : w.rangeAt k 0 x.cells := fun j v hj => by rw [Nat.zero_add]; exact (h.cell j).trans hj
theorem XT.call {w w' : World} {k : Nat} {x : Th} (h : XT w k x) (hb : Below w.heap.size w w') : XT w' k x := (hb.block k h.lt).trans h
theorem XT.putid {w : World} {k : Nat} {x : Th} (h : XT w k x) (i : Int) : XT (w.setCell ⟨k, 0, none⟩ (.int .i64 i)) k { x with id := i } := Go.heap_setCell_same _ _ _ _ _ _ h
end Go.Proofs.Ytiagkoiikmmgdaa
