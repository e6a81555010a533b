/- chapter 35: the places of a line, met one by one. -/
import Derived.Test.YthgmanncmekeeaaDoorScT
namespace Go.Proofs.YthgmanncmekeeaaDoor
set_option linter.unusedVariables false
set_option linter.unusedSimpArgs false
open Go.ChangeShapes Go.WideShapes Go.ChangeAt Go.RowKit Go.Shelf
namespace Sc
def stepP (p : Bool × Nat) : Ev × List Bs → Option (Ev × List Bs)
  | (_, []) => none
  | (c, w :: r) => match numW w with | none => none | some v => if farP p.1 v = true then none else some (upd c p.2 v, r)
def evP : List (Bool × Nat) → Ev × List Bs → Option (Ev × List Bs)
  | [], s => some s
  | p :: ps, s => (stepP p s).bind (evP ps)
theorem evP_app : ∀ (a b : List (Bool × Nat)) (s : Ev × List Bs), evP (a ++ b) s = (evP a s).bind (evP b)
  | [], b, s => rfl
  | p :: a, b, s => by
    show (stepP p s).bind (evP (a ++ b)) = ((stepP p s).bind (evP a)).bind (evP b)
    cases stepP p s with
    | none => rfl
    | some t => exact evP_app a b t
theorem evP_snoc (a : List (Bool × Nat)) (p : Bool × Nat) (s : Ev × List Bs) : evP (a ++ [p]) s = (evP a s).bind (stepP p) := by
  rw [evP_app]
  cases evP a s with
  | none => rfl
  | some t =>
    show (stepP p t).bind (evP []) = stepP p t
    cases stepP p t <;> rfl
theorem evR_evP : ∀ (ps : List (Bool × Nat)) (ws : List Bs) (c : Ev), evR ps ws c = (evP ps (c, ws)).bind (fun s => if s.2 = [] then some s.1 else none)
  | [], [], c => rfl
  | [], _ :: _, c => rfl
  | (b, i) :: ps, [], c => rfl
  | (b, i) :: ps, w :: ws, c => by
    show (match numW w with | none => none | some v => if farP b v = true then none else evR ps ws (upd c i v)) = ((match numW w with | none => none | some v => if farP b v = true then none else some (upd c i v, ws)).bind (evP ps)).bind _
    cases numW w with
    | none => rfl
    | some v =>
      by_cases h : farP b v = true
      · simp [h]
      · simp only [h]
        exact evR_evP ps ws _
theorem evR_some {ps : List (Bool × Nat)} {ws : List Bs} {c d : Ev} {r : List Bs} (h : evP ps (c, ws) = some (d, r)) : evR ps ws c = if r = [] then some d else none := by rw [evR_evP, h]; rfl
theorem evR_none {a b : List (Bool × Nat)} {ws : List Bs} {c : Ev} (h : evP a (c, ws) = none) : evR (a ++ b) ws c = none := by rw [evR_evP, evP_app, h]; rfl
theorem stepP_cons (p : Bool × Nat) (c : Ev) (x : Bs) (r : List Bs) : stepP p (c, x :: r) = match numW x with | none => none | some v => if farP p.1 v = true then none else some (upd c p.2 v, r) := rfl
theorem stepP_go {p : Bool × Nat} {c : Ev} {x : Bs} {r : List Bs} (h : numB x = true ∧ farP p.1 (numV x) = false) : stepP p (c, x :: r) = some (upd c p.2 (numV x), r) := by
  rw [stepP_cons]
  cases hq : numW x with
  | none => rw [(num_none hq).2] at h; cases h.1
  | some v =>
    rw [(num_some hq).1] at h ⊢
    simp [h.2]
theorem stepP_no {p : Bool × Nat} {c : Ev} {x : Bs} {r : List Bs} (h : ¬ (numB x = true ∧ farP p.1 (numV x) = false)) : stepP p (c, x :: r) = none := by
  rw [stepP_cons]
  cases hq : numW x with
  | none => rfl
  | some v =>
    rw [(num_some hq).1, (num_some hq).2] at h
    have h3 : farP p.1 v = true := by simpa using h
    simp [h3]
/-- What may turn while a line is read: the event's block and the rest's box. -/
structure Tv (B : Nat) (u v : World) : Prop where
  os : v.os = u.os
  tape : v.tape = u.tape
  output : v.output = u.output
  size : u.heap.size ≤ v.heap.size
  block : ∀ k, k < u.heap.size → k ≠ B → k ≠ B + 1 → v.heap[k]? = u.heap[k]?
theorem Tv.refl (B : Nat) (u : World) : Tv B u u := ⟨rfl, rfl, rfl, Nat.le_refl _, fun _ _ _ _ => rfl⟩
theorem Tv.trans {B : Nat} {u v x : World} (h : Tv B u v) (k : Tv B v x) : Tv B u x := ⟨k.os.trans h.os, k.tape.trans h.tape, k.output.trans h.output, Nat.le_trans h.size k.size, fun j a b c => (k.block j (Nat.lt_of_lt_of_le a h.size) b c).trans (h.block j a b c)⟩
theorem Tv.one {B : Nat} {u v : World} (h : OneTurn B u v) : Tv B u v := ⟨h.os, h.tape, h.output, h.size, fun k a b _ => h.block k a b⟩
theorem Tv.of_below {B : Nat} {u v : World} (h : Below u.heap.size u v) : Tv B u v := ⟨h.os, h.tape, h.output, h.size, fun k a _ _ => h.block k a⟩
theorem Tv.set {B : Nat} {u v : World} (h : Tv B u v) (x : Value) : Tv B u (v.setCell ⟨B + 1, 0, none⟩ x) :=
  ⟨h.os, h.tape, h.output, by simpa using h.size, fun k a b c => (Go.heap_setCell_other _ _ _ _ c).trans (h.block k a b c)⟩
theorem Tv.keeps {B M : Nat} {u v : World} (h : Tv B u v) (hM : B + 1 < M) : KeepsFrom M u v :=
  ⟨h.size, fun k o hk ho hc => (h.block k (Array.getElem?_eq_some_iff.1 ho).1 (by omega) (by omega)).trans ho⟩
theorem Tv.below {B N : Nat} {u v : World} (h : Tv B u v) (hN : N ≤ B) (hB : B < u.heap.size) : Below N u v := ⟨h.os, h.tape, h.output, h.size, fun k hk => h.block k (by omega) (by omega) (by omega)⟩
/-- The two results' boxes filled. -/
def fillEv (W : World) (N : Nat) (c : Ev) (b : Bool) : World := (((((((((((((((W.setCell ⟨N, 0, none⟩ (.int .i64 (c 0))).setCell ⟨N, 1, none⟩ (.int .i64 (c 1))).setCell ⟨N, 2, none⟩ (.int .i64 (c 2))).setCell ⟨N, 3, none⟩ (.int .u64 (c 3))).setCell ⟨N, 4, none⟩ (.int .u64 (c 4))).setCell ⟨N, 5, none⟩ (.int .u64 (c 5))).setCell ⟨N, 6, none⟩ (.int .u64 (c 6))).setCell ⟨N, 7, none⟩ (.int .u64 (c 7))).setCell ⟨N, 8, none⟩ (.int .u64 (c 8))).setCell ⟨N, 9, none⟩ (.int .u64 (c 9))).setCell ⟨N, 10, none⟩ (.int .u64 (c 10))).setCell ⟨N, 11, none⟩ (.int .u64 (c 11))).setCell ⟨N, 12, none⟩ (.int .i64 (c 12))).setCell ⟨N, 13, none⟩ (.int .i64 (c 13))).setCell ⟨N, 14, none⟩ (.int .i64 (c 14))).setCell ⟨N + 1, 0, none⟩ (.bool b)
set_option maxHeartbeats 1000000 in
theorem fill_rb {W : World} {N : Nat} {d : Ev} {y : Bool} (h : RB N W d y) (c : Ev) (b : Bool) : RB N (fillEv W N c b) c b := by
  refine ⟨?_, ?_⟩
  · unfold fillEv
    rw [Below.heap_setCell _ _ _ _ (by show N ≠ N + 1; omega)]
    have s0 := Go.heap_setCell_same _ _ 0 _ _ (.int .i64 (c 0)) h.ev
    have s1 := Go.heap_setCell_same _ _ 1 _ _ (.int .i64 (c 1)) s0
    have s2 := Go.heap_setCell_same _ _ 2 _ _ (.int .i64 (c 2)) s1
    have s3 := Go.heap_setCell_same _ _ 3 _ _ (.int .u64 (c 3)) s2
    have s4 := Go.heap_setCell_same _ _ 4 _ _ (.int .u64 (c 4)) s3
    have s5 := Go.heap_setCell_same _ _ 5 _ _ (.int .u64 (c 5)) s4
    have s6 := Go.heap_setCell_same _ _ 6 _ _ (.int .u64 (c 6)) s5
    have s7 := Go.heap_setCell_same _ _ 7 _ _ (.int .u64 (c 7)) s6
    have s8 := Go.heap_setCell_same _ _ 8 _ _ (.int .u64 (c 8)) s7
    have s9 := Go.heap_setCell_same _ _ 9 _ _ (.int .u64 (c 9)) s8
    have s10 := Go.heap_setCell_same _ _ 10 _ _ (.int .u64 (c 10)) s9
    have s11 := Go.heap_setCell_same _ _ 11 _ _ (.int .u64 (c 11)) s10
    have s12 := Go.heap_setCell_same _ _ 12 _ _ (.int .i64 (c 12)) s11
    have s13 := Go.heap_setCell_same _ _ 13 _ _ (.int .i64 (c 13)) s12
    have s14 := Go.heap_setCell_same _ _ 14 _ _ (.int .i64 (c 14)) s13
    simp only [evA, List.setIfInBounds_toArray, List.set_cons_zero, List.set_cons_succ] at s14
    unfold evA
    exact s14
  · unfold fillEv
    exact Go.heap_setCell_same _ _ _ _ _ _ ((Go.heap_setCell_other _ _ _ _ (show N + 1 ≠ N by omega)).trans ((Go.heap_setCell_other _ _ _ _ (show N + 1 ≠ N by omega)).trans ((Go.heap_setCell_other _ _ _ _ (show N + 1 ≠ N by omega)).trans ((Go.heap_setCell_other _ _ _ _ (show N + 1 ≠ N by omega)).trans ((Go.heap_setCell_other _ _ _ _ (show N + 1 ≠ N by omega)).trans ((Go.heap_setCell_other _ _ _ _ (show N + 1 ≠ N by omega)).trans ((Go.heap_setCell_other _ _ _ _ (show N + 1 ≠ N by omega)).trans ((Go.heap_setCell_other _ _ _ _ (show N + 1 ≠ N by omega)).trans ((Go.heap_setCell_other _ _ _ _ (show N + 1 ≠ N by omega)).trans ((Go.heap_setCell_other _ _ _ _ (show N + 1 ≠ N by omega)).trans ((Go.heap_setCell_other _ _ _ _ (show N + 1 ≠ N by omega)).trans ((Go.heap_setCell_other _ _ _ _ (show N + 1 ≠ N by omega)).trans ((Go.heap_setCell_other _ _ _ _ (show N + 1 ≠ N by omega)).trans ((Go.heap_setCell_other _ _ _ _ (show N + 1 ≠ N by omega)).trans ((Go.heap_setCell_other _ _ _ _ (show N + 1 ≠ N by omega)).trans h.ok)))))))))))))))
theorem fill_other {W : World} {N k : Nat} (c : Ev) (b : Bool) (h1 : k ≠ N) (h2 : k ≠ N + 1) : (fillEv W N c b).heap[k]? = W.heap[k]? := by
  unfold fillEv
  exact (Go.heap_setCell_other _ _ _ _ h2).trans ((Go.heap_setCell_other _ _ _ _ h1).trans ((Go.heap_setCell_other _ _ _ _ h1).trans ((Go.heap_setCell_other _ _ _ _ h1).trans ((Go.heap_setCell_other _ _ _ _ h1).trans ((Go.heap_setCell_other _ _ _ _ h1).trans ((Go.heap_setCell_other _ _ _ _ h1).trans ((Go.heap_setCell_other _ _ _ _ h1).trans ((Go.heap_setCell_other _ _ _ _ h1).trans ((Go.heap_setCell_other _ _ _ _ h1).trans ((Go.heap_setCell_other _ _ _ _ h1).trans ((Go.heap_setCell_other _ _ _ _ h1).trans ((Go.heap_setCell_other _ _ _ _ h1).trans ((Go.heap_setCell_other _ _ _ _ h1).trans ((Go.heap_setCell_other _ _ _ _ h1).trans ((Go.heap_setCell_other _ _ _ _ h1).trans rfl)))))))))))))))
theorem fill_below {W w : World} {M N : Nat} (h : Below M w W) (hM : M ≤ N) (c : Ev) (b : Bool) : Below M w (fillEv W N c b) := by
  unfold fillEv
  exact (((((((((((((((h.setCell (p := ⟨N, 0, none⟩) hM _).setCell (p := ⟨N, 1, none⟩) hM _).setCell (p := ⟨N, 2, none⟩) hM _).setCell (p := ⟨N, 3, none⟩) hM _).setCell (p := ⟨N, 4, none⟩) hM _).setCell (p := ⟨N, 5, none⟩) hM _).setCell (p := ⟨N, 6, none⟩) hM _).setCell (p := ⟨N, 7, none⟩) hM _).setCell (p := ⟨N, 8, none⟩) hM _).setCell (p := ⟨N, 9, none⟩) hM _).setCell (p := ⟨N, 10, none⟩) hM _).setCell (p := ⟨N, 11, none⟩) hM _).setCell (p := ⟨N, 12, none⟩) hM _).setCell (p := ⟨N, 13, none⟩) hM _).setCell (p := ⟨N, 14, none⟩) hM _).setCell (p := ⟨N + 1, 0, none⟩) (by show M ≤ N + 1; omega) _
theorem RB.drew {N : Nat} {W : World} {c : Ev} {b : Bool} (h : RB N W c b) : RB N W.drew c b := ⟨h.ev, h.ok⟩
theorem at_drew {W : World} {k : Nat} {o : Obj} (h : W.heap[k]? = some o) : W.drew.heap[k]? = some o := h
/-- The rest of the words: in its box. -/
structure RestAt (W : World) (B g m k o : Nat) : Prop where
  box : W.heap[B + 1]? = some (.cells #[.slice (some ⟨g, o, none⟩) (m - k) (m - k)] 79 (0, 0))
  at_ : k < m → o = k + 1
end Sc
end Go.Proofs.YthgmanncmekeeaaDoor
