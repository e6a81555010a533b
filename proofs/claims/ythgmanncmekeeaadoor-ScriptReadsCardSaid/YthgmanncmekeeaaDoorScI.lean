/- chapter 35: the line while it grows. -/
import Derived.Test.YthgmanncmekeeaaDoorScH
import Derived.Laws.IdiomStrings
import Derived.RangeFuncNested
namespace Go.Proofs.YthgmanncmekeeaaDoor
set_option linter.unusedVariables false
set_option linter.unusedSimpArgs false
open Go.ChangeShapes Go.WideShapes Go.ChangeAt Go.RowKit
namespace Sc
theorem RowM.form {w : World} {B n : Nat} {v : Value} {xs : List Value} (h : RowM w B v n xs) : ∃ g k, v = .slice (some ⟨g, 0, none⟩) n k := by
  obtain ⟨_, g, cap, cur, fz, rfl, _⟩ := h
  exact ⟨g, cap, rfl⟩
theorem NumAt.form {w : World} {B q n : Nat} {v : Value} {xs : List Value} (h : NumAt w B q v n xs) (h0 : 0 < n) : ∃ g k, v = .slice (some ⟨g, 0, none⟩) n k ∧ B ≤ g ∧ g < w.heap.size ∧ (∃ cs, w.heap[g]? = some (.cells cs 66 (0, 0))) ∧ ∀ j u, xs[j]? = some u → w.cell? ⟨g, j, none⟩ = some u := by
  have hlt := h.own.lt
  have hcs := fun g hg => h.own.cells (g := g) hg
  obtain ⟨hl, e | ⟨g, cap, cur, rfl, hg, hblk, h1, h2, h3, h4⟩⟩ := h.own
  · omega
  · refine ⟨g, cap, rfl, hg, (hlt g rfl).2, ⟨_, hblk⟩, fun j u hj => ?_⟩
    have := hcs g rfl j u hj
    rwa [addr_add] at this
/-- The line's own block and its row may turn; all else stands. -/
structure Tn (b : Nat) (w w' : World) : Prop where
  kept : Lib.OthersKept 5 (some (b + 4)) w w'
  bel : Below (b + 3) w w'
theorem Tn.refl (b : Nat) (w : World) : Tn b w w := ⟨Lib.OthersKept.refl _ _ _, Below.refl _ _⟩
theorem Tn.trans {b : Nat} {u v x : World} (h : Tn b u v) (k : Tn b v x) : Tn b u x := ⟨h.kept.trans k.kept, h.bel.trans k.bel⟩
theorem Tn.of_below {b : Nat} {u v : World} (h : Below u.heap.size u v) (hb : b + 3 ≤ u.heap.size) : Tn b u v := ⟨(Lib.OthersKept.refl _ _ _).below h, h.mono hb⟩
theorem kept_none {e : TypeId} {b : Option Nat} {u v : World} (h : Lib.OthersKept e none u v) : Lib.OthersKept e b u v := fun k o h1 _ h3 => h k o h1 (by simp) h3
theorem Tn.app {b n : Nat} {u v : World} {x : Value} {xs : List Value} (h : AppTo u v (b + 3) n xs x) : Tn b u v := ⟨kept_none h.kept, h.below⟩
theorem Tn.set {b : Nat} {u v : World} (h : Tn b u v) (x : Value) : Tn b u (v.setCell ⟨b + 4, 0, none⟩ x) := ⟨h.kept.setCell _ rfl x, h.bel.setCell (p := ⟨b + 4, 0, none⟩) (by show b + 3 ≤ b + 4; omega) x⟩
theorem Tn.block {b : Nat} {u v : World} (h : Tn b u v) {k : Nat} {cs : Array Value} {t : TypeId} {fz : Nat × Nat} (hk : u.heap[k]? = some (.cells cs t fz)) (h1 : k ≠ b + 4) (h2 : t ≠ 5) : v.heap[k]? = some (.cells cs t fz) :=
  h.kept k _ hk (fun e => h1 (Option.some.inj e)) (fun c z e => by injection e with _ e _; exact h2 e)
theorem Tn.keeps {b B : Nat} {u v : World} (h : Tn b u v) (hB : b + 4 < B) : KeepsFrom B u v :=
  ⟨h.bel.size, fun k o hk ho hc => h.kept k o ho (fun e => by injection e with e; omega) (fun c z e => by rw [e] at hc; cases hc)⟩
/-- The line so far: its header in a box, its bytes in a row. -/
structure LB (w : World) (b : Nat) (v : Value) (T : Bs) : Prop where
  box : w.heap[b + 4]? = some (.cells #[v] 48 (0, 0))
  row : RowM w (b + 3) v T.length (Lib.byteCells T)
theorem LB.cell {w : World} {b : Nat} {v : Value} {T : Bs} (h : LB w b v T) : w.cell? ⟨b + 4, 0, none⟩ = some v := by rw [row_cell h.box]; rfl
theorem LB.lt {w : World} {b : Nat} {v : Value} {T : Bs} (h : LB w b v T) : b + 4 < w.heap.size := (Array.getElem?_eq_some_iff.1 h.box).1
theorem LB.call {w w' : World} {b : Nat} {v : Value} {T : Bs} (h : LB w b v T) (hb : Below w.heap.size w w') : LB w' b v T :=
  ⟨(hb.block _ h.lt).trans h.box, h.row.kept fun g hg => hb.block g (h.row.lt hg).2⟩
theorem byteCells_app (a c : Bs) : Lib.byteCells (a ++ c) = Lib.byteCells a ++ Lib.byteCells c := by unfold Lib.byteCells; rw [List.map_append]
theorem RowM.ne {w : World} {B n : Nat} {v : Value} {xs : List Value} (h : RowM w B v n xs) {k : Nat} {cs : Array Value} {t : TypeId} {fz : Nat × Nat} (hk : w.heap[k]? = some (.cells cs t fz)) (ht : t ≠ 5) : v.ownBlock ≠ some k := by
  intro e
  obtain ⟨c, z, q⟩ := h.ty e
  rw [hk] at q
  injection q with q
  injection q with _ q _
  exact ht q
/-- What an append to the line, stored in its box, makes. -/
theorem lb_step {w w2 : World} {b : Nat} {v v2 : Value} {T U : Bs} (h : LB w b v T) (ha : AppTo w w2 (b + 3) (T.length + U.length) (Lib.byteCells T ++ Lib.byteCells U) v2) :
    w2.cell? ⟨b + 4, 0, none⟩ = some v ∧ w2.frozen? ⟨b + 4, 0, none⟩ = false ∧ LB (w2.setCell ⟨b + 4, 0, none⟩ v2) b v2 (T ++ U) ∧ Tn b w (w2.setCell ⟨b + 4, 0, none⟩ v2) := by
  have hbox : w2.heap[b + 4]? = some (.cells #[v] 48 (0, 0)) := ha.kept _ _ h.box (by simp) (fun c z e => by injection e with _ e _; exact absurd e (by decide))
  have hne := ha.row.ne hbox (by decide)
  refine ⟨by rw [row_cell hbox]; rfl, by simp [World.frozen?, hbox], ⟨?_, ?_⟩, (Tn.app ha).set v2⟩
  · rw [Go.heap_setCell_same _ _ _ _ _ _ hbox]; rfl
  · rw [List.length_append, byteCells_app]
    exact ha.row.kept fun g hg => Go.heap_setCell_other _ _ _ _ (fun e => hne (by rw [hg]; exact congrArg some e))
theorem app_space {w : World} {b : Nat} {v : Value} {T : Bs} (h : LB w b v T) (hT : T.length ≤ 100000) :
    ∃ v2 w2, (∃ g k, v2 = .slice (some ⟨g, 0, none⟩) (T.length + 1) k) ∧ (Builtin.append_ #[48, 48] 48 #[v, .slice (some ⟨w.heap.size, 0, none⟩) 1 1]).run Tryd.prog (w.alloc (.cells #[.int .u8 32] 5)) = .ok v2 w2 ∧
      w2.cell? ⟨b + 4, 0, none⟩ = some v ∧ w2.frozen? ⟨b + 4, 0, none⟩ = false ∧ LB (w2.setCell ⟨b + 4, 0, none⟩ v2) b v2 (T ++ [32]) ∧ Tn b w (w2.setCell ⟨b + 4, 0, none⟩ v2) := by
  have hbW : Below w.heap.size w (w.alloc (.cells #[.int .u8 32] 5)) := bal (Below.refl _ _) _
  have hnew := World.alloc_heap_new w (.cells #[.int .u8 32] 5)
  have h1 := h.call hbW
  have hlt := h.lt
  obtain ⟨v2, w2, hrun, q1, q2⟩ := appM h1.row ⟨w.heap.size, 0, none⟩ 1 1 [.int .u8 32] rfl (fun j u hj => by rw [addr_add, row_cell hnew]; simpa using hj) (by intro u hu; rw [List.mem_singleton] at hu; subst hu; rfl) (by omega) (Nat.le_trans (by omega) hbW.size)
  have ha : AppTo (w.alloc (.cells #[.int .u8 32] 5)) w2 (b + 3) (T.length + [(32 : UInt8)].length) (Lib.byteCells T ++ Lib.byteCells [32]) v2 := appTo_of h1.row (Below.refl _ _) (Lib.OthersKept.refl _ _ _) (Nat.le_trans (by omega) hbW.size) q1 q2
  obtain ⟨a1, a2, a3, a4⟩ := lb_step h1 ha
  exact ⟨v2, w2, q1.form, hrun, a1, a2, a3, (Tn.of_below hbW (by omega)).trans a4⟩
theorem evAt_i64 {w : World} {b : Nat} {c : Ev} (h : EvAt w b c) (i : Nat) (hi : i < 3 ∨ 11 < i ∧ i < 15) : w.cell? ⟨b, i, none⟩ = some (.int .i64 (c i)) := by
  rw [row_cell h]
  obtain rfl | rfl | rfl | rfl | rfl | rfl : i = 0 ∨ i = 1 ∨ i = 2 ∨ i = 12 ∨ i = 13 ∨ i = 14 := by omega
  all_goals rfl
theorem evAt_u64 {w : World} {b : Nat} {c : Ev} (h : EvAt w b c) (i : Nat) (hi : 3 ≤ i ∧ i ≤ 11) : w.cell? ⟨b, i, none⟩ = some (.int .u64 (c i)) := by
  rw [row_cell h]
  obtain rfl | rfl | rfl | rfl | rfl | rfl | rfl | rfl | rfl : i = 3 ∨ i = 4 ∨ i = 5 ∨ i = 6 ∨ i = 7 ∨ i = 8 ∨ i = 9 ∨ i = 10 ∨ i = 11 := by omega
  all_goals rfl
theorem AppTo.undrew {w w' : World} {B n : Nat} {xs : List Value} {v : Value} (h : AppTo w.drew w' B n xs v) : AppTo w w' B n xs v := ⟨h.row, (Below.refl B w).drew.trans h.below, h.kept⟩
theorem keeps_set {B : Nat} {u v : World} (h : KeepsFrom B u v) (p : Addr) (hp : p.block < B) (x : Value) : KeepsFrom B u (v.setCell p x) :=
  ⟨by simpa using h.1, fun k o hk ho hc => (Below.heap_setCell _ _ _ _ (by omega)).trans (h.2 k o hk ho hc)⟩
theorem RowM.drew {w : World} {B n : Nat} {v : Value} {xs : List Value} (h : RowM w B v n xs) : RowM w.drew B v n xs := h.kept (fun g _ => rfl)
end Sc
end Go.Proofs.YthgmanncmekeeaaDoor
