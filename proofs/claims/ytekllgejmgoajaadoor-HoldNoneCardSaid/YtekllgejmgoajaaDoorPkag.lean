import Derived.RangeFuncNested
import Derived.RangeFuncBound
import Derived.RangeFuncCalls
import Derived.RangeFuncLeaves
import Derived.RangeFuncFrom
import Derived.Shelf.Abstract
import Derived.Shelf.RegionOpen
import Derived.WalkKit
import Derived.OwnWalkIn
import Derived.TacticsInMore
import Derived.LoopNIn
import Derived.Test.YtekllgejmgoajaaDoorPkaa
import Derived.Test.YtekllgejmgoajaaDoorRows
import Derived.ProofKit
import Derived.Lib.Hide
import Derived.LoopN
import Derived.Laws.Rows
import Derived.Laws.AppendOwn
import Derived.OwnWalk
import Derived.Deep.RegionWith
import Derived.Maps.AppendAt
import Derived.Outline
import Derived.BigQuiet
namespace Go.Proofs.YtekllgejmgoajaaDoor
set_option linter.unusedVariables false
set_option linter.unusedSimpArgs false
set_option maxRecDepth 100000
set_option maxHeartbeats 8000000
section
open Go.RowKit Go.Shelf
variable {P : Program} {F : Fence} {n : Nat}
theorem wpIn_range_none {g : Operand} {ps : Array Tmp} {assign body : Code} {Q : Exit → Act → World → Prop} {a : Act} {w : World}
  (hro : F.round = none) (h1 : 1 ≤ n) {gf : Nat} {lb : Array Value} (hg : a.eval g = .func (.func gf) #[] lb) (hFg : F.fn gf) (eg : ∀ args w, (callFunc gf args).run P w = .ok (.enter gf args) w)
  (hcall : ∀ (l : Nat) (W : World), Below w.heap.size w W → CallsIn F (n - 1) P gf (#[.func (.yield l) #[] #[]] ++ lb) W fun e W' => (∃ v, e = .returned v) ∧ W' = W)
  (hdone : ∀ (D : Nat) (W : World), w.heap.size ≤ D → Below w.heap.size w W → W.heap[D]? = some (.deferred (some [])) → Q .normal { a with defers := { target := .collected D, args := #[] } :: a.defers } W) :
  (Code.rangeFunc g ps assign body).wpIn F n P Q a w :=
 wpIn_rangeFunc_ownF (α := Empty) hro h1 hg hFg eg (encs := fun x => x.elim) (Kp := fun _ _ => True) (S := fun _ => True) (Sp := fun _ => False) (N := 0) (w0 := w)
  (fun l J Jx W hW hJ hJx hY h0 => (hcall l W hW).mono fun e W' ⟨hv, hw⟩ => ⟨hv, .inl ⟨[], trivial, hw ▸ h0⟩⟩)
  (fun _ _ => trivial) (fun _ _ _ _ _ _ _ _ => trivial) (Below.refl _ _) (fun x => x.elim)
  (fun _ W => Below w.heap.size w W) (fun _ _ _ => False) (ownFrom_below (Nat.le_refl _) (Nat.le_refl _)) (fun _ => fun _ _ _ _ h _ _ => h) (Below.refl _ _) (fun x => x.elim)
  (fun l x => x.elim) (fun l pre x => x.elim)
  (fun D xs W hD _ hB hK => hdone D W hD hB hK) (fun D c pre W _ h => h.elim)
theorem cell_fresh (W : World) (v : Value) (t : TypeId) : (W.alloc (.cells #[v] t)).cell? ⟨W.heap.size, 0, none⟩ = some v ∧ (W.alloc (.cells #[v] t)).frozen? ⟨W.heap.size, 0, none⟩ = false :=
 cell_box (World.alloc_heap_new W _)
theorem cell_more {W : World} {a : Addr} {v : Value} (o : Obj) (h : W.cell? a = some v) : (W.alloc o).cell? a = some v := cell_kept h (World.grownBy_alloc W o none) (fun r e => by cases e)
theorem frozen_more {W : World} {a : Addr} {v : Value} (o : Obj) (h : W.cell? a = some v) (hf : W.frozen? a = false) : (W.alloc o).frozen? a = false := (frozen_kept h (World.grownBy_alloc W o none) (fun r e => by cases e)).trans hf
end
section
open Go.ChangeShapes Go.WideShapes Go.ChangeAt Go.RowKit
theorem cell_int {P : Program} {w : World} {r : Reach} {b : Nat} {u : TypeId} {k : IntKind} {v : Value} (hu : P.underlying u = some (.int k)) (h : Cell.okWide P w r b u v) : ∃ n, v = .int k n ∧ k.min ≤ n ∧ n ≤ k.max := by
 unfold Cell.okWide at h
 rw [hu] at h
 cases v <;> simp [Cell.ok, hu] at h
 obtain ⟨rfl, hn⟩ := h
 exact ⟨_, rfl, hn⟩
theorem cell_i64 {P : Program} {w : World} {r : Reach} {b : Nat} {u : TypeId} {v : Value} (hu : P.underlying u = some (.int .i64)) (h : Cell.okWide P w r b u v) : ∃ n, v = .int .i64 n ∧ -9223372036854775808 ≤ n ∧ n ≤ 9223372036854775807 := by
 obtain ⟨n, rfl, h1, h2⟩ := cell_int hu h
 simp [IntKind.min, IntKind.max, IntKind.signed, IntKind.bits] at h1 h2
 exact ⟨n, rfl, by omega, by omega⟩
theorem cell_u64 {P : Program} {w : World} {r : Reach} {b : Nat} {u : TypeId} {v : Value} (hu : P.underlying u = some (.int .u64)) (h : Cell.okWide P w r b u v) : ∃ n, v = .int .u64 n ∧ 0 ≤ n ∧ n ≤ 18446744073709551615 := by
 obtain ⟨n, rfl, h1, h2⟩ := cell_int hu h
 simp [IntKind.min, IntKind.max, IntKind.signed, IntKind.bits] at h1 h2
 exact ⟨n, rfl, by omega, by omega⟩
theorem agg_cells {P : Program} {w : World} {r : Reach} {b : Nat} {t : TypeId} {fs : Array Field} {v : Value} {ts : List TypeId} (hs : P.underlying t = some (.struct fs)) (hts : P.cellTypes P.depth t = some ts) (hn : P.cellsOf t = ts.length) (hv : Value.okWide P w r b t v) :
  ∃ cs : List Value, v = .agg cs.toArray ∧ cs.length = ts.length ∧ ∀ (i : Nat) (u : TypeId), ts[i]? = some u → ∃ x, cs[i]? = some x ∧ Cell.okWide P w r b u x := by
 unfold Value.okWide at hv
 rw [hs] at hv
 obtain ⟨cs, rfl, hsz, ts', hts', _, hall⟩ := hv
 obtain rfl : ts = ts' := Option.some.inj (hts.symm.trans hts')
 refine ⟨cs.toList, by simp, by simp; omega, fun i u hi => ?_⟩
 have hl : i < ts.length := (lgs hi).1
 have hc : cs[i]? = some (cs[i]'(by omega)) := Array.getElem?_eq_getElem (by omega)
 obtain ⟨u', hu', hok⟩ := hall i _ hc
 rw [Nat.mod_eq_of_lt hl, hi] at hu'
 cases hu'
 exact ⟨_, by rw [Array.getElem?_toList]; exact hc, hok⟩
end
section
open Go.ChangeShapes Go.WideShapes Go.ChangeAt Go.RowKit Go.Shelf
abbrev sl2 (m : Nat) : Value := .slice (some ⟨m, 0, none⟩) 2 2
def RowC (w : World) (g m : Nat) : Prop := w.cell? ⟨g, 0, none⟩ = some (.int .i64 7) ∧ w.cell? ⟨g, 1, none⟩ = some (sl2 m) ∧ g < w.heap.size
theorem bsf_none (w : World) (k : Int) (f : Value) : Calls Tryd.prog 77 #[.slice none 0 0, .int .i64 k, f] w fun e w' => e = .returned (.tuple #[.int .i64 0, .bool false]) ∧ w = w' := by
 go_enter Tryd.func77, Tryd.ntmps77
 go_wp2
 refine wp_loop_rounds 1 ?_
 rw [rounds_succ]
 go_wp2
 go_ret2
 exact ⟨by simp, rfl⟩
def OneAt (w : World) (b m : Nat) : Prop := ∃ g c : Nat, w.cell? ⟨b, 0, none⟩ = some (.slice (some ⟨g, 0, none⟩) 1 c) ∧ RowC w g m
abbrev zrow : Value := .agg #[.int .i64 0, .slice none 0 0]
theorem infoR : (Tryd.prog.info? 115).map (fun i => (i.zero, i.size, i.bytes)) = some (some zrow, 2, 32) := by kernel_rfl
end
section
open Go.ChangeShapes Go.WideShapes Go.ChangeAt Go.RowKit
def KeptQ (n : Nat) (a b : World) : Prop := Below n a b ∧ n ≤ b.heap.size
theorem KeptQ.refl {n : Nat} {a : World} (h : n ≤ a.heap.size) : KeptQ n a a := ⟨Below.refl _ _, h⟩
theorem KeptQ.drew {n : Nat} {a b : World} (h : KeptQ n a b) : KeptQ n a b.drew := ⟨h.1.drew, h.2⟩
theorem KeptQ.call {n : Nat} {a b c : World} (h : KeptQ n a b) (k : Below b.heap.size b c) : KeptQ n a c := ⟨h.1.trans (k.mono h.2), Nat.le_trans h.2 k.size⟩
theorem KeptQ.below {n m : Nat} {W a b : World} (h : KeptQ n a b) (hm : m ≤ n) (B : Below m W a) : Below m W b := B.trans (h.1.mono hm)
section
variable {P : Program} {ops : Array Oper} {rest : List Oper} {o : Oper} {a : Act} {W : World} {m : Nat} {C : World → Prop}
theorem wp_region_keptQ {id : Nat} {Q : Exit → Act → World → Prop} {w : World} {l : List Oper} (m : Nat) (W : World) (hm : P.follows .mixedOrders = true) (hB : Region.lexB .any l.toArray = true) (hK : KeptQ m W w)
  (h : wpQuiet P l.toArray (KeptQ m W) (fun a' => ∀ w', KeptQ m W w' → Q .normal a' w') l a) : (Code.region id l.toArray true).wp P Q a w :=
 wp_region_quiet (C := KeptQ m W) hm hB hK.drew (by simpa using h)
theorem quietQ_load_cell {K : Act → Prop} (ty : TypeId) (x : Operand) (ho : o.op = .load ty x) (p : Addr) (hx : a.eval x = .pointer (some p)) (v : Value) (hc : ∀ w, C w → w.cell? p = some v)
  (d : TypeDesc) (hu : P.underlying ty = some d) (hd : (match d with | .struct _ | .array _ _ => true | _ => false) = false)
  (hk : K (a.put o.dst v)) : o.quiet P a C K := by
 refine ⟨_, fun w hw => ?_, hk⟩
 have hcw := hc w hw
 have hrun : (loadVar ty p).run P w = .ok v w := by
  have hagg : (isAgg ty).run P w = .ok false w := by
   unfold isAgg
   rw [Sem.run_bind, run_underlying hu w]
   cases d <;> simp_all
  simp [loadVar, Sem.run_bind, hagg, hcw]
 unfold Oper.quietAt execOp
 simp only [ho, hx, Instr.loadAt, Instr.sureAddr, Sem.run_bind, Sem.run_pure, Result.andThen_ok, hrun]
 exact ⟨rfl, rfl⟩
end
end
section
open Go.ChangeShapes Go.WideShapes Go.ChangeAt Go.RowKit Go.Shelf
abbrev capE (a o r : Int) : Value := .agg #[.int .i64 a, .int .i64 o, .int .i64 r, .int .u64 0, .int .i64 0, .int .i64 0, .int .i64 0, .int .i64 0]
def caps2 (a o r : Int) : Array Value := #[.int .i64 0, .int .i64 0, .int .i64 0, .int .u64 0, .int .i64 0, .int .i64 0, .int .i64 0, .int .i64 0, .int .i64 a, .int .i64 o, .int .i64 r, .int .u64 0, .int .i64 0, .int .i64 0, .int .i64 0, .int .i64 0]
def SlAt (w : World) (b m : Nat) (a o r : Int) : Prop := ∃ g c : Nat, w.cell? ⟨b, 0, none⟩ = some (.slice (some ⟨g, 0, none⟩) 1 c) ∧ RowC w g m ∧ g ≠ m ∧ b ≠ m ∧ b < w.heap.size ∧ w.heap[m]? = some (.cells (caps2 a o r) 26 (0, 0))
def setL (w : World) (m : Nat) : Nat → List Value → World
 | _, [] => w
 | k, v :: t => setL (w.setCell ⟨m, k, none⟩ v) m (k + 1) t
def putL (cs : Array Value) : Nat → List Value → Array Value
 | _, [] => cs
 | k, v :: t => putL (cs.setIfInBounds k v) (k + 1) t
theorem setL_other {m j : Nat} (hj : j ≠ m) : ∀ (L : List Value) (w : World) (k : Nat), (setL w m k L).heap[j]? = w.heap[j]?
 | [], _, _ => rfl
 | v :: t, w, k => (setL_other hj t _ (k + 1)).trans (Go.heap_setCell_other _ _ _ _ hj)
theorem setL_same {m : Nat} {T : TypeId} : ∀ (L : List Value) (w : World) (k : Nat) (cs : Array Value), w.heap[m]? = some (.cells cs T (0, 0)) → (setL w m k L).heap[m]? = some (.cells (putL cs k L) T (0, 0))
 | [], _, _, _, h => h
 | v :: t, w, k, cs, h => setL_same t _ (k + 1) _ (Go.heap_setCell_same _ _ _ _ _ _ h)
theorem setL_rest {m : Nat} : ∀ (L : List Value) (w : World) (k : Nat), (setL w m k L).os = w.os ∧ (setL w m k L).tape = w.tape ∧ (setL w m k L).output = w.output ∧ (setL w m k L).heap.size = w.heap.size
 | [], _, _ => ⟨rfl, rfl, rfl, rfl⟩
 | v :: t, w, k => by
  obtain ⟨h1, h2, h3, h4⟩ := setL_rest (m := m) t (w.setCell ⟨m, k, none⟩ v) (k + 1)
  exact ⟨h1, h2, h3, h4.trans (by simp)⟩
def capL8 : List Value := [.int .i64 8, .int .i64 3, .int .i64 7, .int .u64 0, .int .i64 0, .int .i64 0, .int .i64 0, .int .i64 0]
def setE (w : World) (m : Nat) : World := setL w m 8 capL8
end
end Go.Proofs.YtekllgejmgoajaaDoor
