import Derived.Test.YtnjdljjmengjbaaDoorFrame
import Derived.Lib.Hide
import Derived.Deep.QuietTactic
import Derived.BigQuiet
import Derived.IntWalk
import Derived.Laws.AppendOwn
import Derived.Laws.CopyOwn
import Derived.Deep.RegionLaw
import Derived.Lib.AppendZerosOnto
import Derived.Lib.SliceRun
import Derived.Lib.Overlaps
import Derived.Deep.AppendLies
import Derived.LoopN
import Derived.Laws.Rows
import Derived.OwnWalk
import Derived.StillTailTactics
import Derived.Deep.RegionWith
import Derived.Outline
import Derived.Laws.Externs
import Derived.Deep.Cut
import Derived.BigRegion
import Derived.Deep.MidRow
import Derived.RangeFuncNested
import Derived.RangeFuncBound
import Derived.RangeFuncCalls
import Derived.RangeFuncLeaves
import Derived.RangeFuncFrom
import Derived.Shelf.Abstract
import Derived.Shelf.RegionOpen
import Derived.WalkKit
import Derived.OwnWalkIn
import Derived.TacticsInMore
import Derived.LoopNIn
import Derived.Test.YtnjdljjmengjbaaDoorRows
import Derived.ProofKit
import Derived.Maps.AppendAt
namespace Go.Proofs.YtnjdljjmengjbaaDoor
/- Small lemmas that the walks of every seat use. -/
section
set_option linter.unusedVariables false
open Go.ChangeShapes Go.WideShapes Go.ChangeAt Go.RowKit

theorem ret_bool {a b : Bool} (h : a = b) : Ending.returned (.bool a) = .returned (.bool b) := by rw [h]
theorem ret_int {k : IntKind} {a b : Int} (h : a = b) : Ending.returned (.int k a) = .returned (.int k b) := by rw [h]
theorem same_q {P : Program} {f : FuncId} {args : Array Value} {w : World} {v : Value} (h : Calls P f args w fun e w' => e = .returned v ∧ w = w') : Calls P f args w fun e w' => e = .returned v ∧ w' = w := h.mono fun _ _ ⟨a, b⟩ => ⟨a, b.symm⟩
theorem bcell {W w1 : World} (hb : Below W.heap.size W w1) : (∀ b o, b < W.heap.size → w1.cell? ⟨b, o, none⟩ = W.cell? ⟨b, o, none⟩) ∧ (∀ b o, b < W.heap.size → w1.frozen? ⟨b, o, none⟩ = W.frozen? ⟨b, o, none⟩) :=
  ⟨fun b o h => hb.cell (p := ⟨b, o, none⟩) h, fun b o h => hb.frozen (p := ⟨b, o, none⟩) h⟩
theorem below_drewN {B : Nat} {a b : World} (h : Below B a b) (k : Nat) : Below B a (b.drewN k) := by
  induction k with
  | zero => exact h
  | succ k ih => exact ih.drew
/-- What a call keeps: blocks below n are as they were, and are there. -/
def Kept (n : Nat) (a b : World) : Prop := Below n a b ∧ n ≤ b.heap.size
theorem Kept.refl {n : Nat} {a : World} (h : n ≤ a.heap.size) : Kept n a a := ⟨Below.refl _ _, h⟩
theorem Kept.drew {n : Nat} {a b : World} (h : Kept n a b) : Kept n a b.drew := ⟨h.1.drew, h.2⟩
theorem Kept.drewN {n : Nat} {a b : World} (h : Kept n a b) (k : Nat) : Kept n a (b.drewN k) := ⟨below_drewN h.1 k, by rw [World.heap_drewN]; exact h.2⟩
theorem Kept.alloc {n : Nat} {a b : World} (h : Kept n a b) (o : Obj) : Kept n a (b.alloc o) := ⟨h.1.alloc h.2 o, by simp; have := h.2; omega⟩
theorem Kept.call {n : Nat} {a b c : World} (h : Kept n a b) (k : Below b.heap.size b c) : Kept n a c := ⟨h.1.trans (k.mono h.2), Nat.le_trans h.2 k.size⟩
theorem Kept.cell {n : Nat} {a b : World} {o k : Nat} {v : Option Value} (h : Kept n a b) (hk : k < n) (q : a.cell? ⟨k, o, none⟩ = v) : b.cell? ⟨k, o, none⟩ = v := (h.1.cell (p := ⟨k, o, none⟩) hk).trans q
theorem Kept.frozen {n : Nat} {a b : World} {o k : Nat} {v : Bool} (h : Kept n a b) (hk : k < n) (q : a.frozen? ⟨k, o, none⟩ = v) : b.frozen? ⟨k, o, none⟩ = v := (h.1.frozen (p := ⟨k, o, none⟩) hk).trans q
theorem Kept.below {n m : Nat} {W a b : World} (h : Kept n a b) (hm : m ≤ n) (B : Below m W a) : Below m W b := B.trans (h.1.mono hm)
theorem Kept.lt {n k : Nat} {a b : World} (h : Kept n a b) (hk : k < n) : k < b.heap.size := Nat.lt_of_lt_of_le hk h.2
theorem cell_box {W : World} {B : Nat} {v : Value} {t : TypeId} (h : W.heap[B]? = some (.cells #[v] t (0, 0))) : W.cell? ⟨B, 0, none⟩ = some v ∧ W.frozen? ⟨B, 0, none⟩ = false := by
  constructor <;> simp [World.cell?, World.frozen?, h]
end
/- Rows of many cells: copy, clear, and how a list of rows lies in memory. Of no program of its own. -/
section
set_option linter.unusedVariables false
set_option linter.unusedSimpArgs false
open Go.ChangeShapes Go.WideShapes Go.ChangeAt Go.RowKit

section
variable {P : Program} {ops : Array Oper} {rest : List Oper} {o : Oper} {a : Act} {w : World} {Q : Exit → Act → World → Prop}
/-- copy, of elements of any number of cells, into a row that is known whole. -/
theorem run_copy_rowN (w : World) (dT sT ty elem : TypeId) (i : TypeInfo) (g off dLen dCap : Nat) (a : Addr) (sLen sCap : Nat) (cur : List Value) (t : TypeId) (cs : List Value)
    (hu : P.underlying dT = some (.slice elem)) (hi : P.info? elem = some i)
    (hg : w.heap[g]? = some (.cells cur.toArray t (0, 0))) (hn : cs.length = Nat.min sLen dLen * i.size)
    (hsrc : ∀ j v, cs[j]? = some v → w.cell? (a.add j) = some v) (hfit : off + cs.length ≤ cur.length) (h1 : ∀ v ∈ cs, v.oneCell' = true) :
    (Builtin.copy_ #[dT, sT] ty #[.slice (some ⟨g, off, none⟩) dLen dCap, .slice (some a) sLen sCap]).run P w =
      .ok (goInt (Nat.min sLen dLen)) (w.setRow g (splice cur off cs).toArray) := by
  have hl := run_loadCells_list (P := P) w a cs hsrc
  have hst := run_storeCells_at P g off t cs 0 cur.toArray w hg (by simpa using hfit) h1
  simp [Builtin.copy_, run_underlying hu, Builtin.lenOf, Builtin.firstCells, sizeOf, typeInfo, hi, ← hn, hl, hst, splice]
theorem op_copy_rowN {K : Act → World → Prop} (d s : Operand) (dT sT : TypeId)
    (ho : o.op = .call { callee := .builtin .copy, args := #[d, s], argTypes := #[dT, sT] }) (elem : TypeId) (i : TypeInfo) (hu : P.underlying dT = some (.slice elem)) (hi : P.info? elem = some i)
    (g off dLen dCap : Nat) (ad : Addr) (sLen sCap : Nat) (hd : a.eval d = .slice (some ⟨g, off, none⟩) dLen dCap) (hs : a.eval s = .slice (some ad) sLen sCap)
    (cur : List Value) (t : TypeId) (hg : w.heap[g]? = some (.cells cur.toArray t (0, 0))) (cs : List Value) (hn : cs.length = Nat.min sLen dLen * i.size)
    (hsrc : ∀ j v, cs[j]? = some v → w.cell? (ad.add j) = some v) (hfit : off + cs.length ≤ cur.length) (h1 : ∀ v ∈ cs, v.oneCell' = true)
    (h : ∀ w', w' = w.setRow g (splice cur off cs).toArray → K (a.put o.dst (goInt (Nat.min sLen dLen))) w') : o.wp P a w K Q := by
  have hrun := run_copy_rowN (P := P) w dT sT o.type elem i g off dLen dCap ad sLen sCap cur t cs hu hi hg hn hsrc hfit h1
  unfold Oper.wp
  simp [execOp, ho, resolve, invoke, builtin, hd, hs, hrun, Result.andThen]
  exact h _ rfl
theorem wpList_copy_rowN (hgd : o.guard = none) (d s : Operand) (dT sT : TypeId)
    (ho : o.op = .call { callee := .builtin .copy, args := #[d, s], argTypes := #[dT, sT] }) (elem : TypeId) (i : TypeInfo) (hu : P.underlying dT = some (.slice elem)) (hi : P.info? elem = some i)
    (g off dLen dCap : Nat) (ad : Addr) (sLen sCap : Nat) (hd : a.eval d = .slice (some ⟨g, off, none⟩) dLen dCap) (hs : a.eval s = .slice (some ad) sLen sCap)
    (cur : List Value) (t : TypeId) (hg : w.heap[g]? = some (.cells cur.toArray t (0, 0))) (cs : List Value) (hn : cs.length = Nat.min sLen dLen * i.size)
    (hsrc : ∀ j v, cs[j]? = some v → w.cell? (ad.add j) = some v) (hfit : off + cs.length ≤ cur.length) (h1 : ∀ v ∈ cs, v.oneCell' = true)
    (h : ∀ w', w' = w.setRow g (splice cur off cs).toArray → wpList P ops Q rest (a.put o.dst (goInt (Nat.min sLen dLen))) w') : wpList P ops Q (o :: rest) a w :=
  wpList_plain hgd fun K hK => op_copy_rowN d s dT sT ho elem i hu hi g off dLen dCap ad sLen sCap hd hs cur t hg cs hn hsrc hfit h1 (fun w' hw => hK _ _ (h w' hw))
theorem step_copy_rowN {K : Act → World → Prop} {E : Prop} (hgd : o.guard = none) (d s : Operand) (dT sT : TypeId)
    (ho : o.op = .call { callee := .builtin .copy, args := #[d, s], argTypes := #[dT, sT] }) (elem : TypeId) (i : TypeInfo) (hu : P.underlying dT = some (.slice elem)) (hi : P.info? elem = some i)
    (g off dLen dCap : Nat) (ad : Addr) (sLen sCap : Nat) (hd : a.eval d = .slice (some ⟨g, off, none⟩) dLen dCap) (hs : a.eval s = .slice (some ad) sLen sCap)
    (cur : List Value) (t : TypeId) (hg : w.heap[g]? = some (.cells cur.toArray t (0, 0))) (cs : List Value) (hn : cs.length = Nat.min sLen dLen * i.size)
    (hsrc : ∀ j v, cs[j]? = some v → w.cell? (ad.add j) = some v) (hfit : off + cs.length ≤ cur.length) (h1 : ∀ v ∈ cs, v.oneCell' = true)
    (h : ∀ w', w' = w.setRow g (splice cur off cs).toArray → K (a.put o.dst (goInt (Nat.min sLen dLen))) w') :
    if Region.wanted o (yielded ops a.tmps) = true then Oper.wp P o a w K Q else E := by
  have hw : Region.wanted o (yielded ops a.tmps) = true := by simp [Region.wanted, hgd]
  rw [if_pos hw]
  exact op_copy_rowN d s dT sT ho elem i hu hi g off dLen dCap ad sLen sCap hd hs cur t hg cs hn hsrc hfit h1 h
/-- clear, of one element of any number of cells, of a row that is known whole. -/
theorem run_clear_rowN (w : World) (t e ty : TypeId) (z : Value) (hu : P.underlying t = some (.slice e)) (hv : ∀ w, (zeroValue e).run P w = .ok z w) (g off n c : Nat) (cur : List Value) (tt : TypeId)
    (hg : w.heap[g]? = some (.cells cur.toArray tt (0, 0))) (hn : n = 1) (hz : 0 < z.cells.size) (hfit : off + z.cells.size ≤ cur.length) (h1 : ∀ v ∈ z.cells.toList, v.oneCell' = true) :
    (Builtin.clear_ #[t] ty #[.slice (some ⟨g, off, none⟩) n c]).run P w = .ok (.tuple #[]) (w.setRow g (splice cur off z.cells.toList).toArray) := by
  subst hn
  have hzc : (Builtin.zeroCells z.cells 1).toList = z.cells.toList := by
    apply List.ext_getElem
    · simp [Builtin.zeroCells]
    · intro j h2 h3
      simp [Builtin.zeroCells] at h2 h3 ⊢
      rw [Nat.mod_eq_of_lt h3]
      simp [h3]
  have hst := run_storeCells_at P g off tt z.cells.toList 0 cur.toArray w hg (by simpa using hfit) h1
  simp [Builtin.clear_, run_underlying hu, hv, hzc, hst, splice]
end

section
variable {P : Program} {ops : Array Oper} {rest : List Oper} {o : Oper} {a : Act} {w : World} {Q : Exit → Act → World → Prop}
theorem wpList_clear_rowN (hgd : o.guard = none) (x : Operand) (t : TypeId) (ho : o.op = .call { callee := .builtin .clear, args := #[x], argTypes := #[t] }) (e : TypeId) (z : Value) (hu : P.underlying t = some (.slice e)) (hv : ∀ w, (zeroValue e).run P w = .ok z w) (g off n c : Nat)
    (hx : a.eval x = .slice (some ⟨g, off, none⟩) n c) (cur : List Value) (tt : TypeId)
    (hg : w.heap[g]? = some (.cells cur.toArray tt (0, 0))) (hn : n = 1) (hz : 0 < z.cells.size) (hfit : off + z.cells.size ≤ cur.length) (h1 : ∀ v ∈ z.cells.toList, v.oneCell' = true)
    (h : ∀ w', w' = w.setRow g (splice cur off z.cells.toList).toArray → wpList P ops Q rest (a.put o.dst (.tuple #[])) w') : wpList P ops Q (o :: rest) a w := by
  refine wpList_plain hgd fun K hK => ?_
  have hrun := run_clear_rowN (P := P) w t e o.type z hu hv g off n c cur tt hg hn hz hfit h1
  unfold Oper.wp
  simp [execOp, ho, resolve, invoke, builtin, hx, hrun, Result.andThen]
  exact hK _ _ (h _ rfl)
theorem step_append_run {K : Act → World → Prop} {E : Prop} (hgd : o.guard = none) (s x : Operand) (t tn : TypeId)
    (ho : o.op = .call { callee := .builtin .append, args := #[s, x], argTypes := #[t, tn] }) (vs vx : Value) (hs : a.eval s = vs) (hx : a.eval x = vx)
    (v' : Value) (w' : World) (hr : (Builtin.append_ #[t, tn] o.type #[vs, vx]).run P w = .ok v' w') (h : K (a.put o.dst v') w') :
    if Region.wanted o (yielded ops a.tmps) = true then Oper.wp P o a w K Q else E := by
  have hw : Region.wanted o (yielded ops a.tmps) = true := by simp [Region.wanted, hgd]
  rw [if_pos hw]
  exact Lib.wp_append_run w s x t tn ho vs vx hs hx v' w' hr h
end
theorem op_append_at {P : Program} {o : Oper} {a : Act} {w : World} {K : Act → World → Prop} {Q : Exit → Act → World → Prop}
    (s x : Operand) (t : TypeId) (hop : o.op = Op.call { callee := Callee.builtin Builtin.append, args := #[s, x], argTypes := #[t, t] })
    (base : Nat) (e : TypeId) (i : TypeInfo) (z : Value) (size bytes : Nat) (h1 : P.underlying t = some (.slice e)) (h2 : P.info? e = some i) (h3 : i.zero = some z) (h4 : i.size = size) (h5 : i.bytes = bytes) (h6 : z.cells.size = size) (h7 : 0 < size)
    (v : Value) (k : Nat) (xs : List Value) (hs : a.eval s = v) (hown : w.ownsRow base e size v k xs) (ad : Addr) (m c : Nat) (news : List Value) (hx : a.eval x = .slice (some ad) m c) (hn : news.length = m * size)
    (hc : ∀ j u, news[j]? = some u → w.cell? (ad.add j) = some u) (h1c : ∀ u ∈ news, u.oneCell' = true) (b1 : k + m ≤ maxLen) (b2 : (k + m) * bytes ≤ 140737488355328) (b3 : base ≤ w.heap.size)
    (hK : ∀ v' w', w'.ownsRow base e size v' (k + m) (xs ++ news) → w.grownBy w' v.ownBlock → (v'.ownBlock = v.ownBlock ∨ v'.ownBlock = some w.heap.size) → K (a.put o.dst v') w') :
    o.wp P a w K Q := by
  obtain ⟨v', w', hrun, r1, r2, r3, r4⟩ := run_append_own_at (P := P) (w := w) base t o.type e i z size bytes h1 h2 h3 h4 h5 h6 h7 v k xs hown ad m c news hn hc h1c b1 b2 b3
  unfold Oper.wp
  simp [execOp, hop, resolve, invoke, builtin, hs, hx, hrun, Result.andThen]
  exact hK v' w' r1 r2 r4
theorem step_append_at {P : Program} {ops : Array Oper} {o : Oper} {a : Act} {w : World} {K : Act → World → Prop} {Q : Exit → Act → World → Prop} {E : Prop}
    (hg : o.guard = none) (s x : Operand) (t : TypeId) (hop : o.op = Op.call { callee := Callee.builtin Builtin.append, args := #[s, x], argTypes := #[t, t] })
    (base : Nat) (e : TypeId) (i : TypeInfo) (z : Value) (size bytes : Nat) (h1 : P.underlying t = some (.slice e)) (h2 : P.info? e = some i) (h3 : i.zero = some z) (h4 : i.size = size) (h5 : i.bytes = bytes) (h6 : z.cells.size = size) (h7 : 0 < size)
    (v : Value) (k : Nat) (xs : List Value) (hs : a.eval s = v) (hown : w.ownsRow base e size v k xs) (ad : Addr) (m c : Nat) (news : List Value) (hx : a.eval x = .slice (some ad) m c) (hn : news.length = m * size)
    (hc : ∀ j u, news[j]? = some u → w.cell? (ad.add j) = some u) (h1c : ∀ u ∈ news, u.oneCell' = true) (b1 : k + m ≤ maxLen) (b2 : (k + m) * bytes ≤ 140737488355328) (b3 : base ≤ w.heap.size)
    (hK : ∀ v' w', w'.ownsRow base e size v' (k + m) (xs ++ news) → w.grownBy w' v.ownBlock → (v'.ownBlock = v.ownBlock ∨ v'.ownBlock = some w.heap.size) → K (a.put o.dst v') w') :
    if Region.wanted o (yielded ops a.tmps) = true then Oper.wp P o a w K Q else E := by
  have hw : Region.wanted o (yielded ops a.tmps) = true := by simp [Region.wanted, hg]
  rw [if_pos hw]
  exact op_append_at s x t hop base e i z size bytes h1 h2 h3 h4 h5 h6 h7 v k xs hs hown ad m c news hx hn hc h1c b1 b2 b3 hK
theorem wpList_append_at {P : Program} {ops : Array Oper} {rest : List Oper} {o : Oper} {a : Act} {w : World} {Q : Exit → Act → World → Prop} (hgd : o.guard = none)
    (s x : Operand) (t : TypeId) (hop : o.op = Op.call { callee := Callee.builtin Builtin.append, args := #[s, x], argTypes := #[t, t] })
    (base : Nat) (e : TypeId) (i : TypeInfo) (z : Value) (size bytes : Nat) (h1 : P.underlying t = some (.slice e)) (h2 : P.info? e = some i) (h3 : i.zero = some z) (h4 : i.size = size) (h5 : i.bytes = bytes) (h6 : z.cells.size = size) (h7 : 0 < size)
    (v : Value) (k : Nat) (xs : List Value) (hs : a.eval s = v) (hown : w.ownsRow base e size v k xs) (ad : Addr) (m c : Nat) (news : List Value) (hx : a.eval x = .slice (some ad) m c) (hn : news.length = m * size)
    (hc : ∀ j u, news[j]? = some u → w.cell? (ad.add j) = some u) (h1c : ∀ u ∈ news, u.oneCell' = true) (b1 : k + m ≤ maxLen) (b2 : (k + m) * bytes ≤ 140737488355328) (b3 : base ≤ w.heap.size)
    (hK : ∀ v' w', w'.ownsRow base e size v' (k + m) (xs ++ news) → w.grownBy w' v.ownBlock → (v'.ownBlock = v.ownBlock ∨ v'.ownBlock = some w.heap.size) → wpList P ops Q rest (a.put o.dst v') w') :
    wpList P ops Q (o :: rest) a w :=
  wpList_plain hgd fun K hK2 => op_append_at s x t hop base e i z size bytes h1 h2 h3 h4 h5 h6 h7 v k xs hs hown ad m c news hx hn hc h1c b1 b2 b3 (fun v' w' r1 r2 r3 => hK2 _ _ (hK v' w' r1 r2 r3))
theorem row_form {w : World} {base : Nat} {e : TypeId} {s : Nat} {v : Value} {n : Nat} {xs : List Value} (h : w.ownsRow base e s v (n + 1) xs) : ∃ g cap, v = .slice (some ⟨g, 0, none⟩) (n + 1) cap := by
  rcases h.2 with ⟨_, h⟩ | ⟨g, cap, cur, rfl, _⟩
  · omega
  · exact ⟨g, cap, rfl⟩
theorem add_cells {w : World} {g : Nat} {cs : List Value} (h : ∀ j v, cs[j]? = some v → w.cell? ⟨g, j, none⟩ = some v) : ∀ j v, cs[j]? = some v → w.cell? ((⟨g, 0, none⟩ : Addr).add j) = some v := by
  intro j v hj
  have : ((⟨g, 0, none⟩ : Addr).add j) = ⟨g, j, none⟩ := by unfold Addr.add; split <;> simp_all
  rw [this]
  exact h j v hj
theorem add_cells_off {w : World} {g off : Nat} {cs : List Value} (h : ∀ j v, cs[j]? = some v → w.cell? ⟨g, off + j, none⟩ = some v) : ∀ j v, cs[j]? = some v → w.cell? ((⟨g, off, none⟩ : Addr).add j) = some v := by
  intro j v hj
  have : ((⟨g, off, none⟩ : Addr).add j) = ⟨g, off + j, none⟩ := by unfold Addr.add; split <;> simp_all
  rw [this]
  exact h j v hj
theorem cell_cur {w : World} {g : Nat} {cur : List Value} {t : TypeId} (hg : w.heap[g]? = some (.cells cur.toArray t (0, 0))) (j : Nat) : w.cell? ⟨g, j, none⟩ = cur[j]? := by
  rw [cell_of_row w g j cur.toArray t (0, 0) hg]
  simp
theorem grown_setRow (w : World) (g : Nat) (cs : Array Value) : w.grownBy (w.setRow g cs) (some g) := ⟨rfl, rfl, rfl, by simp [World.setRow], fun k _ hk => setRow_other w g k cs (fun e => hk (by rw [e]))⟩
theorem grown_trans {a b c : World} {r : Option Nat} (h : a.grownBy b r) (k : b.grownBy c r) : a.grownBy c r :=
  ⟨k.os.trans h.os, k.tape.trans h.tape, k.output.trans h.output, Nat.le_trans h.size k.size, fun j hj hr => (k.block j (Nat.lt_of_lt_of_le hj h.size) hr).trans (h.block j hj hr)⟩
/-- A write to a block that is new leaves all that was. -/
theorem grown_fresh {a b c : World} {r : Option Nat} {g : Nat} (h : a.grownBy b r) (k : b.grownBy c (some g)) (hg : a.heap.size ≤ g) : a.grownBy c r :=
  ⟨k.os.trans h.os, k.tape.trans h.tape, k.output.trans h.output, Nat.le_trans h.size k.size, fun j hj hr => (k.block j (Nat.lt_of_lt_of_le hj h.size) (by intro e; cases e; omega)).trans (h.block j hj hr)⟩
theorem grown_drew {a b : World} {r : Option Nat} (h : a.grownBy b r) : a.grownBy b.drew r := ⟨h.os, h.tape, h.output, h.size, h.block⟩
theorem ownsRow_drew {w : World} {base : Nat} {e : TypeId} {s : Nat} {v : Value} {n : Nat} {xs : List Value} (h : w.ownsRow base e s v n xs) : w.drew.ownsRow base e s v n xs := h
/-- A row: its number, and its value's cells. -/
abbrev Rw := Int × List Value
def rcells (r : Rw) : List Value := .int .i64 r.1 :: r.2
def flat (R : List Rw) : List Value := R.flatMap rcells
theorem flat_nil : flat [] = [] := rfl
theorem flat_cons (r : Rw) (R : List Rw) : flat (r :: R) = rcells r ++ flat R := rfl
theorem flat_append (A B : List Rw) : flat (A ++ B) = flat A ++ flat B := by simp [flat]
/-- All rows have C cells, none of them an aggregate. -/
def Wide (C : Nat) (R : List Rw) : Prop := ∀ r ∈ R, (rcells r).length = C ∧ ∀ u ∈ rcells r, u.oneCell' = true
theorem Wide.tail {C : Nat} {r : Rw} {R : List Rw} (h : Wide C (r :: R)) : Wide C R := fun x hx => h x (List.mem_cons_of_mem _ hx)
theorem Wide.take {C : Nat} {R : List Rw} (h : Wide C R) (k : Nat) : Wide C (R.take k) := fun x hx => h x (List.mem_of_mem_take hx)
theorem Wide.drop {C : Nat} {R : List Rw} (h : Wide C R) (k : Nat) : Wide C (R.drop k) := fun x hx => h x (List.mem_of_mem_drop hx)
theorem Wide.append {C : Nat} {A B : List Rw} (h : Wide C A) (k : Wide C B) : Wide C (A ++ B) := fun x hx => (List.mem_append.1 hx).elim (h x) (k x)
theorem flat_length {C : Nat} : ∀ {R : List Rw}, Wide C R → (flat R).length = R.length * C
  | [], _ => by simp [flat]
  | r :: R, h => by
    rw [flat_cons, List.length_append, flat_length h.tail, (h r (by simp)).1, List.length_cons, Nat.add_mul]
    omega
theorem flat_one {C : Nat} {R : List Rw} (h : Wide C R) : ∀ u ∈ flat R, u.oneCell' = true := by
  intro u hu
  obtain ⟨r, hr, hu⟩ := List.mem_flatMap.1 hu
  exact (h r hr).2 u hu
theorem flat_get {C : Nat} : ∀ {R : List Rw}, Wide C R → ∀ {i j : Nat} {r : Rw} {v : Value}, R[i]? = some r → (rcells r)[j]? = some v → (flat R)[i * C + j]? = some v
  | [], _, i, j, r, v, hi, _ => by simp at hi
  | r0 :: R, h, 0, j, r, v, hi, hj => by
    simp at hi
    subst hi
    rw [flat_cons, List.getElem?_append_left (by have := (List.getElem?_eq_some_iff.1 hj).1; omega)]
    simpa using hj
  | r0 :: R, h, i + 1, j, r, v, hi, hj => by
    have h0 := (h r0 (by simp)).1
    rw [flat_cons, List.getElem?_append_right (by rw [h0, Nat.add_mul]; omega), h0]
    have e : (i + 1) * C + j - C = i * C + j := by rw [Nat.add_mul]; omega
    rw [e]
    exact flat_get h.tail (by simpa using hi) hj
theorem flat_take {C : Nat} {R : List Rw} (h : Wide C R) {k : Nat} (hk : k ≤ R.length) : (flat R).take (k * C) = flat (R.take k) := by
  have e : flat R = flat (R.take k) ++ flat (R.drop k) := by rw [← flat_append, List.take_append_drop]
  have hl : (flat (R.take k)).length = k * C := by rw [flat_length (h.take k), List.length_take, Nat.min_eq_left hk]
  rw [e, ← hl]
  exact List.take_left
theorem flat_drop {C : Nat} {R : List Rw} (h : Wide C R) {k : Nat} (hk : k ≤ R.length) : (flat R).drop (k * C) = flat (R.drop k) := by
  have e : flat R = flat (R.take k) ++ flat (R.drop k) := by rw [← flat_append, List.take_append_drop]
  have hl : (flat (R.take k)).length = k * C := by rw [flat_length (h.take k), List.length_take, Nat.min_eq_left hk]
  rw [e, ← hl]
  exact List.drop_left
theorem splice_at {α : Type} (A B X D : List α) (h : B.length = X.length) : splice (A ++ (B ++ D)) A.length X = A ++ (X ++ D) := by
  unfold splice
  rw [List.take_left, ← h, ← List.append_assoc A B D, ← List.length_append, List.drop_left]
/-- Moving a tail up by one row, and laying a row into the gap. -/
theorem splice_up {α : Type} (A X r D : List α) (hD : r.length ≤ D.length) :
    splice (splice (A ++ (X ++ D)) (A.length + r.length) X) A.length r = A ++ (r ++ (X ++ D.drop r.length)) := by
  have h1 : A ++ (X ++ D) = (A ++ (X ++ D).take r.length) ++ ((X ++ D).drop r.length) := by
    rw [List.append_assoc, List.take_append_drop]
  have hl : (X ++ D).take r.length = (X ++ D).take r.length := rfl
  have hlen : ((X ++ D).take r.length).length = r.length := by rw [List.length_take, List.length_append]; omega
  have h2 : (X ++ D).drop r.length = ((X ++ D).drop r.length).take X.length ++ D.drop r.length := by
    conv => lhs; rw [← List.take_append_drop X.length ((X ++ D).drop r.length)]
    rw [List.drop_drop, Nat.add_comm, ← List.drop_drop, List.drop_left]
  have h3 : (((X ++ D).drop r.length).take X.length).length = X.length := by
    rw [List.length_take, List.length_drop, List.length_append]
    omega
  rw [h1]
  conv => lhs; arg 1; arg 1; rw [h2]
  have e1 := splice_at (A ++ (X ++ D).take r.length) (((X ++ D).drop r.length).take X.length) X (D.drop r.length) h3
  rw [List.length_append, hlen] at e1
  rw [e1, List.append_assoc]
  exact splice_at A ((X ++ D).take r.length) r (X ++ D.drop r.length) hlen
/-- Moving a tail down by one row, and laying noughts where its last row was. -/
theorem splice_down {α : Type} (A B X D z : List α) (hz : z.length = B.length) :
    splice (splice (A ++ (B ++ (X ++ D))) A.length X) (A.length + X.length) z = A ++ (X ++ (z ++ D)) := by
  have h2 : B ++ (X ++ D) = (B ++ X).take X.length ++ ((B ++ X).drop X.length ++ D) := by
    rw [← List.append_assoc, ← List.append_assoc, List.take_append_drop]
  have h3 : ((B ++ X).take X.length).length = X.length := by
    rw [List.length_take, List.length_append]; omega
  have h4 : ((B ++ X).drop X.length).length = z.length := by
    rw [List.length_drop, List.length_append]; omega
  rw [h2, splice_at A _ X _ h3, ← List.append_assoc A X, ← List.length_append, splice_at (A ++ X) _ z D h4, List.append_assoc]
theorem length_splice' {α : Type} (L : List α) (off : Nat) (cs : List α) (h : off + cs.length ≤ L.length) : (splice L off cs).length = L.length := by simp [splice]; omega
/-- The keys ascend. -/
def Asc (R : List Rw) : Prop := (R.map Prod.fst).Pairwise (· < ·)
/-- How many keys are below k; is k there? -/
def posR (R : List Rw) (k : Int) : Nat := R.countP (fun r => decide (r.1 < k))
def hasR (R : List Rw) (k : Int) : Bool := R.any (fun r => decide (r.1 = k))
theorem posR_le (R : List Rw) (k : Int) : posR R k ≤ R.length := List.countP_le_length
theorem Asc.at {R : List Rw} (h : Asc R) {i j : Nat} {x y : Rw} (hij : i < j) (hi : R[i]? = some x) (hj : R[j]? = some y) : x.1 < y.1 := by
  unfold Asc at h
  rw [List.pairwise_iff_getElem] at h
  obtain ⟨li, ei⟩ := List.getElem?_eq_some_iff.1 hi
  obtain ⟨lj, ej⟩ := List.getElem?_eq_some_iff.1 hj
  have := h i j (by simpa using li) (by simpa using lj) hij
  simpa [ei, ej] using this
theorem countP_at : ∀ (R : List Rw) (k : Int) (i : Nat), i ≤ R.length → (∀ j x, j < i → R[j]? = some x → x.1 < k) → (∀ j x, i ≤ j → R[j]? = some x → k ≤ x.1) → posR R k = i
  | [], k, i, hi, _, _ => by simp at hi; subst hi; rfl
  | r :: R, k, 0, _, _, h2 => by
    have h0 := h2 0 r (Nat.le_refl _) (by simp)
    have ih := countP_at R k 0 (Nat.zero_le _) (fun j x hj => absurd hj (Nat.not_lt_zero _)) (fun j x hj hx => h2 (j + 1) x (Nat.zero_le _) (by simpa using hx))
    unfold posR at ih ⊢
    rw [List.countP_cons, ih, if_neg (by simp; omega)]
  | r :: R, k, i + 1, hi, h1, h2 => by
    have h0 := h1 0 r (by omega) (by simp)
    have ih := countP_at R k i (by simpa using hi) (fun j x hj hx => h1 (j + 1) x (by omega) (by simpa using hx)) (fun j x hj hx => h2 (j + 1) x (by omega) (by simpa using hx))
    unfold posR at ih ⊢
    rw [List.countP_cons, ih, if_pos (by simpa using h0)]
/-- Where a search has ended. -/
theorem found_at {R : List Rw} {k : Int} {i : Nat} (hA : Asc R) (hi : i ≤ R.length) (h1 : ∀ j x, j < i → R[j]? = some x → x.1 < k) (h2 : ∀ j x, i ≤ j → R[j]? = some x → k ≤ x.1) :
    posR R k = i ∧ (∀ x, R[i]? = some x → hasR R k = decide (x.1 = k)) ∧ (i = R.length → hasR R k = false) := by
  refine ⟨countP_at R k i hi h1 h2, fun x hx => ?_, fun e => ?_⟩
  · rw [Bool.eq_iff_iff]
    unfold hasR
    rw [List.any_eq_true, decide_eq_true_eq]
    constructor
    · rintro ⟨y, hy, e⟩
      obtain ⟨j, hj⟩ := List.getElem?_of_mem hy
      simp only [decide_eq_true_eq] at e
      rcases Nat.lt_trichotomy j i with q | q | q
      · have := h1 j y q hj; omega
      · subst q; rw [hx] at hj; cases hj; exact e
      · have := hA.at q hx hj
        have := h2 i x (Nat.le_refl _) hx
        omega
    · intro e
      exact ⟨x, List.mem_of_getElem? hx, by simpa using e⟩
  · rw [Bool.eq_false_iff]
    intro hc
    unfold hasR at hc
    rw [List.any_eq_true] at hc
    obtain ⟨y, hy, e2⟩ := hc
    obtain ⟨j, hj⟩ := List.getElem?_of_mem hy
    simp only [decide_eq_true_eq] at e2
    have := (List.getElem?_eq_some_iff.1 hj).1
    have := h1 j y (by omega) hj
    omega
theorem posR_facts {R : List Rw} {k : Int} (hA : Asc R) : (∀ j x, j < posR R k → R[j]? = some x → x.1 < k) ∧ (∀ j x, posR R k ≤ j → R[j]? = some x → k ≤ x.1) := by
  induction R with
  | nil => exact ⟨fun j x _ h => by simp at h, fun j x _ h => by simp at h⟩
  | cons r R ih =>
    have hA' : Asc R := by unfold Asc at hA ⊢; rw [List.map_cons, List.pairwise_cons] at hA; exact hA.2
    have hr : ∀ y ∈ R, r.1 < y.1 := by
      intro y hy
      unfold Asc at hA
      rw [List.map_cons, List.pairwise_cons] at hA
      exact hA.1 y.1 (List.mem_map_of_mem hy)
    obtain ⟨i1, i2⟩ := ih hA'
    by_cases h : r.1 < k
    · have e : posR (r :: R) k = posR R k + 1 := by unfold posR; rw [List.countP_cons, if_pos (by simpa using h)]
      rw [e]
      constructor
      · intro j x hj hx
        cases j with
        | zero => simp at hx; subst hx; exact h
        | succ j => exact i1 j x (by omega) (by simpa using hx)
      · intro j x hj hx
        cases j with
        | zero => omega
        | succ j => exact i2 j x (by omega) (by simpa using hx)
    · have e0 : posR R k = 0 := by
        unfold posR
        rw [List.countP_eq_zero]
        intro y hy
        have := hr y hy
        simp; omega
      have e : posR (r :: R) k = 0 := by unfold posR at e0 ⊢; rw [List.countP_cons, e0, if_neg (by simpa using h)]
      rw [e]
      constructor
      · intro j x hj; omega
      · intro j x hj hx
        cases j with
        | zero => simp at hx; subst hx; omega
        | succ j => exact i2 j x (by omega) (by simpa using hx)
/-- What Add and Drop leave. -/
def insR (R : List Rw) (r : Rw) : List Rw := R.take (posR R r.1) ++ r :: R.drop (posR R r.1)
def delR (R : List Rw) (k : Int) : List Rw := R.take (posR R k) ++ R.drop (posR R k + 1)
theorem hasR_at {R : List Rw} {k : Int} (hA : Asc R) : hasR R k = true ↔ ∃ x, R[posR R k]? = some x ∧ x.1 = k := by
  obtain ⟨h1, h2⟩ := posR_facts (k := k) hA
  obtain ⟨_, q1, q2⟩ := found_at hA (posR_le R k) h1 h2
  constructor
  · intro h
    cases hx : R[posR R k]? with
    | none =>
      have := List.getElem?_eq_none_iff.1 hx
      rw [q2 (by have := posR_le R k; omega)] at h
      cases h
    | some x => exact ⟨x, rfl, by rw [q1 x hx] at h; simpa using h⟩
  · rintro ⟨x, hx, e⟩
    rw [q1 x hx]
    simpa using e
end
/- A load of a struct whose cells are known, as one operation. -/
section
set_option linter.unusedVariables false
set_option linter.unusedSimpArgs false
open Go.ChangeShapes Go.WideShapes Go.ChangeAt Go.RowKit

section
variable {P : Program} {ops : Array Oper} {rest : List Oper} {o : Oper} {a : Act} {w : World} {Q : Exit → Act → World → Prop}
/-- A load of a struct whose cells are known, as one operation. -/
theorem wp_load_list {K : Act → World → Prop} (ty : TypeId) (x : Operand) (ho : o.op = .load ty x) (p : Addr) (hx : a.eval x = .pointer (some p)) (cs : List Value) (hc : ∀ j v, cs[j]? = some v → w.cell? (p.add j) = some v)
    (d : TypeDesc) (hu : P.underlying ty = some d) (hd : (match d with | .struct _ | .array _ _ => true | _ => false) = true) (hi : (P.info? ty).map (·.size) = some cs.length)
    (h : K (a.put o.dst (.agg cs.toArray)) w) : o.wp P a w K Q := by
  have hl : (loadCells p cs.length).run P w = .ok cs.toArray w := run_loadCells_list (P := P) w p cs hc
  have hrun : (loadVar ty p).run P w = .ok (.agg cs.toArray) w := by
    cases hq : P.info? ty with
    | none => simp [hq] at hi
    | some i =>
      have hs : i.size = cs.length := by simpa [hq] using hi
      have hagg : (isAgg ty).run P w = .ok true w := by
        unfold isAgg
        rw [Sem.run_bind, run_underlying hu w]
        cases d <;> simp_all
      simp [loadVar, Sem.run_bind, hagg, sizeOf, typeInfo, hq, hs, hl]
  unfold Oper.wp execOp
  simp only [ho, hx, Instr.loadAt, Instr.sureAddr, Sem.run_bind, Sem.run_pure, Result.andThen_ok, hrun]
  exact h
theorem wpList_load_list (hw : Region.wanted o (yielded ops a.tmps) = true) (ty : TypeId) (x : Operand) (ho : o.op = .load ty x) (p : Addr) (hx : a.eval x = .pointer (some p)) (cs : List Value) (hc : ∀ j v, cs[j]? = some v → w.cell? (p.add j) = some v)
    (d : TypeDesc) (hu : P.underlying ty = some d) (hd : (match d with | .struct _ | .array _ _ => true | _ => false) = true) (hi : (P.info? ty).map (·.size) = some cs.length)
    (h : wpList P ops Q rest (a.put o.dst (.agg cs.toArray)) w) : wpList P ops Q (o :: rest) a w :=
  wpList_step fun K hK => by
    rw [hw, if_pos rfl]
    exact wp_load_list ty x ho p hx cs hc d hu hd hi (hK _ _ h)
end
theorem add_cells_Load {w : World} {g : Nat} {cs : List Value} (h : ∀ j v, cs[j]? = some v → w.cell? ⟨g, j, none⟩ = some v) : ∀ j v, cs[j]? = some v → w.cell? ((⟨g, 0, none⟩ : Addr).add j) = some v := by
  intro j v hj
  have : ((⟨g, 0, none⟩ : Addr).add j) = ⟨g, j, none⟩ := by unfold Addr.add; split <;> simp_all
  rw [this]
  exact h j v hj
end
/- A table by whole numbers, of any number of rows: search. -/
section
set_option linter.unusedVariables false
set_option linter.unusedSimpArgs false
open Go.ChangeShapes Go.WideShapes Go.ChangeAt Go.RowKit

namespace TabS
def C : Nat := 2
theorem infoR : (Tryd.prog.info? 132).map (fun i => (i.zero, i.size, i.bytes)) = some (some (.agg #[.int .i64 0, .slice none 0 0]), 2, 32) := by kernel_rfl
/-- What a comparison of two numbers answers. -/
def cmpI (a b : Int) : Int := if a < b then -1 else if b < a then 1 else 0
set_option maxHeartbeats 1000000 in
theorem cmp_any (w : World) (a b : Int) (r : List Value) : Calls Tryd.prog 83 #[.agg (.int .i64 a :: r).toArray, .int .i64 b] w fun e w' => e = .returned (.int .i64 (cmpI a b)) ∧ Below w.heap.size w w' := by
  unfold cmpI
  rcases Int.lt_trichotomy a b with h | h | h
  · have h2 : ¬ b < a := by omega
    rw [if_pos h]
    go_enter Tryd.func83, Tryd.ntmps83
    go_wp2_with go_in
    go_ret
    exact ⟨rfl, bal (Below.refl _ _) _⟩
  · subst h
    rw [if_neg (by omega), if_neg (by omega)]
    go_enter Tryd.func83, Tryd.ntmps83
    go_wp2_with go_in
    go_ret
    exact ⟨by simp, bal (Below.refl _ _) _⟩
  · have h2 : ¬ a < b := by omega
    rw [if_neg h2, if_pos h]
    go_enter Tryd.func83, Tryd.ntmps83
    go_wp2_with go_in
    go_ret
    exact ⟨rfl, bal (Below.refl _ _) _⟩
end TabS
end
/- A table by whole numbers, of any number of rows: binary search. -/
section
set_option linter.unusedVariables false
set_option linter.unusedSimpArgs false
open Go.ChangeShapes Go.WideShapes Go.ChangeAt Go.RowKit

namespace TabS
/-- The rows lie in block g, from its head. -/
def RowsIn (w : World) (g : Nat) (R : List Rw) : Prop := ∀ (i j : Nat) (r : Rw) (v : Value), R[i]? = some r → (rcells r)[j]? = some v → w.cell? ⟨g, i * 2 + j, none⟩ = some v
theorem RowsIn.call {w w' : World} {g : Nat} {R : List Rw} (h : RowsIn w g R) (hg : g < w.heap.size) (hb : Below w.heap.size w w') : RowsIn w' g R := fun i j r v hi hj => (hb.cell (p := ⟨g, _, none⟩) hg).trans (h i j r v hi hj)
theorem RowsIn.load {w : World} {g i : Nat} {R : List Rw} {r : Rw} (h : RowsIn w g R) (hi : R[i]? = some r) (A : Addr) (hA : A = ⟨g, i * 2, none⟩) : ∀ j v, (rcells r)[j]? = some v → w.cell? (A.add j) = some v := by
  intro j v hj
  subst hA
  have : ((⟨g, i * 2, none⟩ : Addr).add j) = ⟨g, i * 2 + j, none⟩ := by unfold Addr.add; split <;> simp_all
  rw [this]
  exact h i j r v hi hj
theorem intOf_nat (k : IntKind) (n : Nat) : (intOf (.int k n)).toNat = n := by simp [intOf]
set_option maxRecDepth 100000 in
set_option maxHeartbeats 2000000 in
theorem bsf_any (w : World) (g c : Nat) (R : List Rw) (k : Int) (hg : g < w.heap.size) (hw : Wide 2 R) (hA : Asc R) (hl : R.length ≤ 1000000) (hR : RowsIn w g R) :
    Calls Tryd.prog 82 #[.slice (some ⟨g, 0, none⟩) R.length c, .int .i64 k, .func (.func 83) #[] #[]] w fun e w' => e = .returned (.tuple #[.int .i64 (posR R k : Nat), .bool (hasR R k)]) ∧ Below w.heap.size w w' := by
  have HW := Lib.hid hw
  have HA := Lib.hid hA
  have HR := Lib.hid hR
  generalize hn : R.length = n at *
  have HN := Lib.hid hn
  clear hw hA hR hn
  go_enter Tryd.func82, Tryd.ntmps82
  go_wp2
  go_loopw [9, 10, 11] (fun x y z wr => ∃ i j : Nat, i ≤ j ∧ j ≤ n ∧ x = .int .i64 i ∧ y = .int .i64 j ∧ Below w.heap.size w wr ∧ Hid ((∀ t r, t < i → R[t]? = some r → r.1 < k) ∧ (∀ t r, j ≤ t → R[t]? = some r → k ≤ r.1))) (fun x y _ _ => (intOf y).toNat - (intOf x).toNat)
  case atStart => exact ⟨0, n, by omega, by omega, rfl, rfl, Below.refl _ _, Lib.hid ⟨fun t r h => by omega, fun t r h hr => by have := (List.getElem?_eq_some_iff.1 hr).1; have := HN.out; omega⟩⟩
  case round =>
    obtain ⟨i, j, hij, hjn, rfl, rfl, hb, HF⟩ := hrel
    by_cases hlt : i < j
    · have HNN := HN.out
      obtain ⟨r, hr⟩ : ∃ r, R[(i + j) / 2]? = some r := ⟨R[(i + j) / 2]'(by omega), List.getElem?_eq_getElem _⟩
      have hrc : (rcells r).length = 2 := (HW.out r (List.mem_of_getElem? hr)).1
      have HL := Lib.hid ((HR.out.call hg hb).load hr ⟨g, (i + j) / 2 * 2, none⟩ rfl)
      have HRC := Lib.hid hrc
      have HRR := Lib.hid hr
      have hlt' : (i : Int) < j := by omega
      clear HNN hr hrc
      by_cases hk : r.1 < k
      · have hcv : cmpI r.1 k = -1 := if_pos hk
        have HCV := Lib.hid hcv
        have HK := Lib.hid hk
        clear hcv hk
        go_wp2_with (first | (refine wpList_load_list (by first | rfl | simp [Region.wanted, yielded]) 132 _ rfl ⟨g, (i + j) / 2 * 2, none⟩ rfl (rcells r) HL.out _ Tryd.underlying132 rfl (by rw [HRC.out]; kernel_rfl) ?_) | (go_at_call 83; refine (cmp_any _ _ _ _).mono ?_; rw [HCV.out]; rintro e w1 ⟨rfl, hb1⟩))
        go_roundw
        case rel => exact ⟨(i + j) / 2 + 1, j, by omega, by omega, by go_num, by go_num, hb.trans (hb1.mono hb.size), Lib.hid ⟨fun t x h hx => by
          rcases Nat.lt_or_ge t ((i + j) / 2) with q | q
          · exact Int.lt_trans ((HA.out.at q hx HRR.out)) HK.out
          · obtain rfl : t = (i + j) / 2 := by omega
            rw [HRR.out] at hx
            cases hx
            exact HK.out, HF.out.2⟩⟩
        case measure => first | (simp [intOf]; done) | (simp [intOf]; omega)
      · obtain ⟨cv, hcv, hc0⟩ : ∃ cv, cmpI r.1 k = cv ∧ ¬ cv < 0 := ⟨_, rfl, by unfold cmpI; rw [if_neg hk]; split <;> omega⟩
        have HCV := Lib.hid hcv
        have HK := Lib.hid hk
        clear hcv hk
        go_wp2_with (first | (refine wpList_load_list (by first | rfl | simp [Region.wanted, yielded]) 132 _ rfl ⟨g, (i + j) / 2 * 2, none⟩ rfl (rcells r) HL.out _ Tryd.underlying132 rfl (by rw [HRC.out]; kernel_rfl) ?_) | (go_at_call 83; refine (cmp_any _ _ _ _).mono ?_; rw [HCV.out]; rintro e w1 ⟨rfl, hb1⟩))
        go_roundw
        case rel => exact ⟨i, (i + j) / 2, by omega, by omega, by go_num, by go_num, hb.trans (hb1.mono hb.size), Lib.hid ⟨HF.out.1, fun t x h hx => by
          have hKK := HK.out
          rcases Nat.lt_or_ge ((i + j) / 2) t with q | q
          · have := HA.out.at q HRR.out hx
            omega
          · obtain rfl : t = (i + j) / 2 := by omega
            rw [HRR.out] at hx
            cases hx
            omega⟩⟩
        case measure => first | (simp [intOf]; done) | (simp [intOf]; omega)
    · obtain rfl : i = j := by omega
      have HNN := HN.out
      obtain ⟨e1, e2, e3⟩ := found_at HA.out (by omega : i ≤ R.length) HF.out.1 HF.out.2
      have E1 := Lib.hid e1
      by_cases hin : i < n
      · obtain ⟨r, hr⟩ : ∃ r, R[i]? = some r := ⟨R[i]'(by omega), List.getElem?_eq_getElem _⟩
        have hrc : (rcells r).length = 2 := (HW.out r (List.mem_of_getElem? hr)).1
        have HL := Lib.hid ((HR.out.call hg hb).load hr ⟨g, i * 2, none⟩ rfl)
        have HRC := Lib.hid hrc
        obtain ⟨cv, hcv, hc0⟩ : ∃ cv, cmpI r.1 k = cv ∧ (cv = 0 ↔ r.1 = k) := ⟨_, rfl, by unfold cmpI; constructor <;> intro q <;> (try split at q) <;> (try split at q) <;> (try split) <;> (try split) <;> omega⟩
        have HCV := Lib.hid hcv
        have hdd : decide (r.1 = k) = decide (cv = 0) := by rw [decide_eq_decide]; exact hc0.symm
        have E2 := Lib.hid ((e2 r hr).trans hdd)
        have hin' : (i : Int) < n := by omega
        clear HNN hr hrc e1 e2 e3 hcv hc0 hdd
        go_wp2_with (first | (refine wpList_load_list (by first | rfl | simp [Region.wanted, yielded]) 132 _ rfl ⟨g, i * 2, none⟩ rfl (rcells r) HL.out _ Tryd.underlying132 rfl (by rw [HRC.out]; kernel_rfl) ?_) | (go_at_call 83; refine (cmp_any _ _ _ _).mono ?_; rw [HCV.out]; rintro e w1 ⟨rfl, hb1⟩))
        go_ret2
        rw [E1.out, E2.out]
        exact ⟨by first | rfl | simp, hb.trans (hb1.mono hb.size)⟩
      · have E2 := Lib.hid (e3 (by omega))
        have hin' : ¬ (i : Int) < n := by omega
        clear HNN e1 e2 e3
        go_wp2
        go_ret2
        rw [E1.out, E2.out]
        exact ⟨by first | rfl | simp, hb⟩
end TabS
end
/- A table by whole numbers, of any number of rows: slices.Insert of one row. -/
section
set_option linter.unusedVariables false
set_option linter.unusedSimpArgs false
open Go.ChangeShapes Go.WideShapes Go.ChangeAt Go.RowKit

namespace TabS
/-- What an Insert leaves. -/
def InsPost (w w' : World) (base : Nat) (v v' : Value) (R' : List Rw) : Prop :=
  w'.ownsRow base 132 2 v' R'.length (flat R') ∧ w.grownBy w' v.ownBlock ∧ (v'.ownBlock = v.ownBlock ∨ ∃ g, v'.ownBlock = some g ∧ w.heap.size ≤ g)
theorem mul_bytes {n : Nat} (h : n ≤ 1000001) : n * 32 ≤ 140737488355328 := by omega
set_option maxRecDepth 100000 in
set_option maxHeartbeats 2000000 in
theorem ins_end (w : World) (base : Nat) (v : Value) (R : List Rw) (r : Rw) (nb : Nat) (hw : Wide 2 R) (hr : Wide 2 [r]) (hl : R.length ≤ 1000000) (hown : w.ownsRow base 132 2 v R.length (flat R)) (hb : base ≤ w.heap.size)
    (hn : w.heap[nb]? = some (.cells (rcells r).toArray 132 (0, 0))) :
    Calls Tryd.prog 63 #[v, .int .i64 (R.length : Nat), .slice (some ⟨nb, 0, none⟩) 1 1] w fun e w' => ∃ v', e = .returned v' ∧ InsPost w w' base v v' (R ++ [r]) := by
  obtain ⟨i0, hi, hz0, hz1, hz2⟩ := info_parts infoR
  have hlr : (rcells r).length = 1 * 2 := by rw [(hr r (by simp)).1]
  have h1 : ∀ u ∈ rcells r, u.oneCell' = true := (hr r (by simp)).2
  have hcs := add_cells (w := w) (g := nb) (cs := rcells r) (fun j u hj => by rw [cell_cur hn]; exact hj)
  have e1 : flat (R ++ [r]) = flat R ++ rcells r := by rw [flat_append, flat_cons, flat_nil, List.append_nil]
  have e2 : (R ++ [r]).length = R.length + 1 := by simp
  unfold InsPost
  rw [e1, e2]
  have HI := Lib.hid hi
  have HO := Lib.hid hown
  have HL := Lib.hid hlr
  have H1 := Lib.hid h1
  have HC := Lib.hid hcs
  have hform := hown.2
  generalize flat R = xs at HO hform ⊢
  clear hi hlr h1 hcs hown e1 e2 hw hr hn
  generalize R.length = n at *
  rcases hform with ⟨rfl, rfl⟩ | ⟨g, cap, cur, rfl, q1, q2, q3, q4, q5, q6⟩
  · go_enter Tryd.func63, Tryd.ntmps63
    go_wp2_with (at_builtin; refine wpList_append_at rfl _ _ 92 rfl base 132 i0 (.agg #[.int .i64 0, .slice none 0 0]) 2 32 Tryd.underlying92 HI.out hz0 hz1 hz2 rfl (by decide) (.slice none 0 0) 0 xs rfl HO.out ⟨nb, 0, none⟩ 1 1 (rcells r) rfl HL.out HC.out H1.out (by unfold maxLen; omega) (mul_bytes (by omega)) hb ?_; intro v' w1 hown' hgrow hat)
    go_ret
    exact ⟨v', rfl, hown', hgrow, hat.imp id (fun h => ⟨_, h, Nat.le_refl _⟩)⟩
  · clear q2 q5 q6
    go_enter Tryd.func63, Tryd.ntmps63
    go_wp2_with (at_builtin; refine wpList_append_at rfl _ _ 92 rfl base 132 i0 (.agg #[.int .i64 0, .slice none 0 0]) 2 32 Tryd.underlying92 HI.out hz0 hz1 hz2 rfl (by decide) (.slice (some ⟨g, 0, none⟩) n cap) n xs rfl HO.out ⟨nb, 0, none⟩ 1 1 (rcells r) rfl HL.out HC.out H1.out (by unfold maxLen; omega) (mul_bytes (by omega)) hb ?_; intro v' w1 hown' hgrow hat)
    all_goals
      go_ret
      exact ⟨v', rfl, hown', hgrow, hat.imp id (fun h => ⟨_, h, Nat.le_refl _⟩)⟩
end TabS
end
/- A table by whole numbers, of any number of rows: slices.Insert of one row in the midst. -/
section
set_option linter.unusedVariables false
set_option linter.unusedSimpArgs false
open Go.ChangeShapes Go.WideShapes Go.ChangeAt Go.RowKit

namespace TabS
theorem sizeR (w : World) : (Go.sizeOf 132).run Tryd.prog w = .ok 2 w := by
  obtain ⟨i0, hi, hz0, hz1, hz2⟩ := info_parts infoR
  simp [Go.sizeOf, typeInfo, hi, hz1]
theorem overlaps_no (w : World) (nb g off la ca lb cb kA kB : Nat) (tA tB : TypeId) (hne : nb ≠ g) (hA : w.shape? nb = some (tA, kA)) (hB : w.shape? g = some (tB, kB)) (hk : kB ≠ 0) (hfa : w.frozen? ⟨nb, 0, none⟩ = false) (hfe : w.frozen? ⟨nb, kA, none⟩ = false) :
    (callFunc 84 #[.slice (some ⟨nb, 0, none⟩) la ca, .slice (some ⟨g, off, none⟩) lb cb]).run Tryd.prog w = .ok (.value (.bool false)) w := by
  rw [run_callFunc_extern Tryd.func84 (by kernel_rfl) (by kernel_rfl) (by kernel_rfl) (e := Extern.SlicesOverlaps.overlaps #[92, 92] #[4]) (by kernel_rfl),
    Lib.run_overlaps_apart w 92 4 132 Tryd.underlying92 2 sizeR ⟨nb, 0, none⟩ ⟨g, off, none⟩ la ca lb cb hne tA tB kA kB hA hB hk hfa hfe]
  rfl
theorem shape_row {w : World} {g : Nat} {cur : Array Value} {t : TypeId} {fr : Nat × Nat} (h : w.heap[g]? = some (.cells cur t fr)) : w.shape? g = some (t, cur.size) := by simp [World.shape?, h]
theorem froz_row {w : World} {g o : Nat} {cur : Array Value} {t : TypeId} (h : w.heap[g]? = some (.cells cur t (0, 0))) : w.frozen? ⟨g, o, none⟩ = false := by simp [World.frozen?, h]
set_option maxRecDepth 100000 in
set_option maxHeartbeats 800000 in
/-- There is room. -/
theorem ins_room (w : World) (base g cap p : Nat) (R : List Rw) (D : List Value) (r : Rw) (nb : Nat) (hw : Wide 2 R) (hr : Wide 2 [r]) (hl : R.length ≤ 1000000) (hp : p < R.length) (hcap : R.length + 1 ≤ cap) (hcm : cap ≤ maxLen) (hbg : base ≤ g)
    (hg : w.heap[g]? = some (.cells (flat R ++ D).toArray 132 (0, 0))) (hD : (flat R ++ D).length = cap * 2) (hne : nb ≠ g)
    (hn : w.heap[nb]? = some (.cells (rcells r).toArray 132 (0, 0))) :
    Calls Tryd.prog 63 #[.slice (some ⟨g, 0, none⟩) R.length cap, .int .i64 p, .slice (some ⟨nb, 0, none⟩) 1 1] w fun e w' => ∃ v', e = .returned v' ∧ InsPost w w' base (.slice (some ⟨g, 0, none⟩) R.length cap) v' (R.take p ++ r :: R.drop p) := by
  obtain ⟨i0, hi, hz0, hz1, hz2⟩ := info_parts infoR
  have hlr : (rcells r).length = 2 := (hr r (by simp)).1
  have h1 : ∀ u ∈ rcells r, u.oneCell' = true := (hr r (by simp)).2
  have hcur : flat R ++ D = flat (R.take p) ++ (flat (R.drop p) ++ D) := by
    rw [← List.append_assoc, ← flat_append, List.take_append_drop]
  have lA : (flat (R.take p)).length = p * 2 := by rw [flat_length (hw.take p), List.length_take, Nat.min_eq_left (by omega)]
  have lX : (flat (R.drop p)).length = (R.length - p) * 2 := by rw [flat_length (hw.drop p), List.length_drop]
  have oX := flat_one (hw.drop p)
  have e2 : (R.take p ++ r :: R.drop p).length = R.length + 1 := by simp; omega
  have e1 : flat (R.take p ++ r :: R.drop p) = flat (R.take p) ++ (rcells r ++ flat (R.drop p)) := by rw [flat_append, flat_cons]
  rw [hcur] at hg hD
  unfold InsPost
  rw [e1, e2]
  have lD : (flat (R.take p)).length + ((flat (R.drop p)).length + D.length) = cap * 2 := by rw [← hD]; simp
  generalize flat (R.take p) = A at *
  generalize flat (R.drop p) = X at *
  generalize R.length = n at *
  clear hcur e1 e2 hw hr hD
  generalize hY : rcells r = Y at *
  clear hY
  have hDl : 2 ≤ D.length := by rw [lA, lX] at lD; omega
  have hov := fun la ca lb cb => overlaps_no w nb g ((p + 1) * 2) la ca lb cb Y.toArray.size _ _ _ hne (shape_row hn) (shape_row hg) (by rw [List.size_toArray]; simp only [List.length_append]; omega) (froz_row hn) (froz_row hn)
  have hlt : (p : Int) < n := by omega
  have hpn : ¬ (p : Int) = n := by omega
  have hcc : ¬ (cap : Int) < (n : Int) + 1 := by omega
  have hc1 : ¬ cap = p + 1 := by omega
  have hc0 : ¬ cap = p := by omega
  have hcap63 : cap ≤ 9223372036854775807 := by unfold maxLen at hcm; omega
  have hx1 : ∀ j u, X[j]? = some u → w.cell? ((⟨g, p * 2, none⟩ : Addr).add j) = some u := add_cells_off (fun j u hj => by
    rw [cell_cur hg, ← lA, List.getElem?_append_right (by omega), Nat.add_sub_cancel_left, List.getElem?_append_left (List.getElem?_eq_some_iff.1 hj).1]
    exact hj)
  have hy1 : ∀ j u, Y[j]? = some u → w.cell? ((⟨nb, 0, none⟩ : Addr).add j) = some u := add_cells (fun j u hj => by rw [cell_cur hn]; exact hj)
  have HG := Lib.hid hg
  have hgd : w.drew.heap[g]? = some (.cells (A ++ (X ++ D)).toArray 132 (0, 0)) := hg
  have hxd : ∀ j u, X[j]? = some u → w.drew.cell? ((⟨g, p * 2, none⟩ : Addr).add j) = some u := hx1
  have HGD := Lib.hid hgd
  have HXD := Lib.hid hxd
  have HN := Lib.hid hn
  have HX := Lib.hid hx1
  have HY := Lib.hid hy1
  have LA := Lib.hid lA
  have LX := Lib.hid lX
  have LD := Lib.hid lD
  have LR := Lib.hid hlr
  have OX := Lib.hid oX
  have OY := Lib.hid h1
  have HI := Lib.hid hi
  have HZ := Lib.hid hz1
  have HDL := Lib.hid hDl
  clear hg hgd hxd hn hx1 hy1 lA lX lD hlr oX h1 hi hz0 hz1 hz2 hDl
  go_enter Tryd.func63, Tryd.ntmps63
  go_upto_region 15 with (simp only [hov])
  have LAo := LA.out
  have LXo := LX.out
  have LDo := LD.out
  have hDl2 := HDL.out
  have LRo := LR.out
  have hn1 : ∀ s d : Nat, s = n + 1 - p → d = n + 1 - (p + 1) → X.length = Nat.min s d * i0.size := by
    intro s d hs hd
    rw [LXo, HZ.out, show Nat.min s d = d from Nat.min_eq_right (by omega)]
    congr 1; omega
  have hn2 : ∀ s d : Nat, s = 1 → d = n + 1 - p → Y.length = Nat.min s d * i0.size := by
    intro s d hs hd
    rw [LRo, HZ.out, show Nat.min s d = s from Nat.min_eq_left (by omega)]
    omega
  have hf1 : (p + 1) * 2 + X.length ≤ (A ++ (X ++ D)).length := by simp only [List.length_append]; omega
  have hf2 : p * 2 + Y.length ≤ (splice (A ++ (X ++ D)) ((p + 1) * 2) X).length := by
    rw [length_splice' _ _ _ hf1]; simp only [List.length_append]; omega
  have hsp : splice (splice (A ++ (X ++ D)) ((p + 1) * 2) X) (p * 2) Y = A ++ (Y ++ (X ++ D.drop Y.length)) := by
    have := splice_up A X Y D (by omega)
    rw [LAo, LRo] at this
    rw [LRo, ← this, show (p + 1) * 2 = p * 2 + 2 by omega]
  have hq1 : IntKind.i64.wrap ((p : Int) + 1) = (p : Int) + 1 := IntWalk.i64_in _ (by omega)
  have hq2 : ((p : Int) + 1).toNat = p + 1 := by omega
  have hq3 : (0 : Int) ≤ (p : Int) + 1 := by omega
  have hq4 : p ≤ n := by omega
  have hq5 : (p : Int) ≤ (n : Int) + 1 := by omega
  have HN1 := Lib.hid hn1
  have HN2 := Lib.hid hn2
  have HF1 := Lib.hid hf1
  have HF2 := Lib.hid hf2
  have HSP := Lib.hid hsp
  clear hn1 hn2 hf1 hf2 hsp hDl2 LAo LXo LDo LRo
  go_region_law (refine step_copy_rowN rfl _ _ 92 92 rfl 132 i0 Tryd.underlying92 HI.out g ((p + 1) * 2) (n - p) (cap - (p + 1)) ⟨g, p * 2, none⟩ (n + 1 - p) (cap - p) (by simp [Act.eval, Act.put]) (by simp [Act.eval, Act.put]) (A ++ (X ++ D)) 132 HGD.out X (HN1.out (n + 1 - p) (n - p) rfl (by omega)) HXD.out HF1.out OX.out ?_; intro w1 hw1)
  obtain ⟨w1, hw1⟩ : ∃ x, x = w.drew.setRow g (splice (A ++ (X ++ D)) ((p + 1) * 2) X).toArray := ⟨_, rfl⟩
  rw [← hw1]
  have hg1 : w1.heap[g]? = some (.cells (splice (A ++ (X ++ D)) ((p + 1) * 2) X).toArray 132 (0, 0)) := by rw [hw1]; exact setRow_heap w.drew g _ _ _ _ HGD.out
  have hn1 : w1.heap[nb]? = some (.cells Y.toArray 132 (0, 0)) := by rw [hw1]; exact (setRow_other w.drew g nb _ hne).trans HN.out
  have hgr1 : w.grownBy w1 (some g) := by rw [hw1]; exact grown_trans (⟨rfl, rfl, rfl, Nat.le_refl _, fun _ _ _ => rfl⟩ : w.grownBy w.drew (some g)) (grown_setRow _ _ _)
  have hy1 : ∀ j u, Y[j]? = some u → w1.cell? ((⟨nb, 0, none⟩ : Addr).add j) = some u := add_cells (fun j u hj => by rw [cell_cur hn1]; exact hj)
  have HG1 := Lib.hid hg1
  have HGR := Lib.hid hgr1
  have HY1 := Lib.hid hy1
  clear hw1 hg1 hn1 hgr1 hy1 hov
  go_wp2_with (first | refine wpList_copy_rowN rfl _ _ 92 92 rfl 132 i0 Tryd.underlying92 HI.out g (p * 2) (n + 1 - p) (cap - p) ⟨nb, 0, none⟩ 1 1 (by simp [Act.eval, Act.put]) (by simp [Act.eval, Act.put]) (splice (A ++ (X ++ D)) ((p + 1) * 2) X) 132 HG1.out Y (HN2.out 1 (n + 1 - p) rfl rfl) HY1.out HF2.out OY.out ?_; intro w2 hw2; have hg2 : w2.heap[g]? = some (.cells (splice (splice (A ++ (X ++ D)) ((p + 1) * 2) X) (p * 2) Y).toArray 132 (0, 0)) := (by rw [hw2]; exact setRow_heap w1 g _ _ _ _ HG1.out); have HG2 := Lib.hid hg2; have HGR2 := Lib.hid (show w.grownBy w2 (some g) by rw [hw2]; exact grown_trans HGR.out (grown_setRow _ _ _)); clear hg2 hw2)
  go_ret
  have hg2 := HG2.out
  rw [HSP.out] at hg2
  have LAo := LA.out
  have LXo := LX.out
  have LDo := LD.out
  have LRo := LR.out
  have hDl2 := HDL.out
  have hlen : (A ++ (Y ++ X)).length = (n + 1) * 2 := by simp only [List.length_append]; omega
  refine ⟨_, rfl, ⟨hlen, .inr ⟨g, cap, _, rfl, hbg, hg2, hcap, hcm, ?_, ?_⟩⟩, HGR2.out, .inl rfl⟩
  · simp only [List.size_toArray, List.length_append, List.length_drop]; omega
  · rw [← hlen]
    have : A ++ (Y ++ (X ++ D.drop Y.length)) = (A ++ (Y ++ X)) ++ D.drop Y.length := by simp
    simp only [this]
    exact List.take_left
end TabS
end
/- A table by whole numbers, of any number of rows: slices.Insert of one row in the midst, where there is no room. -/
section
set_option linter.unusedVariables false
set_option linter.unusedSimpArgs false
open Go.ChangeShapes Go.WideShapes Go.ChangeAt Go.RowKit

namespace TabS
theorem zeros_len (k : Nat) : (Builtin.zeroCells (Value.cells (.agg #[.int .i64 0, .slice none 0 0])) k).toList.length = k * 2 := by
  rw [Array.length_toList, size_zeroCells]
  rfl
set_option maxRecDepth 100000 in
set_option maxHeartbeats 2000000 in
/-- There is no room. -/
theorem ins_grow (w : World) (base g cap p : Nat) (R : List Rw) (D : List Value) (r : Rw) (nb : Nat) (hw : Wide 2 R) (hr : Wide 2 [r]) (hl : R.length ≤ 1000000) (hp : p < R.length) (hle : R.length ≤ cap) (hcap : cap < R.length + 1) (hbw : base ≤ w.heap.size)
    (hg : w.heap[g]? = some (.cells (flat R ++ D).toArray 132 (0, 0)))
    (hn : w.heap[nb]? = some (.cells (rcells r).toArray 132 (0, 0))) :
    Calls Tryd.prog 63 #[.slice (some ⟨g, 0, none⟩) R.length cap, .int .i64 p, .slice (some ⟨nb, 0, none⟩) 1 1] w fun e w' => ∃ v', e = .returned v' ∧ InsPost w w' base (.slice (some ⟨g, 0, none⟩) R.length cap) v' (R.take p ++ r :: R.drop p) := by
  obtain ⟨i0, hi, hz0, hz1, hz2⟩ := info_parts infoR
  have hlr : (rcells r).length = 2 := (hr r (by simp)).1
  have h1 : ∀ u ∈ rcells r, u.oneCell' = true := (hr r (by simp)).2
  have hcur : flat R ++ D = flat (R.take p) ++ (flat (R.drop p) ++ D) := by
    rw [← List.append_assoc, ← flat_append, List.take_append_drop]
  have lA : (flat (R.take p)).length = p * 2 := by rw [flat_length (hw.take p), List.length_take, Nat.min_eq_left (by omega)]
  have lX : (flat (R.drop p)).length = (R.length - p) * 2 := by rw [flat_length (hw.drop p), List.length_drop]
  have oX := flat_one (hw.drop p)
  have e2 : (R.take p ++ r :: R.drop p).length = R.length + 1 := by simp; omega
  have e1 : flat (R.take p ++ r :: R.drop p) = flat (R.take p) ++ (rcells r ++ flat (R.drop p)) := by rw [flat_append, flat_cons]
  rw [hcur] at hg
  unfold InsPost
  rw [e1, e2]
  generalize flat (R.take p) = A at *
  generalize flat (R.drop p) = X at *
  generalize R.length = n at *
  clear hcur e1 e2 hw hr
  generalize hY : rcells r = Y at *
  clear hY
  obtain rfl : cap = n := by omega
  have hgl : g < w.heap.size := (Array.getElem?_eq_some_iff.1 hg).1
  have hnl : nb < w.heap.size := (Array.getElem?_eq_some_iff.1 hn).1
  have hlt : (p : Int) < cap := by omega
  have hpn : ¬ (p : Int) = cap := by omega
  have hcc : (cap : Int) < (cap : Int) + 1 := by omega
  have hc0 : ¬ cap = p := by omega
  have ha1 : ∀ j u, A[j]? = some u → w.drew.cell? ((⟨g, 0, none⟩ : Addr).add j) = some u := add_cells (fun j u hj => by
    rw [cell_cur (w := w.drew) hg, List.getElem?_append_left (List.getElem?_eq_some_iff.1 hj).1]
    exact hj)
  have hap := Lib.run_append_grow_zeros (P := Tryd.prog) w 92 3 92 132 i0 (.agg #[.int .i64 0, .slice none 0 0]) .i64 .i64 Tryd.underlying92 Tryd.underlying3 hi hz0 (some ⟨g, 0, none⟩) p cap A
    (run_firstCells_some (P := Tryd.prog) w.drew i0.size p ⟨g, 0, none⟩ p cap A (by rw [lA, hz1]) ha1) (cap + 1 - p) (by omega) (by rw [hz1]; omega) (by omega) (by omega) (by rw [hz2]; omega) (by rw [hz2]; exact growslice_fits (by omega) (by omega))
  have hk1 : p + (cap + 1 - p) = cap + 1 := by omega
  have hk2 : ((cap + 1 - p : Nat) : Int) = (cap : Int) + 1 - (p : Int) := by omega
  rw [hk1, hk2] at hap
  have hgc1 := grownCap_ge w (cap + 1) cap 132
  have hgc2 : grownCap w (cap + 1) cap 132 ≤ maxLen := grownCap_le_maxLen w (cap + 1) cap 132 (by unfold maxLen; omega)
  generalize grownCap w (cap + 1) cap 132 = gc at hap hgc1 hgc2
  obtain ⟨Z1, hZ1⟩ : ∃ L, L = (Builtin.zeroCells (Value.cells (.agg #[.int .i64 0, .slice none 0 0])) (cap + 1 - p)).toList := ⟨_, rfl⟩
  obtain ⟨Z2, hZ2⟩ : ∃ L, L = (Builtin.zeroCells (Value.cells (.agg #[.int .i64 0, .slice none 0 0])) (gc - (cap + 1))).toList := ⟨_, rfl⟩
  have lZ1 : Z1.length = (cap + 1 - p) * 2 := by rw [hZ1]; exact zeros_len _
  have lZ2 : Z2.length = (gc - (cap + 1)) * 2 := by rw [hZ2]; exact zeros_len _
  have hLz : A.toArray ++ Builtin.zeroCells (Value.cells (.agg #[.int .i64 0, .slice none 0 0])) (cap + 1 - p) ++ Builtin.zeroCells (Value.cells (.agg #[.int .i64 0, .slice none 0 0])) (gc - (cap + 1)) = (A ++ (Z1 ++ Z2)).toArray := by
    apply Array.ext'
    simp [hZ1, hZ2]
  rw [hLz] at hap
  clear hZ1 hZ2 hLz
  obtain ⟨w1, hw1⟩ : ∃ x, x = w.drew.alloc (.cells (A ++ (Z1 ++ Z2)).toArray 132) := ⟨_, rfl⟩
  rw [← hw1] at hap
  have hG1 : w1.heap[w.heap.size]? = some (.cells (A ++ (Z1 ++ Z2)).toArray 132 (0, 0)) := by rw [hw1]; exact heap_alloc_new w.drew _
  have hO1 : ∀ k, k < w.heap.size → w1.heap[k]? = w.heap[k]? := fun k hk => by rw [hw1]; exact heap_alloc_old w.drew _ hk
  have hgr1 : w.grownBy w1 (some g) := by rw [hw1]; exact grown_trans (⟨rfl, rfl, rfl, Nat.le_refl _, fun _ _ _ => rfl⟩ : w.grownBy w.drew (some g)) (World.grownBy_alloc _ _ _)
  generalize hG : w.heap.size = G at *
  have hg1 := (hO1 g hgl).trans hg
  have hn1 := (hO1 nb hnl).trans hn
  have hy1 : ∀ j u, Y[j]? = some u → w1.cell? ((⟨nb, 0, none⟩ : Addr).add j) = some u := add_cells (fun j u hj => by rw [cell_cur hn1]; exact hj)
  have hn1' : ∀ s d : Nat, s = 1 → d = cap + 1 - p → Y.length = Nat.min s d * i0.size := by
    intro s d hs hd
    rw [hlr, hz1, hs, hd, show Nat.min 1 (cap + 1 - p) = 1 from Nat.min_eq_left (by omega)]
  have hn2' : ∀ s d : Nat, s = cap - p → d = cap + 1 - (p + 1) → X.length = Nat.min s d * i0.size := by
    intro s d hs hd
    rw [lX, hz1, hs, hd, show Nat.min (cap - p) (cap + 1 - (p + 1)) = cap - p from Nat.min_eq_left (by omega)]
  have hB : Z1 = Z1.take 2 ++ Z1.drop 2 := (List.take_append_drop _ _).symm
  have hs1 : splice (A ++ (Z1 ++ Z2)) (p * 2) Y = (A ++ Y) ++ (Z1.drop 2 ++ Z2) := by
    have := splice_at A (Z1.take 2) Y (Z1.drop 2 ++ Z2) (by rw [List.length_take, hlr]; omega)
    rw [lA, ← List.append_assoc (Z1.take 2), List.take_append_drop] at this
    rw [this, List.append_assoc]
  have hs2 : splice ((A ++ Y) ++ (Z1.drop 2 ++ Z2)) ((p + 1) * 2) X = (A ++ Y) ++ (X ++ Z2) := by
    have := splice_at (A ++ Y) (Z1.drop 2) X Z2 (by rw [List.length_drop]; omega)
    rw [List.length_append, lA, hlr] at this
    rw [← this, show (p + 1) * 2 = p * 2 + 2 by omega]
  have hf1 : p * 2 + Y.length ≤ (A ++ (Z1 ++ Z2)).length := by simp only [List.length_append]; omega
  have hf2 : (p + 1) * 2 + X.length ≤ ((A ++ Y) ++ (Z1.drop 2 ++ Z2)).length := by simp only [List.length_append, List.length_drop]; omega
  have hq1 : IntKind.i64.wrap ((p : Int) + 1) = (p : Int) + 1 := IntWalk.i64_in _ (by omega)
  have hq2 : ((p : Int) + 1).toNat = p + 1 := by omega
  have hq3 : (0 : Int) ≤ (p : Int) + 1 := by omega
  have hq4 : p ≤ cap := by omega
  have hq5 : (p : Int) ≤ (cap : Int) + 1 := by omega
  have hq6 : ¬ gc = p := by omega
  have hq7 : ¬ gc = p + 1 := by omega
  have hq8 : gc ≤ 9223372036854775807 := by unfold maxLen at hgc2; omega
  have hlen : ((A ++ Y) ++ X).length = (cap + 1) * 2 := by simp only [List.length_append]; omega
  have hlenZ : (((A ++ Y) ++ X) ++ Z2).length = gc * 2 := by simp only [List.length_append]; omega
  have hxx : ∀ j u, X[j]? = some u → w.cell? ((⟨g, p * 2, none⟩ : Addr).add j) = some u := add_cells_off (fun j u hj => by
    rw [cell_cur hg, ← lA, List.getElem?_append_right (by omega), Nat.add_sub_cancel_left, List.getElem?_append_left (List.getElem?_eq_some_iff.1 hj).1]
    exact hj)
  have HAP := Lib.hid hap
  have HG1 := Lib.hid hG1
  have HI := Lib.hid hi
  have HY1 := Lib.hid hy1
  have HN1 := Lib.hid hn1'
  have HN2 := Lib.hid hn2'
  have HF1 := Lib.hid hf1
  rw [List.append_assoc] at hf2 hs2
  have HF2 := Lib.hid hf2
  have HS1 := Lib.hid hs1
  have HS2 := Lib.hid hs2
  have OY := Lib.hid h1
  have OX := Lib.hid oX
  have HLEN := Lib.hid hlen
  have HLENZ := Lib.hid hlenZ
  have HXX := Lib.hid hxx
  have HO1 := Lib.hid hO1
  have HGR := Lib.hid hgr1
  have HGS := Lib.hid hG
  clear hap hG1 hi hy1 hn1' hn2' hf1 hf2 hs1 hs2 h1 oX hlen hlenZ hxx hO1 hgr1 hG hg1 hn1 hg hn ha1 hw1 hB lA lX lZ1 lZ2 hlr hz0 hz1 hz2 hk1 hk2
  go_enter Tryd.func63, Tryd.ntmps63
  go_upto_region 11 with (first
    | (at_builtin; refine Lib.wpList_append_run _ rfl _ _ 92 3 rfl (.slice (some ⟨g, 0, none⟩) p cap) (.int .i64 ((cap : Int) + 1 - (p : Int))) (by simp [Act.eval, Act.put]) (by simp [Act.eval, Act.put]) _ _ HAP.out ?_)
    | (refine wpList_copy_rowN rfl _ _ 92 92 rfl 132 i0 Tryd.underlying92 HI.out G (p * 2) (cap + 1 - p) (gc - p) ⟨nb, 0, none⟩ 1 1 (by simp [Act.eval, Act.put]) (by simp [Act.eval, Act.put]) (A ++ (Z1 ++ Z2)) 132 HG1.out Y (HN1.out 1 (cap + 1 - p) rfl rfl) HY1.out HF1.out OY.out ?_; intro w2 hw2; have hg2 : w2.heap[G]? = some (.cells (splice (A ++ (Z1 ++ Z2)) (p * 2) Y).toArray 132 (0, 0)) := (by rw [hw2]; exact setRow_heap w1 G _ _ _ _ HG1.out); have HG2 := Lib.hid hg2; have HGR2 := Lib.hid (show w.grownBy w2 (some g) by rw [hw2]; exact grown_fresh HGR.out (grown_setRow _ _ _) (Nat.le_of_eq HGS.out)); have HO2 := Lib.hid (show ∀ k, k < G → w2.heap[k]? = w.heap[k]? by intro k hk; rw [hw2]; exact (setRow_other w1 G k _ (by omega)).trans (HO1.out k hk)); clear hg2 hw2))
  have hg2 := HG2.out
  rw [HS1.out] at hg2
  have hgd : w2.drew.heap[G]? = some (.cells ((A ++ Y) ++ (Z1.drop 2 ++ Z2)).toArray 132 (0, 0)) := hg2
  have hxd : ∀ j u, X[j]? = some u → w2.drew.cell? ((⟨g, p * 2, none⟩ : Addr).add j) = some u := fun j u hj => by
    have hh : w2.drew.heap[g]? = w.heap[g]? := HO2.out g hgl
    have hbk : ((⟨g, p * 2, none⟩ : Addr).add j).block = g := by unfold Addr.add; split <;> rfl
    exact (World.cell?_of_block (by rw [hbk]; exact hh)).trans (HXX.out j u hj)
  rw [List.append_assoc] at hgd
  have HGD := Lib.hid hgd
  have HXD := Lib.hid hxd
  clear hg2 hgd hxd
  go_region_law (refine step_copy_rowN rfl _ _ 92 92 rfl 132 i0 Tryd.underlying92 HI.out G ((p + 1) * 2) (cap - p) (gc - (p + 1)) ⟨g, p * 2, none⟩ (cap - p) (cap - p) (by simp [Act.eval, Act.put]) (by simp [Act.eval, Act.put]) (A ++ (Y ++ (Z1.drop 2 ++ Z2))) 132 HGD.out X (HN2.out (cap - p) (cap - p) rfl (by omega)) HXD.out HF2.out OX.out ?_; intro w3 hw3)
  obtain ⟨w3, hw3⟩ : ∃ x, x = w2.drew.setRow G (splice (A ++ (Y ++ (Z1.drop 2 ++ Z2))) ((p + 1) * 2) X).toArray := ⟨_, rfl⟩
  rw [← hw3]
  have hg3 : w3.heap[G]? = some (.cells (((A ++ Y) ++ X) ++ Z2).toArray 132 (0, 0)) := by
    rw [hw3, List.append_assoc (A ++ Y), ← HS2.out]; exact setRow_heap w2.drew G _ _ _ _ HGD.out
  have hgr3 : w.grownBy w3 (some g) := by rw [hw3]; exact grown_fresh (grown_drew HGR2.out) (grown_setRow _ _ _) (by have := HGS.out; omega)
  have HG3 := Lib.hid hg3
  have HGR3 := Lib.hid hgr3
  clear hw3 hg3 hgr3 hq1 hq2 hq3
  go_wp2
  go_ret
  refine ⟨_, rfl, ⟨by rw [← List.append_assoc]; exact HLEN.out, .inr ⟨G, gc, _, rfl, by have := HGS.out; omega, HG3.out, hgc1, hgc2, ?_, ?_⟩⟩, HGR3.out, .inr ⟨G, rfl, by have := HGS.out; omega⟩⟩
  · rw [List.size_toArray]; exact HLENZ.out
  · rw [← HLEN.out, ← List.append_assoc]
    simp only []
    exact List.take_left
end TabS
end
/- A table by whole numbers, of any number of rows: slices.Delete of one row. -/
section
set_option linter.unusedVariables false
set_option linter.unusedSimpArgs false
open Go.ChangeShapes Go.WideShapes Go.ChangeAt Go.RowKit

namespace TabS
theorem zero_run (w : World) : (zeroValue 132).run Tryd.prog w = .ok (.agg #[.int .i64 0, .slice none 0 0]) w := by
  obtain ⟨i0, hi, hz0, hz1, hz2⟩ := info_parts infoR
  simp [zeroValue, typeInfo, hi, hz0]
theorem zone : ∀ u ∈ (Value.cells (.agg #[.int .i64 0, .slice none 0 0])).toList, u.oneCell' = true := by
  intro u hu
  have h : (Value.cells (.agg #[.int .i64 0, .slice none 0 0])).toList.all (·.oneCell') = true := by decide +kernel
  exact List.all_eq_true.1 h u hu
end TabS
end
/- A table by whole numbers, of any number of rows: find, Get, Add, Drop. -/
section
set_option linter.unusedVariables false
set_option linter.unusedSimpArgs false
open Go.ChangeShapes Go.WideShapes Go.ChangeAt Go.RowKit

namespace TabS
theorem bsf_none (w : World) (c : Int) (k : Int) (f : Value) : Calls Tryd.prog 82 #[.slice none 0 0, .int .i64 k, f] w fun e w' => e = .returned (.tuple #[.int .i64 0, .bool false]) ∧ w = w' := by
  go_enter Tryd.func82, Tryd.ntmps82
  go_wp2
  refine wp_loop_rounds 1 ?_
  rw [rounds_succ]
  go_wp2
  go_ret2
  exact ⟨by simp, rfl⟩
theorem ins_any (w : World) (base : Nat) (v : Value) (R : List Rw) (r : Rw) (nb p : Nat) (hw : Wide 2 R) (hr : Wide 2 [r]) (hl : R.length ≤ 1000000) (hp : p ≤ R.length) (hown : w.ownsRow base 132 2 v R.length (flat R)) (hb : base ≤ w.heap.size) (hne : v.ownBlock ≠ some nb)
    (hn : w.heap[nb]? = some (.cells (rcells r).toArray 132 (0, 0))) :
    Calls Tryd.prog 63 #[v, .int .i64 p, .slice (some ⟨nb, 0, none⟩) 1 1] w fun e w' => ∃ v', e = .returned v' ∧ InsPost w w' base v v' (R.take p ++ r :: R.drop p) := by
  by_cases h : p = R.length
  · subst h
    rw [List.take_length, List.drop_length]
    exact ins_end w base v R r nb hw hr hl hown hb hn
  · rcases hown.2 with ⟨_, h0⟩ | ⟨g, cap, cur, rfl, q1, q2, q3, q4, q5, q6⟩
    · omega
    · have hcur : cur = (flat R ++ cur.toList.drop (R.length * 2)).toArray := by
        rw [← q6, List.take_append_drop]
      have hlen : (flat R ++ cur.toList.drop (R.length * 2)).length = cap * 2 := by
        rw [← q5, ← Array.length_toList, ← q6, List.take_append_drop]
      rw [hcur] at q2
      by_cases hroom : R.length + 1 ≤ cap
      · exact ins_room w base g cap p R _ r nb hw hr hl (by omega) hroom q4 q1 q2 hlen (by intro e; subst e; exact hne rfl) hn
      · exact ins_grow w base g cap p R _ r nb hw hr hl (by omega) q3 (by omega) hb q2 hn
/-- A table at a place: its rows, in a slice v of its own. -/
structure TabAt (w : World) (b o base : Nat) (v : Value) (R : List Rw) : Prop where
  cell : w.cell? ⟨b, o, none⟩ = some v
  froz : w.frozen? ⟨b, o, none⟩ = false
  row : w.ownsRow base 132 2 v R.length (flat R)
  ne : b < base
  base : base ≤ w.heap.size
  wide : Wide 2 R
  asc : Asc R
  le : R.length ≤ 1000000
/-- What a table's own acts leave of the world. -/
structure Only (w w' : World) (b o : Nat) (v v' : Value) : Prop where
  os : w'.os = w.os
  tape : w'.tape = w.tape
  output : w'.output = w.output
  size : w.heap.size ≤ w'.heap.size
  block : ∀ k, k < w.heap.size → k ≠ b → v.ownBlock ≠ some k → w'.heap[k]? = w.heap[k]?
  cells : ∀ j, j ≠ o → w'.cell? ⟨b, j, none⟩ = w.cell? ⟨b, j, none⟩
  frozs : ∀ j, w'.frozen? ⟨b, j, none⟩ = w.frozen? ⟨b, j, none⟩
  foot : v'.ownBlock = v.ownBlock ∨ ∃ g, v'.ownBlock = some g ∧ w.heap.size ≤ g
theorem row_of_block {w w' : World} {base : Nat} {e : TypeId} {s : Nat} {v : Value} {n : Nat} {xs : List Value} (h : w.ownsRow base e s v n xs) (k : ∀ g, v.ownBlock = some g → w'.heap[g]? = w.heap[g]?) : w'.ownsRow base e s v n xs := by
  refine ⟨h.1, ?_⟩
  rcases h.2 with h2 | ⟨g, cap, cur, rfl, q1, q2, q3⟩
  · exact .inl h2
  · exact .inr ⟨g, cap, cur, rfl, q1, (k g rfl).trans q2, q3⟩
theorem TabAt.lt {w : World} {b o base : Nat} {v : Value} {R : List Rw} (h : TabAt w b o base v R) : b < w.heap.size := Nat.lt_of_lt_of_le h.ne h.base
theorem TabAt.own {w : World} {b o base g : Nat} {v : Value} {R : List Rw} (h : TabAt w b o base v R) (hg : v.ownBlock = some g) : base ≤ g ∧ g < w.heap.size := h.row.lt g hg
theorem TabAt.of {w w' : World} {b o base : Nat} {v : Value} {R : List Rw} (h : TabAt w b o base v R) (hs : w.heap.size ≤ w'.heap.size) (hc : w'.cell? ⟨b, o, none⟩ = w.cell? ⟨b, o, none⟩) (hf : w'.frozen? ⟨b, o, none⟩ = w.frozen? ⟨b, o, none⟩) (hg : ∀ g, v.ownBlock = some g → w'.heap[g]? = w.heap[g]?) : TabAt w' b o base v R :=
  ⟨hc.trans h.cell, hf.trans h.froz, row_of_block h.row hg, h.ne, Nat.le_trans h.base hs, h.wide, h.asc, h.le⟩
theorem TabAt.call {w w' : World} {b o base : Nat} {v : Value} {R : List Rw} (h : TabAt w b o base v R) (hb : Below w.heap.size w w') : TabAt w' b o base v R :=
  h.of hb.size (hb.cell (p := ⟨b, o, none⟩) h.lt) (hb.frozen (p := ⟨b, o, none⟩) h.lt) (fun g hg => hb.block g (h.own hg).2)
/-- The rows, as the search wants them. -/
theorem TabAt.form {w : World} {b o base : Nat} {v : Value} {R : List Rw} (h : TabAt w b o base v R) : (v = .slice none 0 0 ∧ R = []) ∨ ∃ g c, v = .slice (some ⟨g, 0, none⟩) R.length c ∧ g < w.heap.size ∧ base ≤ g ∧ R.length ≤ c ∧ c ≤ maxLen ∧ RowsIn w g R := by
  rcases h.row.2 with ⟨h1, h2⟩ | ⟨g, cap, cur, rfl, q1, q2, q3, q4, q5, q6⟩
  · exact .inl ⟨h1, List.length_eq_zero_iff.1 h2⟩
  · refine .inr ⟨g, cap, rfl, (Array.getElem?_eq_some_iff.1 q2).1, q1, q3, q4, fun i j r u hi hj => ?_⟩
    have e := h.row.cells (g := g) rfl _ _ (flat_get h.wide hi hj)
    have ha : ((⟨g, 0, none⟩ : Addr).add (i * 2 + j)) = ⟨g, i * 2 + j, none⟩ := by unfold Addr.add; split <;> simp_all
    rwa [ha] at e
set_option maxRecDepth 100000 in
set_option maxHeartbeats 1000000 in
theorem find_any (w : World) (b o base : Nat) (v : Value) (R : List Rw) (k : Int) (h : TabAt w b o base v R) :
    Calls Tryd.prog 62 #[.pointer (some ⟨b, o, none⟩), .int .i64 k] w fun e w' => e = .returned (.tuple #[.int .i64 (posR R k : Nat), .bool (hasR R k)]) ∧ Below w.heap.size w w' := by
  have hc := h.cell
  have HT := Lib.hid h
  rcases h.form with ⟨rfl, rfl⟩ | ⟨g, c, rfl, hg, _, _, _, hr⟩
  · clear h
    go_enter Tryd.func62, Tryd.ntmps62
    go_wp2_with (go_at_call 82; refine (bsf_none _ 0 _ _).mono ?_; rintro e w1 ⟨rfl, rfl⟩)
    go_ret2
    exact ⟨rfl, Below.refl _ _⟩
  · have HR := Lib.hid hr
    clear h hr
    go_enter Tryd.func62, Tryd.ntmps62
    go_wp2_with (go_at_call 82; refine (bsf_any _ g c R k hg HT.out.wide HT.out.asc HT.out.le HR.out).mono ?_; rintro e w1 ⟨rfl, hb1⟩)
    go_ret2
    exact ⟨rfl, hb1⟩
/-- Where a row's value lies. -/
def placeV (v : Value) (p : Nat) : Bool → Value
  | true => .pointer (v.ownBlock.map fun g => ⟨g, p * 2 + 1, none⟩)
  | false => .pointer none
set_option maxRecDepth 100000 in
set_option maxHeartbeats 1000000 in
theorem get_any (w : World) (b o base : Nat) (v : Value) (R : List Rw) (k : Int) (h : TabAt w b o base v R) :
    Calls Tryd.prog 64 #[.pointer (some ⟨b, o, none⟩), .int .i64 k] w fun e w' => e = .returned (.tuple #[placeV v (posR R k) (hasR R k), .bool (hasR R k)]) ∧ Below w.heap.size w w' := by
  have HT := Lib.hid h
  cases hh : hasR R k with
  | false =>
    have HH := Lib.hid hh
    clear h hh
    go_enter Tryd.func64, Tryd.ntmps64
    go_wp2_with (go_at_call 62; refine (find_any _ b o base v R k HT.out).mono ?_; rw [HH.out]; rintro e w1 ⟨rfl, hb1⟩)
    go_ret2
    exact ⟨rfl, hb1⟩
  | true =>
    obtain ⟨x, hx, _⟩ := (hasR_at h.asc).1 hh
    have hpl := (List.getElem?_eq_some_iff.1 hx).1
    have hle := h.le
    have HH := Lib.hid hh
    have hc := h.cell
    have hbl := h.lt
    rcases h.form with ⟨rfl, rfl⟩ | ⟨g, c, rfl, hg, _, _, _, hr⟩
    · simp at hx
    · clear h hh hr hx
      generalize hp : posR R k = p at *
      have HP := Lib.hid hp
      clear hp
      go_enter Tryd.func64, Tryd.ntmps64
      go_wp2_with (go_at_call 62; refine (find_any _ b o base _ R k HT.out).mono ?_; rw [HH.out, HP.out]; rintro e w1 ⟨rfl, hb1⟩; obtain ⟨hc1, hf1⟩ := bcell hb1; have hz1 : w.heap.size ≤ w1.heap.size := hb1.size)
      go_ret2
      exact ⟨rfl, hb1⟩
end TabS
end
/- A table by whole numbers, of any number of rows: Add. -/
section
set_option linter.unusedVariables false
set_option linter.unusedSimpArgs false
open Go.ChangeShapes Go.WideShapes Go.ChangeAt Go.RowKit

namespace TabS
theorem asc_ins {R : List Rw} {r : Rw} (hA : Asc R) (hn : hasR R r.1 = false) : Asc (insR R r) := by
  obtain ⟨h1, h2⟩ := posR_facts (k := r.1) hA
  have hne : ∀ x ∈ R, x.1 ≠ r.1 := by
    intro x hx e
    have : hasR R r.1 = true := by unfold hasR; rw [List.any_eq_true]; exact ⟨x, hx, by simpa using e⟩
    rw [hn] at this
    cases this
  unfold insR Asc
  rw [List.map_append, List.map_cons, List.pairwise_append, List.pairwise_cons]
  have hT : ∀ x ∈ (R.take (posR R r.1)).map Prod.fst, x < r.1 := by
    intro x hx
    obtain ⟨y, hy, rfl⟩ := List.mem_map.1 hx
    obtain ⟨j, hj⟩ := List.getElem?_of_mem hy
    have hjl := (List.getElem?_eq_some_iff.1 hj).1
    rw [List.length_take] at hjl
    rw [List.getElem?_take_of_lt (by omega)] at hj
    exact h1 j y (by omega) hj
  have hD : ∀ x ∈ (R.drop (posR R r.1)).map Prod.fst, r.1 < x := by
    intro x hx
    obtain ⟨y, hy, rfl⟩ := List.mem_map.1 hx
    obtain ⟨j, hj⟩ := List.getElem?_of_mem hy
    rw [List.getElem?_drop] at hj
    have := h2 _ y (by omega) hj
    have := hne y (List.mem_of_getElem? hj)
    omega
  refine ⟨?_, ⟨hD, ?_⟩, ?_⟩
  · rw [List.map_take]
    exact hA.sublist (List.take_sublist _ _)
  · rw [List.map_drop]
    exact hA.sublist (List.drop_sublist _ _)
  · intro x hx y hy
    rcases List.mem_cons.1 hy with rfl | hy
    · exact hT x hx
    · exact Int.lt_trans (hT x hx) (hD y hy)
theorem asc_del {R : List Rw} {k : Int} (hA : Asc R) : Asc (delR R k) := by
  unfold delR Asc
  rw [List.map_append]
  have : (R.take (posR R k)).map Prod.fst ++ (R.drop (posR R k + 1)).map Prod.fst = (R.map Prod.fst).take (posR R k) ++ (R.map Prod.fst).drop (posR R k + 1) := by rw [List.map_take, List.map_drop]
  rw [this]
  refine hA.sublist ?_
  conv => rhs; rw [← List.take_append_drop (posR R k) (R.map Prod.fst)]
  refine List.Sublist.append (List.Sublist.refl _) ?_
  rw [← List.drop_drop]
  exact List.drop_sublist _ _
theorem len_ins {R : List Rw} {r : Rw} : (insR R r).length = R.length + 1 := by
  unfold insR
  have := posR_le R r.1
  simp
  omega
theorem wide_ins {C : Nat} {R : List Rw} {r : Rw} (h : Wide C R) (hr : Wide C [r]) : Wide C (insR R r) := by
  intro x hx
  unfold insR at hx
  rcases List.mem_append.1 hx with q | q
  · exact h x (List.mem_of_mem_take q)
  · rcases List.mem_cons.1 q with rfl | q
    · exact hr _ (by simp)
    · exact h x (List.mem_of_mem_drop q)
theorem wide_del {C : Nat} {R : List Rw} {k : Int} (h : Wide C R) : Wide C (delR R k) := (h.take _).append (h.drop _)
/-- The table behind a store of its slice. -/
theorem tab_store {w w2 : World} {b o base : Nat} {v v' : Value} {R R' : List Rw} (h : TabAt w b o base v R) (hb : b < w2.heap.size)
    (hcell : w2.cell? ⟨b, o, none⟩ = w.cell? ⟨b, o, none⟩) (hf : w2.frozen? ⟨b, o, none⟩ = false) (hr : w2.ownsRow base 132 2 v' R'.length (flat R')) (hsz : w.heap.size ≤ w2.heap.size)
    (hW : Wide 2 R') (hA : Asc R') (hl : R'.length ≤ 1000000) : TabAt (w2.setCell ⟨b, o, none⟩ v') b o base v' R' := by
  refine ⟨?_, ?_, row_of_block hr (fun g hg => ?_), h.ne, by have := h.base; simp; omega, hW, hA, hl⟩
  · have := h.cell
    rw [← hcell] at this
    simp [go_sem, this, hf]
  · simpa [go_sem] using hf
  · have := (hr.lt g hg).1
    have := h.ne
    exact Go.heap_setCell_other _ _ _ _ (by simp; omega)
set_option maxRecDepth 100000 in
set_option maxHeartbeats 2000000 in
theorem add_no (w : World) (b o base : Nat) (v : Value) (R : List Rw) (k : Int) (sa : Option Addr) (sn sc : Nat) (h : TabAt w b o base v R) (hh : hasR R k = true) :
    Calls Tryd.prog 42 #[.pointer (some ⟨b, o, none⟩), .int .i64 k, .slice sa sn sc] w fun e w' => e = .returned (.bool false) ∧ Below w.heap.size w w' := by
  have HT := Lib.hid h
  have HH := Lib.hid hh
  clear h hh
  go_enter Tryd.func42, Tryd.ntmps42
  go_wp2_with (go_at_call 62; refine (find_any _ b o base v R k HT.out).mono ?_; rw [HH.out]; rintro e w1 ⟨rfl, hb1⟩)
  go_ret
  exact ⟨rfl, hb1⟩
set_option maxRecDepth 100000 in
set_option maxHeartbeats 2000000 in
theorem add_yes (w : World) (b o base : Nat) (v : Value) (R : List Rw) (k : Int) (sa : Option Addr) (sn sc : Nat) (h : TabAt w b o base v R) (hh : hasR R k = false) (hl : R.length < 1000000) (hx : Wide 2 [(k, [.slice sa sn sc])]) :
    Calls Tryd.prog 42 #[.pointer (some ⟨b, o, none⟩), .int .i64 k, .slice sa sn sc] w fun e w' => e = .returned (.bool true) ∧ ∃ v', TabAt w' b o base v' (insR R (k, [.slice sa sn sc])) ∧ Only w w' b o v v' := by
  have HT := Lib.hid h
  have HH := Lib.hid hh
  have hbl := h.lt
  have HX := Lib.hid hx
  clear h hh hx
  go_enter Tryd.func42, Tryd.ntmps42
  go_upto_region 4 with (go_at_call 62; refine (find_any _ b o base v R k HT.out).mono ?_; rw [HH.out]; rintro e w1 ⟨rfl, hb1⟩)
  have hbz := hb1.size
  have hT1 : TabAt w1 b o base v R := HT.out.call hb1
  have hB1 : Below w.heap.size w w1 := hb1
  have hcb := hT1.cell
  have hfb := hT1.froz
  have hbl1 := hT1.lt
  have hins : ∀ ob, ob = Obj.cells #[.int .i64 k, .slice sa sn sc] 132 →
      Calls Tryd.prog 63 #[v, .int .i64 (posR R k : Nat), .slice (some ⟨w1.heap.size, 0, none⟩) 1 1] (w1.alloc ob) fun e w' =>
        ∃ g c, e = .returned (.slice (some ⟨g, 0, none⟩) (R.length + 1) c) ∧ TabAt (w'.setCell ⟨b, o, none⟩ (.slice (some ⟨g, 0, none⟩) (R.length + 1) c)) b o base (.slice (some ⟨g, 0, none⟩) (R.length + 1) c) (insR R (k, [.slice sa sn sc])) ∧
          Only w (w'.setCell ⟨b, o, none⟩ (.slice (some ⟨g, 0, none⟩) (R.length + 1) c)) b o v (.slice (some ⟨g, 0, none⟩) (R.length + 1) c) ∧ w'.cell? ⟨b, o, none⟩ = some v ∧ w'.frozen? ⟨b, o, none⟩ = false ∧ b < w'.heap.size := by
    rintro ob rfl
    have hbo : Below w1.heap.size w1 (w1.alloc (Obj.cells #[.int .i64 k, .slice sa sn sc] 132)) := bal (Below.refl _ _) _
    have hT2 := hT1.call hbo
    have hown : v.ownBlock ≠ some w1.heap.size := by
      intro e
      have := (hT1.own e).2
      omega
    refine (ins_any _ base v R (k, [.slice sa sn sc]) w1.heap.size (posR R k) hT2.wide HX.out hT2.le (posR_le R k) hT2.row hT2.base hown (heap_alloc_new w1 _)).mono ?_
    rintro e w2 ⟨v', rfl, hrow, hgr, hat⟩
    have hR' : R.take (posR R k) ++ (k, [.slice sa sn sc]) :: R.drop (posR R k) = insR R (k, [.slice sa sn sc]) := rfl
    rw [hR'] at hrow
    have hfm := hrow
    rw [len_ins] at hfm
    obtain ⟨g, c, rfl⟩ := row_form hfm
    have hsz := hgr.size
    simp at hsz
    have hne : some b ≠ v.ownBlock := by
      intro e
      have := (hT1.own e.symm).1
      have := hT1.ne
      omega
    have hbk : w2.heap[b]? = w1.heap[b]? := (hgr.block b (by simp; omega) hne).trans (heap_alloc_old w1 _ hbl1)
    have hc2 : w2.cell? ⟨b, o, none⟩ = w1.cell? ⟨b, o, none⟩ := World.cell?_of_block hbk
    have hf2 : w2.frozen? ⟨b, o, none⟩ = w1.frozen? ⟨b, o, none⟩ := World.frozen?_of_block hbk
    refine ⟨g, c, rfl, ?_, ⟨hgr.os.trans hB1.os, hgr.tape.trans hB1.tape, hgr.output.trans hB1.output, ?_, ?_, ?_, ?_, ?_⟩, hc2.trans hcb, hf2.trans hfb, by omega⟩
    · have hrow2 := hrow
      rw [len_ins] at hrow
      exact tab_store hT1 (by omega) hc2 (hf2.trans hfb) (by rw [len_ins]; exact hrow) (by omega) (wide_ins hT1.wide HX.out) (asc_ins hT1.asc HH.out) (by rw [len_ins]; omega)
    · simp; omega
    · intro j hj hjb hjv
      rw [Go.heap_setCell_other _ _ _ _ (by simpa using hjb)]
      exact (hgr.block j (by simp; omega) (fun e => hjv e.symm)).trans ((heap_alloc_old w1 _ (by omega)).trans (hB1.block j hj))
    · intro j hj
      have : (w2.setCell ⟨b, o, none⟩ (.slice (some ⟨g, 0, none⟩) (R.length + 1) c)).cell? ⟨b, j, none⟩ = w2.cell? ⟨b, j, none⟩ := by
        apply World.cell?_setCell_other
        intro e
        simp at e
        try exact hj e.symm
      rw [this, show w2.cell? ⟨b, j, none⟩ = w1.cell? ⟨b, j, none⟩ from World.cell?_of_block hbk]
      exact hB1.cell (p := ⟨b, j, none⟩) hbl
    · intro j
      have : (w2.setCell ⟨b, o, none⟩ (.slice (some ⟨g, 0, none⟩) (R.length + 1) c)).frozen? ⟨b, j, none⟩ = w2.frozen? ⟨b, j, none⟩ := by simp [go_sem]
      rw [this, show w2.frozen? ⟨b, j, none⟩ = w1.frozen? ⟨b, j, none⟩ from World.frozen?_of_block hbk]
      exact hB1.frozen (p := ⟨b, j, none⟩) hbl
    · rcases hat with h | ⟨g2, h1, h2⟩
      · exact .inl h
      · refine .inr ⟨g2, h1, ?_⟩
        simp at h2
        omega
  have HINS := Lib.hid hins
  clear hins hT1 hB1
  go_wp2_with (go_at_call 63; with_reducible refine (HINS.out _ rfl).mono ?_; rintro e w2 ⟨g, c, rfl, hT3, hO3, hc3, hf3, hz3⟩; have HT3 := Lib.hid hT3; have HO3 := Lib.hid hO3; clear hT3 hO3)
  all_goals go_ret
  all_goals exact ⟨rfl, _, HT3.out, HO3.out⟩
end TabS
end
/- A table by whole numbers, of any number of rows: Drop. -/
section
set_option linter.unusedVariables false
set_option linter.unusedSimpArgs false
open Go.ChangeShapes Go.WideShapes Go.ChangeAt Go.RowKit

namespace TabS
theorem len_del {R : List Rw} {k : Int} (hA : Asc R) (h : hasR R k = true) : (delR R k).length + 1 = R.length := by
  obtain ⟨x, hx, _⟩ := (hasR_at hA).1 h
  have := (List.getElem?_eq_some_iff.1 hx).1
  unfold delR
  simp
  omega
end TabS
end
/- A range over a function that yields nothing. -/
section
set_option linter.unusedVariables false
open Go.RowKit Go.Shelf
variable {P : Program} {F : Fence} {n : Nat}

/-- A range over an iterator that comes to its end at once, having changed nothing that lay before. -/
theorem wpIn_range_none {g : Operand} {ps : Array Tmp} {assign body : Code} {Q : Exit → Act → World → Prop} {a : Act} {w : World}
    (hro : F.round = none) (h1 : 1 ≤ n) {gf : Nat} {lb : Array Value} (hg : a.eval g = .func (.func gf) #[] lb) (hFg : F.fn gf) (eg : ∀ args w, (callFunc gf args).run P w = .ok (.enter gf args) w)
    (hcall : ∀ (l : Nat) (W : World), Below w.heap.size w W → CallsIn F (n - 1) P gf (#[.func (.yield l) #[] #[]] ++ lb) W fun e W' => (∃ v, e = .returned v) ∧ W' = W)
    (hdone : ∀ (D : Nat) (W : World), w.heap.size ≤ D → Below w.heap.size w W → W.heap[D]? = some (.deferred (some [])) → Q .normal { a with defers := { target := .collected D, args := #[] } :: a.defers } W) :
    (Code.rangeFunc g ps assign body).wpIn F n P Q a w :=
  wpIn_rangeFunc_ownF (α := Empty) hro h1 hg hFg eg (encs := fun x => x.elim) (Kp := fun _ _ => True) (S := fun _ => True) (Sp := fun _ => False) (N := 0) (w0 := w)
    (fun l J Jx W hW hJ hJx hY h0 => (hcall l W hW).mono fun e W' ⟨hv, hw⟩ => ⟨hv, .inl ⟨[], trivial, hw ▸ h0⟩⟩)
    (fun _ _ => trivial) (fun _ _ _ _ _ _ _ _ => trivial) (Below.refl _ _) (fun x => x.elim)
    (fun _ W => Below w.heap.size w W) (fun _ _ _ => False) (ownFrom_below (Nat.le_refl _) (Nat.le_refl _)) (fun _ => fun _ _ _ _ h _ _ => h) (Below.refl _ _) (fun x => x.elim)
    (fun l x => x.elim) (fun l pre x => x.elim)
    (fun D xs W hD _ hB hK => hdone D W hD hB hK) (fun D c pre W _ h => h.elim)
theorem cell_fresh (W : World) (v : Value) (t : TypeId) : (W.alloc (.cells #[v] t)).cell? ⟨W.heap.size, 0, none⟩ = some v ∧ (W.alloc (.cells #[v] t)).frozen? ⟨W.heap.size, 0, none⟩ = false :=
  cell_box (World.alloc_heap_new W _)
theorem cell_more {W : World} {a : Addr} {v : Value} (o : Obj) (h : W.cell? a = some v) : (W.alloc o).cell? a = some v := cell_kept h (World.grownBy_alloc W o none) (fun r e => by cases e)
theorem frozen_more {W : World} {a : Addr} {v : Value} (o : Obj) (h : W.cell? a = some v) (hf : W.frozen? a = false) : (W.alloc o).frozen? a = false := (frozen_kept h (World.grownBy_alloc W o none) (fun r e => by cases e)).trans hf
end
/- A struct handed in by value: its cells, each of its own kind, whatever the number of its fields. -/
section
set_option linter.unusedVariables false
open Go.ChangeShapes Go.WideShapes Go.ChangeAt Go.RowKit

theorem cell_int {P : Program} {w : World} {r : Reach} {b : Nat} {u : TypeId} {k : IntKind} {v : Value} (hu : P.underlying u = some (.int k)) (h : Cell.okWide P w r b u v) : ∃ n, v = .int k n ∧ k.min ≤ n ∧ n ≤ k.max := by
  unfold Cell.okWide at h
  rw [hu] at h
  cases v <;> simp [Cell.ok, hu] at h
  obtain ⟨rfl, hn⟩ := h
  exact ⟨_, rfl, hn⟩
theorem cell_bool {P : Program} {w : World} {r : Reach} {b : Nat} {u : TypeId} {v : Value} (hu : P.underlying u = some .bool) (h : Cell.okWide P w r b u v) : ∃ x, v = .bool x := by
  unfold Cell.okWide at h
  rw [hu] at h
  cases v <;> simp [Cell.ok, hu] at h
  exact ⟨_, rfl⟩
theorem cell_i64 {P : Program} {w : World} {r : Reach} {b : Nat} {u : TypeId} {v : Value} (hu : P.underlying u = some (.int .i64)) (h : Cell.okWide P w r b u v) : ∃ n, v = .int .i64 n ∧ -9223372036854775808 ≤ n ∧ n ≤ 9223372036854775807 := by
  obtain ⟨n, rfl, h1, h2⟩ := cell_int hu h
  simp [IntKind.min, IntKind.max, IntKind.signed, IntKind.bits] at h1 h2
  exact ⟨n, rfl, by omega, by omega⟩
theorem cell_u64 {P : Program} {w : World} {r : Reach} {b : Nat} {u : TypeId} {v : Value} (hu : P.underlying u = some (.int .u64)) (h : Cell.okWide P w r b u v) : ∃ n, v = .int .u64 n ∧ 0 ≤ n ∧ n ≤ 18446744073709551615 := by
  obtain ⟨n, rfl, h1, h2⟩ := cell_int hu h
  simp [IntKind.min, IntKind.max, IntKind.signed, IntKind.bits] at h1 h2
  exact ⟨n, rfl, by omega, by omega⟩
theorem agg_cells {P : Program} {w : World} {r : Reach} {b : Nat} {t : TypeId} {fs : Array Field} {v : Value} {ts : List TypeId} (hs : P.underlying t = some (.struct fs)) (hts : P.cellTypes P.depth t = some ts) (hn : P.cellsOf t = ts.length) (hv : Value.okWide P w r b t v) :
    ∃ cs : List Value, v = .agg cs.toArray ∧ cs.length = ts.length ∧ ∀ (i : Nat) (u : TypeId), ts[i]? = some u → ∃ x, cs[i]? = some x ∧ Cell.okWide P w r b u x := by
  unfold Value.okWide at hv
  rw [hs] at hv
  obtain ⟨cs, rfl, hsz, ts', hts', _, hall⟩ := hv
  obtain rfl : ts = ts' := Option.some.inj (hts.symm.trans hts')
  refine ⟨cs.toList, by simp, by simp; omega, fun i u hi => ?_⟩
  have hl : i < ts.length := (List.getElem?_eq_some_iff.1 hi).1
  have hc : cs[i]? = some (cs[i]'(by omega)) := Array.getElem?_eq_getElem (by omega)
  obtain ⟨u', hu', hok⟩ := hall i _ hc
  rw [Nat.mod_eq_of_lt hl, hi] at hu'
  cases hu'
  exact ⟨_, by rw [Array.getElem?_toList]; exact hc, hok⟩
end
/- The slots of nodes: what a table of none and of one node answers. -/
section
set_option linter.unusedVariables false
set_option linter.unusedSimpArgs false
open Go.ChangeShapes Go.WideShapes Go.ChangeAt Go.RowKit Go.Shelf

abbrev sl2 (m : Nat) : Value := .slice (some ⟨m, 0, none⟩) 2 2
/-- The one row of the table, in block g: node 7, its two slots in block m. -/
def RowC (w : World) (g m : Nat) : Prop := w.cell? ⟨g, 0, none⟩ = some (.int .i64 7) ∧ w.cell? ⟨g, 1, none⟩ = some (sl2 m) ∧ g < w.heap.size
theorem RowC.go {w w' : World} {g m : Nat} (h : RowC w g m) (k : Below w.heap.size w w') : RowC w' g m :=
  ⟨(k.cell (p := ⟨g, 0, none⟩) h.2.2).trans h.1, (k.cell (p := ⟨g, 1, none⟩) h.2.2).trans h.2.1, Nat.lt_of_lt_of_le h.2.2 k.size⟩
theorem cmp1 (w : World) (m : Nat) : Calls Tryd.prog 83 #[.agg #[.int .i64 7, sl2 m], .int .i64 7] w fun e w' => e = .returned (.int .i64 0) ∧ Below w.heap.size w w' := by
  go_enter Tryd.func83, Tryd.ntmps83
  go_wp2_with go_in
  go_ret
  exact ⟨by simp, by repeat (first | exact Below.refl _ _ | refine bal ?_ _)⟩
theorem bsf_none (w : World) (k : Int) (f : Value) : Calls Tryd.prog 82 #[.slice none 0 0, .int .i64 k, f] w fun e w' => e = .returned (.tuple #[.int .i64 0, .bool false]) ∧ w = w' := by
  go_enter Tryd.func82, Tryd.ntmps82
  go_wp2
  refine wp_loop_rounds 1 ?_
  rw [rounds_succ]
  go_wp2
  go_ret2
  exact ⟨by simp, rfl⟩
set_option maxRecDepth 100000 in
set_option maxHeartbeats 2000000 in
theorem bsf_one (w : World) (g c m : Nat) (h : RowC w g m) : Calls Tryd.prog 82 #[.slice (some ⟨g, 0, none⟩) 1 c, .int .i64 7, .func (.func 83) #[] #[]] w fun e w' => e = .returned (.tuple #[.int .i64 0, .bool true]) ∧ Below w.heap.size w w' := by
  obtain ⟨c0, c1, hg⟩ := h
  go_enter Tryd.func82, Tryd.ntmps82
  go_wp2
  refine wp_loop_rounds 2 ?_
  rw [rounds_succ]
  go_wp2_with (first
    | (go_at_call 83; refine (cmp1 _ m).mono ?_; rintro e w1 ⟨rfl, hb1⟩; obtain ⟨hc1, hf1⟩ := bcell hb1; have hz1 : g < w1.heap.size := (Nat.lt_of_lt_of_le hg hb1.size)))
  rw [rounds_succ]
  go_wp2_with (first
    | (go_at_call 83; refine (cmp1 _ m).mono ?_; rintro e w2 ⟨rfl, hb2⟩))
  go_ret2
  exact ⟨by simp, bgo hb1 hb2⟩
set_option maxHeartbeats 2000000 in
theorem find_empty (w : World) (b : Nat) (k : Int) (hb : b < w.heap.size) (hc : w.cell? ⟨b, 0, none⟩ = some (.slice none 0 0)) : Calls Tryd.prog 62 #[.pointer (some ⟨b, 0, none⟩), .int .i64 k] w fun e w' => e = .returned (.tuple #[.int .i64 0, .bool false]) ∧ w = w' := by
  go_enter Tryd.func62, Tryd.ntmps62
  go_wp2_with (go_at_call 82; refine (bsf_none _ _ _).mono ?_; rintro e w1 ⟨rfl, rfl⟩)
  go_ret2
  exact ⟨by simp, rfl⟩
/-- A table of one row, in block b. -/
def OneAt (w : World) (b m : Nat) : Prop := ∃ g c : Nat, w.cell? ⟨b, 0, none⟩ = some (.slice (some ⟨g, 0, none⟩) 1 c) ∧ RowC w g m
theorem OneAt.call {w w' : World} {b m : Nat} (h : OneAt w b m) (hb : b < w.heap.size) (k : Below w.heap.size w w') : OneAt w' b m := by
  obtain ⟨g, c, h1, h2⟩ := h
  exact ⟨g, c, (k.cell (p := ⟨b, 0, none⟩) hb).trans h1, h2.go k⟩
set_option maxHeartbeats 2000000 in
theorem get_one (w : World) (b m g c : Nat) (hb : b < w.heap.size) (hc : w.cell? ⟨b, 0, none⟩ = some (.slice (some ⟨g, 0, none⟩) 1 c)) (hr : RowC w g m) : Calls Tryd.prog 64 #[.pointer (some ⟨b, 0, none⟩), .int .i64 7] w fun e w' => e = .returned (.tuple #[.pointer (some ⟨g, 1, none⟩), .bool true]) ∧ Below w.heap.size w w' := by
  have hfind : Calls Tryd.prog 62 #[.pointer (some ⟨b, 0, none⟩), .int .i64 7] w fun e w' => e = .returned (.tuple #[.int .i64 0, .bool true]) ∧ Below w.heap.size w w' := by
    go_enter Tryd.func62, Tryd.ntmps62
    go_wp2_with (go_at_call 82; refine (bsf_one _ g c m hr).mono ?_; rintro e w1 ⟨rfl, hb1⟩)
    go_ret2
    exact ⟨by simp, hb1⟩
  have HF := Lib.hid hfind
  have HR := Lib.hid hr
  clear hfind hr
  go_enter Tryd.func64, Tryd.ntmps64
  go_wp2_with (go_at_call 62; refine HF.out.mono ?_; rintro e w1 ⟨rfl, hb1⟩; obtain ⟨hc1, hf1⟩ := bcell hb1; have hz1 : w.heap.size ≤ w1.heap.size := hb1.size)
  go_ret2
  exact ⟨by simp, hb1⟩
abbrev zrow : Value := .agg #[.int .i64 0, .slice none 0 0]
theorem infoR : (Tryd.prog.info? 132).map (fun i => (i.zero, i.size, i.bytes)) = some (some zrow, 2, 32) := by kernel_rfl
theorem cell_two_new (w : World) (a b : Value) (t : TypeId) : ∀ j u, ([a, b] : List Value)[j]? = some u → (w.alloc (.cells #[a, b] t)).cell? ((⟨w.heap.size, 0, none⟩ : Addr).add j) = some u := by
  intro j u hj
  have h := World.alloc_heap_new w (.cells #[a, b] t)
  have e : ((⟨w.heap.size, 0, none⟩ : Addr).add j) = ⟨w.heap.size, j, none⟩ := by unfold Addr.add; split <;> simp_all
  rw [e, cell_of_row _ _ _ _ _ _ h]
  simpa using hj
set_option maxHeartbeats 2000000 in
theorem insert_first (w : World) (n m : Nat) (hc : ∀ j v, ([.int .i64 7, sl2 m] : List Value)[j]? = some v → w.cell? ((⟨n, 0, none⟩ : Addr).add j) = some v) :
    Calls Tryd.prog 63 #[.slice none 0 0, .int .i64 0, .slice (some ⟨n, 0, none⟩) 1 1] w fun e w' =>
      ∃ g c : Nat, e = .returned (.slice (some ⟨g, 0, none⟩) 1 c) ∧ w.heap.size ≤ g ∧ RowC w' g m ∧ Below w.heap.size w w' := by
  obtain ⟨i0, hi, hz0, hz1, hz2⟩ := info_parts infoR
  have HC := Lib.hid hc
  have HI := Lib.hid hi
  clear hc hi
  go_enter Tryd.func63, Tryd.ntmps63
  go_wp2_with (at_builtin; refine wpList_append_own _ rfl _ _ 92 rfl w.heap.size 132 i0 zrow 2 32 Tryd.underlying92 HI.out hz0 hz1 hz2 rfl (by decide) (.slice none 0 0) 0 [] rfl (World.ownsRow_nil w w.heap.size 132 2) ⟨n, 0, none⟩ 1 1 [.int .i64 7, sl2 m] rfl rfl HC.out (by simp [Value.oneCell']) (by unfold maxLen; omega) (by omega) (Nat.le_refl _) ?_; intro v' w1 hown' hgrow _)
  go_ret
  obtain ⟨hl, h | ⟨g, cap, cur, rfl, hg, hblk, h1, h2, h3, h4⟩⟩ := hown'
  · exact absurd h.2 (by omega)
  · have h4' : cur.toList.take 2 = [.int .i64 7, sl2 m] := by simpa using h4
    have hk : ∀ j v, j < 2 → ([.int .i64 7, sl2 m] : List Value)[j]? = some v → w1.cell? ⟨g, j, none⟩ = some v := by
      intro j v hj hv
      rw [cell_of_row _ g j cur _ _ hblk, ← Array.getElem?_toList, ← List.getElem?_take_of_lt hj, h4']
      exact hv
    refine ⟨g, ⟨cap, rfl⟩, hg, ⟨hk 0 _ (by omega) rfl, hk 1 _ (by omega) rfl, (Array.getElem?_eq_some_iff.1 hblk).1⟩, (Below.refl _ _).grown hgrow (Nat.le_refl _) (fun k hk => by cases hk)⟩
end
/- A drawn region of loads and of calls that make memory: one walk, in the order of the text. Over Base. -/
section
set_option linter.unusedVariables false
set_option linter.unusedSimpArgs false
open Go.ChangeShapes Go.WideShapes Go.ChangeAt Go.RowKit

def KeptQ (n : Nat) (a b : World) : Prop := Below n a b ∧ n ≤ b.heap.size
theorem KeptQ.refl {n : Nat} {a : World} (h : n ≤ a.heap.size) : KeptQ n a a := ⟨Below.refl _ _, h⟩
theorem KeptQ.drew {n : Nat} {a b : World} (h : KeptQ n a b) : KeptQ n a b.drew := ⟨h.1.drew, h.2⟩
theorem KeptQ.drewN {n : Nat} {a b : World} (h : KeptQ n a b) (k : Nat) : KeptQ n a (b.drewN k) := ⟨below_drewN h.1 k, by rw [World.heap_drewN]; exact h.2⟩
theorem KeptQ.call {n : Nat} {a b c : World} (h : KeptQ n a b) (k : Below b.heap.size b c) : KeptQ n a c := ⟨h.1.trans (k.mono h.2), Nat.le_trans h.2 k.size⟩
theorem KeptQ.below {n m : Nat} {W a b : World} (h : KeptQ n a b) (hm : m ≤ n) (B : Below m W a) : Below m W b := B.trans (h.1.mono hm)
section
variable {P : Program} {ops : Array Oper} {rest : List Oper} {o : Oper} {a : Act} {W : World} {m : Nat} {C : World → Prop}
theorem wp_region_keptQ {id : Nat} {Q : Exit → Act → World → Prop} {w : World} {l : List Oper} (m : Nat) (W : World) (hm : P.follows .mixedOrders = true) (hB : Region.lexB .any l.toArray = true) (hK : KeptQ m W w)
    (h : wpQuiet P l.toArray (KeptQ m W) (fun a' => ∀ w', KeptQ m W w' → Q .normal a' w') l a) : (Code.region id l.toArray true).wp P Q a w :=
  wp_region_quiet (C := KeptQ m W) hm hB hK.drew (by simpa using h)
theorem quietQ_load_cell {K : Act → Prop} (ty : TypeId) (x : Operand) (ho : o.op = .load ty x) (p : Addr) (hx : a.eval x = .pointer (some p)) (v : Value) (hc : ∀ w, C w → w.cell? p = some v)
    (d : TypeDesc) (hu : P.underlying ty = some d) (hd : (match d with | .struct _ | .array _ _ => true | _ => false) = false)
    (hk : K (a.put o.dst v)) : o.quiet P a C K := by
  refine ⟨_, fun w hw => ?_, hk⟩
  have hcw := hc w hw
  have hrun : (loadVar ty p).run P w = .ok v w := by
    have hagg : (isAgg ty).run P w = .ok false w := by
      unfold isAgg
      rw [Sem.run_bind, run_underlying hu w]
      cases d <;> simp_all
    simp [loadVar, Sem.run_bind, hagg, hcw]
  unfold Oper.quietAt execOp
  simp only [ho, hx, Instr.loadAt, Instr.sureAddr, Sem.run_bind, Sem.run_pure, Result.andThen_ok, hrun]
  exact ⟨rfl, rfl⟩
end
end
end Go.Proofs.YtnjdljjmengjbaaDoor
