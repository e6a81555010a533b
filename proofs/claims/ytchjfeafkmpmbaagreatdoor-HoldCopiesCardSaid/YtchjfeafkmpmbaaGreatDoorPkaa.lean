import Derived.Test.YtchjfeafkmpmbaaGreatDoorFrame
import Derived.Lib.Hide
import Derived.Deep.QuietTactic
import Derived.BigQuiet
import Derived.IntWalk
import Derived.Laws.AppendOwn
import Derived.Laws.CopyOwn
import Derived.Deep.RegionLaw
import Derived.Lib.AppendZerosOnto
import Derived.Lib.SliceRun
import Derived.Lib.Overlaps
import Derived.Deep.AppendLies
import Derived.LoopN
import Derived.Laws.Rows
import Derived.OwnWalk
import Derived.StillTailTactics
import Derived.Deep.RegionWith
import Derived.Outline
import Derived.Laws.Externs
namespace Go.Proofs.YtchjfeafkmpmbaaGreatDoor
set_option linter.unusedVariables false
set_option linter.unusedSimpArgs false
set_option maxRecDepth 100000
set_option maxHeartbeats 8000000
open Lib (hid)
theorem ags {α : Type _} {xs : Array α} {i : Nat} {b : α} (h : xs[i]? = some b) : ∃ h : i < xs.size, xs[i] = b := Array.getElem?_eq_some_iff.1 h
theorem lgs {α : Type _} {xs : List α} {i : Nat} {b : α} (h : xs[i]? = some b) : ∃ h : i < xs.length, xs[i] = b := List.getElem?_eq_some_iff.1 h
section
open Go.ChangeShapes Go.WideShapes Go.ChangeAt Go.RowKit
theorem ret_bool {a b : Bool} (h : a = b) : Ending.returned (.bool a) = .returned (.bool b) := by rw [h]
theorem ret_int {k : IntKind} {a b : Int} (h : a = b) : Ending.returned (.int k a) = .returned (.int k b) := by rw [h]
theorem same_q {P : Program} {f : FuncId} {args : Array Value} {w : World} {v : Value} (h : Calls P f args w fun e w' => e = .returned v ∧ w = w') : Calls P f args w fun e w' => e = .returned v ∧ w' = w := h.mono fun _ _ ⟨a, b⟩ => ⟨a, b.symm⟩
theorem bcell {W w1 : World} (hb : Below W.heap.size W w1) : (∀ b o, b < W.heap.size → w1.cell? ⟨b, o, none⟩ = W.cell? ⟨b, o, none⟩) ∧ (∀ b o, b < W.heap.size → w1.frozen? ⟨b, o, none⟩ = W.frozen? ⟨b, o, none⟩) :=
 ⟨fun b o h => hb.cell (p := ⟨b, o, none⟩) h, fun b o h => hb.frozen (p := ⟨b, o, none⟩) h⟩
theorem below_drewN {B : Nat} {a b : World} (h : Below B a b) (k : Nat) : Below B a (b.drewN k) := by
 induction k with
 | zero => exact h
 | succ k ih => exact ih.drew
def Kept (n : Nat) (a b : World) : Prop := Below n a b ∧ n ≤ b.heap.size
theorem cell_box {W : World} {B : Nat} {v : Value} {t : TypeId} (h : W.heap[B]? = some (.cells #[v] t (0, 0))) : W.cell? ⟨B, 0, none⟩ = some v ∧ W.frozen? ⟨B, 0, none⟩ = false := by
 constructor <;> simp [World.cell?, World.frozen?, h]
end
section
open Go.ChangeShapes Go.WideShapes Go.ChangeAt Go.RowKit
section
variable {P : Program} {ops : Array Oper} {rest : List Oper} {o : Oper} {a : Act} {w : World} {Q : Exit → Act → World → Prop}
theorem run_copy_rowN (w : World) (dT sT ty elem : TypeId) (i : TypeInfo) (g off dLen dCap : Nat) (a : Addr) (sLen sCap : Nat) (cur : List Value) (t : TypeId) (cs : List Value)
  (hu : P.underlying dT = some (.slice elem)) (hi : P.info? elem = some i)
  (hg : w.heap[g]? = some (.cells cur.toArray t (0, 0))) (hn : cs.length = Nat.min sLen dLen * i.size)
  (hsrc : ∀ j v, cs[j]? = some v → w.cell? (a.add j) = some v) (hfit : off + cs.length ≤ cur.length) (h1 : ∀ v ∈ cs, v.oneCell' = true) :
  (Builtin.copy_ #[dT, sT] ty #[.slice (some ⟨g, off, none⟩) dLen dCap, .slice (some a) sLen sCap]).run P w =
   .ok (goInt (Nat.min sLen dLen)) (w.setRow g (splice cur off cs).toArray) := by
 have hl := run_loadCells_list (P := P) w a cs hsrc
 have hst := run_storeCells_at P g off t cs 0 cur.toArray w hg (by simpa using hfit) h1
 simp [Builtin.copy_, run_underlying hu, Builtin.lenOf, Builtin.firstCells, sizeOf, typeInfo, hi, ← hn, hl, hst, splice]
theorem op_copy_rowN {K : Act → World → Prop} (d s : Operand) (dT sT : TypeId)
  (ho : o.op = .call { callee := .builtin .copy, args := #[d, s], argTypes := #[dT, sT] }) (elem : TypeId) (i : TypeInfo) (hu : P.underlying dT = some (.slice elem)) (hi : P.info? elem = some i)
  (g off dLen dCap : Nat) (ad : Addr) (sLen sCap : Nat) (hd : a.eval d = .slice (some ⟨g, off, none⟩) dLen dCap) (hs : a.eval s = .slice (some ad) sLen sCap)
  (cur : List Value) (t : TypeId) (hg : w.heap[g]? = some (.cells cur.toArray t (0, 0))) (cs : List Value) (hn : cs.length = Nat.min sLen dLen * i.size)
  (hsrc : ∀ j v, cs[j]? = some v → w.cell? (ad.add j) = some v) (hfit : off + cs.length ≤ cur.length) (h1 : ∀ v ∈ cs, v.oneCell' = true)
  (h : ∀ w', w' = w.setRow g (splice cur off cs).toArray → K (a.put o.dst (goInt (Nat.min sLen dLen))) w') : o.wp P a w K Q := by
 have hrun := run_copy_rowN (P := P) w dT sT o.type elem i g off dLen dCap ad sLen sCap cur t cs hu hi hg hn hsrc hfit h1
 unfold Oper.wp
 simp [execOp, ho, resolve, invoke, builtin, hd, hs, hrun, Result.andThen]
 exact h _ rfl
theorem wpList_copy_rowN (hgd : o.guard = none) (d s : Operand) (dT sT : TypeId)
  (ho : o.op = .call { callee := .builtin .copy, args := #[d, s], argTypes := #[dT, sT] }) (elem : TypeId) (i : TypeInfo) (hu : P.underlying dT = some (.slice elem)) (hi : P.info? elem = some i)
  (g off dLen dCap : Nat) (ad : Addr) (sLen sCap : Nat) (hd : a.eval d = .slice (some ⟨g, off, none⟩) dLen dCap) (hs : a.eval s = .slice (some ad) sLen sCap)
  (cur : List Value) (t : TypeId) (hg : w.heap[g]? = some (.cells cur.toArray t (0, 0))) (cs : List Value) (hn : cs.length = Nat.min sLen dLen * i.size)
  (hsrc : ∀ j v, cs[j]? = some v → w.cell? (ad.add j) = some v) (hfit : off + cs.length ≤ cur.length) (h1 : ∀ v ∈ cs, v.oneCell' = true)
  (h : ∀ w', w' = w.setRow g (splice cur off cs).toArray → wpList P ops Q rest (a.put o.dst (goInt (Nat.min sLen dLen))) w') : wpList P ops Q (o :: rest) a w :=
 wpList_plain hgd fun K hK => op_copy_rowN d s dT sT ho elem i hu hi g off dLen dCap ad sLen sCap hd hs cur t hg cs hn hsrc hfit h1 (fun w' hw => hK _ _ (h w' hw))
theorem step_copy_rowN {K : Act → World → Prop} {E : Prop} (hgd : o.guard = none) (d s : Operand) (dT sT : TypeId)
  (ho : o.op = .call { callee := .builtin .copy, args := #[d, s], argTypes := #[dT, sT] }) (elem : TypeId) (i : TypeInfo) (hu : P.underlying dT = some (.slice elem)) (hi : P.info? elem = some i)
  (g off dLen dCap : Nat) (ad : Addr) (sLen sCap : Nat) (hd : a.eval d = .slice (some ⟨g, off, none⟩) dLen dCap) (hs : a.eval s = .slice (some ad) sLen sCap)
  (cur : List Value) (t : TypeId) (hg : w.heap[g]? = some (.cells cur.toArray t (0, 0))) (cs : List Value) (hn : cs.length = Nat.min sLen dLen * i.size)
  (hsrc : ∀ j v, cs[j]? = some v → w.cell? (ad.add j) = some v) (hfit : off + cs.length ≤ cur.length) (h1 : ∀ v ∈ cs, v.oneCell' = true)
  (h : ∀ w', w' = w.setRow g (splice cur off cs).toArray → K (a.put o.dst (goInt (Nat.min sLen dLen))) w') :
  if Region.wanted o (yielded ops a.tmps) = true then Oper.wp P o a w K Q else E := by
 have hw : Region.wanted o (yielded ops a.tmps) = true := by simp [Region.wanted, hgd]
 rw [if_pos hw]
 exact op_copy_rowN d s dT sT ho elem i hu hi g off dLen dCap ad sLen sCap hd hs cur t hg cs hn hsrc hfit h1 h
theorem run_clear_rowN (w : World) (t e ty : TypeId) (z : Value) (hu : P.underlying t = some (.slice e)) (hv : ∀ w, (zeroValue e).run P w = .ok z w) (g off n c : Nat) (cur : List Value) (tt : TypeId)
  (hg : w.heap[g]? = some (.cells cur.toArray tt (0, 0))) (hn : n = 1) (hz : 0 < z.cells.size) (hfit : off + z.cells.size ≤ cur.length) (h1 : ∀ v ∈ z.cells.toList, v.oneCell' = true) :
  (Builtin.clear_ #[t] ty #[.slice (some ⟨g, off, none⟩) n c]).run P w = .ok (.tuple #[]) (w.setRow g (splice cur off z.cells.toList).toArray) := by
 subst hn
 have hzc : (Builtin.zeroCells z.cells 1).toList = z.cells.toList := by
  apply List.ext_getElem
  ·simp [Builtin.zeroCells]
  ·intro j h2 h3
   simp [Builtin.zeroCells] at h2 h3 ⊢
   rw [Nat.mod_eq_of_lt h3]
   simp [h3]
 have hst := run_storeCells_at P g off tt z.cells.toList 0 cur.toArray w hg (by simpa using hfit) h1
 simp [Builtin.clear_, run_underlying hu, hv, hzc, hst, splice]
end
section
variable {P : Program} {ops : Array Oper} {rest : List Oper} {o : Oper} {a : Act} {w : World} {Q : Exit → Act → World → Prop}
theorem wpList_clear_rowN (hgd : o.guard = none) (x : Operand) (t : TypeId) (ho : o.op = .call { callee := .builtin .clear, args := #[x], argTypes := #[t] }) (e : TypeId) (z : Value) (hu : P.underlying t = some (.slice e)) (hv : ∀ w, (zeroValue e).run P w = .ok z w) (g off n c : Nat)
  (hx : a.eval x = .slice (some ⟨g, off, none⟩) n c) (cur : List Value) (tt : TypeId)
  (hg : w.heap[g]? = some (.cells cur.toArray tt (0, 0))) (hn : n = 1) (hz : 0 < z.cells.size) (hfit : off + z.cells.size ≤ cur.length) (h1 : ∀ v ∈ z.cells.toList, v.oneCell' = true)
  (h : ∀ w', w' = w.setRow g (splice cur off z.cells.toList).toArray → wpList P ops Q rest (a.put o.dst (.tuple #[])) w') : wpList P ops Q (o :: rest) a w := by
 refine wpList_plain hgd fun K hK => ?_
 have hrun := run_clear_rowN (P := P) w t e o.type z hu hv g off n c cur tt hg hn hz hfit h1
 unfold Oper.wp
 simp [execOp, ho, resolve, invoke, builtin, hx, hrun, Result.andThen]
 exact hK _ _ (h _ rfl)
theorem step_append_run {K : Act → World → Prop} {E : Prop} (hgd : o.guard = none) (s x : Operand) (t tn : TypeId)
  (ho : o.op = .call { callee := .builtin .append, args := #[s, x], argTypes := #[t, tn] }) (vs vx : Value) (hs : a.eval s = vs) (hx : a.eval x = vx)
  (v' : Value) (w' : World) (hr : (Builtin.append_ #[t, tn] o.type #[vs, vx]).run P w = .ok v' w') (h : K (a.put o.dst v') w') :
  if Region.wanted o (yielded ops a.tmps) = true then Oper.wp P o a w K Q else E := by
 have hw : Region.wanted o (yielded ops a.tmps) = true := by simp [Region.wanted, hgd]
 rw [if_pos hw]
 exact Lib.wp_append_run w s x t tn ho vs vx hs hx v' w' hr h
end
theorem op_append_at {P : Program} {o : Oper} {a : Act} {w : World} {K : Act → World → Prop} {Q : Exit → Act → World → Prop}
  (s x : Operand) (t : TypeId) (hop : o.op = Op.call { callee := Callee.builtin Builtin.append, args := #[s, x], argTypes := #[t, t] })
  (base : Nat) (e : TypeId) (i : TypeInfo) (z : Value) (size bytes : Nat) (h1 : P.underlying t = some (.slice e)) (h2 : P.info? e = some i) (h3 : i.zero = some z) (h4 : i.size = size) (h5 : i.bytes = bytes) (h6 : z.cells.size = size) (h7 : 0 < size)
  (v : Value) (k : Nat) (xs : List Value) (hs : a.eval s = v) (hown : w.ownsRow base e size v k xs) (ad : Addr) (m c : Nat) (news : List Value) (hx : a.eval x = .slice (some ad) m c) (hn : news.length = m * size)
  (hc : ∀ j u, news[j]? = some u → w.cell? (ad.add j) = some u) (h1c : ∀ u ∈ news, u.oneCell' = true) (b1 : k + m ≤ maxLen) (b2 : (k + m) * bytes ≤ 140737488355328) (b3 : base ≤ w.heap.size)
  (hK : ∀ v' w', w'.ownsRow base e size v' (k + m) (xs ++ news) → w.grownBy w' v.ownBlock → (v'.ownBlock = v.ownBlock ∨ v'.ownBlock = some w.heap.size) → K (a.put o.dst v') w') :
  o.wp P a w K Q := by
 obtain ⟨v', w', hrun, r1, r2, r3, r4⟩ := run_append_own_at (P := P) (w := w) base t o.type e i z size bytes h1 h2 h3 h4 h5 h6 h7 v k xs hown ad m c news hn hc h1c b1 b2 b3
 unfold Oper.wp
 simp [execOp, hop, resolve, invoke, builtin, hs, hx, hrun, Result.andThen]
 exact hK v' w' r1 r2 r4
theorem wpList_append_at {P : Program} {ops : Array Oper} {rest : List Oper} {o : Oper} {a : Act} {w : World} {Q : Exit → Act → World → Prop} (hgd : o.guard = none)
  (s x : Operand) (t : TypeId) (hop : o.op = Op.call { callee := Callee.builtin Builtin.append, args := #[s, x], argTypes := #[t, t] })
  (base : Nat) (e : TypeId) (i : TypeInfo) (z : Value) (size bytes : Nat) (h1 : P.underlying t = some (.slice e)) (h2 : P.info? e = some i) (h3 : i.zero = some z) (h4 : i.size = size) (h5 : i.bytes = bytes) (h6 : z.cells.size = size) (h7 : 0 < size)
  (v : Value) (k : Nat) (xs : List Value) (hs : a.eval s = v) (hown : w.ownsRow base e size v k xs) (ad : Addr) (m c : Nat) (news : List Value) (hx : a.eval x = .slice (some ad) m c) (hn : news.length = m * size)
  (hc : ∀ j u, news[j]? = some u → w.cell? (ad.add j) = some u) (h1c : ∀ u ∈ news, u.oneCell' = true) (b1 : k + m ≤ maxLen) (b2 : (k + m) * bytes ≤ 140737488355328) (b3 : base ≤ w.heap.size)
  (hK : ∀ v' w', w'.ownsRow base e size v' (k + m) (xs ++ news) → w.grownBy w' v.ownBlock → (v'.ownBlock = v.ownBlock ∨ v'.ownBlock = some w.heap.size) → wpList P ops Q rest (a.put o.dst v') w') :
  wpList P ops Q (o :: rest) a w :=
 wpList_plain hgd fun K hK2 => op_append_at s x t hop base e i z size bytes h1 h2 h3 h4 h5 h6 h7 v k xs hs hown ad m c news hx hn hc h1c b1 b2 b3 (fun v' w' r1 r2 r3 => hK2 _ _ (hK v' w' r1 r2 r3))
theorem row_form {w : World} {base : Nat} {e : TypeId} {s : Nat} {v : Value} {n : Nat} {xs : List Value} (h : w.ownsRow base e s v (n + 1) xs) : ∃ g cap, v = .slice (some ⟨g, 0, none⟩) (n + 1) cap := by
 rcases h.2 with ⟨_, h⟩ | ⟨g, cap, cur, rfl, _⟩
 ·omega
 ·exact ⟨g, cap, rfl⟩
theorem add_cells {w : World} {g : Nat} {cs : List Value} (h : ∀ j v, cs[j]? = some v → w.cell? ⟨g, j, none⟩ = some v) : ∀ j v, cs[j]? = some v → w.cell? ((⟨g, 0, none⟩ : Addr).add j) = some v := by
 intro j v hj
 have : ((⟨g, 0, none⟩ : Addr).add j) = ⟨g, j, none⟩ := by unfold Addr.add; split <;> simp_all
 rw [this]
 exact h j v hj
theorem add_cells_off {w : World} {g off : Nat} {cs : List Value} (h : ∀ j v, cs[j]? = some v → w.cell? ⟨g, off + j, none⟩ = some v) : ∀ j v, cs[j]? = some v → w.cell? ((⟨g, off, none⟩ : Addr).add j) = some v := by
 intro j v hj
 have : ((⟨g, off, none⟩ : Addr).add j) = ⟨g, off + j, none⟩ := by unfold Addr.add; split <;> simp_all
 rw [this]
 exact h j v hj
theorem cell_cur {w : World} {g : Nat} {cur : List Value} {t : TypeId} (hg : w.heap[g]? = some (.cells cur.toArray t (0, 0))) (j : Nat) : w.cell? ⟨g, j, none⟩ = cur[j]? := by
 rw [cell_of_row w g j cur.toArray t (0, 0) hg]
 simp
theorem grown_setRow (w : World) (g : Nat) (cs : Array Value) : w.grownBy (w.setRow g cs) (some g) := ⟨rfl, rfl, rfl, by simp [World.setRow], fun k _ hk => setRow_other w g k cs (fun e => hk (by rw [e]))⟩
theorem grown_trans {a b c : World} {r : Option Nat} (h : a.grownBy b r) (k : b.grownBy c r) : a.grownBy c r :=
 ⟨k.os.trans h.os, k.tape.trans h.tape, k.output.trans h.output, Nat.le_trans h.size k.size, fun j hj hr => (k.block j (Nat.lt_of_lt_of_le hj h.size) hr).trans (h.block j hj hr)⟩
theorem grown_fresh {a b c : World} {r : Option Nat} {g : Nat} (h : a.grownBy b r) (k : b.grownBy c (some g)) (hg : a.heap.size ≤ g) : a.grownBy c r :=
 ⟨k.os.trans h.os, k.tape.trans h.tape, k.output.trans h.output, Nat.le_trans h.size k.size, fun j hj hr => (k.block j (Nat.lt_of_lt_of_le hj h.size) (by intro e; cases e; omega)).trans (h.block j hj hr)⟩
theorem grown_drew {a b : World} {r : Option Nat} (h : a.grownBy b r) : a.grownBy b.drew r := ⟨h.os, h.tape, h.output, h.size, h.block⟩
abbrev Rw := Int × List Value
def rcells (r : Rw) : List Value := .int .i64 r.1 :: r.2
def flat (R : List Rw) : List Value := R.flatMap rcells
theorem flat_nil : flat [] = [] := rfl
theorem flat_cons (r : Rw) (R : List Rw) : flat (r :: R) = rcells r ++ flat R := rfl
theorem flat_append (A B : List Rw) : flat (A ++ B) = flat A ++ flat B := by simp [flat]
def Wide (C : Nat) (R : List Rw) : Prop := ∀ r ∈ R, (rcells r).length = C ∧ ∀ u ∈ rcells r, u.oneCell' = true
theorem Wide.tail {C : Nat} {r : Rw} {R : List Rw} (h : Wide C (r :: R)) : Wide C R := fun x hx => h x (List.mem_cons_of_mem _ hx)
theorem Wide.take {C : Nat} {R : List Rw} (h : Wide C R) (k : Nat) : Wide C (R.take k) := fun x hx => h x (List.mem_of_mem_take hx)
theorem Wide.drop {C : Nat} {R : List Rw} (h : Wide C R) (k : Nat) : Wide C (R.drop k) := fun x hx => h x (List.mem_of_mem_drop hx)
theorem Wide.append {C : Nat} {A B : List Rw} (h : Wide C A) (k : Wide C B) : Wide C (A ++ B) := fun x hx => (List.mem_append.1 hx).elim (h x) (k x)
theorem flat_length {C : Nat} : ∀ {R : List Rw}, Wide C R → (flat R).length = R.length * C
 | [], _ => by simp [flat]
 | r :: R, h => by
  rw [flat_cons, List.length_append, flat_length h.tail, (h r (by simp)).1, List.length_cons, Nat.add_mul]
  omega
theorem flat_one {C : Nat} {R : List Rw} (h : Wide C R) : ∀ u ∈ flat R, u.oneCell' = true := by
 intro u hu
 obtain ⟨r, hr, hu⟩ := List.mem_flatMap.1 hu
 exact (h r hr).2 u hu
theorem flat_get {C : Nat} : ∀ {R : List Rw}, Wide C R → ∀ {i j : Nat} {r : Rw} {v : Value}, R[i]? = some r → (rcells r)[j]? = some v → (flat R)[i * C + j]? = some v
 | [], _, i, j, r, v, hi, _ => by simp at hi
 | r0 :: R, h, 0, j, r, v, hi, hj => by
  simp at hi
  subst hi
  rw [flat_cons, List.getElem?_append_left (by have := (lgs hj).1; omega)]
  simpa using hj
 | r0 :: R, h, i + 1, j, r, v, hi, hj => by
  have h0 := (h r0 (by simp)).1
  rw [flat_cons, List.getElem?_append_right (by rw [h0, Nat.add_mul]; omega), h0]
  have e : (i + 1) * C + j - C = i * C + j := by rw [Nat.add_mul]; omega
  rw [e]
  exact flat_get h.tail (by simpa using hi) hj
theorem splice_at {α : Type} (A B X D : List α) (h : B.length = X.length) : splice (A ++ (B ++ D)) A.length X = A ++ (X ++ D) := by
 unfold splice
 rw [List.take_left, ← h, ← List.append_assoc A B D, ← List.length_append, List.drop_left]
theorem splice_up {α : Type} (A X r D : List α) (hD : r.length ≤ D.length) :
  splice (splice (A ++ (X ++ D)) (A.length + r.length) X) A.length r = A ++ (r ++ (X ++ D.drop r.length)) := by
 have h1 : A ++ (X ++ D) = (A ++ (X ++ D).take r.length) ++ ((X ++ D).drop r.length) := by
  rw [List.append_assoc, List.take_append_drop]
 have hl : (X ++ D).take r.length = (X ++ D).take r.length := rfl
 have hlen : ((X ++ D).take r.length).length = r.length := by rw [List.length_take, List.length_append]; omega
 have h2 : (X ++ D).drop r.length = ((X ++ D).drop r.length).take X.length ++ D.drop r.length := by
  conv => lhs; rw [← List.take_append_drop X.length ((X ++ D).drop r.length)]
  rw [List.drop_drop, Nat.add_comm, ← List.drop_drop, List.drop_left]
 have h3 : (((X ++ D).drop r.length).take X.length).length = X.length := by
  rw [List.length_take, List.length_drop, List.length_append]
  omega
 rw [h1]
 conv => lhs; arg 1; arg 1; rw [h2]
 have e1 := splice_at (A ++ (X ++ D).take r.length) (((X ++ D).drop r.length).take X.length) X (D.drop r.length) h3
 rw [List.length_append, hlen] at e1
 rw [e1, List.append_assoc]
 exact splice_at A ((X ++ D).take r.length) r (X ++ D.drop r.length) hlen
theorem splice_down {α : Type} (A B X D z : List α) (hz : z.length = B.length) :
  splice (splice (A ++ (B ++ (X ++ D))) A.length X) (A.length + X.length) z = A ++ (X ++ (z ++ D)) := by
 have h2 : B ++ (X ++ D) = (B ++ X).take X.length ++ ((B ++ X).drop X.length ++ D) := by
  rw [← List.append_assoc, ← List.append_assoc, List.take_append_drop]
 have h3 : ((B ++ X).take X.length).length = X.length := by
  rw [List.length_take, List.length_append]; omega
 have h4 : ((B ++ X).drop X.length).length = z.length := by
  rw [List.length_drop, List.length_append]; omega
 rw [h2, splice_at A _ X _ h3, ← List.append_assoc A X, ← List.length_append, splice_at (A ++ X) _ z D h4, List.append_assoc]
theorem length_splice' {α : Type} (L : List α) (off : Nat) (cs : List α) (h : off + cs.length ≤ L.length) : (splice L off cs).length = L.length := by simp [splice]; omega
def Asc (R : List Rw) : Prop := (R.map Prod.fst).Pairwise (· < ·)
def posR (R : List Rw) (k : Int) : Nat := R.countP (fun r => decide (r.1 < k))
def hasR (R : List Rw) (k : Int) : Bool := R.any (fun r => decide (r.1 = k))
theorem posR_le (R : List Rw) (k : Int) : posR R k ≤ R.length := List.countP_le_length
theorem Asc.at {R : List Rw} (h : Asc R) {i j : Nat} {x y : Rw} (hij : i < j) (hi : R[i]? = some x) (hj : R[j]? = some y) : x.1 < y.1 := by
 unfold Asc at h
 rw [List.pairwise_iff_getElem] at h
 obtain ⟨li, ei⟩ := lgs hi
 obtain ⟨lj, ej⟩ := lgs hj
 have := h i j (by simpa using li) (by simpa using lj) hij
 simpa [ei, ej] using this
theorem countP_at : ∀ (R : List Rw) (k : Int) (i : Nat), i ≤ R.length → (∀ j x, j < i → R[j]? = some x → x.1 < k) → (∀ j x, i ≤ j → R[j]? = some x → k ≤ x.1) → posR R k = i
 | [], k, i, hi, _, _ => by simp at hi; subst hi; rfl
 | r :: R, k, 0, _, _, h2 => by
  have h0 := h2 0 r (Nat.le_refl _) (by simp)
  have ih := countP_at R k 0 (Nat.zero_le _) (fun j x hj => absurd hj (Nat.not_lt_zero _)) (fun j x hj hx => h2 (j + 1) x (Nat.zero_le _) (by simpa using hx))
  unfold posR at ih ⊢
  rw [List.countP_cons, ih, if_neg (by simp; omega)]
 | r :: R, k, i + 1, hi, h1, h2 => by
  have h0 := h1 0 r (by omega) (by simp)
  have ih := countP_at R k i (by simpa using hi) (fun j x hj hx => h1 (j + 1) x (by omega) (by simpa using hx)) (fun j x hj hx => h2 (j + 1) x (by omega) (by simpa using hx))
  unfold posR at ih ⊢
  rw [List.countP_cons, ih, if_pos (by simpa using h0)]
theorem found_at {R : List Rw} {k : Int} {i : Nat} (hA : Asc R) (hi : i ≤ R.length) (h1 : ∀ j x, j < i → R[j]? = some x → x.1 < k) (h2 : ∀ j x, i ≤ j → R[j]? = some x → k ≤ x.1) :
  posR R k = i ∧ (∀ x, R[i]? = some x → hasR R k = decide (x.1 = k)) ∧ (i = R.length → hasR R k = false) := by
 refine ⟨countP_at R k i hi h1 h2, fun x hx => ?_, fun e => ?_⟩
 ·rw [Bool.eq_iff_iff]
  unfold hasR
  rw [List.any_eq_true, decide_eq_true_eq]
  constructor
  ·rintro ⟨y, hy, e⟩
   obtain ⟨j, hj⟩ := List.getElem?_of_mem hy
   simp only [decide_eq_true_eq] at e
   rcases Nat.lt_trichotomy j i with q | q | q
   ·have := h1 j y q hj; omega
   ·subst q; rw [hx] at hj; cases hj; exact e
   ·have := hA.at q hx hj
    have := h2 i x (Nat.le_refl _) hx
    omega
  ·intro e
   exact ⟨x, List.mem_of_getElem? hx, by simpa using e⟩
 ·rw [Bool.eq_false_iff]
  intro hc
  unfold hasR at hc
  rw [List.any_eq_true] at hc
  obtain ⟨y, hy, e2⟩ := hc
  obtain ⟨j, hj⟩ := List.getElem?_of_mem hy
  simp only [decide_eq_true_eq] at e2
  have := (lgs hj).1
  have := h1 j y (by omega) hj
  omega
theorem posR_facts {R : List Rw} {k : Int} (hA : Asc R) : (∀ j x, j < posR R k → R[j]? = some x → x.1 < k) ∧ (∀ j x, posR R k ≤ j → R[j]? = some x → k ≤ x.1) := by
 induction R with
 | nil => exact ⟨fun j x _ h => by simp at h, fun j x _ h => by simp at h⟩
 | cons r R ih =>
  have hA' : Asc R := by unfold Asc at hA ⊢; rw [List.map_cons, List.pairwise_cons] at hA; exact hA.2
  have hr : ∀ y ∈ R, r.1 < y.1 := by
   intro y hy
   unfold Asc at hA
   rw [List.map_cons, List.pairwise_cons] at hA
   exact hA.1 y.1 (List.mem_map_of_mem hy)
  obtain ⟨i1, i2⟩ := ih hA'
  by_cases h : r.1 < k
  ·have e : posR (r :: R) k = posR R k + 1 := by unfold posR; rw [List.countP_cons, if_pos (by simpa using h)]
   rw [e]
   constructor
   ·intro j x hj hx
    cases j with
    | zero => simp at hx; subst hx; exact h
    | succ j => exact i1 j x (by omega) (by simpa using hx)
   ·intro j x hj hx
    cases j with
    | zero => omega
    | succ j => exact i2 j x (by omega) (by simpa using hx)
  ·have e0 : posR R k = 0 := by
    unfold posR
    rw [List.countP_eq_zero]
    intro y hy
    have := hr y hy
    simp; omega
   have e : posR (r :: R) k = 0 := by unfold posR at e0 ⊢; rw [List.countP_cons, e0, if_neg (by simpa using h)]
   rw [e]
   constructor
   ·intro j x hj; omega
   ·intro j x hj hx
    cases j with
    | zero => simp at hx; subst hx; omega
    | succ j => exact i2 j x (by omega) (by simpa using hx)
def insR (R : List Rw) (r : Rw) : List Rw := R.take (posR R r.1) ++ r :: R.drop (posR R r.1)
def delR (R : List Rw) (k : Int) : List Rw := R.take (posR R k) ++ R.drop (posR R k + 1)
theorem hasR_at {R : List Rw} {k : Int} (hA : Asc R) : hasR R k = true ↔ ∃ x, R[posR R k]? = some x ∧ x.1 = k := by
 obtain ⟨h1, h2⟩ := posR_facts (k := k) hA
 obtain ⟨_, q1, q2⟩ := found_at hA (posR_le R k) h1 h2
 constructor
 ·intro h
  cases hx : R[posR R k]? with
  | none =>
   have := List.getElem?_eq_none_iff.1 hx
   rw [q2 (by have := posR_le R k; omega)] at h
   cases h
  | some x => exact ⟨x, rfl, by rw [q1 x hx] at h; simpa using h⟩
 ·rintro ⟨x, hx, e⟩
  rw [q1 x hx]
  simpa using e
end
section
open Go.ChangeShapes Go.WideShapes Go.ChangeAt Go.RowKit
section
variable {P : Program} {ops : Array Oper} {rest : List Oper} {o : Oper} {a : Act} {w : World} {Q : Exit → Act → World → Prop}
theorem wp_load_list {K : Act → World → Prop} (ty : TypeId) (x : Operand) (ho : o.op = .load ty x) (p : Addr) (hx : a.eval x = .pointer (some p)) (cs : List Value) (hc : ∀ j v, cs[j]? = some v → w.cell? (p.add j) = some v)
  (d : TypeDesc) (hu : P.underlying ty = some d) (hd : (match d with | .struct _ | .array _ _ => true | _ => false) = true) (hi : (P.info? ty).map (·.size) = some cs.length)
  (h : K (a.put o.dst (.agg cs.toArray)) w) : o.wp P a w K Q := by
 have hl : (loadCells p cs.length).run P w = .ok cs.toArray w := run_loadCells_list (P := P) w p cs hc
 have hrun : (loadVar ty p).run P w = .ok (.agg cs.toArray) w := by
  cases hq : P.info? ty with
  | none => simp [hq] at hi
  | some i =>
   have hs : i.size = cs.length := by simpa [hq] using hi
   have hagg : (isAgg ty).run P w = .ok true w := by
    unfold isAgg
    rw [Sem.run_bind, run_underlying hu w]
    cases d <;> simp_all
   simp [loadVar, Sem.run_bind, hagg, sizeOf, typeInfo, hq, hs, hl]
 unfold Oper.wp execOp
 simp only [ho, hx, Instr.loadAt, Instr.sureAddr, Sem.run_bind, Sem.run_pure, Result.andThen_ok, hrun]
 exact h
theorem wpList_load_list (hw : Region.wanted o (yielded ops a.tmps) = true) (ty : TypeId) (x : Operand) (ho : o.op = .load ty x) (p : Addr) (hx : a.eval x = .pointer (some p)) (cs : List Value) (hc : ∀ j v, cs[j]? = some v → w.cell? (p.add j) = some v)
  (d : TypeDesc) (hu : P.underlying ty = some d) (hd : (match d with | .struct _ | .array _ _ => true | _ => false) = true) (hi : (P.info? ty).map (·.size) = some cs.length)
  (h : wpList P ops Q rest (a.put o.dst (.agg cs.toArray)) w) : wpList P ops Q (o :: rest) a w :=
 wpList_step fun K hK => by
  rw [hw, if_pos rfl]
  exact wp_load_list ty x ho p hx cs hc d hu hd hi (hK _ _ h)
end
end
section
open Go.ChangeShapes Go.WideShapes Go.ChangeAt Go.RowKit
namespace TabS
def C : Nat := 2
theorem infoR : (Tryz.prog.info? 163).map (fun i => (i.zero, i.size, i.bytes)) = some (some (.agg #[.int .i64 0, .slice none 0 0]), 2, 32) := by kernel_rfl
def cmpI (a b : Int) : Int := if a < b then -1 else if b < a then 1 else 0
theorem cmp_any (w : World) (a b : Int) (r : List Value) : Calls Tryz.prog 132 #[.agg (.int .i64 a :: r).toArray, .int .i64 b] w fun e w' => e = .returned (.int .i64 (cmpI a b)) ∧ Below w.heap.size w w' := by
 unfold cmpI
 rcases Int.lt_trichotomy a b with h | h | h
 ·have h2 : ¬ b < a := by omega
  rw [if_pos h]
  go_enter Tryz.func132, Tryz.ntmps132
  go_wp2_with go_in
  go_ret
  exact ⟨rfl, bal (Below.refl _ _) _⟩
 ·subst h
  rw [if_neg (by omega), if_neg (by omega)]
  go_enter Tryz.func132, Tryz.ntmps132
  go_wp2_with go_in
  go_ret
  exact ⟨by simp, bal (Below.refl _ _) _⟩
 ·have h2 : ¬ a < b := by omega
  rw [if_neg h2, if_pos h]
  go_enter Tryz.func132, Tryz.ntmps132
  go_wp2_with go_in
  go_ret
  exact ⟨rfl, bal (Below.refl _ _) _⟩
def RowsIn (w : World) (g : Nat) (R : List Rw) : Prop := ∀ (i j : Nat) (r : Rw) (v : Value), R[i]? = some r → (rcells r)[j]? = some v → w.cell? ⟨g, i * 2 + j, none⟩ = some v
theorem RowsIn.call {w w' : World} {g : Nat} {R : List Rw} (h : RowsIn w g R) (hg : g < w.heap.size) (hb : Below w.heap.size w w') : RowsIn w' g R := fun i j r v hi hj => (hb.cell (p := ⟨g, _, none⟩) hg).trans (h i j r v hi hj)
theorem RowsIn.load {w : World} {g i : Nat} {R : List Rw} {r : Rw} (h : RowsIn w g R) (hi : R[i]? = some r) (A : Addr) (hA : A = ⟨g, i * 2, none⟩) : ∀ j v, (rcells r)[j]? = some v → w.cell? (A.add j) = some v := by
 intro j v hj
 subst hA
 have : ((⟨g, i * 2, none⟩ : Addr).add j) = ⟨g, i * 2 + j, none⟩ := by unfold Addr.add; split <;> simp_all
 rw [this]
 exact h i j r v hi hj
theorem bsf_any (w : World) (g c : Nat) (R : List Rw) (k : Int) (hg : g < w.heap.size) (hw : Wide 2 R) (hA : Asc R) (hl : R.length ≤ 1000000) (hR : RowsIn w g R) :
  Calls Tryz.prog 131 #[.slice (some ⟨g, 0, none⟩) R.length c, .int .i64 k, .func (.func 132) #[] #[]] w fun e w' => e = .returned (.tuple #[.int .i64 (posR R k : Nat), .bool (hasR R k)]) ∧ Below w.heap.size w w' := by
 have HW := hid hw
 have HA := hid hA
 have HR := hid hR
 generalize hn : R.length = n at *
 have HN := hid hn
 clear hw hA hR hn
 go_enter Tryz.func131, Tryz.ntmps131
 go_wp2
 go_loopw [9, 10, 11] (fun x y z wr => ∃ i j : Nat, i ≤ j ∧ j ≤ n ∧ x = .int .i64 i ∧ y = .int .i64 j ∧ Below w.heap.size w wr ∧ Hid ((∀ t r, t < i → R[t]? = some r → r.1 < k) ∧ (∀ t r, j ≤ t → R[t]? = some r → k ≤ r.1))) (fun x y _ _ => (intOf y).toNat - (intOf x).toNat)
 case atStart => exact ⟨0, n, by omega, by omega, rfl, rfl, Below.refl _ _, hid ⟨fun t r h => by omega, fun t r h hr => by have := (lgs hr).1; have := HN.out; omega⟩⟩
 case round =>
  obtain ⟨i, j, hij, hjn, rfl, rfl, hb, HF⟩ := hrel
  by_cases hlt : i < j
  ·have HNN := HN.out
   obtain ⟨r, hr⟩ : ∃ r, R[(i + j) / 2]? = some r := ⟨R[(i + j) / 2]'(by omega), List.getElem?_eq_getElem _⟩
   have hrc : (rcells r).length = 2 := (HW.out r (List.mem_of_getElem? hr)).1
   have HL := hid ((HR.out.call hg hb).load hr ⟨g, (i + j) / 2 * 2, none⟩ rfl)
   have HRC := hid hrc
   have HRR := hid hr
   have hlt' : (i : Int) < j := by omega
   clear HNN hr hrc
   by_cases hk : r.1 < k
   ·have hcv : cmpI r.1 k = -1 := if_pos hk
    have HCV := hid hcv
    have HK := hid hk
    clear hcv hk
    go_wp2_with (first | (refine wpList_load_list (by first | rfl | simp [Region.wanted, yielded]) 163 _ rfl ⟨g, (i + j) / 2 * 2, none⟩ rfl (rcells r) HL.out _ Tryz.underlying163 rfl (by rw [HRC.out]; kernel_rfl) ?_) | (go_at_call 132; refine (cmp_any _ _ _ _).mono ?_; rw [HCV.out]; rintro e w1 ⟨rfl, hb1⟩))
    go_roundw
    case rel => exact ⟨(i + j) / 2 + 1, j, by omega, by omega, by go_num, by go_num, hb.trans (hb1.mono hb.size), hid ⟨fun t x h hx => by
     rcases Nat.lt_or_ge t ((i + j) / 2) with q | q
     ·exact Int.lt_trans ((HA.out.at q hx HRR.out)) HK.out
     ·obtain rfl : t = (i + j) / 2 := by omega
      rw [HRR.out] at hx
      cases hx
      exact HK.out, HF.out.2⟩⟩
    case measure => first | (simp [intOf]; done) | (simp [intOf]; omega)
   ·obtain ⟨cv, hcv, hc0⟩ : ∃ cv, cmpI r.1 k = cv ∧ ¬ cv < 0 := ⟨_, rfl, by unfold cmpI; rw [if_neg hk]; split <;> omega⟩
    have HCV := hid hcv
    have HK := hid hk
    clear hcv hk
    go_wp2_with (first | (refine wpList_load_list (by first | rfl | simp [Region.wanted, yielded]) 163 _ rfl ⟨g, (i + j) / 2 * 2, none⟩ rfl (rcells r) HL.out _ Tryz.underlying163 rfl (by rw [HRC.out]; kernel_rfl) ?_) | (go_at_call 132; refine (cmp_any _ _ _ _).mono ?_; rw [HCV.out]; rintro e w1 ⟨rfl, hb1⟩))
    go_roundw
    case rel => exact ⟨i, (i + j) / 2, by omega, by omega, by go_num, by go_num, hb.trans (hb1.mono hb.size), hid ⟨HF.out.1, fun t x h hx => by
     have hKK := HK.out
     rcases Nat.lt_or_ge ((i + j) / 2) t with q | q
     ·have := HA.out.at q HRR.out hx
      omega
     ·obtain rfl : t = (i + j) / 2 := by omega
      rw [HRR.out] at hx
      cases hx
      omega⟩⟩
    case measure => first | (simp [intOf]; done) | (simp [intOf]; omega)
  ·obtain rfl : i = j := by omega
   have HNN := HN.out
   obtain ⟨e1, e2, e3⟩ := found_at HA.out (by omega : i ≤ R.length) HF.out.1 HF.out.2
   have E1 := hid e1
   by_cases hin : i < n
   ·obtain ⟨r, hr⟩ : ∃ r, R[i]? = some r := ⟨R[i]'(by omega), List.getElem?_eq_getElem _⟩
    have hrc : (rcells r).length = 2 := (HW.out r (List.mem_of_getElem? hr)).1
    have HL := hid ((HR.out.call hg hb).load hr ⟨g, i * 2, none⟩ rfl)
    have HRC := hid hrc
    obtain ⟨cv, hcv, hc0⟩ : ∃ cv, cmpI r.1 k = cv ∧ (cv = 0 ↔ r.1 = k) := ⟨_, rfl, by unfold cmpI; constructor <;> intro q <;> (try split at q) <;> (try split at q) <;> (try split) <;> (try split) <;> omega⟩
    have HCV := hid hcv
    have hdd : decide (r.1 = k) = decide (cv = 0) := by rw [decide_eq_decide]; exact hc0.symm
    have E2 := hid ((e2 r hr).trans hdd)
    have hin' : (i : Int) < n := by omega
    clear HNN hr hrc e1 e2 e3 hcv hc0 hdd
    go_wp2_with (first | (refine wpList_load_list (by first | rfl | simp [Region.wanted, yielded]) 163 _ rfl ⟨g, i * 2, none⟩ rfl (rcells r) HL.out _ Tryz.underlying163 rfl (by rw [HRC.out]; kernel_rfl) ?_) | (go_at_call 132; refine (cmp_any _ _ _ _).mono ?_; rw [HCV.out]; rintro e w1 ⟨rfl, hb1⟩))
    go_ret2
    rw [E1.out, E2.out]
    exact ⟨by first | rfl | simp, hb.trans (hb1.mono hb.size)⟩
   ·have E2 := hid (e3 (by omega))
    have hin' : ¬ (i : Int) < n := by omega
    clear HNN e1 e2 e3
    go_wp2
    go_ret2
    rw [E1.out, E2.out]
    exact ⟨by first | rfl | simp, hb⟩
def InsPost (w w' : World) (base : Nat) (v v' : Value) (R' : List Rw) : Prop :=
 w'.ownsRow base 163 2 v' R'.length (flat R') ∧ w.grownBy w' v.ownBlock ∧ (v'.ownBlock = v.ownBlock ∨ ∃ g, v'.ownBlock = some g ∧ w.heap.size ≤ g)
theorem mul_bytes {n : Nat} (h : n ≤ 1000001) : n * 32 ≤ 140737488355328 := by omega
theorem ins_end (w : World) (base : Nat) (v : Value) (R : List Rw) (r : Rw) (nb : Nat) (hw : Wide 2 R) (hr : Wide 2 [r]) (hl : R.length ≤ 1000000) (hown : w.ownsRow base 163 2 v R.length (flat R)) (hb : base ≤ w.heap.size)
  (hn : w.heap[nb]? = some (.cells (rcells r).toArray 163 (0, 0))) :
  Calls Tryz.prog 123 #[v, .int .i64 (R.length : Nat), .slice (some ⟨nb, 0, none⟩) 1 1] w fun e w' => ∃ v', e = .returned v' ∧ InsPost w w' base v v' (R ++ [r]) := by
 obtain ⟨i0, hi, hz0, hz1, hz2⟩ := info_parts infoR
 have hlr : (rcells r).length = 1 * 2 := by rw [(hr r (by simp)).1]
 have h1 : ∀ u ∈ rcells r, u.oneCell' = true := (hr r (by simp)).2
 have hcs := add_cells (w := w) (g := nb) (cs := rcells r) (fun j u hj => by rw [cell_cur hn]; exact hj)
 have e1 : flat (R ++ [r]) = flat R ++ rcells r := by rw [flat_append, flat_cons, flat_nil, List.append_nil]
 have e2 : (R ++ [r]).length = R.length + 1 := by simp
 unfold InsPost
 rw [e1, e2]
 have HI := hid hi
 have HO := hid hown
 have HL := hid hlr
 have H1 := hid h1
 have HC := hid hcs
 have hform := hown.2
 generalize flat R = xs at HO hform ⊢
 clear hi hlr h1 hcs hown e1 e2 hw hr hn
 generalize R.length = n at *
 rcases hform with ⟨rfl, rfl⟩ | ⟨g, cap, cur, rfl, q1, q2, q3, q4, q5, q6⟩
 ·go_enter Tryz.func123, Tryz.ntmps123
  go_wp2_with (at_builtin; refine wpList_append_at rfl _ _ 136 rfl base 163 i0 (.agg #[.int .i64 0, .slice none 0 0]) 2 32 Tryz.underlying136 HI.out hz0 hz1 hz2 rfl (by decide) (.slice none 0 0) 0 xs rfl HO.out ⟨nb, 0, none⟩ 1 1 (rcells r) rfl HL.out HC.out H1.out (by unfold maxLen; omega) (mul_bytes (by omega)) hb ?_; intro v' w1 hown' hgrow hat)
  go_ret
  exact ⟨v', rfl, hown', hgrow, hat.imp id (fun h => ⟨_, h, Nat.le_refl _⟩)⟩
 ·clear q2 q5 q6
  go_enter Tryz.func123, Tryz.ntmps123
  go_wp2_with (at_builtin; refine wpList_append_at rfl _ _ 136 rfl base 163 i0 (.agg #[.int .i64 0, .slice none 0 0]) 2 32 Tryz.underlying136 HI.out hz0 hz1 hz2 rfl (by decide) (.slice (some ⟨g, 0, none⟩) n cap) n xs rfl HO.out ⟨nb, 0, none⟩ 1 1 (rcells r) rfl HL.out HC.out H1.out (by unfold maxLen; omega) (mul_bytes (by omega)) hb ?_; intro v' w1 hown' hgrow hat)
  all_goals
   go_ret
   exact ⟨v', rfl, hown', hgrow, hat.imp id (fun h => ⟨_, h, Nat.le_refl _⟩)⟩
end TabS
end
end Go.Proofs.YtchjfeafkmpmbaaGreatDoor
