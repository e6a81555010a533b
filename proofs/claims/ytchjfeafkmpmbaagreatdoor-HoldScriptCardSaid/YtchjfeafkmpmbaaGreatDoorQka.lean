import Derived.Test.YtchjfeafkmpmbaaGreatDoorFrame
import Derived.Lib.Hide
import Derived.Deep.QuietTactic
import Derived.BigQuiet
import Derived.IntWalk
import Derived.Laws.AppendOwn
import Derived.Laws.CopyOwn
import Derived.Deep.RegionLaw
import Derived.Lib.AppendZerosOnto
import Derived.Lib.SliceRun
import Derived.Lib.Overlaps
import Derived.Deep.AppendLies
import Derived.LoopN
import Derived.Laws.Rows
import Derived.OwnWalk
import Derived.StillTailTactics
import Derived.Deep.RegionWith
import Derived.Outline
import Derived.Laws.Externs
import Derived.Deep.Cut
import Derived.BigRegion
import Derived.Deep.MidRow
namespace Go.Proofs.YtchjfeafkmpmbaaGreatDoor
set_option linter.unusedVariables false
set_option linter.unusedSimpArgs false
set_option maxRecDepth 100000
set_option maxHeartbeats 8000000
open Lib (hid)
theorem ags {α : Type _} {xs : Array α} {i : Nat} {b : α} (h : xs[i]? = some b) : ∃ h : i < xs.size, xs[i] = b := Array.getElem?_eq_some_iff.1 h
theorem lgs {α : Type _} {xs : List α} {i : Nat} {b : α} (h : xs[i]? = some b) : ∃ h : i < xs.length, xs[i] = b := List.getElem?_eq_some_iff.1 h
open Go.ChangeShapes Go.WideShapes Go.ChangeAt Go.RowKit
section
theorem ret_bool {a b : Bool} (h : a = b) : Ending.returned (.bool a) = .returned (.bool b) := by rw [h]
theorem ret_int {k : IntKind} {a b : Int} (h : a = b) : Ending.returned (.int k a) = .returned (.int k b) := by rw [h]
theorem same_q {P : Program} {f : FuncId} {args : Array Value} {w : World} {v : Value} (h : Calls P f args w fun e w' => e = .returned v ∧ w = w') : Calls P f args w fun e w' => e = .returned v ∧ w' = w := h.mono fun _ _ ⟨a, b⟩ => ⟨a, b.symm⟩
theorem bcell {W w1 : World} (hb : Below W.heap.size W w1) : (∀ b o, b < W.heap.size → w1.cell? ⟨b, o, none⟩ = W.cell? ⟨b, o, none⟩) ∧ (∀ b o, b < W.heap.size → w1.frozen? ⟨b, o, none⟩ = W.frozen? ⟨b, o, none⟩) :=
 ⟨fun b o h => hb.cell (p := ⟨b, o, none⟩) h, fun b o h => hb.frozen (p := ⟨b, o, none⟩) h⟩
theorem below_drewN {B : Nat} {a b : World} (h : Below B a b) (k : Nat) : Below B a (b.drewN k) := by
 induction k with
 | zero => exact h
 | succ k ih => exact ih.drew
def Kept (n : Nat) (a b : World) : Prop := Below n a b ∧ n ≤ b.heap.size
theorem cell_box {W : World} {B : Nat} {v : Value} {t : TypeId} (h : W.heap[B]? = some (.cells #[v] t (0, 0))) : W.cell? ⟨B, 0, none⟩ = some v ∧ W.frozen? ⟨B, 0, none⟩ = false := by
 constructor <;> simp [World.cell?, World.frozen?, h]
end
section
section
variable {P : Program} {ops : Array Oper} {rest : List Oper} {o : Oper} {a : Act} {w : World} {Q : Exit → Act → World → Prop}
theorem run_copy_rowN (w : World) (dT sT ty elem : TypeId) (i : TypeInfo) (g off dLen dCap : Nat) (a : Addr) (sLen sCap : Nat) (cur : List Value) (t : TypeId) (cs : List Value)
  (hu : P.underlying dT = some (.slice elem)) (hi : P.info? elem = some i)
  (hg : w.heap[g]? = some (.cells cur.toArray t (0, 0))) (hn : cs.length = Nat.min sLen dLen * i.size)
  (hsrc : ∀ j v, cs[j]? = some v → w.cell? (a.add j) = some v) (hfit : off + cs.length ≤ cur.length) (h1 : ∀ v ∈ cs, v.oneCell' = true) :
  (Builtin.copy_ #[dT, sT] ty #[.slice (some ⟨g, off, none⟩) dLen dCap, .slice (some a) sLen sCap]).run P w =
   .ok (goInt (Nat.min sLen dLen)) (w.setRow g (splice cur off cs).toArray) := by
 have hl := run_loadCells_list (P := P) w a cs hsrc
 have hst := run_storeCells_at P g off t cs 0 cur.toArray w hg (by simpa using hfit) h1
 simp [Builtin.copy_, run_underlying hu, Builtin.lenOf, Builtin.firstCells, sizeOf, typeInfo, hi, ← hn, hl, hst, splice]
theorem op_copy_rowN {K : Act → World → Prop} (d s : Operand) (dT sT : TypeId)
  (ho : o.op = .call { callee := .builtin .copy, args := #[d, s], argTypes := #[dT, sT] }) (elem : TypeId) (i : TypeInfo) (hu : P.underlying dT = some (.slice elem)) (hi : P.info? elem = some i)
  (g off dLen dCap : Nat) (ad : Addr) (sLen sCap : Nat) (hd : a.eval d = .slice (some ⟨g, off, none⟩) dLen dCap) (hs : a.eval s = .slice (some ad) sLen sCap)
  (cur : List Value) (t : TypeId) (hg : w.heap[g]? = some (.cells cur.toArray t (0, 0))) (cs : List Value) (hn : cs.length = Nat.min sLen dLen * i.size)
  (hsrc : ∀ j v, cs[j]? = some v → w.cell? (ad.add j) = some v) (hfit : off + cs.length ≤ cur.length) (h1 : ∀ v ∈ cs, v.oneCell' = true)
  (h : ∀ w', w' = w.setRow g (splice cur off cs).toArray → K (a.put o.dst (goInt (Nat.min sLen dLen))) w') : o.wp P a w K Q := by
 have hrun := run_copy_rowN (P := P) w dT sT o.type elem i g off dLen dCap ad sLen sCap cur t cs hu hi hg hn hsrc hfit h1
 unfold Oper.wp
 simp [execOp, ho, resolve, invoke, builtin, hd, hs, hrun, Result.andThen]
 exact h _ rfl
theorem wpList_copy_rowN (hgd : o.guard = none) (d s : Operand) (dT sT : TypeId)
  (ho : o.op = .call { callee := .builtin .copy, args := #[d, s], argTypes := #[dT, sT] }) (elem : TypeId) (i : TypeInfo) (hu : P.underlying dT = some (.slice elem)) (hi : P.info? elem = some i)
  (g off dLen dCap : Nat) (ad : Addr) (sLen sCap : Nat) (hd : a.eval d = .slice (some ⟨g, off, none⟩) dLen dCap) (hs : a.eval s = .slice (some ad) sLen sCap)
  (cur : List Value) (t : TypeId) (hg : w.heap[g]? = some (.cells cur.toArray t (0, 0))) (cs : List Value) (hn : cs.length = Nat.min sLen dLen * i.size)
  (hsrc : ∀ j v, cs[j]? = some v → w.cell? (ad.add j) = some v) (hfit : off + cs.length ≤ cur.length) (h1 : ∀ v ∈ cs, v.oneCell' = true)
  (h : ∀ w', w' = w.setRow g (splice cur off cs).toArray → wpList P ops Q rest (a.put o.dst (goInt (Nat.min sLen dLen))) w') : wpList P ops Q (o :: rest) a w :=
 wpList_plain hgd fun K hK => op_copy_rowN d s dT sT ho elem i hu hi g off dLen dCap ad sLen sCap hd hs cur t hg cs hn hsrc hfit h1 (fun w' hw => hK _ _ (h w' hw))
theorem step_copy_rowN {K : Act → World → Prop} {E : Prop} (hgd : o.guard = none) (d s : Operand) (dT sT : TypeId)
  (ho : o.op = .call { callee := .builtin .copy, args := #[d, s], argTypes := #[dT, sT] }) (elem : TypeId) (i : TypeInfo) (hu : P.underlying dT = some (.slice elem)) (hi : P.info? elem = some i)
  (g off dLen dCap : Nat) (ad : Addr) (sLen sCap : Nat) (hd : a.eval d = .slice (some ⟨g, off, none⟩) dLen dCap) (hs : a.eval s = .slice (some ad) sLen sCap)
  (cur : List Value) (t : TypeId) (hg : w.heap[g]? = some (.cells cur.toArray t (0, 0))) (cs : List Value) (hn : cs.length = Nat.min sLen dLen * i.size)
  (hsrc : ∀ j v, cs[j]? = some v → w.cell? (ad.add j) = some v) (hfit : off + cs.length ≤ cur.length) (h1 : ∀ v ∈ cs, v.oneCell' = true)
  (h : ∀ w', w' = w.setRow g (splice cur off cs).toArray → K (a.put o.dst (goInt (Nat.min sLen dLen))) w') :
  if Region.wanted o (yielded ops a.tmps) = true then Oper.wp P o a w K Q else E := by
 have hw : Region.wanted o (yielded ops a.tmps) = true := by simp [Region.wanted, hgd]
 rw [if_pos hw]
 exact op_copy_rowN d s dT sT ho elem i hu hi g off dLen dCap ad sLen sCap hd hs cur t hg cs hn hsrc hfit h1 h
theorem run_clear_rowN (w : World) (t e ty : TypeId) (z : Value) (hu : P.underlying t = some (.slice e)) (hv : ∀ w, (zeroValue e).run P w = .ok z w) (g off n c : Nat) (cur : List Value) (tt : TypeId)
  (hg : w.heap[g]? = some (.cells cur.toArray tt (0, 0))) (hn : n = 1) (hz : 0 < z.cells.size) (hfit : off + z.cells.size ≤ cur.length) (h1 : ∀ v ∈ z.cells.toList, v.oneCell' = true) :
  (Builtin.clear_ #[t] ty #[.slice (some ⟨g, off, none⟩) n c]).run P w = .ok (.tuple #[]) (w.setRow g (splice cur off z.cells.toList).toArray) := by
 subst hn
 have hzc : (Builtin.zeroCells z.cells 1).toList = z.cells.toList := by
  apply List.ext_getElem
  ·simp [Builtin.zeroCells]
  ·intro j h2 h3
   simp [Builtin.zeroCells] at h2 h3 ⊢
   rw [Nat.mod_eq_of_lt h3]
   simp [h3]
 have hst := run_storeCells_at P g off tt z.cells.toList 0 cur.toArray w hg (by simpa using hfit) h1
 simp [Builtin.clear_, run_underlying hu, hv, hzc, hst, splice]
end
section
variable {P : Program} {ops : Array Oper} {rest : List Oper} {o : Oper} {a : Act} {w : World} {Q : Exit → Act → World → Prop}
theorem wpList_clear_rowN (hgd : o.guard = none) (x : Operand) (t : TypeId) (ho : o.op = .call { callee := .builtin .clear, args := #[x], argTypes := #[t] }) (e : TypeId) (z : Value) (hu : P.underlying t = some (.slice e)) (hv : ∀ w, (zeroValue e).run P w = .ok z w) (g off n c : Nat)
  (hx : a.eval x = .slice (some ⟨g, off, none⟩) n c) (cur : List Value) (tt : TypeId)
  (hg : w.heap[g]? = some (.cells cur.toArray tt (0, 0))) (hn : n = 1) (hz : 0 < z.cells.size) (hfit : off + z.cells.size ≤ cur.length) (h1 : ∀ v ∈ z.cells.toList, v.oneCell' = true)
  (h : ∀ w', w' = w.setRow g (splice cur off z.cells.toList).toArray → wpList P ops Q rest (a.put o.dst (.tuple #[])) w') : wpList P ops Q (o :: rest) a w := by
 refine wpList_plain hgd fun K hK => ?_
 have hrun := run_clear_rowN (P := P) w t e o.type z hu hv g off n c cur tt hg hn hz hfit h1
 unfold Oper.wp
 simp [execOp, ho, resolve, invoke, builtin, hx, hrun, Result.andThen]
 exact hK _ _ (h _ rfl)
theorem step_append_run {K : Act → World → Prop} {E : Prop} (hgd : o.guard = none) (s x : Operand) (t tn : TypeId)
  (ho : o.op = .call { callee := .builtin .append, args := #[s, x], argTypes := #[t, tn] }) (vs vx : Value) (hs : a.eval s = vs) (hx : a.eval x = vx)
  (v' : Value) (w' : World) (hr : (Builtin.append_ #[t, tn] o.type #[vs, vx]).run P w = .ok v' w') (h : K (a.put o.dst v') w') :
  if Region.wanted o (yielded ops a.tmps) = true then Oper.wp P o a w K Q else E := by
 have hw : Region.wanted o (yielded ops a.tmps) = true := by simp [Region.wanted, hgd]
 rw [if_pos hw]
 exact Lib.wp_append_run w s x t tn ho vs vx hs hx v' w' hr h
end
theorem op_append_at {P : Program} {o : Oper} {a : Act} {w : World} {K : Act → World → Prop} {Q : Exit → Act → World → Prop}
  (s x : Operand) (t : TypeId) (hop : o.op = Op.call { callee := Callee.builtin Builtin.append, args := #[s, x], argTypes := #[t, t] })
  (base : Nat) (e : TypeId) (i : TypeInfo) (z : Value) (size bytes : Nat) (h1 : P.underlying t = some (.slice e)) (h2 : P.info? e = some i) (h3 : i.zero = some z) (h4 : i.size = size) (h5 : i.bytes = bytes) (h6 : z.cells.size = size) (h7 : 0 < size)
  (v : Value) (k : Nat) (xs : List Value) (hs : a.eval s = v) (hown : w.ownsRow base e size v k xs) (ad : Addr) (m c : Nat) (news : List Value) (hx : a.eval x = .slice (some ad) m c) (hn : news.length = m * size)
  (hc : ∀ j u, news[j]? = some u → w.cell? (ad.add j) = some u) (h1c : ∀ u ∈ news, u.oneCell' = true) (b1 : k + m ≤ maxLen) (b2 : (k + m) * bytes ≤ 140737488355328) (b3 : base ≤ w.heap.size)
  (hK : ∀ v' w', w'.ownsRow base e size v' (k + m) (xs ++ news) → w.grownBy w' v.ownBlock → (v'.ownBlock = v.ownBlock ∨ v'.ownBlock = some w.heap.size) → K (a.put o.dst v') w') :
  o.wp P a w K Q := by
 obtain ⟨v', w', hrun, r1, r2, r3, r4⟩ := run_append_own_at (P := P) (w := w) base t o.type e i z size bytes h1 h2 h3 h4 h5 h6 h7 v k xs hown ad m c news hn hc h1c b1 b2 b3
 unfold Oper.wp
 simp [execOp, hop, resolve, invoke, builtin, hs, hx, hrun, Result.andThen]
 exact hK v' w' r1 r2 r4
theorem wpList_append_at {P : Program} {ops : Array Oper} {rest : List Oper} {o : Oper} {a : Act} {w : World} {Q : Exit → Act → World → Prop} (hgd : o.guard = none)
  (s x : Operand) (t : TypeId) (hop : o.op = Op.call { callee := Callee.builtin Builtin.append, args := #[s, x], argTypes := #[t, t] })
  (base : Nat) (e : TypeId) (i : TypeInfo) (z : Value) (size bytes : Nat) (h1 : P.underlying t = some (.slice e)) (h2 : P.info? e = some i) (h3 : i.zero = some z) (h4 : i.size = size) (h5 : i.bytes = bytes) (h6 : z.cells.size = size) (h7 : 0 < size)
  (v : Value) (k : Nat) (xs : List Value) (hs : a.eval s = v) (hown : w.ownsRow base e size v k xs) (ad : Addr) (m c : Nat) (news : List Value) (hx : a.eval x = .slice (some ad) m c) (hn : news.length = m * size)
  (hc : ∀ j u, news[j]? = some u → w.cell? (ad.add j) = some u) (h1c : ∀ u ∈ news, u.oneCell' = true) (b1 : k + m ≤ maxLen) (b2 : (k + m) * bytes ≤ 140737488355328) (b3 : base ≤ w.heap.size)
  (hK : ∀ v' w', w'.ownsRow base e size v' (k + m) (xs ++ news) → w.grownBy w' v.ownBlock → (v'.ownBlock = v.ownBlock ∨ v'.ownBlock = some w.heap.size) → wpList P ops Q rest (a.put o.dst v') w') :
  wpList P ops Q (o :: rest) a w :=
 wpList_plain hgd fun K hK2 => op_append_at s x t hop base e i z size bytes h1 h2 h3 h4 h5 h6 h7 v k xs hs hown ad m c news hx hn hc h1c b1 b2 b3 (fun v' w' r1 r2 r3 => hK2 _ _ (hK v' w' r1 r2 r3))
theorem row_form {w : World} {base : Nat} {e : TypeId} {s : Nat} {v : Value} {n : Nat} {xs : List Value} (h : w.ownsRow base e s v (n + 1) xs) : ∃ g cap, v = .slice (some ⟨g, 0, none⟩) (n + 1) cap := by
 rcases h.2 with ⟨_, h⟩ | ⟨g, cap, cur, rfl, _⟩
 ·omega
 ·exact ⟨g, cap, rfl⟩
theorem add_cells {w : World} {g : Nat} {cs : List Value} (h : ∀ j v, cs[j]? = some v → w.cell? ⟨g, j, none⟩ = some v) : ∀ j v, cs[j]? = some v → w.cell? ((⟨g, 0, none⟩ : Addr).add j) = some v := by
 intro j v hj
 have : ((⟨g, 0, none⟩ : Addr).add j) = ⟨g, j, none⟩ := by unfold Addr.add; split <;> simp_all
 rw [this]
 exact h j v hj
theorem add_cells_off {w : World} {g off : Nat} {cs : List Value} (h : ∀ j v, cs[j]? = some v → w.cell? ⟨g, off + j, none⟩ = some v) : ∀ j v, cs[j]? = some v → w.cell? ((⟨g, off, none⟩ : Addr).add j) = some v := by
 intro j v hj
 have : ((⟨g, off, none⟩ : Addr).add j) = ⟨g, off + j, none⟩ := by unfold Addr.add; split <;> simp_all
 rw [this]
 exact h j v hj
theorem cell_cur {w : World} {g : Nat} {cur : List Value} {t : TypeId} (hg : w.heap[g]? = some (.cells cur.toArray t (0, 0))) (j : Nat) : w.cell? ⟨g, j, none⟩ = cur[j]? := by
 rw [cell_of_row w g j cur.toArray t (0, 0) hg]
 simp
theorem grown_setRow (w : World) (g : Nat) (cs : Array Value) : w.grownBy (w.setRow g cs) (some g) := ⟨rfl, rfl, rfl, by simp [World.setRow], fun k _ hk => setRow_other w g k cs (fun e => hk (by rw [e]))⟩
theorem grown_trans {a b c : World} {r : Option Nat} (h : a.grownBy b r) (k : b.grownBy c r) : a.grownBy c r :=
 ⟨k.os.trans h.os, k.tape.trans h.tape, k.output.trans h.output, Nat.le_trans h.size k.size, fun j hj hr => (k.block j (Nat.lt_of_lt_of_le hj h.size) hr).trans (h.block j hj hr)⟩
theorem grown_fresh {a b c : World} {r : Option Nat} {g : Nat} (h : a.grownBy b r) (k : b.grownBy c (some g)) (hg : a.heap.size ≤ g) : a.grownBy c r :=
 ⟨k.os.trans h.os, k.tape.trans h.tape, k.output.trans h.output, Nat.le_trans h.size k.size, fun j hj hr => (k.block j (Nat.lt_of_lt_of_le hj h.size) (by intro e; cases e; omega)).trans (h.block j hj hr)⟩
theorem grown_drew {a b : World} {r : Option Nat} (h : a.grownBy b r) : a.grownBy b.drew r := ⟨h.os, h.tape, h.output, h.size, h.block⟩
abbrev Rw := Int × List Value
def rcells (r : Rw) : List Value := .int .i64 r.1 :: r.2
def flat (R : List Rw) : List Value := R.flatMap rcells
theorem flat_nil : flat [] = [] := rfl
theorem flat_cons (r : Rw) (R : List Rw) : flat (r :: R) = rcells r ++ flat R := rfl
theorem flat_append (A B : List Rw) : flat (A ++ B) = flat A ++ flat B := by simp [flat]
def Wide (C : Nat) (R : List Rw) : Prop := ∀ r ∈ R, (rcells r).length = C ∧ ∀ u ∈ rcells r, u.oneCell' = true
theorem Wide.tail {C : Nat} {r : Rw} {R : List Rw} (h : Wide C (r :: R)) : Wide C R := fun x hx => h x (List.mem_cons_of_mem _ hx)
theorem Wide.take {C : Nat} {R : List Rw} (h : Wide C R) (k : Nat) : Wide C (R.take k) := fun x hx => h x (List.mem_of_mem_take hx)
theorem Wide.drop {C : Nat} {R : List Rw} (h : Wide C R) (k : Nat) : Wide C (R.drop k) := fun x hx => h x (List.mem_of_mem_drop hx)
theorem Wide.append {C : Nat} {A B : List Rw} (h : Wide C A) (k : Wide C B) : Wide C (A ++ B) := fun x hx => (List.mem_append.1 hx).elim (h x) (k x)
theorem flat_length {C : Nat} : ∀ {R : List Rw}, Wide C R → (flat R).length = R.length * C
 | [], _ => by simp [flat]
 | r :: R, h => by
  rw [flat_cons, List.length_append, flat_length h.tail, (h r (by simp)).1, List.length_cons, Nat.add_mul]
  omega
theorem flat_one {C : Nat} {R : List Rw} (h : Wide C R) : ∀ u ∈ flat R, u.oneCell' = true := by
 intro u hu
 obtain ⟨r, hr, hu⟩ := List.mem_flatMap.1 hu
 exact (h r hr).2 u hu
theorem flat_get {C : Nat} : ∀ {R : List Rw}, Wide C R → ∀ {i j : Nat} {r : Rw} {v : Value}, R[i]? = some r → (rcells r)[j]? = some v → (flat R)[i * C + j]? = some v
 | [], _, i, j, r, v, hi, _ => by simp at hi
 | r0 :: R, h, 0, j, r, v, hi, hj => by
  simp at hi
  subst hi
  rw [flat_cons, List.getElem?_append_left (by have := (lgs hj).1; omega)]
  simpa using hj
 | r0 :: R, h, i + 1, j, r, v, hi, hj => by
  have h0 := (h r0 (by simp)).1
  rw [flat_cons, List.getElem?_append_right (by rw [h0, Nat.add_mul]; omega), h0]
  have e : (i + 1) * C + j - C = i * C + j := by rw [Nat.add_mul]; omega
  rw [e]
  exact flat_get h.tail (by simpa using hi) hj
theorem splice_at {α : Type} (A B X D : List α) (h : B.length = X.length) : splice (A ++ (B ++ D)) A.length X = A ++ (X ++ D) := by
 unfold splice
 rw [List.take_left, ← h, ← List.append_assoc A B D, ← List.length_append, List.drop_left]
theorem splice_up {α : Type} (A X r D : List α) (hD : r.length ≤ D.length) :
  splice (splice (A ++ (X ++ D)) (A.length + r.length) X) A.length r = A ++ (r ++ (X ++ D.drop r.length)) := by
 have h1 : A ++ (X ++ D) = (A ++ (X ++ D).take r.length) ++ ((X ++ D).drop r.length) := by
  rw [List.append_assoc, List.take_append_drop]
 have hl : (X ++ D).take r.length = (X ++ D).take r.length := rfl
 have hlen : ((X ++ D).take r.length).length = r.length := by rw [List.length_take, List.length_append]; omega
 have h2 : (X ++ D).drop r.length = ((X ++ D).drop r.length).take X.length ++ D.drop r.length := by
  conv => lhs; rw [← List.take_append_drop X.length ((X ++ D).drop r.length)]
  rw [List.drop_drop, Nat.add_comm, ← List.drop_drop, List.drop_left]
 have h3 : (((X ++ D).drop r.length).take X.length).length = X.length := by
  rw [List.length_take, List.length_drop, List.length_append]
  omega
 rw [h1]
 conv => lhs; arg 1; arg 1; rw [h2]
 have e1 := splice_at (A ++ (X ++ D).take r.length) (((X ++ D).drop r.length).take X.length) X (D.drop r.length) h3
 rw [List.length_append, hlen] at e1
 rw [e1, List.append_assoc]
 exact splice_at A ((X ++ D).take r.length) r (X ++ D.drop r.length) hlen
theorem splice_down {α : Type} (A B X D z : List α) (hz : z.length = B.length) :
  splice (splice (A ++ (B ++ (X ++ D))) A.length X) (A.length + X.length) z = A ++ (X ++ (z ++ D)) := by
 have h2 : B ++ (X ++ D) = (B ++ X).take X.length ++ ((B ++ X).drop X.length ++ D) := by
  rw [← List.append_assoc, ← List.append_assoc, List.take_append_drop]
 have h3 : ((B ++ X).take X.length).length = X.length := by
  rw [List.length_take, List.length_append]; omega
 have h4 : ((B ++ X).drop X.length).length = z.length := by
  rw [List.length_drop, List.length_append]; omega
 rw [h2, splice_at A _ X _ h3, ← List.append_assoc A X, ← List.length_append, splice_at (A ++ X) _ z D h4, List.append_assoc]
theorem length_splice' {α : Type} (L : List α) (off : Nat) (cs : List α) (h : off + cs.length ≤ L.length) : (splice L off cs).length = L.length := by simp [splice]; omega
def Asc (R : List Rw) : Prop := (R.map Prod.fst).Pairwise (· < ·)
def posR (R : List Rw) (k : Int) : Nat := R.countP (fun r => decide (r.1 < k))
def hasR (R : List Rw) (k : Int) : Bool := R.any (fun r => decide (r.1 = k))
theorem posR_le (R : List Rw) (k : Int) : posR R k ≤ R.length := List.countP_le_length
theorem Asc.at {R : List Rw} (h : Asc R) {i j : Nat} {x y : Rw} (hij : i < j) (hi : R[i]? = some x) (hj : R[j]? = some y) : x.1 < y.1 := by
 unfold Asc at h
 rw [List.pairwise_iff_getElem] at h
 obtain ⟨li, ei⟩ := lgs hi
 obtain ⟨lj, ej⟩ := lgs hj
 have := h i j (by simpa using li) (by simpa using lj) hij
 simpa [ei, ej] using this
theorem countP_at : ∀ (R : List Rw) (k : Int) (i : Nat), i ≤ R.length → (∀ j x, j < i → R[j]? = some x → x.1 < k) → (∀ j x, i ≤ j → R[j]? = some x → k ≤ x.1) → posR R k = i
 | [], k, i, hi, _, _ => by simp at hi; subst hi; rfl
 | r :: R, k, 0, _, _, h2 => by
  have h0 := h2 0 r (Nat.le_refl _) (by simp)
  have ih := countP_at R k 0 (Nat.zero_le _) (fun j x hj => absurd hj (Nat.not_lt_zero _)) (fun j x hj hx => h2 (j + 1) x (Nat.zero_le _) (by simpa using hx))
  unfold posR at ih ⊢
  rw [List.countP_cons, ih, if_neg (by simp; omega)]
 | r :: R, k, i + 1, hi, h1, h2 => by
  have h0 := h1 0 r (by omega) (by simp)
  have ih := countP_at R k i (by simpa using hi) (fun j x hj hx => h1 (j + 1) x (by omega) (by simpa using hx)) (fun j x hj hx => h2 (j + 1) x (by omega) (by simpa using hx))
  unfold posR at ih ⊢
  rw [List.countP_cons, ih, if_pos (by simpa using h0)]
theorem found_at {R : List Rw} {k : Int} {i : Nat} (hA : Asc R) (hi : i ≤ R.length) (h1 : ∀ j x, j < i → R[j]? = some x → x.1 < k) (h2 : ∀ j x, i ≤ j → R[j]? = some x → k ≤ x.1) :
  posR R k = i ∧ (∀ x, R[i]? = some x → hasR R k = decide (x.1 = k)) ∧ (i = R.length → hasR R k = false) := by
 refine ⟨countP_at R k i hi h1 h2, fun x hx => ?_, fun e => ?_⟩
 ·rw [Bool.eq_iff_iff]
  unfold hasR
  rw [List.any_eq_true, decide_eq_true_eq]
  constructor
  ·rintro ⟨y, hy, e⟩
   obtain ⟨j, hj⟩ := List.getElem?_of_mem hy
   simp only [decide_eq_true_eq] at e
   rcases Nat.lt_trichotomy j i with q | q | q
   ·have := h1 j y q hj; omega
   ·subst q; rw [hx] at hj; cases hj; exact e
   ·have := hA.at q hx hj
    have := h2 i x (Nat.le_refl _) hx
    omega
  ·intro e
   exact ⟨x, List.mem_of_getElem? hx, by simpa using e⟩
 ·rw [Bool.eq_false_iff]
  intro hc
  unfold hasR at hc
  rw [List.any_eq_true] at hc
  obtain ⟨y, hy, e2⟩ := hc
  obtain ⟨j, hj⟩ := List.getElem?_of_mem hy
  simp only [decide_eq_true_eq] at e2
  have := (lgs hj).1
  have := h1 j y (by omega) hj
  omega
theorem posR_facts {R : List Rw} {k : Int} (hA : Asc R) : (∀ j x, j < posR R k → R[j]? = some x → x.1 < k) ∧ (∀ j x, posR R k ≤ j → R[j]? = some x → k ≤ x.1) := by
 induction R with
 | nil => exact ⟨fun j x _ h => by simp at h, fun j x _ h => by simp at h⟩
 | cons r R ih =>
  have hA' : Asc R := by unfold Asc at hA ⊢; rw [List.map_cons, List.pairwise_cons] at hA; exact hA.2
  have hr : ∀ y ∈ R, r.1 < y.1 := by
   intro y hy
   unfold Asc at hA
   rw [List.map_cons, List.pairwise_cons] at hA
   exact hA.1 y.1 (List.mem_map_of_mem hy)
  obtain ⟨i1, i2⟩ := ih hA'
  by_cases h : r.1 < k
  ·have e : posR (r :: R) k = posR R k + 1 := by unfold posR; rw [List.countP_cons, if_pos (by simpa using h)]
   rw [e]
   constructor
   ·intro j x hj hx
    cases j with
    | zero => simp at hx; subst hx; exact h
    | succ j => exact i1 j x (by omega) (by simpa using hx)
   ·intro j x hj hx
    cases j with
    | zero => omega
    | succ j => exact i2 j x (by omega) (by simpa using hx)
  ·have e0 : posR R k = 0 := by
    unfold posR
    rw [List.countP_eq_zero]
    intro y hy
    have := hr y hy
    simp; omega
   have e : posR (r :: R) k = 0 := by unfold posR at e0 ⊢; rw [List.countP_cons, e0, if_neg (by simpa using h)]
   rw [e]
   constructor
   ·intro j x hj; omega
   ·intro j x hj hx
    cases j with
    | zero => simp at hx; subst hx; omega
    | succ j => exact i2 j x (by omega) (by simpa using hx)
def insR (R : List Rw) (r : Rw) : List Rw := R.take (posR R r.1) ++ r :: R.drop (posR R r.1)
def delR (R : List Rw) (k : Int) : List Rw := R.take (posR R k) ++ R.drop (posR R k + 1)
theorem hasR_at {R : List Rw} {k : Int} (hA : Asc R) : hasR R k = true ↔ ∃ x, R[posR R k]? = some x ∧ x.1 = k := by
 obtain ⟨h1, h2⟩ := posR_facts (k := k) hA
 obtain ⟨_, q1, q2⟩ := found_at hA (posR_le R k) h1 h2
 constructor
 ·intro h
  cases hx : R[posR R k]? with
  | none =>
   have := List.getElem?_eq_none_iff.1 hx
   rw [q2 (by have := posR_le R k; omega)] at h
   cases h
  | some x => exact ⟨x, rfl, by rw [q1 x hx] at h; simpa using h⟩
 ·rintro ⟨x, hx, e⟩
  rw [q1 x hx]
  simpa using e
end
section
section
variable {P : Program} {ops : Array Oper} {rest : List Oper} {o : Oper} {a : Act} {w : World} {Q : Exit → Act → World → Prop}
theorem wp_load_list {K : Act → World → Prop} (ty : TypeId) (x : Operand) (ho : o.op = .load ty x) (p : Addr) (hx : a.eval x = .pointer (some p)) (cs : List Value) (hc : ∀ j v, cs[j]? = some v → w.cell? (p.add j) = some v)
  (d : TypeDesc) (hu : P.underlying ty = some d) (hd : (match d with | .struct _ | .array _ _ => true | _ => false) = true) (hi : (P.info? ty).map (·.size) = some cs.length)
  (h : K (a.put o.dst (.agg cs.toArray)) w) : o.wp P a w K Q := by
 have hl : (loadCells p cs.length).run P w = .ok cs.toArray w := run_loadCells_list (P := P) w p cs hc
 have hrun : (loadVar ty p).run P w = .ok (.agg cs.toArray) w := by
  cases hq : P.info? ty with
  | none => simp [hq] at hi
  | some i =>
   have hs : i.size = cs.length := by simpa [hq] using hi
   have hagg : (isAgg ty).run P w = .ok true w := by
    unfold isAgg
    rw [Sem.run_bind, run_underlying hu w]
    cases d <;> simp_all
   simp [loadVar, Sem.run_bind, hagg, sizeOf, typeInfo, hq, hs, hl]
 unfold Oper.wp execOp
 simp only [ho, hx, Instr.loadAt, Instr.sureAddr, Sem.run_bind, Sem.run_pure, Result.andThen_ok, hrun]
 exact h
theorem wpList_load_list (hw : Region.wanted o (yielded ops a.tmps) = true) (ty : TypeId) (x : Operand) (ho : o.op = .load ty x) (p : Addr) (hx : a.eval x = .pointer (some p)) (cs : List Value) (hc : ∀ j v, cs[j]? = some v → w.cell? (p.add j) = some v)
  (d : TypeDesc) (hu : P.underlying ty = some d) (hd : (match d with | .struct _ | .array _ _ => true | _ => false) = true) (hi : (P.info? ty).map (·.size) = some cs.length)
  (h : wpList P ops Q rest (a.put o.dst (.agg cs.toArray)) w) : wpList P ops Q (o :: rest) a w :=
 wpList_step fun K hK => by
  rw [hw, if_pos rfl]
  exact wp_load_list ty x ho p hx cs hc d hu hd hi (hK _ _ h)
end
end
section
namespace TabS
def C : Nat := 2
theorem infoR : (Tryz.prog.info? 163).map (fun i => (i.zero, i.size, i.bytes)) = some (some (.agg #[.int .i64 0, .slice none 0 0]), 2, 32) := by kernel_rfl
def cmpI (a b : Int) : Int := if a < b then -1 else if b < a then 1 else 0
theorem cmp_any (w : World) (a b : Int) (r : List Value) : Calls Tryz.prog 132 #[.agg (.int .i64 a :: r).toArray, .int .i64 b] w fun e w' => e = .returned (.int .i64 (cmpI a b)) ∧ Below w.heap.size w w' := by
 unfold cmpI
 rcases Int.lt_trichotomy a b with h | h | h
 ·have h2 : ¬ b < a := by omega
  rw [if_pos h]
  go_enter Tryz.func132, Tryz.ntmps132
  go_wp2_with go_in
  go_ret
  exact ⟨rfl, bal (Below.refl _ _) _⟩
 ·subst h
  rw [if_neg (by omega), if_neg (by omega)]
  go_enter Tryz.func132, Tryz.ntmps132
  go_wp2_with go_in
  go_ret
  exact ⟨by simp, bal (Below.refl _ _) _⟩
 ·have h2 : ¬ a < b := by omega
  rw [if_neg h2, if_pos h]
  go_enter Tryz.func132, Tryz.ntmps132
  go_wp2_with go_in
  go_ret
  exact ⟨rfl, bal (Below.refl _ _) _⟩
def RowsIn (w : World) (g : Nat) (R : List Rw) : Prop := ∀ (i j : Nat) (r : Rw) (v : Value), R[i]? = some r → (rcells r)[j]? = some v → w.cell? ⟨g, i * 2 + j, none⟩ = some v
theorem RowsIn.call {w w' : World} {g : Nat} {R : List Rw} (h : RowsIn w g R) (hg : g < w.heap.size) (hb : Below w.heap.size w w') : RowsIn w' g R := fun i j r v hi hj => (hb.cell (p := ⟨g, _, none⟩) hg).trans (h i j r v hi hj)
theorem RowsIn.load {w : World} {g i : Nat} {R : List Rw} {r : Rw} (h : RowsIn w g R) (hi : R[i]? = some r) (A : Addr) (hA : A = ⟨g, i * 2, none⟩) : ∀ j v, (rcells r)[j]? = some v → w.cell? (A.add j) = some v := by
 intro j v hj
 subst hA
 have : ((⟨g, i * 2, none⟩ : Addr).add j) = ⟨g, i * 2 + j, none⟩ := by unfold Addr.add; split <;> simp_all
 rw [this]
 exact h i j r v hi hj
theorem bsf_any (w : World) (g c : Nat) (R : List Rw) (k : Int) (hg : g < w.heap.size) (hw : Wide 2 R) (hA : Asc R) (hl : R.length ≤ 1000000) (hR : RowsIn w g R) :
  Calls Tryz.prog 131 #[.slice (some ⟨g, 0, none⟩) R.length c, .int .i64 k, .func (.func 132) #[] #[]] w fun e w' => e = .returned (.tuple #[.int .i64 (posR R k : Nat), .bool (hasR R k)]) ∧ Below w.heap.size w w' := by
 have HW := hid hw
 have HA := hid hA
 have HR := hid hR
 generalize hn : R.length = n at *
 have HN := hid hn
 clear hw hA hR hn
 go_enter Tryz.func131, Tryz.ntmps131
 go_wp2
 go_loopw [9, 10, 11] (fun x y z wr => ∃ i j : Nat, i ≤ j ∧ j ≤ n ∧ x = .int .i64 i ∧ y = .int .i64 j ∧ Below w.heap.size w wr ∧ Hid ((∀ t r, t < i → R[t]? = some r → r.1 < k) ∧ (∀ t r, j ≤ t → R[t]? = some r → k ≤ r.1))) (fun x y _ _ => (intOf y).toNat - (intOf x).toNat)
 case atStart => exact ⟨0, n, by omega, by omega, rfl, rfl, Below.refl _ _, hid ⟨fun t r h => by omega, fun t r h hr => by have := (lgs hr).1; have := HN.out; omega⟩⟩
 case round =>
  obtain ⟨i, j, hij, hjn, rfl, rfl, hb, HF⟩ := hrel
  by_cases hlt : i < j
  ·have HNN := HN.out
   obtain ⟨r, hr⟩ : ∃ r, R[(i + j) / 2]? = some r := ⟨R[(i + j) / 2]'(by omega), List.getElem?_eq_getElem _⟩
   have hrc : (rcells r).length = 2 := (HW.out r (List.mem_of_getElem? hr)).1
   have HL := hid ((HR.out.call hg hb).load hr ⟨g, (i + j) / 2 * 2, none⟩ rfl)
   have HRC := hid hrc
   have HRR := hid hr
   have hlt' : (i : Int) < j := by omega
   clear HNN hr hrc
   by_cases hk : r.1 < k
   ·have hcv : cmpI r.1 k = -1 := if_pos hk
    have HCV := hid hcv
    have HK := hid hk
    clear hcv hk
    go_wp2_with (first | (refine wpList_load_list (by first | rfl | simp [Region.wanted, yielded]) 163 _ rfl ⟨g, (i + j) / 2 * 2, none⟩ rfl (rcells r) HL.out _ Tryz.underlying163 rfl (by rw [HRC.out]; kernel_rfl) ?_) | (go_at_call 132; refine (cmp_any _ _ _ _).mono ?_; rw [HCV.out]; rintro e w1 ⟨rfl, hb1⟩))
    go_roundw
    case rel => exact ⟨(i + j) / 2 + 1, j, by omega, by omega, by go_num, by go_num, hb.trans (hb1.mono hb.size), hid ⟨fun t x h hx => by
     rcases Nat.lt_or_ge t ((i + j) / 2) with q | q
     ·exact Int.lt_trans ((HA.out.at q hx HRR.out)) HK.out
     ·obtain rfl : t = (i + j) / 2 := by omega
      rw [HRR.out] at hx
      cases hx
      exact HK.out, HF.out.2⟩⟩
    case measure => first | (simp [intOf]; done) | (simp [intOf]; omega)
   ·obtain ⟨cv, hcv, hc0⟩ : ∃ cv, cmpI r.1 k = cv ∧ ¬ cv < 0 := ⟨_, rfl, by unfold cmpI; rw [if_neg hk]; split <;> omega⟩
    have HCV := hid hcv
    have HK := hid hk
    clear hcv hk
    go_wp2_with (first | (refine wpList_load_list (by first | rfl | simp [Region.wanted, yielded]) 163 _ rfl ⟨g, (i + j) / 2 * 2, none⟩ rfl (rcells r) HL.out _ Tryz.underlying163 rfl (by rw [HRC.out]; kernel_rfl) ?_) | (go_at_call 132; refine (cmp_any _ _ _ _).mono ?_; rw [HCV.out]; rintro e w1 ⟨rfl, hb1⟩))
    go_roundw
    case rel => exact ⟨i, (i + j) / 2, by omega, by omega, by go_num, by go_num, hb.trans (hb1.mono hb.size), hid ⟨HF.out.1, fun t x h hx => by
     have hKK := HK.out
     rcases Nat.lt_or_ge ((i + j) / 2) t with q | q
     ·have := HA.out.at q HRR.out hx
      omega
     ·obtain rfl : t = (i + j) / 2 := by omega
      rw [HRR.out] at hx
      cases hx
      omega⟩⟩
    case measure => first | (simp [intOf]; done) | (simp [intOf]; omega)
  ·obtain rfl : i = j := by omega
   have HNN := HN.out
   obtain ⟨e1, e2, e3⟩ := found_at HA.out (by omega : i ≤ R.length) HF.out.1 HF.out.2
   have E1 := hid e1
   by_cases hin : i < n
   ·obtain ⟨r, hr⟩ : ∃ r, R[i]? = some r := ⟨R[i]'(by omega), List.getElem?_eq_getElem _⟩
    have hrc : (rcells r).length = 2 := (HW.out r (List.mem_of_getElem? hr)).1
    have HL := hid ((HR.out.call hg hb).load hr ⟨g, i * 2, none⟩ rfl)
    have HRC := hid hrc
    obtain ⟨cv, hcv, hc0⟩ : ∃ cv, cmpI r.1 k = cv ∧ (cv = 0 ↔ r.1 = k) := ⟨_, rfl, by unfold cmpI; constructor <;> intro q <;> (try split at q) <;> (try split at q) <;> (try split) <;> (try split) <;> omega⟩
    have HCV := hid hcv
    have hdd : decide (r.1 = k) = decide (cv = 0) := by rw [decide_eq_decide]; exact hc0.symm
    have E2 := hid ((e2 r hr).trans hdd)
    have hin' : (i : Int) < n := by omega
    clear HNN hr hrc e1 e2 e3 hcv hc0 hdd
    go_wp2_with (first | (refine wpList_load_list (by first | rfl | simp [Region.wanted, yielded]) 163 _ rfl ⟨g, i * 2, none⟩ rfl (rcells r) HL.out _ Tryz.underlying163 rfl (by rw [HRC.out]; kernel_rfl) ?_) | (go_at_call 132; refine (cmp_any _ _ _ _).mono ?_; rw [HCV.out]; rintro e w1 ⟨rfl, hb1⟩))
    go_ret2
    rw [E1.out, E2.out]
    exact ⟨by first | rfl | simp, hb.trans (hb1.mono hb.size)⟩
   ·have E2 := hid (e3 (by omega))
    have hin' : ¬ (i : Int) < n := by omega
    clear HNN e1 e2 e3
    go_wp2
    go_ret2
    rw [E1.out, E2.out]
    exact ⟨by first | rfl | simp, hb⟩
def InsPost (w w' : World) (base : Nat) (v v' : Value) (R' : List Rw) : Prop :=
 w'.ownsRow base 163 2 v' R'.length (flat R') ∧ w.grownBy w' v.ownBlock ∧ (v'.ownBlock = v.ownBlock ∨ ∃ g, v'.ownBlock = some g ∧ w.heap.size ≤ g)
theorem mul_bytes {n : Nat} (h : n ≤ 1000001) : n * 32 ≤ 140737488355328 := by omega
theorem ins_end (w : World) (base : Nat) (v : Value) (R : List Rw) (r : Rw) (nb : Nat) (hw : Wide 2 R) (hr : Wide 2 [r]) (hl : R.length ≤ 1000000) (hown : w.ownsRow base 163 2 v R.length (flat R)) (hb : base ≤ w.heap.size)
  (hn : w.heap[nb]? = some (.cells (rcells r).toArray 163 (0, 0))) :
  Calls Tryz.prog 123 #[v, .int .i64 (R.length : Nat), .slice (some ⟨nb, 0, none⟩) 1 1] w fun e w' => ∃ v', e = .returned v' ∧ InsPost w w' base v v' (R ++ [r]) := by
 obtain ⟨i0, hi, hz0, hz1, hz2⟩ := info_parts infoR
 have hlr : (rcells r).length = 1 * 2 := by rw [(hr r (by simp)).1]
 have h1 : ∀ u ∈ rcells r, u.oneCell' = true := (hr r (by simp)).2
 have hcs := add_cells (w := w) (g := nb) (cs := rcells r) (fun j u hj => by rw [cell_cur hn]; exact hj)
 have e1 : flat (R ++ [r]) = flat R ++ rcells r := by rw [flat_append, flat_cons, flat_nil, List.append_nil]
 have e2 : (R ++ [r]).length = R.length + 1 := by simp
 unfold InsPost
 rw [e1, e2]
 have HI := hid hi
 have HO := hid hown
 have HL := hid hlr
 have H1 := hid h1
 have HC := hid hcs
 have hform := hown.2
 generalize flat R = xs at HO hform ⊢
 clear hi hlr h1 hcs hown e1 e2 hw hr hn
 generalize R.length = n at *
 rcases hform with ⟨rfl, rfl⟩ | ⟨g, cap, cur, rfl, q1, q2, q3, q4, q5, q6⟩
 ·go_enter Tryz.func123, Tryz.ntmps123
  go_wp2_with (at_builtin; refine wpList_append_at rfl _ _ 136 rfl base 163 i0 (.agg #[.int .i64 0, .slice none 0 0]) 2 32 Tryz.underlying136 HI.out hz0 hz1 hz2 rfl (by decide) (.slice none 0 0) 0 xs rfl HO.out ⟨nb, 0, none⟩ 1 1 (rcells r) rfl HL.out HC.out H1.out (by unfold maxLen; omega) (mul_bytes (by omega)) hb ?_; intro v' w1 hown' hgrow hat)
  go_ret
  exact ⟨v', rfl, hown', hgrow, hat.imp id (fun h => ⟨_, h, Nat.le_refl _⟩)⟩
 ·clear q2 q5 q6
  go_enter Tryz.func123, Tryz.ntmps123
  go_wp2_with (at_builtin; refine wpList_append_at rfl _ _ 136 rfl base 163 i0 (.agg #[.int .i64 0, .slice none 0 0]) 2 32 Tryz.underlying136 HI.out hz0 hz1 hz2 rfl (by decide) (.slice (some ⟨g, 0, none⟩) n cap) n xs rfl HO.out ⟨nb, 0, none⟩ 1 1 (rcells r) rfl HL.out HC.out H1.out (by unfold maxLen; omega) (mul_bytes (by omega)) hb ?_; intro v' w1 hown' hgrow hat)
  all_goals
   go_ret
   exact ⟨v', rfl, hown', hgrow, hat.imp id (fun h => ⟨_, h, Nat.le_refl _⟩)⟩
theorem sizeR (w : World) : (Go.sizeOf 163).run Tryz.prog w = .ok 2 w := by
 obtain ⟨i0, hi, hz0, hz1, hz2⟩ := info_parts infoR
 simp [Go.sizeOf, typeInfo, hi, hz1]
theorem overlaps_no (w : World) (nb g off la ca lb cb kA kB : Nat) (tA tB : TypeId) (hne : nb ≠ g) (hA : w.shape? nb = some (tA, kA)) (hB : w.shape? g = some (tB, kB)) (hk : kB ≠ 0) (hfa : w.frozen? ⟨nb, 0, none⟩ = false) (hfe : w.frozen? ⟨nb, kA, none⟩ = false) :
  (callFunc 134 #[.slice (some ⟨nb, 0, none⟩) la ca, .slice (some ⟨g, off, none⟩) lb cb]).run Tryz.prog w = .ok (.value (.bool false)) w := by
 rw [run_callFunc_extern Tryz.func134 (by kernel_rfl) (by kernel_rfl) (by kernel_rfl) (e := Extern.SlicesOverlaps.overlaps #[136, 136] #[4]) (by kernel_rfl),
  Lib.run_overlaps_apart w 136 4 163 Tryz.underlying136 2 sizeR ⟨nb, 0, none⟩ ⟨g, off, none⟩ la ca lb cb hne tA tB kA kB hA hB hk hfa hfe]
 rfl
theorem shape_row {w : World} {g : Nat} {cur : Array Value} {t : TypeId} {fr : Nat × Nat} (h : w.heap[g]? = some (.cells cur t fr)) : w.shape? g = some (t, cur.size) := by simp [World.shape?, h]
theorem froz_row {w : World} {g o : Nat} {cur : Array Value} {t : TypeId} (h : w.heap[g]? = some (.cells cur t (0, 0))) : w.frozen? ⟨g, o, none⟩ = false := by simp [World.frozen?, h]
theorem ins_room (w : World) (base g cap p : Nat) (R : List Rw) (D : List Value) (r : Rw) (nb : Nat) (hw : Wide 2 R) (hr : Wide 2 [r]) (hl : R.length ≤ 1000000) (hp : p < R.length) (hcap : R.length + 1 ≤ cap) (hcm : cap ≤ maxLen) (hbg : base ≤ g)
  (hg : w.heap[g]? = some (.cells (flat R ++ D).toArray 163 (0, 0))) (hD : (flat R ++ D).length = cap * 2) (hne : nb ≠ g)
  (hn : w.heap[nb]? = some (.cells (rcells r).toArray 163 (0, 0))) :
  Calls Tryz.prog 123 #[.slice (some ⟨g, 0, none⟩) R.length cap, .int .i64 p, .slice (some ⟨nb, 0, none⟩) 1 1] w fun e w' => ∃ v', e = .returned v' ∧ InsPost w w' base (.slice (some ⟨g, 0, none⟩) R.length cap) v' (R.take p ++ r :: R.drop p) := by
 obtain ⟨i0, hi, hz0, hz1, hz2⟩ := info_parts infoR
 have hlr : (rcells r).length = 2 := (hr r (by simp)).1
 have h1 : ∀ u ∈ rcells r, u.oneCell' = true := (hr r (by simp)).2
 have hcur : flat R ++ D = flat (R.take p) ++ (flat (R.drop p) ++ D) := by
  rw [← List.append_assoc, ← flat_append, List.take_append_drop]
 have lA : (flat (R.take p)).length = p * 2 := by rw [flat_length (hw.take p), List.length_take, Nat.min_eq_left (by omega)]
 have lX : (flat (R.drop p)).length = (R.length - p) * 2 := by rw [flat_length (hw.drop p), List.length_drop]
 have oX := flat_one (hw.drop p)
 have e2 : (R.take p ++ r :: R.drop p).length = R.length + 1 := by simp; omega
 have e1 : flat (R.take p ++ r :: R.drop p) = flat (R.take p) ++ (rcells r ++ flat (R.drop p)) := by rw [flat_append, flat_cons]
 rw [hcur] at hg hD
 unfold InsPost
 rw [e1, e2]
 have lD : (flat (R.take p)).length + ((flat (R.drop p)).length + D.length) = cap * 2 := by rw [← hD]; simp
 generalize flat (R.take p) = A at *
 generalize flat (R.drop p) = X at *
 generalize R.length = n at *
 clear hcur e1 e2 hw hr hD
 generalize hY : rcells r = Y at *
 clear hY
 have hDl : 2 ≤ D.length := by rw [lA, lX] at lD; omega
 have hov := fun la ca lb cb => overlaps_no w nb g ((p + 1) * 2) la ca lb cb Y.toArray.size _ _ _ hne (shape_row hn) (shape_row hg) (by rw [List.size_toArray]; simp only [List.length_append]; omega) (froz_row hn) (froz_row hn)
 have hlt : (p : Int) < n := by omega
 have hpn : ¬ (p : Int) = n := by omega
 have hcc : ¬ (cap : Int) < (n : Int) + 1 := by omega
 have hc1 : ¬ cap = p + 1 := by omega
 have hc0 : ¬ cap = p := by omega
 have hcap63 : cap ≤ 9223372036854775807 := by unfold maxLen at hcm; omega
 have hx1 : ∀ j u, X[j]? = some u → w.cell? ((⟨g, p * 2, none⟩ : Addr).add j) = some u := add_cells_off (fun j u hj => by
  rw [cell_cur hg, ← lA, List.getElem?_append_right (by omega), Nat.add_sub_cancel_left, List.getElem?_append_left (lgs hj).1]
  exact hj)
 have hy1 : ∀ j u, Y[j]? = some u → w.cell? ((⟨nb, 0, none⟩ : Addr).add j) = some u := add_cells (fun j u hj => by rw [cell_cur hn]; exact hj)
 have HG := hid hg
 have hgd : w.drew.heap[g]? = some (.cells (A ++ (X ++ D)).toArray 163 (0, 0)) := hg
 have hxd : ∀ j u, X[j]? = some u → w.drew.cell? ((⟨g, p * 2, none⟩ : Addr).add j) = some u := hx1
 have HGD := hid hgd
 have HXD := hid hxd
 have HN := hid hn
 have HX := hid hx1
 have HY := hid hy1
 have LA := hid lA
 have LX := hid lX
 have LD := hid lD
 have LR := hid hlr
 have OX := hid oX
 have OY := hid h1
 have HI := hid hi
 have HZ := hid hz1
 have HDL := hid hDl
 clear hg hgd hxd hn hx1 hy1 lA lX lD hlr oX h1 hi hz0 hz1 hz2 hDl
 go_enter Tryz.func123, Tryz.ntmps123
 go_upto_region 15 with (simp only [hov])
 have LAo := LA.out
 have LXo := LX.out
 have LDo := LD.out
 have hDl2 := HDL.out
 have LRo := LR.out
 have hn1 : ∀ s d : Nat, s = n + 1 - p → d = n + 1 - (p + 1) → X.length = Nat.min s d * i0.size := by
  intro s d hs hd
  rw [LXo, HZ.out, show Nat.min s d = d from Nat.min_eq_right (by omega)]
  congr 1; omega
 have hn2 : ∀ s d : Nat, s = 1 → d = n + 1 - p → Y.length = Nat.min s d * i0.size := by
  intro s d hs hd
  rw [LRo, HZ.out, show Nat.min s d = s from Nat.min_eq_left (by omega)]
  omega
 have hf1 : (p + 1) * 2 + X.length ≤ (A ++ (X ++ D)).length := by simp only [List.length_append]; omega
 have hf2 : p * 2 + Y.length ≤ (splice (A ++ (X ++ D)) ((p + 1) * 2) X).length := by
  rw [length_splice' _ _ _ hf1]; simp only [List.length_append]; omega
 have hsp : splice (splice (A ++ (X ++ D)) ((p + 1) * 2) X) (p * 2) Y = A ++ (Y ++ (X ++ D.drop Y.length)) := by
  have := splice_up A X Y D (by omega)
  rw [LAo, LRo] at this
  rw [LRo, ← this, show (p + 1) * 2 = p * 2 + 2 by omega]
 have hq1 : IntKind.i64.wrap ((p : Int) + 1) = (p : Int) + 1 := IntWalk.i64_in _ (by omega)
 have hq2 : ((p : Int) + 1).toNat = p + 1 := by omega
 have hq3 : (0 : Int) ≤ (p : Int) + 1 := by omega
 have hq4 : p ≤ n := by omega
 have hq5 : (p : Int) ≤ (n : Int) + 1 := by omega
 have HN1 := hid hn1
 have HN2 := hid hn2
 have HF1 := hid hf1
 have HF2 := hid hf2
 have HSP := hid hsp
 clear hn1 hn2 hf1 hf2 hsp hDl2 LAo LXo LDo LRo
 go_region_law (refine step_copy_rowN rfl _ _ 136 136 rfl 163 i0 Tryz.underlying136 HI.out g ((p + 1) * 2) (n - p) (cap - (p + 1)) ⟨g, p * 2, none⟩ (n + 1 - p) (cap - p) (by simp [Act.eval, Act.put]) (by simp [Act.eval, Act.put]) (A ++ (X ++ D)) 163 HGD.out X (HN1.out (n + 1 - p) (n - p) rfl (by omega)) HXD.out HF1.out OX.out ?_; intro w1 hw1)
 obtain ⟨w1, hw1⟩ : ∃ x, x = w.drew.setRow g (splice (A ++ (X ++ D)) ((p + 1) * 2) X).toArray := ⟨_, rfl⟩
 rw [← hw1]
 have hg1 : w1.heap[g]? = some (.cells (splice (A ++ (X ++ D)) ((p + 1) * 2) X).toArray 163 (0, 0)) := by rw [hw1]; exact setRow_heap w.drew g _ _ _ _ HGD.out
 have hn1 : w1.heap[nb]? = some (.cells Y.toArray 163 (0, 0)) := by rw [hw1]; exact (setRow_other w.drew g nb _ hne).trans HN.out
 have hgr1 : w.grownBy w1 (some g) := by rw [hw1]; exact grown_trans (⟨rfl, rfl, rfl, Nat.le_refl _, fun _ _ _ => rfl⟩ : w.grownBy w.drew (some g)) (grown_setRow _ _ _)
 have hy1 : ∀ j u, Y[j]? = some u → w1.cell? ((⟨nb, 0, none⟩ : Addr).add j) = some u := add_cells (fun j u hj => by rw [cell_cur hn1]; exact hj)
 have HG1 := hid hg1
 have HGR := hid hgr1
 have HY1 := hid hy1
 clear hw1 hg1 hn1 hgr1 hy1 hov
 go_wp2_with (first | refine wpList_copy_rowN rfl _ _ 136 136 rfl 163 i0 Tryz.underlying136 HI.out g (p * 2) (n + 1 - p) (cap - p) ⟨nb, 0, none⟩ 1 1 (by simp [Act.eval, Act.put]) (by simp [Act.eval, Act.put]) (splice (A ++ (X ++ D)) ((p + 1) * 2) X) 163 HG1.out Y (HN2.out 1 (n + 1 - p) rfl rfl) HY1.out HF2.out OY.out ?_; intro w2 hw2; have hg2 : w2.heap[g]? = some (.cells (splice (splice (A ++ (X ++ D)) ((p + 1) * 2) X) (p * 2) Y).toArray 163 (0, 0)) := (by rw [hw2]; exact setRow_heap w1 g _ _ _ _ HG1.out); have HG2 := hid hg2; have HGR2 := hid (show w.grownBy w2 (some g) by rw [hw2]; exact grown_trans HGR.out (grown_setRow _ _ _)); clear hg2 hw2)
 go_ret
 have hg2 := HG2.out
 rw [HSP.out] at hg2
 have LAo := LA.out
 have LXo := LX.out
 have LDo := LD.out
 have LRo := LR.out
 have hDl2 := HDL.out
 have hlen : (A ++ (Y ++ X)).length = (n + 1) * 2 := by simp only [List.length_append]; omega
 refine ⟨_, rfl, ⟨hlen, .inr ⟨g, cap, _, rfl, hbg, hg2, hcap, hcm, ?_, ?_⟩⟩, HGR2.out, .inl rfl⟩
 ·simp only [List.size_toArray, List.length_append, List.length_drop]; omega
 ·rw [← hlen]
  have : A ++ (Y ++ (X ++ D.drop Y.length)) = (A ++ (Y ++ X)) ++ D.drop Y.length := by simp
  simp only [this]
  exact List.take_left
theorem zeros_len (k : Nat) : (Builtin.zeroCells (Value.cells (.agg #[.int .i64 0, .slice none 0 0])) k).toList.length = k * 2 := by
 rw [Array.length_toList, size_zeroCells]
 rfl
theorem ins_grow (w : World) (base g cap p : Nat) (R : List Rw) (D : List Value) (r : Rw) (nb : Nat) (hw : Wide 2 R) (hr : Wide 2 [r]) (hl : R.length ≤ 1000000) (hp : p < R.length) (hle : R.length ≤ cap) (hcap : cap < R.length + 1) (hbw : base ≤ w.heap.size)
  (hg : w.heap[g]? = some (.cells (flat R ++ D).toArray 163 (0, 0)))
  (hn : w.heap[nb]? = some (.cells (rcells r).toArray 163 (0, 0))) :
  Calls Tryz.prog 123 #[.slice (some ⟨g, 0, none⟩) R.length cap, .int .i64 p, .slice (some ⟨nb, 0, none⟩) 1 1] w fun e w' => ∃ v', e = .returned v' ∧ InsPost w w' base (.slice (some ⟨g, 0, none⟩) R.length cap) v' (R.take p ++ r :: R.drop p) := by
 obtain ⟨i0, hi, hz0, hz1, hz2⟩ := info_parts infoR
 have hlr : (rcells r).length = 2 := (hr r (by simp)).1
 have h1 : ∀ u ∈ rcells r, u.oneCell' = true := (hr r (by simp)).2
 have hcur : flat R ++ D = flat (R.take p) ++ (flat (R.drop p) ++ D) := by
  rw [← List.append_assoc, ← flat_append, List.take_append_drop]
 have lA : (flat (R.take p)).length = p * 2 := by rw [flat_length (hw.take p), List.length_take, Nat.min_eq_left (by omega)]
 have lX : (flat (R.drop p)).length = (R.length - p) * 2 := by rw [flat_length (hw.drop p), List.length_drop]
 have oX := flat_one (hw.drop p)
 have e2 : (R.take p ++ r :: R.drop p).length = R.length + 1 := by simp; omega
 have e1 : flat (R.take p ++ r :: R.drop p) = flat (R.take p) ++ (rcells r ++ flat (R.drop p)) := by rw [flat_append, flat_cons]
 rw [hcur] at hg
 unfold InsPost
 rw [e1, e2]
 generalize flat (R.take p) = A at *
 generalize flat (R.drop p) = X at *
 generalize R.length = n at *
 clear hcur e1 e2 hw hr
 generalize hY : rcells r = Y at *
 clear hY
 obtain rfl : cap = n := by omega
 have hgl : g < w.heap.size := (ags hg).1
 have hnl : nb < w.heap.size := (ags hn).1
 have hlt : (p : Int) < cap := by omega
 have hpn : ¬ (p : Int) = cap := by omega
 have hcc : (cap : Int) < (cap : Int) + 1 := by omega
 have hc0 : ¬ cap = p := by omega
 have ha1 : ∀ j u, A[j]? = some u → w.drew.cell? ((⟨g, 0, none⟩ : Addr).add j) = some u := add_cells (fun j u hj => by
  rw [cell_cur (w := w.drew) hg, List.getElem?_append_left (lgs hj).1]
  exact hj)
 have hap := Lib.run_append_grow_zeros (P := Tryz.prog) w 136 3 136 163 i0 (.agg #[.int .i64 0, .slice none 0 0]) .i64 .i64 Tryz.underlying136 Tryz.underlying3 hi hz0 (some ⟨g, 0, none⟩) p cap A
  (run_firstCells_some (P := Tryz.prog) w.drew i0.size p ⟨g, 0, none⟩ p cap A (by rw [lA, hz1]) ha1) (cap + 1 - p) (by omega) (by rw [hz1]; omega) (by omega) (by omega) (by rw [hz2]; omega) (by rw [hz2]; exact growslice_fits (by omega) (by omega))
 have hk1 : p + (cap + 1 - p) = cap + 1 := by omega
 have hk2 : ((cap + 1 - p : Nat) : Int) = (cap : Int) + 1 - (p : Int) := by omega
 rw [hk1, hk2] at hap
 have hgc1 := grownCap_ge w (cap + 1) cap 163
 have hgc2 : grownCap w (cap + 1) cap 163 ≤ maxLen := grownCap_le_maxLen w (cap + 1) cap 163 (by unfold maxLen; omega)
 generalize grownCap w (cap + 1) cap 163 = gc at hap hgc1 hgc2
 obtain ⟨Z1, hZ1⟩ : ∃ L, L = (Builtin.zeroCells (Value.cells (.agg #[.int .i64 0, .slice none 0 0])) (cap + 1 - p)).toList := ⟨_, rfl⟩
 obtain ⟨Z2, hZ2⟩ : ∃ L, L = (Builtin.zeroCells (Value.cells (.agg #[.int .i64 0, .slice none 0 0])) (gc - (cap + 1))).toList := ⟨_, rfl⟩
 have lZ1 : Z1.length = (cap + 1 - p) * 2 := by rw [hZ1]; exact zeros_len _
 have lZ2 : Z2.length = (gc - (cap + 1)) * 2 := by rw [hZ2]; exact zeros_len _
 have hLz : A.toArray ++ Builtin.zeroCells (Value.cells (.agg #[.int .i64 0, .slice none 0 0])) (cap + 1 - p) ++ Builtin.zeroCells (Value.cells (.agg #[.int .i64 0, .slice none 0 0])) (gc - (cap + 1)) = (A ++ (Z1 ++ Z2)).toArray := by
  apply Array.ext'
  simp [hZ1, hZ2]
 rw [hLz] at hap
 clear hZ1 hZ2 hLz
 obtain ⟨w1, hw1⟩ : ∃ x, x = w.drew.alloc (.cells (A ++ (Z1 ++ Z2)).toArray 163) := ⟨_, rfl⟩
 rw [← hw1] at hap
 have hG1 : w1.heap[w.heap.size]? = some (.cells (A ++ (Z1 ++ Z2)).toArray 163 (0, 0)) := by rw [hw1]; exact heap_alloc_new w.drew _
 have hO1 : ∀ k, k < w.heap.size → w1.heap[k]? = w.heap[k]? := fun k hk => by rw [hw1]; exact heap_alloc_old w.drew _ hk
 have hgr1 : w.grownBy w1 (some g) := by rw [hw1]; exact grown_trans (⟨rfl, rfl, rfl, Nat.le_refl _, fun _ _ _ => rfl⟩ : w.grownBy w.drew (some g)) (World.grownBy_alloc _ _ _)
 generalize hG : w.heap.size = G at *
 have hg1 := (hO1 g hgl).trans hg
 have hn1 := (hO1 nb hnl).trans hn
 have hy1 : ∀ j u, Y[j]? = some u → w1.cell? ((⟨nb, 0, none⟩ : Addr).add j) = some u := add_cells (fun j u hj => by rw [cell_cur hn1]; exact hj)
 have hn1' : ∀ s d : Nat, s = 1 → d = cap + 1 - p → Y.length = Nat.min s d * i0.size := by
  intro s d hs hd
  rw [hlr, hz1, hs, hd, show Nat.min 1 (cap + 1 - p) = 1 from Nat.min_eq_left (by omega)]
 have hn2' : ∀ s d : Nat, s = cap - p → d = cap + 1 - (p + 1) → X.length = Nat.min s d * i0.size := by
  intro s d hs hd
  rw [lX, hz1, hs, hd, show Nat.min (cap - p) (cap + 1 - (p + 1)) = cap - p from Nat.min_eq_left (by omega)]
 have hB : Z1 = Z1.take 2 ++ Z1.drop 2 := (List.take_append_drop _ _).symm
 have hs1 : splice (A ++ (Z1 ++ Z2)) (p * 2) Y = (A ++ Y) ++ (Z1.drop 2 ++ Z2) := by
  have := splice_at A (Z1.take 2) Y (Z1.drop 2 ++ Z2) (by rw [List.length_take, hlr]; omega)
  rw [lA, ← List.append_assoc (Z1.take 2), List.take_append_drop] at this
  rw [this, List.append_assoc]
 have hs2 : splice ((A ++ Y) ++ (Z1.drop 2 ++ Z2)) ((p + 1) * 2) X = (A ++ Y) ++ (X ++ Z2) := by
  have := splice_at (A ++ Y) (Z1.drop 2) X Z2 (by rw [List.length_drop]; omega)
  rw [List.length_append, lA, hlr] at this
  rw [← this, show (p + 1) * 2 = p * 2 + 2 by omega]
 have hf1 : p * 2 + Y.length ≤ (A ++ (Z1 ++ Z2)).length := by simp only [List.length_append]; omega
 have hf2 : (p + 1) * 2 + X.length ≤ ((A ++ Y) ++ (Z1.drop 2 ++ Z2)).length := by simp only [List.length_append, List.length_drop]; omega
 have hq1 : IntKind.i64.wrap ((p : Int) + 1) = (p : Int) + 1 := IntWalk.i64_in _ (by omega)
 have hq2 : ((p : Int) + 1).toNat = p + 1 := by omega
 have hq3 : (0 : Int) ≤ (p : Int) + 1 := by omega
 have hq4 : p ≤ cap := by omega
 have hq5 : (p : Int) ≤ (cap : Int) + 1 := by omega
 have hq6 : ¬ gc = p := by omega
 have hq7 : ¬ gc = p + 1 := by omega
 have hq8 : gc ≤ 9223372036854775807 := by unfold maxLen at hgc2; omega
 have hlen : ((A ++ Y) ++ X).length = (cap + 1) * 2 := by simp only [List.length_append]; omega
 have hlenZ : (((A ++ Y) ++ X) ++ Z2).length = gc * 2 := by simp only [List.length_append]; omega
 have hxx : ∀ j u, X[j]? = some u → w.cell? ((⟨g, p * 2, none⟩ : Addr).add j) = some u := add_cells_off (fun j u hj => by
  rw [cell_cur hg, ← lA, List.getElem?_append_right (by omega), Nat.add_sub_cancel_left, List.getElem?_append_left (lgs hj).1]
  exact hj)
 have HAP := hid hap
 have HG1 := hid hG1
 have HI := hid hi
 have HY1 := hid hy1
 have HN1 := hid hn1'
 have HN2 := hid hn2'
 have HF1 := hid hf1
 rw [List.append_assoc] at hf2 hs2
 have HF2 := hid hf2
 have HS1 := hid hs1
 have HS2 := hid hs2
 have OY := hid h1
 have OX := hid oX
 have HLEN := hid hlen
 have HLENZ := hid hlenZ
 have HXX := hid hxx
 have HO1 := hid hO1
 have HGR := hid hgr1
 have HGS := hid hG
 clear hap hG1 hi hy1 hn1' hn2' hf1 hf2 hs1 hs2 h1 oX hlen hlenZ hxx hO1 hgr1 hG hg1 hn1 hg hn ha1 hw1 hB lA lX lZ1 lZ2 hlr hz0 hz1 hz2 hk1 hk2
 go_enter Tryz.func123, Tryz.ntmps123
 go_upto_region 11 with (first
  | (at_builtin; refine Lib.wpList_append_run _ rfl _ _ 136 3 rfl (.slice (some ⟨g, 0, none⟩) p cap) (.int .i64 ((cap : Int) + 1 - (p : Int))) (by simp [Act.eval, Act.put]) (by simp [Act.eval, Act.put]) _ _ HAP.out ?_)
  | (refine wpList_copy_rowN rfl _ _ 136 136 rfl 163 i0 Tryz.underlying136 HI.out G (p * 2) (cap + 1 - p) (gc - p) ⟨nb, 0, none⟩ 1 1 (by simp [Act.eval, Act.put]) (by simp [Act.eval, Act.put]) (A ++ (Z1 ++ Z2)) 163 HG1.out Y (HN1.out 1 (cap + 1 - p) rfl rfl) HY1.out HF1.out OY.out ?_; intro w2 hw2; have hg2 : w2.heap[G]? = some (.cells (splice (A ++ (Z1 ++ Z2)) (p * 2) Y).toArray 163 (0, 0)) := (by rw [hw2]; exact setRow_heap w1 G _ _ _ _ HG1.out); have HG2 := hid hg2; have HGR2 := hid (show w.grownBy w2 (some g) by rw [hw2]; exact grown_fresh HGR.out (grown_setRow _ _ _) (Nat.le_of_eq HGS.out)); have HO2 := hid (show ∀ k, k < G → w2.heap[k]? = w.heap[k]? by intro k hk; rw [hw2]; exact (setRow_other w1 G k _ (by omega)).trans (HO1.out k hk)); clear hg2 hw2))
 have hg2 := HG2.out
 rw [HS1.out] at hg2
 have hgd : w2.drew.heap[G]? = some (.cells ((A ++ Y) ++ (Z1.drop 2 ++ Z2)).toArray 163 (0, 0)) := hg2
 have hxd : ∀ j u, X[j]? = some u → w2.drew.cell? ((⟨g, p * 2, none⟩ : Addr).add j) = some u := fun j u hj => by
  have hh : w2.drew.heap[g]? = w.heap[g]? := HO2.out g hgl
  have hbk : ((⟨g, p * 2, none⟩ : Addr).add j).block = g := by unfold Addr.add; split <;> rfl
  exact (World.cell?_of_block (by rw [hbk]; exact hh)).trans (HXX.out j u hj)
 rw [List.append_assoc] at hgd
 have HGD := hid hgd
 have HXD := hid hxd
 clear hg2 hgd hxd
 go_region_law (refine step_copy_rowN rfl _ _ 136 136 rfl 163 i0 Tryz.underlying136 HI.out G ((p + 1) * 2) (cap - p) (gc - (p + 1)) ⟨g, p * 2, none⟩ (cap - p) (cap - p) (by simp [Act.eval, Act.put]) (by simp [Act.eval, Act.put]) (A ++ (Y ++ (Z1.drop 2 ++ Z2))) 163 HGD.out X (HN2.out (cap - p) (cap - p) rfl (by omega)) HXD.out HF2.out OX.out ?_; intro w3 hw3)
 obtain ⟨w3, hw3⟩ : ∃ x, x = w2.drew.setRow G (splice (A ++ (Y ++ (Z1.drop 2 ++ Z2))) ((p + 1) * 2) X).toArray := ⟨_, rfl⟩
 rw [← hw3]
 have hg3 : w3.heap[G]? = some (.cells (((A ++ Y) ++ X) ++ Z2).toArray 163 (0, 0)) := by
  rw [hw3, List.append_assoc (A ++ Y), ← HS2.out]; exact setRow_heap w2.drew G _ _ _ _ HGD.out
 have hgr3 : w.grownBy w3 (some g) := by rw [hw3]; exact grown_fresh (grown_drew HGR2.out) (grown_setRow _ _ _) (by have := HGS.out; omega)
 have HG3 := hid hg3
 have HGR3 := hid hgr3
 clear hw3 hg3 hgr3 hq1 hq2 hq3
 go_wp2
 go_ret
 refine ⟨_, rfl, ⟨by rw [← List.append_assoc]; exact HLEN.out, .inr ⟨G, gc, _, rfl, by have := HGS.out; omega, HG3.out, hgc1, hgc2, ?_, ?_⟩⟩, HGR3.out, .inr ⟨G, rfl, by have := HGS.out; omega⟩⟩
 ·rw [List.size_toArray]; exact HLENZ.out
 ·rw [← HLEN.out, ← List.append_assoc]
  simp only []
  exact List.take_left
theorem zero_run (w : World) : (zeroValue 163).run Tryz.prog w = .ok (.agg #[.int .i64 0, .slice none 0 0]) w := by
 obtain ⟨i0, hi, hz0, hz1, hz2⟩ := info_parts infoR
 simp [zeroValue, typeInfo, hi, hz0]
theorem zone : ∀ u ∈ (Value.cells (.agg #[.int .i64 0, .slice none 0 0])).toList, u.oneCell' = true := by
 intro u hu
 have h : (Value.cells (.agg #[.int .i64 0, .slice none 0 0])).toList.all (·.oneCell') = true := by decide +kernel
 exact List.all_eq_true.1 h u hu
theorem del_run (w : World) (base g cap p m : Nat) (R : List Rw) (D : List Value) (hw : Wide 2 R) (hl : R.length ≤ 1000000) (hm : R.length = m + 1) (hp : p < R.length) (hle : R.length ≤ cap) (hcm : cap ≤ maxLen) (hbg : base ≤ g)
  (hg : w.heap[g]? = some (.cells (flat R ++ D).toArray 163 (0, 0))) (hD : (flat R ++ D).length = cap * 2) :
  Calls Tryz.prog 127 #[.slice (some ⟨g, 0, none⟩) R.length cap, .int .i64 p, .int .i64 ((p : Int) + 1)] w fun e w' => e = .returned (.slice (some ⟨g, 0, none⟩) m cap) ∧ w'.ownsRow base 163 2 (.slice (some ⟨g, 0, none⟩) m cap) m (flat (R.take p ++ R.drop (p + 1))) ∧ w.grownBy w' (some g) := by
 obtain ⟨i0, hi, hz0, hz1, hz2⟩ := info_parts infoR
 have hcur : flat R ++ D = flat (R.take p) ++ (flat ((R.drop p).take 1) ++ (flat (R.drop (p + 1)) ++ D)) := by
  rw [← List.append_assoc, ← List.append_assoc, ← flat_append, ← flat_append]
  congr 2
  rw [List.append_assoc, show R.drop (p + 1) = (R.drop p).drop 1 by rw [List.drop_drop], List.take_append_drop, List.take_append_drop]
 have lA : (flat (R.take p)).length = p * 2 := by rw [flat_length (hw.take p), List.length_take, Nat.min_eq_left (by omega)]
 have lB : (flat ((R.drop p).take 1)).length = 2 := by rw [flat_length ((hw.drop p).take 1), List.length_take, List.length_drop, Nat.min_eq_left (by omega)]
 have lX : (flat (R.drop (p + 1))).length = (R.length - (p + 1)) * 2 := by rw [flat_length (hw.drop (p + 1)), List.length_drop]
 have oX := flat_one (hw.drop (p + 1))
 rw [hcur] at hg hD
 have e1 : flat (R.take p ++ R.drop (p + 1)) = flat (R.take p) ++ flat (R.drop (p + 1)) := flat_append _ _
 rw [e1]
 generalize flat (R.take p) = A at *
 generalize flat ((R.drop p).take 1) = B at *
 generalize flat (R.drop (p + 1)) = X at *
 rw [hm] at lX hp hle hl ⊢
 clear hcur e1 hw hm
 have lall : A.length + (B.length + (X.length + D.length)) = cap * 2 := by rw [← hD]; simp
 have hpm : (p : Int) + 1 ≤ (m : Int) + 1 := by omega
 have hlt : (p : Int) ≤ (m : Int) + 1 := by omega
 have hne : ¬ (p : Int) = (p : Int) + 1 := by omega
 have hcap63 : cap ≤ 9223372036854775807 := by unfold maxLen at hcm; omega
 have hq1 : IntKind.i64.wrap ((p : Int) + 1) = (p : Int) + 1 := IntWalk.i64_in _ (by omega)
 have hq2 : ((p : Int) + 1).toNat = p + 1 := by omega
 have hq3 : (0 : Int) ≤ (p : Int) + 1 := by omega
 have hq4 : p ≤ m := by omega
 have hq5 : p ≤ cap := by omega
 have hq6 : (p : Int) ≤ cap := by omega
 have hq7 : m + 1 - (p + 1) = m - p := by omega
 have hc0 : ¬ cap = p := by omega
 have hc1 : ¬ cap = m := by omega
 have hx1 : ∀ ad : Addr, (¬ cap = p + 1 → ad = ⟨g, (p + 1) * 2, none⟩) → ∀ j u, X[j]? = some u → w.drew.cell? (ad.add j) = some u := by
  intro ad had j u hj
  have hjl := (lgs hj).1
  rw [had (by omega)]
  refine add_cells_off (w := w.drew) (fun j u hj => ?_) j u hj
  have hjl := (lgs hj).1
  rw [cell_cur (w := w.drew) hg, show (p + 1) * 2 = p * 2 + 2 by omega, ← lA, ← lB, List.getElem?_append_right (by omega), show A.length + B.length + j - A.length = B.length + j by omega, List.getElem?_append_right (by omega), Nat.add_sub_cancel_left, List.getElem?_append_left hjl]
  exact hj
 have happ : ∀ (ad : Addr) (c : Nat), (¬ cap = p + 1 → ad = ⟨g, (p + 1) * 2, none⟩) → (Builtin.append_ #[136, 136] 136 #[.slice (some ⟨g, 0, none⟩) p cap, .slice (some ad) (m - p) c]).run Tryz.prog w.drew = .ok (.slice (some ⟨g, 0, none⟩) m cap) (w.drew.setRow g (splice (A ++ (B ++ (X ++ D))) (p * 2) X).toArray) := by
  intro ad c had
  have h := run_append_room (P := Tryz.prog) w.drew 136 136 163 i0 Tryz.underlying136 hi g p cap _ hg ad (m - p) c X (by rw [lX, hz1]; omega) (hx1 ad had) oX (by omega) (by rw [hz1]; simp only [List.size_toArray, List.length_append]; omega)
  rw [show p + (m - p) = m by omega, hz1] at h
  rw [h]
  simp [splice]
 have hs1 : splice (splice (A ++ (B ++ (X ++ D))) (p * 2) X) (m * 2) (Value.cells (.agg #[.int .i64 0, .slice none 0 0])).toList = (A ++ X) ++ ((Value.cells (.agg #[.int .i64 0, .slice none 0 0])).toList ++ D) := by
  have := splice_down A B X D (Value.cells (.agg #[.int .i64 0, .slice none 0 0])).toList (by rw [lB]; rfl)
  rw [lA, lX, show p * 2 + (m + 1 - (p + 1)) * 2 = m * 2 by omega] at this
  rw [this, List.append_assoc]
 have lz : (Value.cells (.agg #[.int .i64 0, .slice none 0 0])).toList.length = 2 := rfl
 have hf1 : p * 2 + X.length ≤ (A ++ (B ++ (X ++ D))).length := by simp only [List.length_append]; omega
 have hf2 : m * 2 + (Value.cells (.agg #[.int .i64 0, .slice none 0 0])).size ≤ (splice (A ++ (B ++ (X ++ D))) (p * 2) X).length := by
  rw [length_splice' _ _ _ hf1, show (Value.cells (.agg #[.int .i64 0, .slice none 0 0])).size = 2 from rfl]; simp only [List.length_append]; omega
 have hlen : (A ++ X).length = m * 2 := by simp only [List.length_append]; omega
 have hlenZ : ((A ++ X) ++ ((Value.cells (.agg #[.int .i64 0, .slice none 0 0])).toList ++ D)).length = cap * 2 := by simp only [List.length_append, lz]; omega
 have HG := hid hg
 have HAP := hid happ
 have HS1 := hid hs1
 have HF2 := hid hf2
 have HLEN := hid hlen
 have HLENZ := hid hlenZ
 clear hg happ hs1 hf2 hlen hlenZ hx1 hf1 lA lB lX oX hD lall hi hz0 hz1 hz2 lz
 generalize hW : splice (A ++ (B ++ (X ++ D))) (p * 2) X = S at *
 clear hW
 have hrest : ∀ w1 : World, w1 = w.drew.setRow g S.toArray → w1.heap[g]? = some (.cells S.toArray 163 (0, 0)) ∧ ∀ w2, w2 = w1.setRow g (splice S (m * 2) (Value.cells (.agg #[.int .i64 0, .slice none 0 0])).toList).toArray → w2.ownsRow base 163 2 (.slice (some ⟨g, 0, none⟩) m cap) m (A ++ X) ∧ w.grownBy w2 (some g) := by
  rintro w1 rfl
  have hg1 := setRow_heap w.drew g _ S.toArray _ (0, 0) HG.out
  refine ⟨hg1, ?_⟩
  rintro w2 rfl
  rw [HS1.out]
  refine ⟨⟨HLEN.out, .inr ⟨g, cap, _, rfl, hbg, setRow_heap _ g _ _ _ _ hg1, by omega, hcm, ?_, ?_⟩⟩, ?_⟩
  ·rw [List.size_toArray]; exact HLENZ.out
  ·rw [← HLEN.out]
   simp only []
   exact List.take_left
  ·exact grown_trans (grown_trans (⟨rfl, rfl, rfl, Nat.le_refl _, fun _ _ _ => rfl⟩ : w.grownBy w.drew (some g)) (grown_setRow _ _ _)) (grown_setRow _ _ _)
 have HRE := hid hrest
 clear hrest
 by_cases hpc : cap = p + 1
 ·obtain rfl : m = p := by omega
  subst hpc
  have hq8 : (m : Int) ≤ (m : Int) + 1 := by omega
  have HAP0 := HAP.out ⟨g, 0, none⟩ 0 (fun h => absurd rfl h)
  rw [Nat.sub_self] at HAP0
  have HAP1 := hid HAP0
  clear HAP0 HAP
  go_enter Tryz.func127, Tryz.ntmps127
  go_upto_region 5 with fail
  go_region_law (refine step_append_run rfl _ _ 136 136 rfl (.slice (some ⟨g, 0, none⟩) m (m + 1)) (.slice (some ⟨g, 0, none⟩) 0 0) (by simp [Act.eval, Act.put]) (by simp [Act.eval, Act.put]) _ _ HAP1.out ?_)
  obtain ⟨w1, hw1⟩ : ∃ x, x = w.drew.setRow g S.toArray := ⟨_, rfl⟩
  rw [← hw1]
  obtain ⟨hg1, hr1⟩ := HRE.out w1 hw1
  have HG1 := hid hg1
  have HR1 := hid hr1
  clear hw1 hg1 hr1 hq1 hq2 hq3
  go_wp2_with (refine wpList_clear_rowN rfl _ 136 rfl 163 (.agg #[.int .i64 0, .slice none 0 0]) Tryz.underlying136 zero_run g (m * 2) 1 _ (by simp [Act.eval, Act.put]; rfl) S 163 HG1.out rfl (by decide) HF2.out zone ?_; intro w2 hw2; have HR2 := hid (HR1.out w2 hw2); clear hw2)
  go_ret
  exact ⟨rfl, HR2.out⟩
 ·go_enter Tryz.func127, Tryz.ntmps127
  go_upto_region 5 with fail
  go_region_law (refine step_append_run rfl _ _ 136 136 rfl (.slice (some ⟨g, 0, none⟩) p cap) (.slice (some ⟨g, (p + 1) * 2, none⟩) (m - p) (cap - (p + 1))) (by simp [Act.eval, Act.put]) (by simp [Act.eval, Act.put]) _ _ (HAP.out ⟨g, (p + 1) * 2, none⟩ (cap - (p + 1)) (fun h => rfl)) ?_)
  obtain ⟨w1, hw1⟩ : ∃ x, x = w.drew.setRow g S.toArray := ⟨_, rfl⟩
  rw [← hw1]
  obtain ⟨hg1, hr1⟩ := HRE.out w1 hw1
  have HG1 := hid hg1
  have HR1 := hid hr1
  clear hw1 hg1 hr1 hq1 hq2 hq3
  go_wp2_with (refine wpList_clear_rowN rfl _ 136 rfl 163 (.agg #[.int .i64 0, .slice none 0 0]) Tryz.underlying136 zero_run g (m * 2) 1 _ (by simp [Act.eval, Act.put]; rfl) S 163 HG1.out rfl (by decide) HF2.out zone ?_; intro w2 hw2; have HR2 := hid (HR1.out w2 hw2); clear hw2)
  go_ret
  exact ⟨rfl, HR2.out⟩
theorem bsf_none (w : World) (c : Int) (k : Int) (f : Value) : Calls Tryz.prog 131 #[.slice none 0 0, .int .i64 k, f] w fun e w' => e = .returned (.tuple #[.int .i64 0, .bool false]) ∧ w = w' := by
 go_enter Tryz.func131, Tryz.ntmps131
 go_wp2
 refine wp_loop_rounds 1 ?_
 rw [rounds_succ]
 go_wp2
 go_ret2
 exact ⟨by simp, rfl⟩
theorem ins_any (w : World) (base : Nat) (v : Value) (R : List Rw) (r : Rw) (nb p : Nat) (hw : Wide 2 R) (hr : Wide 2 [r]) (hl : R.length ≤ 1000000) (hp : p ≤ R.length) (hown : w.ownsRow base 163 2 v R.length (flat R)) (hb : base ≤ w.heap.size) (hne : v.ownBlock ≠ some nb)
  (hn : w.heap[nb]? = some (.cells (rcells r).toArray 163 (0, 0))) :
  Calls Tryz.prog 123 #[v, .int .i64 p, .slice (some ⟨nb, 0, none⟩) 1 1] w fun e w' => ∃ v', e = .returned v' ∧ InsPost w w' base v v' (R.take p ++ r :: R.drop p) := by
 by_cases h : p = R.length
 ·subst h
  rw [List.take_length, List.drop_length]
  exact ins_end w base v R r nb hw hr hl hown hb hn
 ·rcases hown.2 with ⟨_, h0⟩ | ⟨g, cap, cur, rfl, q1, q2, q3, q4, q5, q6⟩
  ·omega
  ·have hcur : cur = (flat R ++ cur.toList.drop (R.length * 2)).toArray := by
    rw [← q6, List.take_append_drop]
   have hlen : (flat R ++ cur.toList.drop (R.length * 2)).length = cap * 2 := by
    rw [← q5, ← Array.length_toList, ← q6, List.take_append_drop]
   rw [hcur] at q2
   by_cases hroom : R.length + 1 ≤ cap
   ·exact ins_room w base g cap p R _ r nb hw hr hl (by omega) hroom q4 q1 q2 hlen (by intro e; subst e; exact hne rfl) hn
   ·exact ins_grow w base g cap p R _ r nb hw hr hl (by omega) q3 (by omega) hb q2 hn
structure TabAt (w : World) (b o base : Nat) (v : Value) (R : List Rw) : Prop where
 cell : w.cell? ⟨b, o, none⟩ = some v
 froz : w.frozen? ⟨b, o, none⟩ = false
 row : w.ownsRow base 163 2 v R.length (flat R)
 ne : b < base
 base : base ≤ w.heap.size
 wide : Wide 2 R
 asc : Asc R
 le : R.length ≤ 1000000
structure Only (w w' : World) (b o : Nat) (v v' : Value) : Prop where
 os : w'.os = w.os
 tape : w'.tape = w.tape
 output : w'.output = w.output
 size : w.heap.size ≤ w'.heap.size
 block : ∀ k, k < w.heap.size → k ≠ b → v.ownBlock ≠ some k → w'.heap[k]? = w.heap[k]?
 cells : ∀ j, j ≠ o → w'.cell? ⟨b, j, none⟩ = w.cell? ⟨b, j, none⟩
 frozs : ∀ j, w'.frozen? ⟨b, j, none⟩ = w.frozen? ⟨b, j, none⟩
 foot : v'.ownBlock = v.ownBlock ∨ ∃ g, v'.ownBlock = some g ∧ w.heap.size ≤ g
theorem row_of_block {w w' : World} {base : Nat} {e : TypeId} {s : Nat} {v : Value} {n : Nat} {xs : List Value} (h : w.ownsRow base e s v n xs) (k : ∀ g, v.ownBlock = some g → w'.heap[g]? = w.heap[g]?) : w'.ownsRow base e s v n xs := by
 refine ⟨h.1, ?_⟩
 rcases h.2 with h2 | ⟨g, cap, cur, rfl, q1, q2, q3⟩
 ·exact .inl h2
 ·exact .inr ⟨g, cap, cur, rfl, q1, (k g rfl).trans q2, q3⟩
theorem TabAt.lt {w : World} {b o base : Nat} {v : Value} {R : List Rw} (h : TabAt w b o base v R) : b < w.heap.size := Nat.lt_of_lt_of_le h.ne h.base
theorem TabAt.own {w : World} {b o base g : Nat} {v : Value} {R : List Rw} (h : TabAt w b o base v R) (hg : v.ownBlock = some g) : base ≤ g ∧ g < w.heap.size := h.row.lt g hg
theorem TabAt.of {w w' : World} {b o base : Nat} {v : Value} {R : List Rw} (h : TabAt w b o base v R) (hs : w.heap.size ≤ w'.heap.size) (hc : w'.cell? ⟨b, o, none⟩ = w.cell? ⟨b, o, none⟩) (hf : w'.frozen? ⟨b, o, none⟩ = w.frozen? ⟨b, o, none⟩) (hg : ∀ g, v.ownBlock = some g → w'.heap[g]? = w.heap[g]?) : TabAt w' b o base v R :=
 ⟨hc.trans h.cell, hf.trans h.froz, row_of_block h.row hg, h.ne, Nat.le_trans h.base hs, h.wide, h.asc, h.le⟩
theorem TabAt.call {w w' : World} {b o base : Nat} {v : Value} {R : List Rw} (h : TabAt w b o base v R) (hb : Below w.heap.size w w') : TabAt w' b o base v R :=
 h.of hb.size (hb.cell (p := ⟨b, o, none⟩) h.lt) (hb.frozen (p := ⟨b, o, none⟩) h.lt) (fun g hg => hb.block g (h.own hg).2)
theorem TabAt.form {w : World} {b o base : Nat} {v : Value} {R : List Rw} (h : TabAt w b o base v R) : (v = .slice none 0 0 ∧ R = []) ∨ ∃ g c, v = .slice (some ⟨g, 0, none⟩) R.length c ∧ g < w.heap.size ∧ base ≤ g ∧ R.length ≤ c ∧ c ≤ maxLen ∧ RowsIn w g R := by
 rcases h.row.2 with ⟨h1, h2⟩ | ⟨g, cap, cur, rfl, q1, q2, q3, q4, q5, q6⟩
 ·exact .inl ⟨h1, List.length_eq_zero_iff.1 h2⟩
 ·refine .inr ⟨g, cap, rfl, (ags q2).1, q1, q3, q4, fun i j r u hi hj => ?_⟩
  have e := h.row.cells (g := g) rfl _ _ (flat_get h.wide hi hj)
  have ha : ((⟨g, 0, none⟩ : Addr).add (i * 2 + j)) = ⟨g, i * 2 + j, none⟩ := by unfold Addr.add; split <;> simp_all
  rwa [ha] at e
theorem find_any (w : World) (b o base : Nat) (v : Value) (R : List Rw) (k : Int) (h : TabAt w b o base v R) :
  Calls Tryz.prog 122 #[.pointer (some ⟨b, o, none⟩), .int .i64 k] w fun e w' => e = .returned (.tuple #[.int .i64 (posR R k : Nat), .bool (hasR R k)]) ∧ Below w.heap.size w w' := by
 have hc := h.cell
 have HT := hid h
 rcases h.form with ⟨rfl, rfl⟩ | ⟨g, c, rfl, hg, _, _, _, hr⟩
 ·clear h
  go_enter Tryz.func122, Tryz.ntmps122
  go_wp2_with (go_at_call 131; refine (bsf_none _ 0 _ _).mono ?_; rintro e w1 ⟨rfl, rfl⟩)
  go_ret2
  exact ⟨rfl, Below.refl _ _⟩
 ·have HR := hid hr
  clear h hr
  go_enter Tryz.func122, Tryz.ntmps122
  go_wp2_with (go_at_call 131; refine (bsf_any _ g c R k hg HT.out.wide HT.out.asc HT.out.le HR.out).mono ?_; rintro e w1 ⟨rfl, hb1⟩)
  go_ret2
  exact ⟨rfl, hb1⟩
def placeV (v : Value) (p : Nat) : Bool → Value
 | true => .pointer (v.ownBlock.map fun g => ⟨g, p * 2 + 1, none⟩)
 | false => .pointer none
theorem get_any (w : World) (b o base : Nat) (v : Value) (R : List Rw) (k : Int) (h : TabAt w b o base v R) :
  Calls Tryz.prog 114 #[.pointer (some ⟨b, o, none⟩), .int .i64 k] w fun e w' => e = .returned (.tuple #[placeV v (posR R k) (hasR R k), .bool (hasR R k)]) ∧ Below w.heap.size w w' := by
 have HT := hid h
 cases hh : hasR R k with
 | false =>
  have HH := hid hh
  clear h hh
  go_enter Tryz.func114, Tryz.ntmps114
  go_wp2_with (go_at_call 122; refine (find_any _ b o base v R k HT.out).mono ?_; rw [HH.out]; rintro e w1 ⟨rfl, hb1⟩)
  go_ret2
  exact ⟨rfl, hb1⟩
 | true =>
  obtain ⟨x, hx, _⟩ := (hasR_at h.asc).1 hh
  have hpl := (lgs hx).1
  have hle := h.le
  have HH := hid hh
  have hc := h.cell
  have hbl := h.lt
  rcases h.form with ⟨rfl, rfl⟩ | ⟨g, c, rfl, hg, _, _, _, hr⟩
  ·simp at hx
  ·clear h hh hr hx
   generalize hp : posR R k = p at *
   have HP := hid hp
   clear hp
   go_enter Tryz.func114, Tryz.ntmps114
   go_wp2_with (go_at_call 122; refine (find_any _ b o base _ R k HT.out).mono ?_; rw [HH.out, HP.out]; rintro e w1 ⟨rfl, hb1⟩; obtain ⟨hc1, hf1⟩ := bcell hb1; have hz1 : w.heap.size ≤ w1.heap.size := hb1.size)
   go_ret2
   exact ⟨rfl, hb1⟩
end TabS
end
end Go.Proofs.YtchjfeafkmpmbaaGreatDoor
