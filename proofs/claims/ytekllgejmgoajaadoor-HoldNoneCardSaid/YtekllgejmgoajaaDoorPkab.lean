import Derived.Test.YtekllgejmgoajaaDoorPkaa
import Derived.Laws.AppendOwn
import Derived.Laws.CopyOwn
import Derived.Deep.RegionLaw
import Derived.Lib.AppendZerosOnto
import Derived.Lib.SliceRun
import Derived.Lib.Overlaps
import Derived.Deep.AppendLies
namespace Go.Proofs.YtekllgejmgoajaaDoor
set_option linter.unusedVariables false
set_option linter.unusedSimpArgs false
set_option maxRecDepth 100000
set_option maxHeartbeats 8000000
section
open Go.ChangeShapes Go.WideShapes Go.ChangeAt Go.RowKit
section
variable {P : Program} {ops : Array Oper} {rest : List Oper} {o : Oper} {a : Act} {w : World} {Q : Exit → Act → World → Prop}
theorem run_copy_rowN (w : World) (dT sT ty elem : TypeId) (i : TypeInfo) (g off dLen dCap : Nat) (a : Addr) (sLen sCap : Nat) (cur : List Value) (t : TypeId) (cs : List Value)
  (hu : P.underlying dT = some (.slice elem)) (hi : P.info? elem = some i)
  (hg : w.heap[g]? = some (.cells cur.toArray t (0, 0))) (hn : cs.length = Nat.min sLen dLen * i.size)
  (hsrc : ∀ j v, cs[j]? = some v → w.cell? (a.add j) = some v) (hfit : off + cs.length ≤ cur.length) (h1 : ∀ v ∈ cs, v.oneCell' = true) :
  (Builtin.copy_ #[dT, sT] ty #[.slice (some ⟨g, off, none⟩) dLen dCap, .slice (some a) sLen sCap]).run P w =
   .ok (goInt (Nat.min sLen dLen)) (w.setRow g (splice cur off cs).toArray) := by
 have hl := run_loadCells_list (P := P) w a cs hsrc
 have hst := run_storeCells_at P g off t cs 0 cur.toArray w hg (by simpa using hfit) h1
 simp [Builtin.copy_, run_underlying hu, Builtin.lenOf, Builtin.firstCells, sizeOf, typeInfo, hi, ← hn, hl, hst, splice]
theorem op_copy_rowN {K : Act → World → Prop} (d s : Operand) (dT sT : TypeId)
  (ho : o.op = .call { callee := .builtin .copy, args := #[d, s], argTypes := #[dT, sT] }) (elem : TypeId) (i : TypeInfo) (hu : P.underlying dT = some (.slice elem)) (hi : P.info? elem = some i)
  (g off dLen dCap : Nat) (ad : Addr) (sLen sCap : Nat) (hd : a.eval d = .slice (some ⟨g, off, none⟩) dLen dCap) (hs : a.eval s = .slice (some ad) sLen sCap)
  (cur : List Value) (t : TypeId) (hg : w.heap[g]? = some (.cells cur.toArray t (0, 0))) (cs : List Value) (hn : cs.length = Nat.min sLen dLen * i.size)
  (hsrc : ∀ j v, cs[j]? = some v → w.cell? (ad.add j) = some v) (hfit : off + cs.length ≤ cur.length) (h1 : ∀ v ∈ cs, v.oneCell' = true)
  (h : ∀ w', w' = w.setRow g (splice cur off cs).toArray → K (a.put o.dst (goInt (Nat.min sLen dLen))) w') : o.wp P a w K Q := by
 have hrun := run_copy_rowN (P := P) w dT sT o.type elem i g off dLen dCap ad sLen sCap cur t cs hu hi hg hn hsrc hfit h1
 unfold Oper.wp
 simp [execOp, ho, resolve, invoke, builtin, hd, hs, hrun, Result.andThen]
 exact h _ rfl
theorem wpList_copy_rowN (hgd : o.guard = none) (d s : Operand) (dT sT : TypeId)
  (ho : o.op = .call { callee := .builtin .copy, args := #[d, s], argTypes := #[dT, sT] }) (elem : TypeId) (i : TypeInfo) (hu : P.underlying dT = some (.slice elem)) (hi : P.info? elem = some i)
  (g off dLen dCap : Nat) (ad : Addr) (sLen sCap : Nat) (hd : a.eval d = .slice (some ⟨g, off, none⟩) dLen dCap) (hs : a.eval s = .slice (some ad) sLen sCap)
  (cur : List Value) (t : TypeId) (hg : w.heap[g]? = some (.cells cur.toArray t (0, 0))) (cs : List Value) (hn : cs.length = Nat.min sLen dLen * i.size)
  (hsrc : ∀ j v, cs[j]? = some v → w.cell? (ad.add j) = some v) (hfit : off + cs.length ≤ cur.length) (h1 : ∀ v ∈ cs, v.oneCell' = true)
  (h : ∀ w', w' = w.setRow g (splice cur off cs).toArray → wpList P ops Q rest (a.put o.dst (goInt (Nat.min sLen dLen))) w') : wpList P ops Q (o :: rest) a w :=
 wpList_plain hgd fun K hK => op_copy_rowN d s dT sT ho elem i hu hi g off dLen dCap ad sLen sCap hd hs cur t hg cs hn hsrc hfit h1 (fun w' hw => hK _ _ (h w' hw))
theorem step_copy_rowN {K : Act → World → Prop} {E : Prop} (hgd : o.guard = none) (d s : Operand) (dT sT : TypeId)
  (ho : o.op = .call { callee := .builtin .copy, args := #[d, s], argTypes := #[dT, sT] }) (elem : TypeId) (i : TypeInfo) (hu : P.underlying dT = some (.slice elem)) (hi : P.info? elem = some i)
  (g off dLen dCap : Nat) (ad : Addr) (sLen sCap : Nat) (hd : a.eval d = .slice (some ⟨g, off, none⟩) dLen dCap) (hs : a.eval s = .slice (some ad) sLen sCap)
  (cur : List Value) (t : TypeId) (hg : w.heap[g]? = some (.cells cur.toArray t (0, 0))) (cs : List Value) (hn : cs.length = Nat.min sLen dLen * i.size)
  (hsrc : ∀ j v, cs[j]? = some v → w.cell? (ad.add j) = some v) (hfit : off + cs.length ≤ cur.length) (h1 : ∀ v ∈ cs, v.oneCell' = true)
  (h : ∀ w', w' = w.setRow g (splice cur off cs).toArray → K (a.put o.dst (goInt (Nat.min sLen dLen))) w') :
  if Region.wanted o (yielded ops a.tmps) = true then Oper.wp P o a w K Q else E := by
 have hw : Region.wanted o (yielded ops a.tmps) = true := by simp [Region.wanted, hgd]
 rw [if_pos hw]
 exact op_copy_rowN d s dT sT ho elem i hu hi g off dLen dCap ad sLen sCap hd hs cur t hg cs hn hsrc hfit h1 h
end
section
variable {P : Program} {ops : Array Oper} {rest : List Oper} {o : Oper} {a : Act} {w : World} {Q : Exit → Act → World → Prop}
end
theorem op_append_at {P : Program} {o : Oper} {a : Act} {w : World} {K : Act → World → Prop} {Q : Exit → Act → World → Prop}
  (s x : Operand) (t : TypeId) (hop : o.op = Op.call { callee := Callee.builtin Builtin.append, args := #[s, x], argTypes := #[t, t] })
  (base : Nat) (e : TypeId) (i : TypeInfo) (z : Value) (size bytes : Nat) (h1 : P.underlying t = some (.slice e)) (h2 : P.info? e = some i) (h3 : i.zero = some z) (h4 : i.size = size) (h5 : i.bytes = bytes) (h6 : z.cells.size = size) (h7 : 0 < size)
  (v : Value) (k : Nat) (xs : List Value) (hs : a.eval s = v) (hown : w.ownsRow base e size v k xs) (ad : Addr) (m c : Nat) (news : List Value) (hx : a.eval x = .slice (some ad) m c) (hn : news.length = m * size)
  (hc : ∀ j u, news[j]? = some u → w.cell? (ad.add j) = some u) (h1c : ∀ u ∈ news, u.oneCell' = true) (b1 : k + m ≤ maxLen) (b2 : (k + m) * bytes ≤ 140737488355328) (b3 : base ≤ w.heap.size)
  (hK : ∀ v' w', w'.ownsRow base e size v' (k + m) (xs ++ news) → w.grownBy w' v.ownBlock → (v'.ownBlock = v.ownBlock ∨ v'.ownBlock = some w.heap.size) → K (a.put o.dst v') w') :
  o.wp P a w K Q := by
 obtain ⟨v', w', hrun, r1, r2, r3, r4⟩ := run_append_own_at (P := P) (w := w) base t o.type e i z size bytes h1 h2 h3 h4 h5 h6 h7 v k xs hown ad m c news hn hc h1c b1 b2 b3
 unfold Oper.wp
 simp [execOp, hop, resolve, invoke, builtin, hs, hx, hrun, Result.andThen]
 exact hK v' w' r1 r2 r4
theorem wpList_append_at {P : Program} {ops : Array Oper} {rest : List Oper} {o : Oper} {a : Act} {w : World} {Q : Exit → Act → World → Prop} (hgd : o.guard = none)
  (s x : Operand) (t : TypeId) (hop : o.op = Op.call { callee := Callee.builtin Builtin.append, args := #[s, x], argTypes := #[t, t] })
  (base : Nat) (e : TypeId) (i : TypeInfo) (z : Value) (size bytes : Nat) (h1 : P.underlying t = some (.slice e)) (h2 : P.info? e = some i) (h3 : i.zero = some z) (h4 : i.size = size) (h5 : i.bytes = bytes) (h6 : z.cells.size = size) (h7 : 0 < size)
  (v : Value) (k : Nat) (xs : List Value) (hs : a.eval s = v) (hown : w.ownsRow base e size v k xs) (ad : Addr) (m c : Nat) (news : List Value) (hx : a.eval x = .slice (some ad) m c) (hn : news.length = m * size)
  (hc : ∀ j u, news[j]? = some u → w.cell? (ad.add j) = some u) (h1c : ∀ u ∈ news, u.oneCell' = true) (b1 : k + m ≤ maxLen) (b2 : (k + m) * bytes ≤ 140737488355328) (b3 : base ≤ w.heap.size)
  (hK : ∀ v' w', w'.ownsRow base e size v' (k + m) (xs ++ news) → w.grownBy w' v.ownBlock → (v'.ownBlock = v.ownBlock ∨ v'.ownBlock = some w.heap.size) → wpList P ops Q rest (a.put o.dst v') w') :
  wpList P ops Q (o :: rest) a w :=
 wpList_plain hgd fun K hK2 => op_append_at s x t hop base e i z size bytes h1 h2 h3 h4 h5 h6 h7 v k xs hs hown ad m c news hx hn hc h1c b1 b2 b3 (fun v' w' r1 r2 r3 => hK2 _ _ (hK v' w' r1 r2 r3))
theorem row_form {w : World} {base : Nat} {e : TypeId} {s : Nat} {v : Value} {n : Nat} {xs : List Value} (h : w.ownsRow base e s v (n + 1) xs) : ∃ g cap, v = .slice (some ⟨g, 0, none⟩) (n + 1) cap := by
 rcases h.2 with ⟨_, h⟩ | ⟨g, cap, cur, rfl, _⟩
 ·omega
 ·exact ⟨g, cap, rfl⟩
theorem add_cells {w : World} {g : Nat} {cs : List Value} (h : ∀ j v, cs[j]? = some v → w.cell? ⟨g, j, none⟩ = some v) : ∀ j v, cs[j]? = some v → w.cell? ((⟨g, 0, none⟩ : Addr).add j) = some v := by
 intro j v hj
 have : ((⟨g, 0, none⟩ : Addr).add j) = ⟨g, j, none⟩ := by unfold Addr.add; split <;> simp_all
 rw [this]
 exact h j v hj
theorem add_cells_off {w : World} {g off : Nat} {cs : List Value} (h : ∀ j v, cs[j]? = some v → w.cell? ⟨g, off + j, none⟩ = some v) : ∀ j v, cs[j]? = some v → w.cell? ((⟨g, off, none⟩ : Addr).add j) = some v := by
 intro j v hj
 have : ((⟨g, off, none⟩ : Addr).add j) = ⟨g, off + j, none⟩ := by unfold Addr.add; split <;> simp_all
 rw [this]
 exact h j v hj
theorem cell_cur {w : World} {g : Nat} {cur : List Value} {t : TypeId} (hg : w.heap[g]? = some (.cells cur.toArray t (0, 0))) (j : Nat) : w.cell? ⟨g, j, none⟩ = cur[j]? := by
 rw [cell_of_row w g j cur.toArray t (0, 0) hg]
 simp
theorem grown_setRow (w : World) (g : Nat) (cs : Array Value) : w.grownBy (w.setRow g cs) (some g) := ⟨rfl, rfl, rfl, by simp [World.setRow], fun k _ hk => setRow_other w g k cs (fun e => hk (by rw [e]))⟩
theorem grown_trans {a b c : World} {r : Option Nat} (h : a.grownBy b r) (k : b.grownBy c r) : a.grownBy c r :=
 ⟨k.os.trans h.os, k.tape.trans h.tape, k.output.trans h.output, Nat.le_trans h.size k.size, fun j hj hr => (k.block j (Nat.lt_of_lt_of_le hj h.size) hr).trans (h.block j hj hr)⟩
theorem grown_fresh {a b c : World} {r : Option Nat} {g : Nat} (h : a.grownBy b r) (k : b.grownBy c (some g)) (hg : a.heap.size ≤ g) : a.grownBy c r :=
 ⟨k.os.trans h.os, k.tape.trans h.tape, k.output.trans h.output, Nat.le_trans h.size k.size, fun j hj hr => (k.block j (Nat.lt_of_lt_of_le hj h.size) (by intro e; cases e; omega)).trans (h.block j hj hr)⟩
theorem grown_drew {a b : World} {r : Option Nat} (h : a.grownBy b r) : a.grownBy b.drew r := ⟨h.os, h.tape, h.output, h.size, h.block⟩
abbrev Rw := Int × List Value
def rcells (r : Rw) : List Value := .int .i64 r.1 :: r.2
def flat (R : List Rw) : List Value := R.flatMap rcells
theorem flat_nil : flat [] = [] := rfl
theorem flat_cons (r : Rw) (R : List Rw) : flat (r :: R) = rcells r ++ flat R := rfl
theorem flat_append (A B : List Rw) : flat (A ++ B) = flat A ++ flat B := by simp [flat]
def Wide (C : Nat) (R : List Rw) : Prop := ∀ r ∈ R, (rcells r).length = C ∧ ∀ u ∈ rcells r, u.oneCell' = true
theorem Wide.tail {C : Nat} {r : Rw} {R : List Rw} (h : Wide C (r :: R)) : Wide C R := fun x hx => h x (List.mem_cons_of_mem _ hx)
theorem Wide.take {C : Nat} {R : List Rw} (h : Wide C R) (k : Nat) : Wide C (R.take k) := fun x hx => h x (List.mem_of_mem_take hx)
theorem Wide.drop {C : Nat} {R : List Rw} (h : Wide C R) (k : Nat) : Wide C (R.drop k) := fun x hx => h x (List.mem_of_mem_drop hx)
theorem flat_length {C : Nat} : ∀ {R : List Rw}, Wide C R → (flat R).length = R.length * C
 | [], _ => by simp [flat]
 | r :: R, h => by
  rw [flat_cons, List.length_append, flat_length h.tail, (h r (by simp)).1, List.length_cons, Nat.add_mul]
  omega
theorem flat_one {C : Nat} {R : List Rw} (h : Wide C R) : ∀ u ∈ flat R, u.oneCell' = true := by
 intro u hu
 obtain ⟨r, hr, hu⟩ := List.mem_flatMap.1 hu
 exact (h r hr).2 u hu
theorem flat_get {C : Nat} : ∀ {R : List Rw}, Wide C R → ∀ {i j : Nat} {r : Rw} {v : Value}, R[i]? = some r → (rcells r)[j]? = some v → (flat R)[i * C + j]? = some v
 | [], _, i, j, r, v, hi, _ => by simp at hi
 | r0 :: R, h, 0, j, r, v, hi, hj => by
  simp at hi
  subst hi
  rw [flat_cons, List.getElem?_append_left (by have := (lgs hj).1; omega)]
  simpa using hj
 | r0 :: R, h, i + 1, j, r, v, hi, hj => by
  have h0 := (h r0 (by simp)).1
  rw [flat_cons, List.getElem?_append_right (by rw [h0, Nat.add_mul]; omega), h0]
  have e : (i + 1) * C + j - C = i * C + j := by rw [Nat.add_mul]; omega
  rw [e]
  exact flat_get h.tail (by simpa using hi) hj
theorem splice_at {α : Type} (A B X D : List α) (h : B.length = X.length) : splice (A ++ (B ++ D)) A.length X = A ++ (X ++ D) := by
 unfold splice
 rw [List.take_left, ← h, ← List.append_assoc A B D, ← List.length_append, List.drop_left]
theorem splice_up {α : Type} (A X r D : List α) (hD : r.length ≤ D.length) :
  splice (splice (A ++ (X ++ D)) (A.length + r.length) X) A.length r = A ++ (r ++ (X ++ D.drop r.length)) := by
 have h1 : A ++ (X ++ D) = (A ++ (X ++ D).take r.length) ++ ((X ++ D).drop r.length) := by
  rw [List.append_assoc, List.take_append_drop]
 have hl : (X ++ D).take r.length = (X ++ D).take r.length := rfl
 have hlen : ((X ++ D).take r.length).length = r.length := by rw [List.length_take, List.length_append]; omega
 have h2 : (X ++ D).drop r.length = ((X ++ D).drop r.length).take X.length ++ D.drop r.length := by
  conv => lhs; rw [← List.take_append_drop X.length ((X ++ D).drop r.length)]
  rw [List.drop_drop, Nat.add_comm, ← List.drop_drop, List.drop_left]
 have h3 : (((X ++ D).drop r.length).take X.length).length = X.length := by
  rw [List.length_take, List.length_drop, List.length_append]
  omega
 rw [h1]
 conv => lhs; arg 1; arg 1; rw [h2]
 have e1 := splice_at (A ++ (X ++ D).take r.length) (((X ++ D).drop r.length).take X.length) X (D.drop r.length) h3
 rw [List.length_append, hlen] at e1
 rw [e1, List.append_assoc]
 exact splice_at A ((X ++ D).take r.length) r (X ++ D.drop r.length) hlen
theorem length_splice' {α : Type} (L : List α) (off : Nat) (cs : List α) (h : off + cs.length ≤ L.length) : (splice L off cs).length = L.length := by simp [splice]; omega
def Asc (R : List Rw) : Prop := (R.map Prod.fst).Pairwise (· < ·)
def posR (R : List Rw) (k : Int) : Nat := R.countP (fun r => decide (r.1 < k))
def hasR (R : List Rw) (k : Int) : Bool := R.any (fun r => decide (r.1 = k))
theorem posR_le (R : List Rw) (k : Int) : posR R k ≤ R.length := List.countP_le_length
theorem Asc.at {R : List Rw} (h : Asc R) {i j : Nat} {x y : Rw} (hij : i < j) (hi : R[i]? = some x) (hj : R[j]? = some y) : x.1 < y.1 := by
 unfold Asc at h
 rw [List.pairwise_iff_getElem] at h
 obtain ⟨li, ei⟩ := lgs hi
 obtain ⟨lj, ej⟩ := lgs hj
 have := h i j (by simpa using li) (by simpa using lj) hij
 simpa [ei, ej] using this
theorem countP_at : ∀ (R : List Rw) (k : Int) (i : Nat), i ≤ R.length → (∀ j x, j < i → R[j]? = some x → x.1 < k) → (∀ j x, i ≤ j → R[j]? = some x → k ≤ x.1) → posR R k = i
 | [], k, i, hi, _, _ => by simp at hi; subst hi; rfl
 | r :: R, k, 0, _, _, h2 => by
  have h0 := h2 0 r (Nat.le_refl _) (by simp)
  have ih := countP_at R k 0 (Nat.zero_le _) (fun j x hj => absurd hj (Nat.not_lt_zero _)) (fun j x hj hx => h2 (j + 1) x (Nat.zero_le _) (by simpa using hx))
  unfold posR at ih ⊢
  rw [List.countP_cons, ih, if_neg (by simp; omega)]
 | r :: R, k, i + 1, hi, h1, h2 => by
  have h0 := h1 0 r (by omega) (by simp)
  have ih := countP_at R k i (by simpa using hi) (fun j x hj hx => h1 (j + 1) x (by omega) (by simpa using hx)) (fun j x hj hx => h2 (j + 1) x (by omega) (by simpa using hx))
  unfold posR at ih ⊢
  rw [List.countP_cons, ih, if_pos (by simpa using h0)]
theorem found_at {R : List Rw} {k : Int} {i : Nat} (hA : Asc R) (hi : i ≤ R.length) (h1 : ∀ j x, j < i → R[j]? = some x → x.1 < k) (h2 : ∀ j x, i ≤ j → R[j]? = some x → k ≤ x.1) :
  posR R k = i ∧ (∀ x, R[i]? = some x → hasR R k = decide (x.1 = k)) ∧ (i = R.length → hasR R k = false) := by
 refine ⟨countP_at R k i hi h1 h2, fun x hx => ?_, fun e => ?_⟩
 ·rw [Bool.eq_iff_iff]
  unfold hasR
  rw [List.any_eq_true, decide_eq_true_eq]
  constructor
  ·rintro ⟨y, hy, e⟩
   obtain ⟨j, hj⟩ := List.getElem?_of_mem hy
   simp only [decide_eq_true_eq] at e
   rcases Nat.lt_trichotomy j i with q | q | q
   ·have := h1 j y q hj; omega
   ·subst q; rw [hx] at hj; cases hj; exact e
   ·have := hA.at q hx hj
    have := h2 i x (Nat.le_refl _) hx
    omega
  ·intro e
   exact ⟨x, List.mem_of_getElem? hx, by simpa using e⟩
 ·rw [Bool.eq_false_iff]
  intro hc
  unfold hasR at hc
  rw [List.any_eq_true] at hc
  obtain ⟨y, hy, e2⟩ := hc
  obtain ⟨j, hj⟩ := List.getElem?_of_mem hy
  simp only [decide_eq_true_eq] at e2
  have := (lgs hj).1
  have := h1 j y (by omega) hj
  omega
theorem posR_facts {R : List Rw} {k : Int} (hA : Asc R) : (∀ j x, j < posR R k → R[j]? = some x → x.1 < k) ∧ (∀ j x, posR R k ≤ j → R[j]? = some x → k ≤ x.1) := by
 induction R with
 | nil => exact ⟨fun j x _ h => by simp at h, fun j x _ h => by simp at h⟩
 | cons r R ih =>
  have hA' : Asc R := by unfold Asc at hA ⊢; rw [List.map_cons, List.pairwise_cons] at hA; exact hA.2
  have hr : ∀ y ∈ R, r.1 < y.1 := by
   intro y hy
   unfold Asc at hA
   rw [List.map_cons, List.pairwise_cons] at hA
   exact hA.1 y.1 (List.mem_map_of_mem hy)
  obtain ⟨i1, i2⟩ := ih hA'
  by_cases h : r.1 < k
  ·have e : posR (r :: R) k = posR R k + 1 := by unfold posR; rw [List.countP_cons, if_pos (by simpa using h)]
   rw [e]
   constructor
   ·intro j x hj hx
    cases j with
    | zero => simp at hx; subst hx; exact h
    | succ j => exact i1 j x (by omega) (by simpa using hx)
   ·intro j x hj hx
    cases j with
    | zero => omega
    | succ j => exact i2 j x (by omega) (by simpa using hx)
  ·have e0 : posR R k = 0 := by
    unfold posR
    rw [List.countP_eq_zero]
    intro y hy
    have := hr y hy
    simp; omega
   have e : posR (r :: R) k = 0 := by unfold posR at e0 ⊢; rw [List.countP_cons, e0, if_neg (by simpa using h)]
   rw [e]
   constructor
   ·intro j x hj; omega
   ·intro j x hj hx
    cases j with
    | zero => simp at hx; subst hx; omega
    | succ j => exact i2 j x (by omega) (by simpa using hx)
def insR (R : List Rw) (r : Rw) : List Rw := R.take (posR R r.1) ++ r :: R.drop (posR R r.1)
def delR (R : List Rw) (k : Int) : List Rw := R.take (posR R k) ++ R.drop (posR R k + 1)
theorem hasR_at {R : List Rw} {k : Int} (hA : Asc R) : hasR R k = true ↔ ∃ x, R[posR R k]? = some x ∧ x.1 = k := by
 obtain ⟨h1, h2⟩ := posR_facts (k := k) hA
 obtain ⟨_, q1, q2⟩ := found_at hA (posR_le R k) h1 h2
 constructor
 ·intro h
  cases hx : R[posR R k]? with
  | none =>
   have := List.getElem?_eq_none_iff.1 hx
   rw [q2 (by have := posR_le R k; omega)] at h
   cases h
  | some x => exact ⟨x, rfl, by rw [q1 x hx] at h; simpa using h⟩
 ·rintro ⟨x, hx, e⟩
  rw [q1 x hx]
  simpa using e
end
end Go.Proofs.YtekllgejmgoajaaDoor
