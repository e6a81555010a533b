/- chapter 20: package thread and the own answer side by side; each act on one side, then on the other. -/
import Derived.Test.YtiagkoiikmmgdaaTi5
namespace Go.Proofs.Ytiagkoiikmmgdaa
set_option linter.unusedVariables false
set_option linter.unusedSimpArgs false
open Go.ChangeShapes Go.WideShapes Go.ChangeAt Go.RowKit Go.Shelf
open TabT

structure PT (W w : World) (b base rb rbase : Nat) (v : Value) (L : List Th) (u : Value) (M : List Th) : Prop where
  th : ThrAt w b base v L
  rf : RefT w rb rbase u M
  n1 : rb ≠ b
  n3 : v.ownBlock ≠ some rb
  n4 : u.ownBlock ≠ some b
  n6 : ∀ k, u.ownBlock = some k → v.ownBlock ≠ some k
  l1 : W.heap.size ≤ b
  l3 : W.heap.size ≤ rb
  bl : Below W.heap.size W w
theorem RefT.keep {w w' : World} {rb base : Nat} {v : Value} {L : List Th} (h : RefT w rb base v L) (hs : w.heap.size ≤ w'.heap.size) (h1 : w'.heap[rb]? = w.heap[rb]?) (h2 : ∀ k, v.ownBlock = some k → w'.heap[k]? = w.heap[k]?) : RefT w' rb base v L :=
  ⟨h1.trans h.blk, row_of_block h.row h2, h.lt, Nat.le_trans h.bs hs⟩
theorem PT.thr {W w w' : World} {b base rb rbase : Nat} {v v' : Value} {L L' : List Th} {u : Value} {M : List Th} (h : PT W w b base rb rbase v L u M) (hA : ThrAt w' b base v' L') (hO : Only w w' b 0 v v') : PT W w' b base rb rbase v' L' u M := by
  have hrl : rb < w.heap.size := Nat.lt_of_lt_of_le h.rf.lt h.rf.bs
  have hul : ∀ k, u.ownBlock = some k → k < w.heap.size := fun k e => (h.rf.row.lt k e).2
  have hv : ∀ k, k < w.heap.size → v.ownBlock ≠ some k → v'.ownBlock ≠ some k := by
    intro k hk hn
    rcases hO.foot with q | ⟨g, q, hg⟩
    · rw [q]; exact hn
    · rw [q]; intro e; cases e; omega
  obtain ⟨_, _, _, _, hb⟩ := StT.act h.th h.l1 h.bl hA hO
  exact ⟨hA, h.rf.keep hO.size (hO.block rb hrl h.n1 h.n3) (fun k e => hO.block k (hul k e) (fun q => h.n4 (by rw [← q]; exact e)) (h.n6 k e)), h.n1, hv rb hrl h.n3, h.n4, fun k e => hv k (hul k e) (h.n6 k e), h.l1, h.l3, hb⟩
theorem ThrAt.keep {w w' : World} {b base : Nat} {v : Value} {L : List Th} (h : ThrAt w b base v L) (hs : w.heap.size ≤ w'.heap.size) (h1 : w'.heap[b]? = w.heap[b]?) (h3 : ∀ k, v.ownBlock = some k → w'.heap[k]? = w.heap[k]?) : ThrAt w' b base v L :=
  TabAt.of h hs (World.cell?_of_block h1) (World.frozen?_of_block h1) h3
theorem PT.own {W w w' : World} {b base rb rbase : Nat} {v : Value} {L : List Th} {u u' : Value} {M M' : List Th} (h : PT W w b base rb rbase v L u M) (hR : RefT w' rb rbase u' M') (hO : OnlyR w w' rb u u') : PT W w' b base rb rbase v L u' M' := by
  have hvl : ∀ k, v.ownBlock = some k → k < w.heap.size := fun k e => (TabAt.own h.th e).2
  have hbl := h.th.lt
  refine ⟨h.th.keep hO.size (hO.block b hbl (fun e => h.n1 e.symm) h.n4) (fun k e => hO.block k (hvl k e) (fun q => h.n3 (by rw [← q]; exact e)) (fun q => h.n6 k q e)), hR, h.n1, h.n3, fun e => h.n4 (hO.foot b hbl e), fun k e e2 => h.n6 k (hO.foot k (hvl k e2) e) e2, h.l1, h.l3, ?_⟩
  refine h.bl.trans ⟨hO.os, hO.tape, hO.output, hO.size, fun k hk => hO.block k (Nat.lt_of_lt_of_le hk h.bl.size) (fun e => by have := h.l3; omega) (fun e => ?_)⟩
  have := (h.rf.row.lt k e).1
  have := h.rf.lt
  have := h.l3
  omega
theorem PT.call {W w w' : World} {b base rb rbase : Nat} {v : Value} {L : List Th} {u : Value} {M : List Th} (h : PT W w b base rb rbase v L u M) (hb : Below w.heap.size w w') : PT W w' b base rb rbase v L u M :=
  ⟨h.th.call hb, h.rf.call hb, h.n1, h.n3, h.n4, h.n6, h.l1, h.l3, h.bl.trans (hb.mono h.bl.size)⟩
/-- Both sides at one list. -/
def Both (W w : World) (b rb : Nat) (L : List Th) : Prop := ∃ base rbase v u, PT W w b base rb rbase v L u L
theorem Both.call {W w w' : World} {b rb : Nat} {L : List Th} (h : Both W w b rb L) (hb : Below w.heap.size w w') : Both W w' b rb L := by
  obtain ⟨base, rbase, v, u, hP⟩ := h
  exact ⟨base, rbase, v, u, hP.call hb⟩
theorem Both.bl {W w : World} {b rb : Nat} {L : List Th} (h : Both W w b rb L) : Below W.heap.size W w := h.choose_spec.choose_spec.choose_spec.choose_spec.bl
/-- Blocks that neither side has. -/
def Bes (w : World) (b rb : Nat) (v u : Value) (S : Nat → Prop) : Prop := ∀ k, S k → k < w.heap.size ∧ k ≠ b ∧ k ≠ rb ∧ v.ownBlock ≠ some k ∧ u.ownBlock ≠ some k
def Bs (W w : World) (b rb : Nat) (S : Nat → Prop) (L : List Th) : Prop := ∃ base rbase v u, PT W w b base rb rbase v L u L ∧ Bes w b rb v u S
theorem Both.beside {W w : World} {b rb : Nat} {L : List Th} (h : Both W w b rb L) (o : Obj) : Bs W (w.alloc o) b rb (fun k => k = w.heap.size) L := by
  obtain ⟨base, rbase, v, u, hP⟩ := h
  have h1 := hP.th.lt
  have h3 := Nat.lt_of_lt_of_le hP.rf.lt hP.rf.bs
  refine ⟨base, rbase, v, u, hP.call (bal (Below.refl _ _) _), fun k e => ?_⟩
  subst e
  exact ⟨by simp, by omega, by omega, (fun e => by have := (TabAt.own hP.th e).2; omega), (fun e => by have := (hP.rf.row.lt _ e).2; omega)⟩
theorem Bs.both {W w : World} {b rb : Nat} {S : Nat → Prop} {L : List Th} (h : Bs W w b rb S L) : Both W w b rb L := by
  obtain ⟨base, rbase, v, u, hP, _⟩ := h
  exact ⟨base, rbase, v, u, hP⟩
theorem both_start {W w1 : World} (h : ThrAt w1 W.heap.size (W.heap.size + 1) (.slice none 0 0) []) (hb : Below W.heap.size W w1) : Both W (w1.alloc (.cells #[.slice none 0 0] 29)) W.heap.size w1.heap.size [] := by
  have h1 := h.lt
  exact ⟨_, w1.heap.size + 1, _, .slice none 0 0, ⟨h.call (bal (Below.refl _ _) _), ⟨heap_alloc_new w1 _, World.ownsRow_nil _ _ _ _, Nat.lt_succ_self _, by simp⟩, by omega, (by simp [Value.ownBlock]), (by simp [Value.ownBlock]), (by simp [Value.ownBlock]), Nat.le_refl _, hb.size, hb.trans ((bal (Below.refl _ w1) _).mono hb.size)⟩⟩
/-- Package thread has gone on; the own answer has not. -/
def Half (W w : World) (b rb : Nat) (S : Nat → Prop) (L L' : List Th) : Prop := ∃ base rbase v u, PT W w b base rb rbase v L' u L ∧ Asc (rowsH L) ∧ Bes w b rb v u S
theorem Bes.thr {w w' : World} {b rb : Nat} {v v' u : Value} {S : Nat → Prop} (h : Bes w b rb v u S) (hO : Only w w' b 0 v v') : Bes w' b rb v' u S ∧ SameK S w w' := by
  refine ⟨fun k hk => ?_, fun k hk => ?_⟩
  · obtain ⟨h1, h2, h4, h5, h6⟩ := h k hk
    refine ⟨Nat.lt_of_lt_of_le h1 hO.size, h2, h4, ?_, h6⟩
    rcases hO.foot with q | ⟨g, q, hg⟩
    · rw [q]; exact h5
    · rw [q]; intro e; cases e; omega
  · obtain ⟨h1, h2, h4, h5, h6⟩ := h k hk
    exact hO.block k h1 h2 h5
theorem Bes.own {w w' : World} {b rb : Nat} {v u u' : Value} {S : Nat → Prop} (h : Bes w b rb v u S) (hO : OnlyR w w' rb u u') : Bes w' b rb v u' S ∧ SameK S w w' := by
  refine ⟨fun k hk => ?_, fun k hk => ?_⟩
  · obtain ⟨h1, h2, h4, h5, h6⟩ := h k hk
    exact ⟨Nat.lt_of_lt_of_le h1 hO.size, h2, h4, h5, fun e => h6 (hO.foot k h1 e)⟩
  · obtain ⟨h1, h2, h4, h5, h6⟩ := h k hk
    exact hO.block k h1 h4 h6
theorem Bs.half {W w w' : World} {b rb base rbase : Nat} {S : Nat → Prop} {L L' : List Th} {v v' u : Value} (h : PT W w b base rb rbase v L u L) (hS : Bes w b rb v u S) (hA : ThrAt w' b base v' L') (hO : Only w w' b 0 v v') : Half W w' b rb S L L' ∧ SameK S w w' :=
  ⟨⟨base, rbase, v', u, h.thr hA hO, h.th.asc, (hS.thr hO).1⟩, (hS.thr hO).2⟩
theorem Half.bs {W w w' : World} {b rb base rbase : Nat} {S : Nat → Prop} {L L' : List Th} {v u u' : Value} (h : PT W w b base rb rbase v L' u L) (hS : Bes w b rb v u S) (hR : RefT w' rb rbase u' L') (hO : OnlyR w w' rb u u') : Bs W w' b rb S L' ∧ SameK S w w' :=
  ⟨⟨base, rbase, v, u', h.own hR hO, (hS.own hO).1⟩, (hS.own hO).2⟩
theorem Bs.call {W w w' : World} {b rb : Nat} {S : Nat → Prop} {L : List Th} (h : Bs W w b rb S L) (hb : Below w.heap.size w w') : Bs W w' b rb S L := by
  obtain ⟨base, rbase, v, u, hP, hS⟩ := h
  exact ⟨base, rbase, v, u, hP.call hb, fun k hk => ⟨Nat.lt_of_lt_of_le (hS k hk).1 hb.size, (hS k hk).2⟩⟩
theorem Bs.addA {W w : World} {b rb : Nat} {S : Nat → Prop} {L : List Th} (h : Bs W w b rb S L) (hl : L.length < 1000000) (id : Int) :
    Calls Try.prog 9 #[.pointer (some ⟨b, 0, none⟩), .int .i64 id] w fun e w' => e = .returned (.int .i64 (addTR L id)) ∧ Half W w' b rb S L (addTL L id) ∧ SameK S w w' := by
  obtain ⟨base, rbase, v, u, hP, hS⟩ := h
  exact (tadd_any w b base v L id hP.th hl).mono fun e w' ⟨he, v', hA, hO⟩ => ⟨he, Bs.half hP hS hA hO⟩
theorem Half.addR {W w : World} {b rb : Nat} {S : Nat → Prop} {L : List Th} {id : Int} (h : Half W w b rb S L (addTL L id)) (hl : L.length < 1000000) :
    Calls Try.prog 10 #[.pointer (some ⟨rb, 0, none⟩), .int .i64 id] w fun e w' => e = .returned (.int .i64 (addTR L id)) ∧ Bs W w' b rb S (addTL L id) ∧ SameK S w w' := by
  obtain ⟨base, rbase, v, u, hP, hA, hS⟩ := h
  exact (radd_any w rb rbase u L id hP.rf hA hl).mono fun e w' ⟨he, u', hR, hO⟩ => ⟨he, Half.bs hP hS hR hO⟩
theorem Bs.dropA {W w : World} {b rb : Nat} {S : Nat → Prop} {L : List Th} (h : Bs W w b rb S L) (id : Int) :
    Calls Try.prog 11 #[.pointer (some ⟨b, 0, none⟩), .int .i64 id] w fun e w' => e = .returned (.int .i64 (dropTR L id)) ∧ Half W w' b rb S L (dropTL L id) ∧ SameK S w w' := by
  obtain ⟨base, rbase, v, u, hP, hS⟩ := h
  exact (tdrop_any w b base v L id hP.th).mono fun e w' ⟨he, v', hA, hO⟩ => ⟨he, Bs.half hP hS hA hO⟩
theorem Half.dropR {W w : World} {b rb : Nat} {S : Nat → Prop} {L : List Th} {id : Int} (h : Half W w b rb S L (dropTL L id)) (hl : L.length < 1000000) :
    Calls Try.prog 12 #[.pointer (some ⟨rb, 0, none⟩), .int .i64 id] w fun e w' => e = .returned (.int .i64 (dropTR L id)) ∧ Bs W w' b rb S (dropTL L id) ∧ SameK S w w' := by
  obtain ⟨base, rbase, v, u, hP, hA, hS⟩ := h
  exact (rdrop_any w rb rbase u L id hP.rf hA hl).mono fun e w' ⟨he, u', hR, hO⟩ => ⟨he, Half.bs hP hS hR hO⟩
theorem Bs.setA {W w : World} {b rb : Nat} {S : Nat → Prop} {L : List Th} (h : Bs W w b rb S L) (x : Th) :
    Calls Try.prog 13 #[.pointer (some ⟨b, 0, none⟩), .agg x.cells.toArray] w fun e w' => e = .returned (.int .i64 (setTR L x)) ∧ Half W w' b rb S L (setTL L x) ∧ SameK S w w' := by
  obtain ⟨base, rbase, v, u, hP, hS⟩ := h
  exact (tset_any w b base v L x hP.th).mono fun e w' ⟨he, hA, hO⟩ => ⟨he, Bs.half hP hS hA hO⟩
theorem Half.setR {W w : World} {b rb : Nat} {S : Nat → Prop} {L : List Th} {x : Th} (h : Half W w b rb S L (setTL L x)) (hl : L.length < 1000000) :
    Calls Try.prog 14 #[.pointer (some ⟨rb, 0, none⟩), .agg x.cells.toArray] w fun e w' => e = .returned (.int .i64 (setTR L x)) ∧ Bs W w' b rb S (setTL L x) ∧ SameK S w w' := by
  obtain ⟨base, rbase, v, u, hP, hA, hS⟩ := h
  exact (rset_any w rb rbase u L x hP.rf hA hl).mono fun e w' ⟨he, u', hR, hO⟩ => ⟨he, Half.bs hP hS hR hO⟩
theorem Both.get {W w : World} {b rb : Nat} {L : List Th} (h : Both W w b rb L) (id : Int) :
    Calls Try.prog 17 #[.pointer (some ⟨b, 0, none⟩), .int .i64 id] w fun e w' => e = .returned (.tuple #[.agg (obT (getT L id)).cells.toArray, .bool (getT L id).isSome]) ∧ Below w.heap.size w w' := by
  obtain ⟨base, rbase, v, u, hP⟩ := h
  exact tget_any w b base v L id hP.th
theorem Both.rget {W w : World} {b rb : Nat} {L : List Th} (h : Both W w b rb L) (id : Int) (hl : L.length < 1000000) :
    Calls Try.prog 18 #[.pointer (some ⟨rb, 0, none⟩), .int .i64 id] w fun e w' => e = .returned (.tuple #[.agg (obT (getT L id)).cells.toArray, .bool (getT L id).isSome]) ∧ Below w.heap.size w w' := by
  obtain ⟨base, rbase, v, u, hP⟩ := h
  exact rget_any w rb rbase u L id hP.rf hP.th.asc hl
theorem Both.srv {W w : World} {b rb : Nat} {L : List Th} (h : Both W w b rb L) (id : Int) (hl : L.length < 1000000) :
    Calls Try.prog 20 #[.pointer (some ⟨b, 0, none⟩), .int .i64 id] w fun e w' => e = .returned (.int .i64 (srvT L id)) ∧ Below w.heap.size w w' := by
  obtain ⟨base, rbase, v, u, hP⟩ := h
  exact tserver_any w b base v L id hP.th hl
theorem Both.rsrv {W w : World} {b rb : Nat} {L : List Th} (h : Both W w b rb L) (id : Int) (hl : L.length < 1000000) :
    Calls Try.prog 21 #[.pointer (some ⟨rb, 0, none⟩), .int .i64 id] w fun e w' => e = .returned (.int .i64 (srvT L id)) ∧ w = w' := by
  obtain ⟨base, rbase, v, u, hP⟩ := h
  exact rsrv_any w rb rbase u L id hP.rf hl
theorem Both.all {W w : World} {b rb : Nat} {L : List Th} (h : Both W w b rb L) (hl : L.length < 1000000) :
    Calls Try.prog 19 #[.pointer (some ⟨b, 0, none⟩)] w fun e w' => ∃ r, e = .returned r ∧ w'.ownsRow w.heap.size 35 24 r L.length (thsC L) ∧ Below w.heap.size w w' := by
  obtain ⟨base, rbase, v, u, hP⟩ := h
  exact tall_any w b base v L hP.th hl
/-- The own answer's list, as its cell tells it. -/
theorem Both.list {W w : World} {b rb : Nat} {L : List Th} (h : Both W w b rb L) : ∃ ra rc, w.cell? ⟨rb, 0, none⟩ = some (.slice ra L.length rc) ∧ ThsIs w ra L ∧ rb < w.heap.size := by
  obtain ⟨base, rbase, v, u, hP⟩ := h
  obtain ⟨ra, rc, rfl, hrc, hra⟩ := ths_of hP.rf.row
  exact ⟨ra, rc, hP.rf.c0, ths_is hP.rf.row, Nat.lt_of_lt_of_le hP.rf.lt hP.rf.bs⟩
theorem list_call {w w' : World} {rb : Nat} {ra : Option Addr} {rc : Nat} {L : List Th} (h : w.cell? ⟨rb, 0, none⟩ = some (.slice ra L.length rc) ∧ ThsIs w ra L ∧ rb < w.heap.size) (hb : Below w.heap.size w w') : w'.cell? ⟨rb, 0, none⟩ = some (.slice ra L.length rc) ∧ ThsIs w' ra L ∧ rb < w'.heap.size :=
  ⟨(hb.cell (p := ⟨rb, 0, none⟩) h.2.2).trans h.1, h.2.1.call hb, Nat.lt_of_lt_of_le h.2.2 hb.size⟩
theorem grown_below {w w' : World} {n : Nat} {o : Option Nat} (h : w.grownBy w' o) (ho : ∀ k, o = some k → n ≤ k) (hn : n ≤ w.heap.size) : Below n w w' := by
  obtain ⟨h1, h2, h3, h4, h5⟩ := h
  exact ⟨h1, h2, h3, h4, fun k hk => h5 k (Nat.lt_of_lt_of_le hk hn) (fun e => by have := ho k e.symm; omega)⟩
theorem bgo2 {n : Nat} {a b c : World} (h : Below n a b) (k : Below b.heap.size b c) (hn : n ≤ a.heap.size) : Below n a c := h.trans (k.mono (Nat.le_trans hn h.size))
theorem num_any (x : Int) (w : World) : Calls Try.prog 8 #[.int .i64 x] w fun e w' => e = .returned (.int .i64 x) ∧ w = w' := by
  go_enter Try.func8, Try.ntmps8
  go_wp2
  go_ret
  exact ⟨rfl, rfl⟩
/-- A boxed act. -/
def XA (w : World) (k : Nat) (x : ActT) : Prop := w.heap[k]? = some (.cells x.cells.toArray 37 (0, 0))
theorem XA.lt {w : World} {k : Nat} {x : ActT} (h : XA w k x) : k < w.heap.size := (Array.getElem?_eq_some_iff.1 h).1
theorem XA.call {w w' : World} {k : Nat} {x : ActT} (h : XA w k x) (hb : Below w.heap.size w w') : XA w' k x := (hb.block k h.lt).trans h
theorem XA.cell {w : World} {k : Nat} {x : ActT} (h : XA w k x) (j : Nat) : w.cell? ⟨k, j, none⟩ = x.cells[j]? := cell_cur (cur := x.cells) h j
theorem XA.d {w : World} {k : Nat} {x : ActT} (h : XA w k x) : w.cell? ⟨k, 0, none⟩ = some (.int .i64 x.d) := h.cell 0
theorem XA.id {w : World} {k : Nat} {x : ActT} (h : XA w k x) : w.cell? ⟨k, 1, none⟩ = some (.int .i64 x.id) := h.cell 1
theorem XA.range {w : World} {k : Nat} {x : ActT} (h : XA w k x) : w.rangeAt k 2 x.t.cells := fun j v hj => by
  rw [h.cell]
  show (Value.int .i64 x.d :: Value.int .i64 x.id :: x.t.cells)[2 + j]? = some v
  rw [show 2 + j = j + 1 + 1 by omega, List.getElem?_cons_succ, List.getElem?_cons_succ]
  exact hj
theorem act_one (x : ActT) : x.cells.toArray.all (·.oneCell') = true := by
  rw [Array.all_eq_true_iff_forall_mem]
  intro u hu
  have hu2 : u ∈ (Value.int .i64 x.d :: Value.int .i64 x.id :: x.t.cells) := by simpa [ActT.cells] using hu
  rcases List.mem_cons.1 hu2 with rfl | hu
  · rfl
  · rcases List.mem_cons.1 hu with rfl | hu
    · rfl
    · exact th_one x.t u hu
def stepT (L : List Th) (x : ActT) : List Th := if x.d = 0 then addTL L x.id else if x.d = 1 then dropTL L x.id else if x.d = 2 then setTL L x.t else L
def playT (D : Nat → ActT) : Nat → List Th
  | 0 => []
  | k + 1 => stepT (playT D k) (D k)
theorem step_len (L : List Th) (x : ActT) : (stepT L x).length ≤ L.length + 1 := by
  unfold stepT addTL dropTL setTL insH delH
  repeat' split
  all_goals (try simp only [List.length_append, List.length_cons, List.length_take, List.length_drop, List.length_set])
  all_goals omega
theorem play_len (D : Nat → ActT) : ∀ n, (playT D n).length ≤ n
  | 0 => Nat.le_refl _
  | n + 1 => by have := step_len (playT D n) (D n); have := play_len D n; show (stepT (playT D n) (D n)).length ≤ _; omega
end Go.Proofs.Ytiagkoiikmmgdaa
