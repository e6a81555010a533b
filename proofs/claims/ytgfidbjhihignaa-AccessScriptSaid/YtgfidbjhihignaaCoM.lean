import Derived.Test.YtgfidbjhihignaaTkK
import Derived.Test.YtgfidbjhihignaaWa5
import Derived.Test.YtgfidbjhihignaaKq
import Derived.Deep.RegionHeld3
import Derived.IntWalk
import Derived.LoopTactic
import Derived.Outline
namespace Go.Proofs.Ytgfidbjhihignaa
/- package cores: the cores; New, get, Len, Set, Regs. -/
section
set_option linter.unusedVariables false
set_option linter.unusedSimpArgs false
open Go.ChangeShapes Go.WideShapes Go.ChangeAt Go.RowKit Go.Shelf

abbrev TS := Nat → TransX × TransX × Int
def RegOk (r s : Int) : Prop := (r = -1 ∧ s = 0) ∨ (0 ≤ r ∧ r < 64 ∧ 1 ≤ s)
/-- Cores: the header in block b, the rows in block g, the caches in blocks T i. -/
structure CoresAt (w : World) (b g n c : Nat) (R Q : Nat → Int) (T : Nat → Nat) (S : Nat → TS) : Prop where
  hd : w.cell? ⟨b, 0, none⟩ = some (.slice (some ⟨g, 0, none⟩) n c)
  row : ∀ i, i < n → w.cell? ⟨g, i * 3, none⟩ = some (.int .i64 (R i)) ∧ w.cell? ⟨g, i * 3 + 1, none⟩ = some (.int .i64 (Q i)) ∧ w.cell? ⟨g, i * 3 + 2, none⟩ = some (.pointer (some ⟨T i, 0, none⟩))
  free : ∀ j, w.frozen? ⟨g, j, none⟩ = false
  tlb : ∀ i, i < n → TlbAt w (T i) (S i)
  good : ∀ i, i < n → Good (S i)
  regs : ∀ i, i < n → RegOk (R i) (Q i)
  dist : ∀ i j, i < n → j < n → i ≠ j → T i ≠ T j
  off : ∀ i, i < n → T i ≠ b ∧ T i ≠ g
  ne : b ≠ g
  lb : b < w.heap.size
  lg : g < w.heap.size
  n1 : 1 ≤ n
  n3 : n ≤ 3
  cap : n ≤ c
theorem CoresAt.of_blocks {w w' : World} {b g n c : Nat} {R Q : Nat → Int} {T : Nat → Nat} {S : Nat → TS} (h : CoresAt w b g n c R Q T S) (hs : w.heap.size ≤ w'.heap.size) (e : w'.heap[b]? = w.heap[b]?) (e2 : w'.heap[g]? = w.heap[g]?) (e3 : ∀ i, i < n → w'.heap[T i]? = w.heap[T i]?) : CoresAt w' b g n c R Q T S :=
  ⟨(cell_of_block e).trans h.hd, fun i hi => ⟨(cell_of_block e2).trans (h.row i hi).1, (cell_of_block e2).trans (h.row i hi).2.1, (cell_of_block e2).trans (h.row i hi).2.2⟩, fun j => (frozen_of_block e2).trans (h.free j), fun i hi => (h.tlb i hi).of_block hs (e3 i hi), h.good, h.regs, h.dist, h.off, h.ne, Nat.lt_of_lt_of_le h.lb hs, Nat.lt_of_lt_of_le h.lg hs, h.n1, h.n3, h.cap⟩
theorem CoresAt.call {w w' : World} {b g n c : Nat} {R Q : Nat → Int} {T : Nat → Nat} {S : Nat → TS} (h : CoresAt w b g n c R Q T S) (k : Below w.heap.size w w') : CoresAt w' b g n c R Q T S :=
  h.of_blocks k.size (k.block b h.lb) (k.block g h.lg) fun i hi => k.block _ (h.tlb i hi).lt
theorem CoresAt.drew {w : World} {b g n c : Nat} {R Q : Nat → Int} {T : Nat → Nat} {S : Nat → TS} (h : CoresAt w b g n c R Q T S) : CoresAt w.drew b g n c R Q T S := h.of_blocks (Nat.le_refl _) rfl rfl fun _ _ => rfl
def setR (R : Nat → Int) (k : Nat) (v : Int) : Nat → Int := fun i => if i = k then v else R i
def setT (S : Nat → TS) (k : Nat) (s : TS) : Nat → TS := fun i => if i = k then s else S i
/-- One cache is turned. -/
theorem CoresAt.put {w w' : World} {b g n c k : Nat} {R Q : Nat → Int} {T : Nat → Nat} {S : Nat → TS} (h : CoresAt w b g n c R Q T S) (hk : k < n) {s : TS} (ht : TlbAt w' (T k) s) (hg : Good s) (ho : TlbOnly (T k) w w') : CoresAt w' b g n c R Q T (setT S k s) := by
  have hoff := h.off k hk
  have e := ho.block b h.lb (Ne.symm hoff.1)
  have e2 := ho.block g h.lg (Ne.symm hoff.2)
  refine ⟨(cell_of_block e).trans h.hd, fun i hi => ⟨(cell_of_block e2).trans (h.row i hi).1, (cell_of_block e2).trans (h.row i hi).2.1, (cell_of_block e2).trans (h.row i hi).2.2⟩, fun j => (frozen_of_block e2).trans (h.free j), fun i hi => ?_, fun i hi => ?_, h.regs, h.dist, h.off, h.ne, Nat.lt_of_lt_of_le h.lb ho.size, Nat.lt_of_lt_of_le h.lg ho.size, h.n1, h.n3, h.cap⟩
  · unfold setT
    by_cases e : i = k
    · subst e; rw [if_pos rfl]; exact ht
    · rw [if_neg e]; exact (h.tlb i hi).of_block ho.size (ho.block _ (h.tlb i hi).lt (h.dist i k hi hk e))
  · unfold setT
    split
    · exact hg
    · exact h.good i hi
theorem get_ok (w : World) (b g n c k : Nat) (R Q : Nat → Int) (T : Nat → Nat) (S : Nat → TS) (h : CoresAt w b g n c R Q T S) (hk : k < n) :
    Calls Try.prog 26 #[.pointer (some ⟨b, 0, none⟩), .int .i64 k] w fun e w' => e = .returned (.tuple #[.pointer (some ⟨g, k * 3, none⟩), .int .i64 0]) ∧ w = w' := by
  have hd := h.hd
  have n3 := h.n3
  have k1 : (k : Int) < n := by omega
  clear h
  go_enter Try.func26, Try.ntmps26
  go_wp2
  go_ret2
  exact ⟨rfl, rfl⟩
theorem get_bad (w : World) (b g n c : Nat) (k : Int) (R Q : Nat → Int) (T : Nat → Nat) (S : Nat → TS) (h : CoresAt w b g n c R Q T S) (hk : k < 0 ∨ (n : Int) ≤ k) :
    Calls Try.prog 26 #[.pointer (some ⟨b, 0, none⟩), .int .i64 k] w fun e w' => e = .returned (.tuple #[.pointer none, .int .i64 3]) ∧ w = w' := by
  have hd := h.hd
  have n3 := h.n3
  clear h
  by_cases k0 : k < 0
  · clear hk
    go_enter Try.func26, Try.ntmps26
    go_wp2
    go_ret2
    exact ⟨rfl, rfl⟩
  · have k1 : (n : Int) ≤ k := by omega
    clear hk
    go_enter Try.func26, Try.ntmps26
    go_wp2
    go_ret2
    exact ⟨rfl, rfl⟩
theorem get_nil (w : World) (k : Int) :
    Calls Try.prog 26 #[.pointer none, .int .i64 k] w fun e w' => e = .returned (.tuple #[.pointer none, .int .i64 1]) ∧ w = w' := by
  go_enter Try.func26, Try.ntmps26
  go_wp2
  go_ret2
  exact ⟨rfl, rfl⟩
theorem tnew_any (W : World) : Calls Try.prog 38 #[] W fun e w' => e = .returned (.pointer (some ⟨W.heap.size, 0, none⟩)) ∧ TlbAt w' W.heap.size S0 ∧ Below W.heap.size W w' := by
  have h := Lib.hid (tlbAt_new W)
  go_enter Try.func38, Try.ntmps38
  go_wp2
  go_ret
  exact ⟨rfl, h.out, bal (Below.refl _ _) _⟩
end
/- package cores: translate. -/
section
set_option linter.unusedVariables false
set_option linter.unusedSimpArgs false
open Go.ChangeShapes Go.WideShapes Go.ChangeAt Go.RowKit Go.Shelf
theorem Kept.set {n d j : Nat} {a b : World} (h : Kept n a b) (hd : n ≤ d) (v : Value) : Kept n a (b.setCell ⟨d, j, none⟩ v) := ⟨Below.setCell h.1 hd v, by simpa using h.2⟩
/-- A translation's cells. -/
def TrAt (w : World) (q : Nat) (x : TransX) : Prop :=
  w.cell? ⟨q, 0, none⟩ = some (.int .i64 x.s) ∧ w.cell? ⟨q, 1, none⟩ = some (.int .i64 x.p) ∧ w.cell? ⟨q, 2, none⟩ = some (.int .i64 x.f) ∧ w.cell? ⟨q, 3, none⟩ = some (.bool x.r) ∧ w.cell? ⟨q, 4, none⟩ = some (.bool x.w)
theorem tr_new (W : World) (x : TransX) : TrAt (W.alloc (.cells #[.int .i64 x.s, .int .i64 x.p, .int .i64 x.f, .bool x.r, .bool x.w] 104)) W.heap.size x := by
  refine ⟨?_, ?_, ?_, ?_, ?_⟩ <;> (rw [cellE]; rfl)
theorem TrAt.keep {w w' : World} {q B : Nat} {x : TransX} (h : TrAt w q x) (hq : q < B) (hb : Below B w w') : TrAt w' q x := by
  obtain ⟨h0, h1, h2, h3, h4⟩ := h
  exact ⟨(cell_of_block (hb.block q hq)).trans h0, (cell_of_block (hb.block q hq)).trans h1, (cell_of_block (hb.block q hq)).trans h2, (cell_of_block (hb.block q hq)).trans h3, (cell_of_block (hb.block q hq)).trans h4⟩
theorem tr_set {W : World} {q : Nat} {u0 u1 u2 u3 u4 : Value} (c0 : W.cell? ⟨q, 0, none⟩ = some u0) (c1 : W.cell? ⟨q, 1, none⟩ = some u1) (c2 : W.cell? ⟨q, 2, none⟩ = some u2) (c3 : W.cell? ⟨q, 3, none⟩ = some u3) (c4 : W.cell? ⟨q, 4, none⟩ = some u4) (x : TransX) :
    TrAt (((((W.setCell ⟨q, 0, none⟩ (.int .i64 x.s)).setCell ⟨q, 1, none⟩ (.int .i64 x.p)).setCell ⟨q, 2, none⟩ (.int .i64 x.f)).setCell ⟨q, 3, none⟩ (.bool x.r)).setCell ⟨q, 4, none⟩ (.bool x.w)) q x := by
  refine ⟨?_, ?_, ?_, ?_, ?_⟩ <;> simp [go_sem, c0, c1, c2, c3, c4]
theorem below_set5 {A W : World} {B q : Nat} (h : Below B A W) (hq : B ≤ q) (v0 v1 v2 v3 v4 : Value) : Below B A (((((W.setCell ⟨q, 0, none⟩ v0).setCell ⟨q, 1, none⟩ v1).setCell ⟨q, 2, none⟩ v2).setCell ⟨q, 3, none⟩ v3).setCell ⟨q, 4, none⟩ v4) :=
  ((((h.setCell hq _).setCell hq _).setCell hq _).setCell hq _).setCell hq _
def AfterT (wr : World) (q : Nat) (x : TransX) (V : World) : Prop := TrAt V q x ∧ Below wr.heap.size wr V ∧ wr.heap.size ≤ q ∧ q < V.heap.size
theorem after_ta {wr w3 : World} {x : TransX} (hb3 : Below wr.drew.heap.size wr.drew w3) : AfterT wr w3.heap.size x (w3.alloc (.cells #[.int .i64 x.s, .int .i64 x.p, .int .i64 x.f, .bool x.r, .bool x.w] 104)) := by
  have h1 : Below wr.heap.size wr w3 := ⟨hb3.os, hb3.tape, hb3.output, hb3.size, hb3.block⟩
  exact ⟨tr_new w3 x, bal h1 _, h1.size, by simp⟩
theorem after_tb {wr w3 : World} {x : TransX} (hb3 : Below (wr.alloc (.cells #[.int .i64 0, .int .i64 0, .int .i64 0, .bool false, .bool false] 104)).drew.heap.size (wr.alloc (.cells #[.int .i64 0, .int .i64 0, .int .i64 0, .bool false, .bool false] 104)).drew w3) :
    AfterT wr wr.heap.size x (((((w3.setCell ⟨wr.heap.size, 0, none⟩ (.int .i64 x.s)).setCell ⟨wr.heap.size, 1, none⟩ (.int .i64 x.p)).setCell ⟨wr.heap.size, 2, none⟩ (.int .i64 x.f)).setCell ⟨wr.heap.size, 3, none⟩ (.bool x.r)).setCell ⟨wr.heap.size, 4, none⟩ (.bool x.w)) := by
  have h0 : Below (wr.alloc (.cells #[.int .i64 0, .int .i64 0, .int .i64 0, .bool false, .bool false] 104)).heap.size (wr.alloc (.cells #[.int .i64 0, .int .i64 0, .int .i64 0, .bool false, .bool false] 104)) w3 := ⟨hb3.os, hb3.tape, hb3.output, hb3.size, hb3.block⟩
  have h1 : Below wr.heap.size wr w3 := bgo (bal (Below.refl _ _) _) h0
  obtain ⟨e0, e1, e2, e3, e4⟩ := (tr_new wr zT).keep (by simp) h0
  have hs := h0.size
  simp at hs
  exact ⟨tr_set e0 e1 e2 e3 e4 x, below_set5 h1 (Nat.le_refl _) _ _ _ _ _, Nat.le_refl _, by simp; omega⟩
theorem holdC {a d : World} {g i : Nat} {v0 v1 : Value} (hg : g < a.heap.size) (q0 : a.cell? ⟨g, i + 1, none⟩ = some v0) (q1 : a.cell? ⟨g, i + 2, none⟩ = some v1) (h : Kept a.heap.size a d) :
    d.cell? ⟨g, i + 1, none⟩ = some v0 ∧ d.cell? ⟨g, i + 2, none⟩ = some v1 ∧ g < d.heap.size ∧ a.heap.size ≤ d.heap.size ∧ Below a.heap.size a d := ⟨h.cell hg q0, h.cell hg q1, h.lt hg, h.2, h.1⟩
set_option maxRecDepth 100000 in
set_option maxHeartbeats 4000000 in
theorem translate_hit (w : World) (b g n c k : Nat) (R Q : Nat → Int) (T : Nat → Nat) (S : Nat → TS) (mp : Option Addr) (p : Int) (x : TransX) (h : CoresAt w b g n c R Q T S) (hk : k < n) (hf : findS (S k) (Q k) p = (x, true)) :
    Calls Try.prog 51 #[.pointer (some ⟨g, k * 3, none⟩), .pointer mp, .int .i64 p] w fun e w' => e = .returned (.tuple #[trX x, .bool true, .int .i64 0]) ∧ Below w.heap.size w w' := by
  obtain ⟨c0, c1, c2⟩ := h.row k hk
  have HT := Lib.hid (h.tlb k hk)
  have HF := Lib.hid hf
  have hg := h.lg
  clear h hf
  go_enter Try.func51, Try.ntmps51
  go_wp2
  obtain ⟨wr, hwr⟩ : ∃ x, x = w.alloc (.cells #[.int .i64 0, .int .i64 0, .int .i64 0, .bool false, .bool false] 104) := ⟨_, rfl⟩
  rw [← hwr]
  have hbw : Below w.heap.size w wr := hwr ▸ bal (Below.refl _ _) _
  have hsz : wr.heap.size = w.heap.size + 1 := by rw [hwr]; simp
  have hres : TrAt wr w.heap.size zT := hwr ▸ tr_new w zT
  have hfz : ∀ j, wr.frozen? ⟨w.heap.size, j, none⟩ = false := fun j => by rw [hwr]; exact frozE _ _ _ _
  have d1 : wr.cell? ⟨g, k * 3 + 1, none⟩ = some (.int .i64 (Q k)) := (hbw.cell (p := ⟨g, k * 3 + 1, none⟩) hg).trans c1
  have d2 : wr.cell? ⟨g, k * 3 + 2, none⟩ = some (.pointer (some ⟨T k, 0, none⟩)) := (hbw.cell (p := ⟨g, k * 3 + 2, none⟩) hg).trans c2
  have hgr : g < wr.heap.size := by omega
  have HTR := Lib.hid (HT.out.call hbw)
  have HRES := Lib.hid hres
  have HFZ := Lib.hid hfz
  have HBW := Lib.hid hbw
  have hK0 : Kept wr.heap.size wr wr := Kept.refl (Nat.le_refl _)
  have HSZ := Lib.hid hsz
  clear hwr hbw hres hfz c0 c1 c2 hsz
  go_region_held3 (fun w' => w'.cell? ⟨g, k * 3 + 1, none⟩ = some (.int .i64 (Q k)) ∧ w'.cell? ⟨g, k * 3 + 2, none⟩ = some (.pointer (some ⟨T k, 0, none⟩)) ∧ g < w'.heap.size ∧ wr.heap.size ≤ w'.heap.size ∧ Below wr.heap.size wr w')
    (first | (refine holdC hgr d1 d2 ?_; repeat (first | with_reducible exact hK0 | with_reducible refine Kept.drew ?_ | with_reducible refine Kept.drewN ?_ _ | with_reducible refine Kept.alloc ?_ _ | with_reducible refine Kept.set ?_ (by first | (simp; done) | (simp; omega)) _ | with_reducible refine Kept.call ?_ (by assumption))))
    (first
      | (go_at_call 56; refine (tfind_any _ (T k) (S k) (Q k) p (HTR.out.call (by repeat (first | with_reducible exact Below.refl _ _ | with_reducible refine Below.drew ?_ | with_reducible refine bal ?_ _)))).mono ?_; rw [HF.out]; rintro e w3 ⟨rfl, hb3⟩; obtain ⟨hc3, hf3⟩ := bcell hb3; (try (have hz3 : wr.heap.size < w3.heap.size := (by have := hb3.size; simp at this; omega)))))
  all_goals (first
    | (have HAF := Lib.hid (after_ta (wr := wr) (x := x) hb3); generalize (w3.alloc (.cells #[.int .i64 x.s, .int .i64 x.p, .int .i64 x.f, .bool x.r, .bool x.w] 104)) = V at HAF ⊢; generalize w3.heap.size = q at HAF ⊢)
    | (have HAF := Lib.hid (after_tb (wr := wr) (x := x) hb3); generalize (((((w3.setCell ⟨wr.heap.size, 0, none⟩ (.int .i64 x.s)).setCell ⟨wr.heap.size, 1, none⟩ (.int .i64 x.p)).setCell ⟨wr.heap.size, 2, none⟩ (.int .i64 x.f)).setCell ⟨wr.heap.size, 3, none⟩ (.bool x.r)).setCell ⟨wr.heap.size, 4, none⟩ (.bool x.w)) = V at HAF ⊢; clear hz3; obtain ⟨q, hq⟩ : ∃ q, wr.heap.size = q := ⟨_, rfl⟩; rw [hq] at HAF ⊢; clear hq))
  all_goals clear hb3 hc3 hf3
  all_goals (try clear hz3)
  all_goals
    obtain ⟨htr, hbv, hq1, hq2⟩ := HAF.out
    have hsz := HSZ.out
    have hwv : w.heap.size < wr.heap.size := by omega
    obtain ⟨z0, z1, z2, z3, z4⟩ := htr
    obtain ⟨r0, r1, r2, r3, r4⟩ := HRES.out.keep hwv hbv
    have f0 := (hbv.frozen (p := ⟨w.heap.size, 0, none⟩) hwv).trans (HFZ.out 0)
    have f1 := (hbv.frozen (p := ⟨w.heap.size, 1, none⟩) hwv).trans (HFZ.out 1)
    have f2 := (hbv.frozen (p := ⟨w.heap.size, 2, none⟩) hwv).trans (HFZ.out 2)
    have f3 := (hbv.frozen (p := ⟨w.heap.size, 3, none⟩) hwv).trans (HFZ.out 3)
    have f4 := (hbv.frozen (p := ⟨w.heap.size, 4, none⟩) hwv).trans (HFZ.out 4)
    have hne : w.heap.size ≠ q := by omega
    have hwV : w.heap.size < V.heap.size := by omega
    have HBV := Lib.hid (HBW.out.trans (hbv.mono (B' := w.heap.size) (by omega)))
    clear hbv hq1 hq2 hsz hwv HAF d1 d2 hgr hK0
    go_wp2
    exact bodyPost_ret (v := .tuple #[trX x, .bool true, .int .i64 0]) (by simp [results, Try.results51, go_sem, r0, r1, r2, r3, r4, hne]) rfl ⟨rfl, by repeat (first | with_reducible exact HBV.out | with_reducible refine Below.drew ?_ | with_reducible refine Below.setCell ?_ (by first | with_reducible exact Nat.le_refl _ | (simp; done) | (simp; omega)) _)⟩
set_option maxRecDepth 100000 in
set_option maxHeartbeats 4000000 in
theorem translate_miss (w : World) (b g n c k : Nat) (R Q : Nat → Int) (T : Nat → Nat) (S : Nat → TS) (mb mg mn mc : Nat) (m : Nat → Int) (p cd : Int) (x : TransX) (h : CoresAt w b g n c R Q T S) (hk : k < n) (hM : MemAt w mb mg mn mc m) (hf : findS (S k) (Q k) p = (x, false)) (hw : walkC mn m (R k) p = cd) (hcd : cd ≠ 0) :
    Calls Try.prog 51 #[.pointer (some ⟨g, k * 3, none⟩), .pointer (some ⟨mb, 0, none⟩), .int .i64 p] w fun e w' => e = .returned (.tuple #[trX zT, .bool false, .int .i64 cd]) ∧ Below w.heap.size w w' := by
  have hcz : (cd == 0) = false := beq_eq_false_iff_ne.2 hcd
  have HW := Lib.hid hw
  have HCD := Lib.hid hcd
  clear hw hcd
  obtain ⟨c0, c1, c2⟩ := h.row k hk
  have HT := Lib.hid (h.tlb k hk)
  have HF := Lib.hid hf
  have hg := h.lg
  have HMM := Lib.hid hM
  have d0w := c0
  clear h hf hM
  go_enter Try.func51, Try.ntmps51
  go_wp2
  obtain ⟨wr, hwr⟩ : ∃ x, x = w.alloc (.cells #[.int .i64 0, .int .i64 0, .int .i64 0, .bool false, .bool false] 104) := ⟨_, rfl⟩
  rw [← hwr]
  have hbw : Below w.heap.size w wr := hwr ▸ bal (Below.refl _ _) _
  have hsz : wr.heap.size = w.heap.size + 1 := by rw [hwr]; simp
  have hres : TrAt wr w.heap.size zT := hwr ▸ tr_new w zT
  have hfz : ∀ j, wr.frozen? ⟨w.heap.size, j, none⟩ = false := fun j => by rw [hwr]; exact frozE _ _ _ _
  have d1 : wr.cell? ⟨g, k * 3 + 1, none⟩ = some (.int .i64 (Q k)) := (hbw.cell (p := ⟨g, k * 3 + 1, none⟩) hg).trans c1
  have d2 : wr.cell? ⟨g, k * 3 + 2, none⟩ = some (.pointer (some ⟨T k, 0, none⟩)) := (hbw.cell (p := ⟨g, k * 3 + 2, none⟩) hg).trans c2
  have hgr : g < wr.heap.size := by omega
  have D0 := Lib.hid ((hbw.cell (p := ⟨g, k * 3, none⟩) hg).trans c0)
  have D1 := Lib.hid d1
  have D2 := Lib.hid d2
  have HTR := Lib.hid (HT.out.call hbw)
  have HRES := Lib.hid hres
  have HFZ := Lib.hid hfz
  have HBW := Lib.hid hbw
  have hK0 : Kept wr.heap.size wr wr := Kept.refl (Nat.le_refl _)
  have HSZ := Lib.hid hsz
  clear hwr hbw hres hfz c0 c1 c2 hsz d0w
  go_region_held3 (fun w' => w'.cell? ⟨g, k * 3 + 1, none⟩ = some (.int .i64 (Q k)) ∧ w'.cell? ⟨g, k * 3 + 2, none⟩ = some (.pointer (some ⟨T k, 0, none⟩)) ∧ g < w'.heap.size ∧ wr.heap.size ≤ w'.heap.size ∧ Below wr.heap.size wr w')
    (first | (refine holdC hgr d1 d2 ?_; repeat (first | with_reducible exact hK0 | with_reducible refine Kept.drew ?_ | with_reducible refine Kept.drewN ?_ _ | with_reducible refine Kept.alloc ?_ _ | with_reducible refine Kept.set ?_ (by first | (simp; done) | (simp; omega)) _ | with_reducible refine Kept.call ?_ (by assumption))))
    (first
      | (go_at_call 56; refine (tfind_any _ (T k) (S k) (Q k) p (HTR.out.call (by repeat (first | with_reducible exact Below.refl _ _ | with_reducible refine Below.drew ?_ | with_reducible refine bal ?_ _)))).mono ?_; rw [HF.out]; rintro e w3 ⟨rfl, hb3⟩; obtain ⟨hc3, hf3⟩ := bcell hb3; (try (have hz3 : wr.heap.size < w3.heap.size := (by have := hb3.size; simp at this; omega)))))
  all_goals (first
    | (have HAF := Lib.hid (after_ta (wr := wr) (x := x) hb3); generalize (w3.alloc (.cells #[.int .i64 x.s, .int .i64 x.p, .int .i64 x.f, .bool x.r, .bool x.w] 104)) = V at HAF ⊢; generalize w3.heap.size = q at HAF ⊢)
    | (have HAF := Lib.hid (after_tb (wr := wr) (x := x) hb3); generalize (((((w3.setCell ⟨wr.heap.size, 0, none⟩ (.int .i64 x.s)).setCell ⟨wr.heap.size, 1, none⟩ (.int .i64 x.p)).setCell ⟨wr.heap.size, 2, none⟩ (.int .i64 x.f)).setCell ⟨wr.heap.size, 3, none⟩ (.bool x.r)).setCell ⟨wr.heap.size, 4, none⟩ (.bool x.w)) = V at HAF ⊢; clear hz3; obtain ⟨q, hq⟩ : ∃ q, wr.heap.size = q := ⟨_, rfl⟩; rw [hq] at HAF ⊢; clear hq))
  all_goals clear hb3 hc3 hf3
  all_goals (try clear hz3)
  all_goals
    obtain ⟨htr, hbv, hq1, hq2⟩ := HAF.out
    have hsz := HSZ.out
    have hwv : w.heap.size < wr.heap.size := by omega
    obtain ⟨z0, z1, z2, z3, z4⟩ := htr
    obtain ⟨r0, r1, r2, r3, r4⟩ := HRES.out.keep hwv hbv
    have f0 := (hbv.frozen (p := ⟨w.heap.size, 0, none⟩) hwv).trans (HFZ.out 0)
    have f1 := (hbv.frozen (p := ⟨w.heap.size, 1, none⟩) hwv).trans (HFZ.out 1)
    have f2 := (hbv.frozen (p := ⟨w.heap.size, 2, none⟩) hwv).trans (HFZ.out 2)
    have f3 := (hbv.frozen (p := ⟨w.heap.size, 3, none⟩) hwv).trans (HFZ.out 3)
    have f4 := (hbv.frozen (p := ⟨w.heap.size, 4, none⟩) hwv).trans (HFZ.out 4)
    have hne : w.heap.size ≠ q := by omega
    have hwV : w.heap.size < V.heap.size := by omega
    have HBV := Lib.hid (HBW.out.trans (hbv.mono (B' := w.heap.size) (by omega)))
    have e0 := (hbv.cell (p := ⟨g, k * 3, none⟩) hgr).trans D0.out
    have e1 := (hbv.cell (p := ⟨g, k * 3 + 1, none⟩) hgr).trans D1.out
    have e2 := (hbv.cell (p := ⟨g, k * 3 + 2, none⟩) hgr).trans D2.out
    have hgV : g < V.heap.size := Nat.lt_of_lt_of_le hgr hbv.size
    have HMV := Lib.hid ((HMM.out.call HBW.out).call hbv)
    have HTV := Lib.hid (HTR.out.call hbv)
    clear hbv hq1 hq2 hsz hwv HAF d1 d2 hgr hK0
    go_wp2_with (first
      | (go_at_call 57; refine (walk_no _ mb mg mn mc m (R k) p cd HMV.out HW.out HCD.out).mono ?_; rintro e w5 ⟨rfl, hb5⟩; obtain ⟨hc5, hf5⟩ := bcell hb5; have hz5 : w.heap.size < w5.heap.size := (Nat.lt_of_lt_of_le hwV hb5.size)))
    have s0 := (hc5 w.heap.size 0 hwV).trans r0
    have s1 := (hc5 w.heap.size 1 hwV).trans r1
    have s2 := (hc5 w.heap.size 2 hwV).trans r2
    have s3 := (hc5 w.heap.size 3 hwV).trans r3
    have s4 := (hc5 w.heap.size 4 hwV).trans r4
    have hne5 : w.heap.size ≠ w5.heap.size := Nat.ne_of_lt hz5
    have HB5 := Lib.hid (bgo HBV.out hb5)
    exact bodyPost_ret (v := .tuple #[trX zT, .bool false, .int .i64 cd]) (by simp [results, Try.results51, go_sem, s0, s1, s2, s3, s4, hne5, hz5]) rfl ⟨rfl, by repeat (first | with_reducible exact HB5.out | with_reducible refine Below.drew ?_ | with_reducible refine Below.setCell ?_ (by first | with_reducible exact Nat.le_refl _ | (simp; done) | (simp; omega)) _ | with_reducible refine bal ?_ _)⟩
end
/- package cores: translate that fills. -/
section
set_option linter.unusedVariables false
set_option linter.unusedSimpArgs false
open Go.ChangeShapes Go.WideShapes Go.ChangeAt Go.RowKit Go.Shelf
theorem holdF {a d : World} {g q i : Nat} {v0 v1 v2 v3 : Value} (hg : g < a.heap.size) (hq : q < a.heap.size) (q0 : a.cell? ⟨g, i + 1, none⟩ = some v0) (q1 : a.cell? ⟨q, 4, none⟩ = some v1) (q2 : a.cell? ⟨q, 2, none⟩ = some v2) (q3 : a.cell? ⟨q, 3, none⟩ = some v3) (h : Kept a.heap.size a d) :
    d.cell? ⟨g, i + 1, none⟩ = some v0 ∧ d.cell? ⟨q, 4, none⟩ = some v1 ∧ d.cell? ⟨q, 2, none⟩ = some v2 ∧ d.cell? ⟨q, 3, none⟩ = some v3 ∧ g < d.heap.size ∧ q < d.heap.size ∧ Below a.heap.size a d := ⟨h.cell hg q0, h.cell hq q1, h.cell hq q2, h.cell hq q3, h.lt hg, h.lt hq, h.1⟩
theorem TlbAt.far {w : World} {b d j : Nat} {S : TS} (h : TlbAt w b S) (hd : b ≠ d) (v : Value) : TlbAt (w.setCell ⟨d, j, none⟩ v) b S := h.of_block (by simp) (Go.heap_setCell_other _ _ _ _ hd)
theorem TlbAt.dr {w : World} {b : Nat} {S : TS} (h : TlbAt w b S) : TlbAt w.drew b S := h.of_block (Nat.le_refl _) rfl
theorem TlbOnly.dr {b : Nat} {a c : World} (h : TlbOnly b a c) : TlbOnly b a c.drew := ⟨h.os, h.tape, h.output, h.size, h.block⟩
theorem TlbOnly.far {b d j : Nat} {a c : World} (h : TlbOnly b a c) (hd : a.heap.size ≤ d) (v : Value) : TlbOnly b a (c.setCell ⟨d, j, none⟩ v) :=
  ⟨h.os, h.tape, h.output, by simpa using h.size, fun i hi hn => (Go.heap_setCell_other _ _ _ _ (by simp; omega)).trans (h.block i hi hn)⟩
theorem codeF_yes {t : TransX} (h : mayX t = true) : codeF t = 0 := by unfold codeF; rw [if_pos h]
set_option maxRecDepth 100000 in
set_option maxHeartbeats 4000000 in
theorem translate_fill (w : World) (b g n c k : Nat) (R Q : Nat → Int) (T : Nat → Nat) (S : Nat → TS) (mb mg mn mc : Nat) (m : Nat → Int) (p : Int) (x : TransX) (y : Nat) (l rd wt : Bool) (fr : Int) (h : CoresAt w b g n c R Q T S) (hk : k < n) (hM : MemAt w mb mg mn mc m) (hf : findS (S k) (Q k) p = (x, false)) (hw : walkC mn m (R k) p = 0) (hy : entW (leafW m (atF mn m (R k) p 3).1) = entV true l rd wt fr) (hmay : mayX ⟨Q k, p, fr, rd, wt⟩ = true) :
    Calls Try.prog 51 #[.pointer (some ⟨g, k * 3, none⟩), .pointer (some ⟨mb, 0, none⟩), .int .i64 p] w fun e w' => e = .returned (.tuple #[trX ⟨Q k, p, fr, rd, wt⟩, .bool false, .int .i64 0]) ∧ TlbAt w' (T k) (fillS (S k) ⟨Q k, p, fr, rd, wt⟩) ∧ TlbOnly (T k) w w' := by
  have HW := Lib.hid hw
  have HY := Lib.hid hy
  have HMAY := Lib.hid hmay
  have HOK := Lib.hid (Good.ok (h.good k hk))
  have hTlt := (h.tlb k hk).lt
  have hTg := (h.off k hk).2
  clear hw hy hmay
  obtain ⟨c0, c1, c2⟩ := h.row k hk
  have HT := Lib.hid (h.tlb k hk)
  have HF := Lib.hid hf
  have hg := h.lg
  have HMM := Lib.hid hM
  have d0w := c0
  clear h hf hM
  go_enter Try.func51, Try.ntmps51
  go_wp2
  obtain ⟨wr, hwr⟩ : ∃ x, x = w.alloc (.cells #[.int .i64 0, .int .i64 0, .int .i64 0, .bool false, .bool false] 104) := ⟨_, rfl⟩
  rw [← hwr]
  have hbw : Below w.heap.size w wr := hwr ▸ bal (Below.refl _ _) _
  have hsz : wr.heap.size = w.heap.size + 1 := by rw [hwr]; simp
  have hres : TrAt wr w.heap.size zT := hwr ▸ tr_new w zT
  have hfz : ∀ j, wr.frozen? ⟨w.heap.size, j, none⟩ = false := fun j => by rw [hwr]; exact frozE _ _ _ _
  have d1 : wr.cell? ⟨g, k * 3 + 1, none⟩ = some (.int .i64 (Q k)) := (hbw.cell (p := ⟨g, k * 3 + 1, none⟩) hg).trans c1
  have d2 : wr.cell? ⟨g, k * 3 + 2, none⟩ = some (.pointer (some ⟨T k, 0, none⟩)) := (hbw.cell (p := ⟨g, k * 3 + 2, none⟩) hg).trans c2
  have hgr : g < wr.heap.size := by omega
  have D0 := Lib.hid ((hbw.cell (p := ⟨g, k * 3, none⟩) hg).trans c0)
  have D1 := Lib.hid d1
  have D2 := Lib.hid d2
  have HTR := Lib.hid (HT.out.call hbw)
  have HRES := Lib.hid hres
  have HFZ := Lib.hid hfz
  have HBW := Lib.hid hbw
  have hK0 : Kept wr.heap.size wr wr := Kept.refl (Nat.le_refl _)
  have HSZ := Lib.hid hsz
  clear hwr hbw hres hfz c0 c1 c2 hsz d0w
  go_region_held3 (fun w' => w'.cell? ⟨g, k * 3 + 1, none⟩ = some (.int .i64 (Q k)) ∧ w'.cell? ⟨g, k * 3 + 2, none⟩ = some (.pointer (some ⟨T k, 0, none⟩)) ∧ g < w'.heap.size ∧ wr.heap.size ≤ w'.heap.size ∧ Below wr.heap.size wr w')
    (first | (refine holdC hgr d1 d2 ?_; repeat (first | with_reducible exact hK0 | with_reducible refine Kept.drew ?_ | with_reducible refine Kept.drewN ?_ _ | with_reducible refine Kept.alloc ?_ _ | with_reducible refine Kept.set ?_ (by first | (simp; done) | (simp; omega)) _ | with_reducible refine Kept.call ?_ (by assumption))))
    (first
      | (go_at_call 56; refine (tfind_any _ (T k) (S k) (Q k) p (HTR.out.call (by repeat (first | with_reducible exact Below.refl _ _ | with_reducible refine Below.drew ?_ | with_reducible refine bal ?_ _)))).mono ?_; rw [HF.out]; rintro e w3 ⟨rfl, hb3⟩; obtain ⟨hc3, hf3⟩ := bcell hb3; (try (have hz3 : wr.heap.size < w3.heap.size := (by have := hb3.size; simp at this; omega)))))
  all_goals (first
    | (have HAF := Lib.hid (after_ta (wr := wr) (x := x) hb3); generalize (w3.alloc (.cells #[.int .i64 x.s, .int .i64 x.p, .int .i64 x.f, .bool x.r, .bool x.w] 104)) = V at HAF ⊢; generalize w3.heap.size = q at HAF ⊢)
    | (have HAF := Lib.hid (after_tb (wr := wr) (x := x) hb3); generalize (((((w3.setCell ⟨wr.heap.size, 0, none⟩ (.int .i64 x.s)).setCell ⟨wr.heap.size, 1, none⟩ (.int .i64 x.p)).setCell ⟨wr.heap.size, 2, none⟩ (.int .i64 x.f)).setCell ⟨wr.heap.size, 3, none⟩ (.bool x.r)).setCell ⟨wr.heap.size, 4, none⟩ (.bool x.w)) = V at HAF ⊢; clear hz3; obtain ⟨q, hq⟩ : ∃ q, wr.heap.size = q := ⟨_, rfl⟩; rw [hq] at HAF ⊢; clear hq))
  all_goals clear hb3 hc3 hf3
  all_goals (try clear hz3)
  all_goals
    obtain ⟨htr, hbv, hq1, hq2⟩ := HAF.out
    have hsz := HSZ.out
    have hwv : w.heap.size < wr.heap.size := by omega
    obtain ⟨z0, z1, z2, z3, z4⟩ := htr
    obtain ⟨r0, r1, r2, r3, r4⟩ := HRES.out.keep hwv hbv
    have f0 := (hbv.frozen (p := ⟨w.heap.size, 0, none⟩) hwv).trans (HFZ.out 0)
    have f1 := (hbv.frozen (p := ⟨w.heap.size, 1, none⟩) hwv).trans (HFZ.out 1)
    have f2 := (hbv.frozen (p := ⟨w.heap.size, 2, none⟩) hwv).trans (HFZ.out 2)
    have f3 := (hbv.frozen (p := ⟨w.heap.size, 3, none⟩) hwv).trans (HFZ.out 3)
    have f4 := (hbv.frozen (p := ⟨w.heap.size, 4, none⟩) hwv).trans (HFZ.out 4)
    have hne : w.heap.size ≠ q := by omega
    have hwV : w.heap.size < V.heap.size := by omega
    have HBV := Lib.hid (HBW.out.trans (hbv.mono (B' := w.heap.size) (by omega)))
    have e0 := (hbv.cell (p := ⟨g, k * 3, none⟩) hgr).trans D0.out
    have e1 := (hbv.cell (p := ⟨g, k * 3 + 1, none⟩) hgr).trans D1.out
    have e2 := (hbv.cell (p := ⟨g, k * 3 + 2, none⟩) hgr).trans D2.out
    have hgV : g < V.heap.size := Nat.lt_of_lt_of_le hgr hbv.size
    have HMV := Lib.hid ((HMM.out.call HBW.out).call hbv)
    have HTV := Lib.hid (HTR.out.call hbv)
    clear hbv hq1 hq2 hsz hwv HAF d1 d2 hgr hK0
    go_wp2_with (first
      | (go_at_call 57; refine (walk_ok _ mb mg mn mc m (R k) p HMV.out HW.out).mono ?_; rw [HY.out]; rintro e w5 ⟨rfl, hb5⟩))
    obtain ⟨w6, hw6⟩ : ∃ x, x = w5.alloc (.cells #[.bool true, .bool l, .bool rd, .bool wt, .int .i64 fr] 137) := ⟨_, rfl⟩
    rw [← hw6]
    have hb56 : Below w5.heap.size w5 w6 := hw6 ▸ bal (Below.refl _ _) _
    have hz5 : w5.heap.size < w6.heap.size := by rw [hw6]; simp
    have y2 : w6.cell? ⟨w5.heap.size, 2, none⟩ = some (.bool rd) := by rw [hw6, cellE]; rfl
    have y3 : w6.cell? ⟨w5.heap.size, 3, none⟩ = some (.bool wt) := by rw [hw6, cellE]; rfl
    have y4 : w6.cell? ⟨w5.heap.size, 4, none⟩ = some (.int .i64 fr) := by rw [hw6, cellE]; rfl
    have hbV6 : Below V.heap.size V w6 := bgo hb5 hb56
    have n1 : w6.cell? ⟨g, k * 3 + 1, none⟩ = some (.int .i64 (Q k)) := (hbV6.cell (p := ⟨g, k * 3 + 1, none⟩) hgV).trans e1
    have n2 : w6.cell? ⟨g, k * 3 + 2, none⟩ = some (.pointer (some ⟨T k, 0, none⟩)) := (hbV6.cell (p := ⟨g, k * 3 + 2, none⟩) hgV).trans e2
    have hg6 : g < w6.heap.size := Nat.lt_of_lt_of_le hgV hbV6.size
    have HV6 := Lib.hid hbV6
    have hK6 : Kept w6.heap.size w6 w6 := Kept.refl (Nat.le_refl _)
    clear hw6 hb5 hb56 hbV6
    go_region_held3 (fun w' => w'.cell? ⟨g, k * 3 + 1, none⟩ = some (.int .i64 (Q k)) ∧ w'.cell? ⟨w5.heap.size, 4, none⟩ = some (.int .i64 fr) ∧ w'.cell? ⟨w5.heap.size, 2, none⟩ = some (.bool rd) ∧ w'.cell? ⟨w5.heap.size, 3, none⟩ = some (.bool wt) ∧ g < w'.heap.size ∧ w5.heap.size < w'.heap.size ∧ Below w6.heap.size w6 w')
      (first | (refine holdF hg6 hz5 n1 y4 y2 y3 ?_; repeat (first | with_reducible exact hK6 | with_reducible refine Kept.drew ?_ | with_reducible refine Kept.drewN ?_ _ | with_reducible refine Kept.alloc ?_ _ | with_reducible refine Kept.set ?_ (by first | (simp; done) | (simp; omega)) _)))
      (first | fail)
    obtain ⟨w7, hw7⟩ : ∃ x, x = (w6.alloc (.cells #[.int .i64 (Q k), .int .i64 p, .int .i64 fr, .bool rd, .bool wt] 104)).drew := ⟨_, rfl⟩
    rw [← hw7]
    have hb67 : Below w6.heap.size w6 w7 := by rw [hw7]; exact (bal (Below.refl _ _) _).drew
    have hz67 : w6.heap.size < w7.heap.size := by rw [hw7]; simp
    have ht7 : TrAt w7 w6.heap.size ⟨Q k, p, fr, rd, wt⟩ := by rw [hw7]; exact tr_new w6 ⟨Q k, p, fr, rd, wt⟩
    have hbV7 : Below V.heap.size V w7 := bgo HV6.out hb67
    have m2 : w7.cell? ⟨g, k * 3 + 2, none⟩ = some (.pointer (some ⟨T k, 0, none⟩)) := (hb67.cell (p := ⟨g, k * 3 + 2, none⟩) hg6).trans n2
    have hg7 : g < w7.heap.size := Nat.lt_of_lt_of_le hg6 hb67.size
    obtain ⟨t0, t1, t2, t3, t4⟩ := ht7
    have s0 := (hbV7.cell (p := ⟨w.heap.size, 0, none⟩) hwV).trans r0
    have s1 := (hbV7.cell (p := ⟨w.heap.size, 1, none⟩) hwV).trans r1
    have s2 := (hbV7.cell (p := ⟨w.heap.size, 2, none⟩) hwV).trans r2
    have s3 := (hbV7.cell (p := ⟨w.heap.size, 3, none⟩) hwV).trans r3
    have s4 := (hbV7.cell (p := ⟨w.heap.size, 4, none⟩) hwV).trans r4
    have x0 := (hbV7.frozen (p := ⟨w.heap.size, 0, none⟩) hwV).trans f0
    have x1 := (hbV7.frozen (p := ⟨w.heap.size, 1, none⟩) hwV).trans f1
    have x2 := (hbV7.frozen (p := ⟨w.heap.size, 2, none⟩) hwV).trans f2
    have x3 := (hbV7.frozen (p := ⟨w.heap.size, 3, none⟩) hwV).trans f3
    have x4 := (hbV7.frozen (p := ⟨w.heap.size, 4, none⟩) hwV).trans f4
    have hw6lt : w.heap.size < w6.heap.size := Nat.lt_of_lt_of_le hwV HV6.out.size
    have hne6 : w.heap.size ≠ w6.heap.size := Nat.ne_of_lt hw6lt
    have hT6 : w6.heap.size ≠ T k := by omega
    have hTw : w.heap.size ≠ T k := by omega
    have hTk2 : T k ≠ w.heap.size := Ne.symm hTw
    have hwz7 : w.heap.size < w7.heap.size := by omega
    have HT7 := Lib.hid (HTV.out.call hbV7)
    have HO7 := Lib.hid (TlbOnly.of_below (b := T k) (bgo HBV.out hbV7))
    clear hw7 hb67 hbV7 n1 n2 y2 y3 y4 hg6 hz5 hgV e0 e1 e2 r0 r1 r2 r3 r4 f0 f1 f2 f3 f4 z0 z1 z2 z3 z4 hne hwV hK6
    go_wp2
    go_region_with (first
      | (go_at_call 58; refine (tfill_any _ (T k) (S k) ⟨Q k, p, fr, rd, wt⟩ (HT7.out.call (Below.refl _ _).drew) HOK.out).mono ?_; rw [codeF_yes HMAY.out]; rintro e w8 ⟨rfl, ht8, ho8⟩; have HT8 := Lib.hid ht8; have HO8 := Lib.hid ho8; have q0 := (ho8.cell hz67 hT6 t0); have q1 := (ho8.cell hz67 hT6 t1); have q2 := (ho8.cell hz67 hT6 t2); have q3 := (ho8.cell hz67 hT6 t3); have q4 := (ho8.cell hz67 hT6 t4); have p0 := (ho8.cell hwz7 hTw s0); have p1 := (ho8.cell hwz7 hTw s1); have p2 := (ho8.cell hwz7 hTw s2); have p3 := (ho8.cell hwz7 hTw s3); have p4 := (ho8.cell hwz7 hTw s4); have g0 := ((frozen_of_block (ho8.block _ hwz7 hTw)).trans x0); have g1 := ((frozen_of_block (ho8.block _ hwz7 hTw)).trans x1); have g2 := ((frozen_of_block (ho8.block _ hwz7 hTw)).trans x2); have g3 := ((frozen_of_block (ho8.block _ hwz7 hTw)).trans x3); have g4 := ((frozen_of_block (ho8.block _ hwz7 hTw)).trans x4); clear ht8 ho8))
    all_goals go_wp2
    all_goals exact bodyPost_ret (v := .tuple #[trX ⟨Q k, p, fr, rd, wt⟩, .bool false, .int .i64 0]) (by simp [results, Try.results51, go_sem, p0, p1, p2, p3, p4, q0, q1, q2, q3, q4, hne6]) rfl ⟨rfl, by repeat (first | with_reducible exact HT8.out | with_reducible refine TlbAt.dr ?_ | with_reducible refine TlbAt.far ?_ hTk2 _), by repeat (first | with_reducible exact HO7.out.trans HO8.out | with_reducible exact (TlbOnly.dr HO7.out).trans HO8.out | with_reducible refine TlbOnly.dr ?_ | with_reducible refine TlbOnly.far ?_ (Nat.le_refl _) _)⟩
end
/- package cores: New. -/
section
set_option linter.unusedVariables false
set_option linter.unusedSimpArgs false
open Go.ChangeShapes Go.WideShapes Go.ChangeAt Go.RowKit Go.Shelf
theorem infoC : (Try.prog.info? 69).map (fun i => (i.zero, i.size, i.bytes)) = some (some (.agg #[.int .i64 0, .int .i64 0, .pointer none]), 3, 24) := by kernel_rfl
def zrowC (n : Nat) : List Value := (List.range (n * 3)).map fun j => if j % 3 = 2 then .pointer none else .int .i64 0
theorem zeros_core (n : Nat) (h : n ≤ 3) : (madeCells (Value.agg #[.int .i64 0, .int .i64 0, .pointer none]).cells (n * 3)).toList = zrowC n := by
  apply List.ext_getElem?
  intro j
  unfold zrowC
  by_cases hj : j < n * 3
  · rw [List.getElem?_map, List.getElem?_range hj, Array.getElem?_toList]
    unfold madeCells
    rw [Array.getElem?_map, Array.getElem?_range, if_pos hj]
    simp only [Option.map_some, Option.some.injEq]
    have h8 : j % 3 = 0 ∨ j % 3 = 1 ∨ j % 3 = 2 := by omega
    have hsz : (#[Value.int .i64 0, .int .i64 0, .pointer none] : Array Value).size = 3 := rfl
    show (#[Value.int .i64 0, .int .i64 0, .pointer none] : Array Value)[j % 3]! = _
    rcases h8 with h8 | h8 | h8 <;> rw [h8] <;> rfl
  · rw [List.getElem?_eq_none (by simp [size_madeCells]; omega), List.getElem?_eq_none (by simp; omega)]
theorem zrow_at {n i : Nat} (h : i < n) (hn : n ≤ 3) : (zrowC n)[i * 3]? = some (.int .i64 0) ∧ (zrowC n)[i * 3 + 1]? = some (.int .i64 0) ∧ (zrowC n)[i * 3 + 2]? = some (.pointer none) := by
  unfold zrowC
  refine ⟨?_, ?_, ?_⟩
  all_goals
    rw [List.getElem?_map, List.getElem?_range (by omega)]
    simp
  all_goals omega
/-- Cores of which j are laid. -/
structure PartAt (w : World) (b g n j : Nat) (T : Nat → Nat) : Prop where
  hd : w.cell? ⟨b, 0, none⟩ = some (.slice (some ⟨g, 0, none⟩) n n)
  row : ∀ i, i < j → w.cell? ⟨g, i * 3, none⟩ = some (.int .i64 (-1)) ∧ w.cell? ⟨g, i * 3 + 1, none⟩ = some (.int .i64 0) ∧ w.cell? ⟨g, i * 3 + 2, none⟩ = some (.pointer (some ⟨T i, 0, none⟩))
  rest : ∀ i, j ≤ i → i < n → w.cell? ⟨g, i * 3, none⟩ = some (.int .i64 0) ∧ w.cell? ⟨g, i * 3 + 1, none⟩ = some (.int .i64 0) ∧ w.cell? ⟨g, i * 3 + 2, none⟩ = some (.pointer none)
  free : ∀ i, w.frozen? ⟨g, i, none⟩ = false
  tlb : ∀ i, i < j → TlbAt w (T i) S0 ∧ b < T i ∧ g < T i
  dist : ∀ i k, i < k → k < j → T i < T k
  ne : b ≠ g
  lb : b < w.heap.size
  lg : g < w.heap.size
theorem PartAt.step {wr w3 : World} {b g n j : Nat} {T : Nat → Nat} (h : PartAt wr b g n j T) (hj : j < n) {t : Nat} (hb : Below wr.heap.size wr w3) (ht : TlbAt w3 t S0) (ht0 : wr.heap.size ≤ t) :
    PartAt (((w3.setCell ⟨g, j * 3, none⟩ (.int .i64 (-1))).setCell ⟨g, j * 3 + 1, none⟩ (.int .i64 0)).setCell ⟨g, j * 3 + 2, none⟩ (.pointer (some ⟨t, 0, none⟩))) b g n (j + 1) (fun i => if i = j then t else T i) := by
  have hlg := h.lg
  have hlb := h.lb
  have hc := fun o => hb.cell (p := ⟨g, o, none⟩) hlg
  have hcb := (hb.cell (p := ⟨b, 0, none⟩) hlb).trans h.hd
  obtain ⟨z0, z1, z2⟩ := h.rest j (Nat.le_refl _) hj
  refine ⟨?_, fun i hi => ?_, fun i hi1 hi2 => ?_, fun i => ?_, fun i hi => ?_, fun i k hik hk => ?_, h.ne, by simp; exact Nat.lt_of_lt_of_le hlb hb.size, by simp; exact Nat.lt_of_lt_of_le hlg hb.size⟩
  · rw [World.cell?_setCell_other, World.cell?_setCell_other, World.cell?_setCell_other, hcb]
    all_goals (intro e; simp only [Addr.mk.injEq] at e; exact h.ne e.1.symm)
  · by_cases e : i = j
    · subst e
      simp only [if_true]
      refine ⟨?_, ?_, ?_⟩ <;> simp [go_sem, hc, z0, z1, z2]
    · simp only [if_neg e]
      obtain ⟨a0, a1, a2⟩ := h.row i (by omega)
      refine ⟨?_, ?_, ?_⟩
      all_goals
        rw [World.cell?_setCell_other, World.cell?_setCell_other, World.cell?_setCell_other, hc]
        · assumption
        all_goals (intro e2; simp only [Addr.mk.injEq, true_and, and_true] at e2; omega)
  · obtain ⟨a0, a1, a2⟩ := h.rest i (by omega) hi2
    refine ⟨?_, ?_, ?_⟩
    all_goals
      rw [World.cell?_setCell_other, World.cell?_setCell_other, World.cell?_setCell_other, hc]
      · assumption
      all_goals (intro e2; simp only [Addr.mk.injEq, true_and, and_true] at e2; omega)
  · have := (hb.frozen (p := ⟨g, i, none⟩) hlg).trans (h.free i)
    simp [go_sem, this]
  · have far : ∀ {x : Nat}, TlbAt w3 x S0 → g ≠ x → TlbAt (((w3.setCell ⟨g, j * 3, none⟩ (.int .i64 (-1))).setCell ⟨g, j * 3 + 1, none⟩ (.int .i64 0)).setCell ⟨g, j * 3 + 2, none⟩ (.pointer (some ⟨t, 0, none⟩))) x S0 := fun hx hg => hx.of_block (by simp) (by rw [Go.heap_setCell_other _ _ _ _ (Ne.symm hg), Go.heap_setCell_other _ _ _ _ (Ne.symm hg), Go.heap_setCell_other _ _ _ _ (Ne.symm hg)])
    by_cases e : i = j
    · subst e
      simp only [if_true]
      exact ⟨far ht (by omega), by omega, by omega⟩
    · simp only [if_neg e]
      obtain ⟨a0, a1, a2⟩ := h.tlb i (by omega)
      exact ⟨far (a0.of_block hb.size (hb.block _ a0.lt)) (by omega), a1, a2⟩
  · by_cases e : k = j
    · subst e
      simp only [if_true, if_neg (Nat.ne_of_lt hik)]
      have := (h.tlb i hik).1.lt
      omega
    · simp only [if_neg e, if_neg (show i ≠ j by omega)]
      exact h.dist i k hik (by omega)
theorem PartAt.done {w : World} {b g n : Nat} {T : Nat → Nat} (h : PartAt w b g n n T) (h1 : 1 ≤ n) (h3 : n ≤ 3) : CoresAt w b g n n (fun _ => -1) (fun _ => 0) T (fun _ => S0) :=
  ⟨h.hd, h.row, h.free, fun i hi => (h.tlb i hi).1, fun _ _ => good_S0, fun _ _ => .inl ⟨rfl, rfl⟩, fun i j hi hj e => by
    rcases Nat.lt_or_gt_of_ne e with e | e
    · exact Nat.ne_of_lt (h.dist i j e hj)
    · exact Ne.symm (Nat.ne_of_lt (h.dist j i e hi)), fun i hi => by have := h.tlb i hi; omega, h.ne, h.lb, h.lg, h1, h3, Nat.le_refl _⟩
set_option maxRecDepth 100000 in
set_option maxHeartbeats 2000000 in
theorem cnew_ok (w : World) (n : Nat) (h1 : 1 ≤ n) (h3 : n ≤ 3) :
    Calls Try.prog 22 #[.int .i64 n] w fun e w' => ∃ b g T, e = .returned (.tuple #[.pointer (some ⟨b, 0, none⟩), .int .i64 0]) ∧ CoresAt w' b g n n (fun _ => -1) (fun _ => 0) T (fun _ => S0) ∧ w.heap.size ≤ b ∧ w.heap.size ≤ g ∧ (∀ i, i < n → w.heap.size ≤ T i) ∧ Below w.heap.size w w' := by
  obtain ⟨i0, hi, hz0, hz1, hz2⟩ := info_parts infoC
  obtain ⟨w1, hrun, hown, hgr⟩ := run_make_full (P := Try.prog) w w.heap.size 99 69 i0 _ 3 Try.underlying99 hi hz0 hz1 .i64 .i64 n (by rw [hz2]; omega) (by unfold maxLen; omega) (Nat.le_refl _)
  rw [zeros_core n h3] at hown
  obtain ⟨g, c, hv, hc1, hc2, hg1, hg2, hfz, hcs⟩ := own_form hown (by omega)
  simp only [Value.slice.injEq, Option.some.injEq, Addr.mk.injEq, and_true, true_and] at hv
  obtain ⟨rfl, rfl⟩ := hv
  have HCS := Lib.hid hcs
  have HFZ := Lib.hid hfz
  have HGR := Lib.hid hgr
  have n3 : (n : Int) ≤ 3 := by omega
  have n1 : 1 ≤ (n : Int) := by omega
  clear hgr hown hi hz0 hz1 hz2 hcs hfz
  go_enter Try.func22, Try.ntmps22
  go_wp2
  obtain ⟨w2, hw2⟩ : ∃ x, x = w1.alloc (.cells #[.slice (some ⟨w.heap.size, 0, none⟩) n n] 101) := ⟨_, rfl⟩
  rw [← hw2]
  have hb12 : Below w1.heap.size w1 w2 := hw2 ▸ bal (Below.refl _ _) _
  have hz2 : w2.heap.size = w1.heap.size + 1 := by rw [hw2]; simp
  have hhd : w2.cell? ⟨w1.heap.size, 0, none⟩ = some (.slice (some ⟨w.heap.size, 0, none⟩) n n) := by rw [hw2, cellE]; rfl
  have hP : PartAt w2 w1.heap.size w.heap.size n 0 (fun _ => 0) := ⟨hhd, fun i hi => by omega, fun i _ hi => by
      obtain ⟨a0, a1, a2⟩ := zrow_at hi h3
      exact ⟨(hb12.cell (p := ⟨w.heap.size, i * 3, none⟩) hg2).trans (HCS.out _ _ a0), (hb12.cell (p := ⟨w.heap.size, i * 3 + 1, none⟩) hg2).trans (HCS.out _ _ a1), (hb12.cell (p := ⟨w.heap.size, i * 3 + 2, none⟩) hg2).trans (HCS.out _ _ a2)⟩,
    fun i => (hb12.frozen (p := ⟨w.heap.size, i, none⟩) hg2).trans (HFZ.out i), fun i hi => by omega, fun i k _ hk => by omega, by omega, by omega, by omega⟩
  have hbw2 : Below w.heap.size w w2 := ((Below.refl _ _).grown HGR.out (Nat.le_refl _) (fun j e => by cases e)).trans (hb12.mono HGR.out.size)
  have HP0 := Lib.hid hP
  have HB0 := Lib.hid hbw2
  have hgs := HGR.out.size
  clear hw2 hb12 hz2 hP hbw2
  go_wp2
  go_loopw [21] (fun i wr => ∃ j T, j ≤ n ∧ i = .int .i64 j ∧ Hid (PartAt wr w1.heap.size w.heap.size n j T) ∧ Below w.heap.size w wr) (fun i _ => n - (intOf i).toNat)
  case atStart => exact ⟨0, _, by omega, rfl, HP0, HB0.out⟩
  case round =>
    obtain ⟨j, T, hj, rfl, HP, hB⟩ := hrel
    by_cases hlt : j < n
    · have hlt' : (j : Int) < n := by omega
      have d0 := HP.out.hd
      have hlb := HP.out.lb
      have hlg := HP.out.lg
      have hfz := HP.out.free
      obtain ⟨z0, z1, z2⟩ := HP.out.rest j (Nat.le_refl _) hlt
      clear hhd
      go_wp2
      go_region_with (first
        | (go_at_call 38; refine (tnew_any _).mono ?_; rintro e w3 ⟨rfl, ht3, hb3⟩; have HT3 := Lib.hid ht3; have HB3 := Lib.hid (Below.of_drew hb3); have k0 := ((HB3.out.cell (p := ⟨w.heap.size, j * 3, none⟩) hlg).trans z0); have k1 := ((HB3.out.cell (p := ⟨w.heap.size, j * 3 + 1, none⟩) hlg).trans z1); have k2 := ((HB3.out.cell (p := ⟨w.heap.size, j * 3 + 2, none⟩) hlg).trans z2); have kf := (fun i => (HB3.out.frozen (p := ⟨w.heap.size, i, none⟩) hlg).trans (hfz i)); have kd := ((HB3.out.cell (p := ⟨w1.heap.size, 0, none⟩) hlb).trans d0); clear ht3 hb3))
      all_goals go_wp2
      all_goals go_roundw
      all_goals first
        | exact ⟨j + 1, _, by omega, by go_num, Lib.hid (HP.out.step hlt HB3.out HT3.out (Nat.le_refl _)), (((hB.trans (HB3.out.mono hB.size)).setCell (Nat.le_refl _) _).setCell (Nat.le_refl _) _).setCell (Nat.le_refl _) _⟩
        | (simp [intOf]; omega)
    · obtain rfl : j = n := by omega
      have hd := HP.out.done h1 h3
      have HD := Lib.hid hd
      have HT := Lib.hid (fun i hi => (HP.out.tlb i hi).2.2)
      clear hd hhd
      go_wp2
      go_ret2
      first
        | exact ⟨_, _, T, rfl, HD.out, hgs, Nat.le_refl _, fun i hi => Nat.le_of_lt (HT.out i hi), hB⟩
        | exact ⟨_, T, HD.out, hgs, Nat.le_refl _, fun i hi => Nat.le_of_lt (HT.out i hi), hB⟩
        | exact ⟨_, rfl, _, T, HD.out, hgs, Nat.le_refl _, fun i hi => Nat.le_of_lt (HT.out i hi), hB⟩
        | exact ⟨_, ⟨_, ⟨T, HD.out, hgs, Nat.le_refl _, fun i hi => Nat.le_of_lt (HT.out i hi)⟩⟩, hB⟩
        | exact ⟨_, ⟨_, ⟨_, HD.out⟩, hgs, Nat.le_refl _, fun i hi => Nat.le_of_lt (HT.out i hi), hB⟩⟩
end
/- package cores: Translate, Prefetch, Set, Regs, Len; of none. -/
section
set_option linter.unusedVariables false
set_option linter.unusedSimpArgs false
open Go.ChangeShapes Go.WideShapes Go.ChangeAt Go.RowKit Go.Shelf
/-- The translation that a walk tells. -/
def leafT (n : Nat) (m : Nat → Int) (r q p : Int) : TransX := ⟨q, p, ((leafW m (atF n m r p 3).1 / 256 % 64 : Nat) : Int), (leafW m (atF n m r p 3).1).testBit 2, (leafW m (atF n m r p 3).1).testBit 3⟩
theorem walkC_leaf {n : Nat} {m : Nat → Int} {r p : Int} (h : walkC n m r p = 0) : (leafW m (atF n m r p 3).1).testBit 1 = true ∧ ((leafW m (atF n m r p 3).1).testBit 2 || (leafW m (atF n m r p 3).1).testBit 3) = true ∧ leafW m (atF n m r p 3).1 / 256 % 64 < n := by
  unfold walkC at h
  split at h
  · unfold leafC at h
    generalize leafW m (atF n m r p 3).1 = x at h ⊢
    split at h
    · rename_i he
      split at h
      · rename_i hl
        unfold entC at he
        split at he
        · rename_i ho
          split at he
          · rename_i hv
            split at he
            · rename_i hf
              unfold okB at ho
              rw [Bool.and_eq_true] at ho
              have hm := ho.2
              rw [hv, hl] at hm
              unfold mayE at hm
              simp only [if_true, Bool.and_eq_true, beq_iff_eq] at hm
              exact ⟨hl, hm.2.symm, hf⟩
            · cases he
          · cases he
        · cases he
      · cases h
    · rename_i he
      exact absurd h he
  · rename_i h0
    exact absurd h h0
theorem may_leaf {n : Nat} {m : Nat → Int} {r q p : Int} (hn : n ≤ 64) (h : walkC n m r p = 0) (hq : 1 ≤ q) (p0 : 0 ≤ p) (p1 : p < 512) : mayX (leafT n m r q p) = true := by
  obtain ⟨h1, h2, h3⟩ := walkC_leaf h
  unfold mayX leafT
  simp only [h2, Bool.and_true, decide_eq_true_eq]
  omega
/-- What Translate tells of a core that walks, and its cache behind it. -/
def transF (n : Nat) (m : Nat → Int) (r q p : Int) (s : TS) : (TransX × Bool × Int) × TS :=
  if (findS s q p).2 = true then (((findS s q p).1, true, 0), s) else if walkC n m r p = 0 then ((leafT n m r q p, false, 0), fillS s (leafT n m r q p)) else ((zT, false, walkC n m r p), s)
theorem good_trans {n : Nat} {m : Nat → Int} {r q p : Int} {s : TS} (h : Good s) : Good (transF n m r q p s).2 := by
  unfold transF
  split
  · exact h
  · split
    · exact good_fill h _
    · exact h
theorem CoresAt.far {w : World} {b g n c d j : Nat} {R Q : Nat → Int} {T : Nat → Nat} {S : Nat → TS} (h : CoresAt w b g n c R Q T S) (h1 : b ≠ d) (h2 : g ≠ d) (h3 : ∀ i, i < n → T i ≠ d) (v : Value) : CoresAt (w.setCell ⟨d, j, none⟩ v) b g n c R Q T S :=
  h.of_blocks (by simp) (Go.heap_setCell_other _ _ _ _ h1) (Go.heap_setCell_other _ _ _ _ h2) fun i hi => Go.heap_setCell_other _ _ _ _ (h3 i hi)
theorem setT_same (S : Nat → TS) (k : Nat) : setT S k (S k) = S := by
  funext i; unfold setT; split
  · rename_i e; rw [e]
  · rfl
theorem RegOk.pos {r s : Int} (h : RegOk r s) (hr : r ≠ -1) : 0 ≤ r ∧ r < 64 ∧ 1 ≤ s := by
  rcases h with h | h
  · exact absurd h.1 hr
  · exact h
theorem translate_any (w : World) (b g n c k : Nat) (R Q : Nat → Int) (T : Nat → Nat) (S : Nat → TS) (mb mg mn mc : Nat) (m : Nat → Int) (p : Int) (h : CoresAt w b g n c R Q T S) (hk : k < n) (hM : MemAt w mb mg mn mc m) (hr : R k ≠ -1) (p0 : 0 ≤ p) (p1 : p < 512) :
    Calls Try.prog 51 #[.pointer (some ⟨g, k * 3, none⟩), .pointer (some ⟨mb, 0, none⟩), .int .i64 p] w fun e w' => e = .returned (.tuple #[trX (transF mn m (R k) (Q k) p (S k)).1.1, .bool (transF mn m (R k) (Q k) p (S k)).1.2.1, .int .i64 (transF mn m (R k) (Q k) p (S k)).1.2.2]) ∧ CoresAt w' b g n c R Q T (setT S k (transF mn m (R k) (Q k) p (S k)).2) ∧ TlbOnly (T k) w w' := by
  obtain ⟨⟨x, t⟩, hf⟩ : ∃ z, findS (S k) (Q k) p = z := ⟨_, rfl⟩
  have hq := (h.regs k hk).pos hr
  cases t with
  | true =>
    have e : transF mn m (R k) (Q k) p (S k) = ((x, true, 0), S k) := by unfold transF; rw [hf]; rfl
    rw [e]
    exact (translate_hit w b g n c k R Q T S _ p x h hk hf).mono fun e' w' ⟨h1, h2⟩ => ⟨h1, by rw [setT_same]; exact h.call h2, TlbOnly.of_below h2⟩
  | false =>
    by_cases hw : walkC mn m (R k) p = 0
    · have e : transF mn m (R k) (Q k) p (S k) = ((leafT mn m (R k) (Q k) p, false, 0), fillS (S k) (leafT mn m (R k) (Q k) p)) := by unfold transF; rw [hf, if_neg (by simp), if_pos hw]
      rw [e]
      have hmay := may_leaf (q := Q k) hM.n64 hw hq.2.2 p0 p1
      have hy : entW (leafW m (atF mn m (R k) p 3).1) = entV true true ((leafW m (atF mn m (R k) p 3).1).testBit 2) ((leafW m (atF mn m (R k) p 3).1).testBit 3) ((leafW m (atF mn m (R k) p 3).1 / 256 % 64 : Nat) : Int) := by unfold entW; rw [(walkC_leaf hw).1]
      exact (translate_fill w b g n c k R Q T S mb mg mn mc m p x 0 _ _ _ _ h hk hM hf hw hy hmay).mono fun e' w' ⟨h1, h2, h3⟩ => ⟨h1, h.put hk h2 (good_fill (h.good k hk) _) h3, h3⟩
    · have e : transF mn m (R k) (Q k) p (S k) = ((zT, false, walkC mn m (R k) p), S k) := by unfold transF; rw [hf, if_neg (by simp), if_neg hw]
      rw [e]
      exact (translate_miss w b g n c k R Q T S mb mg mn mc m p _ x h hk hM hf rfl hw).mono fun e' w' ⟨h1, h2⟩ => ⟨h1, by rw [setT_same]; exact h.call h2, TlbOnly.of_below h2⟩
set_option maxRecDepth 100000 in
set_option maxHeartbeats 1000000 in
theorem ctrans_ok (w : World) (b g n c k : Nat) (R Q : Nat → Int) (T : Nat → Nat) (S : Nat → TS) (mb mg mn mc : Nat) (m : Nat → Int) (p : Int) (h : CoresAt w b g n c R Q T S) (hk : k < n) (hM : MemAt w mb mg mn mc m) (hr : R k ≠ -1) (p0 : 0 ≤ p) (p1 : p < 512) :
    Calls Try.prog 42 #[.pointer (some ⟨b, 0, none⟩), .int .i64 k, .pointer (some ⟨mb, 0, none⟩), .int .i64 p] w fun e w' => e = .returned (.tuple #[trX (transF mn m (R k) (Q k) p (S k)).1.1, .bool (transF mn m (R k) (Q k) p (S k)).1.2.1, .int .i64 (transF mn m (R k) (Q k) p (S k)).1.2.2]) ∧ CoresAt w' b g n c R Q T (setT S k (transF mn m (R k) (Q k) p (S k)).2) ∧ TlbOnly (T k) w w' := by
  obtain ⟨⟨⟨x, hit, cd⟩, s'⟩, hz⟩ : ∃ z, transF mn m (R k) (Q k) p (S k) = z := ⟨_, rfl⟩
  rw [hz]
  have HZ := Lib.hid hz
  have H := Lib.hid h
  have HM := Lib.hid hM
  have c0 := (h.row k hk).1
  have hg := h.lg
  have hTl := (h.tlb k hk).lt
  have hr1 : (R k == -1) = false := beq_eq_false_iff_ne.2 hr
  have HR := Lib.hid hr
  clear h hM hz hr
  go_enter Try.func42, Try.ntmps42
  have hTw : w.heap.size ≠ T k := by omega
  have hTk2 : T k ≠ w.heap.size := Ne.symm hTw
  have hwz : w.heap.size < (w.alloc (.cells #[.int .i64 0, .int .i64 0, .int .i64 0, .bool false, .bool false] 104)).heap.size := by simp
  obtain ⟨r0, r1, r2, r3, r4⟩ := tr_new w zT
  have fr := fun j => frozE w #[.int .i64 0, .int .i64 0, .int .i64 0, .bool false, .bool false] 104 j
  go_wp2_with (first
    | (go_at_call 26; refine (get_ok _ b g n c k R Q T S (H.out.call (bal (Below.refl _ _) _)) hk).mono ?_; rintro e w1 ⟨rfl, rfl⟩)
    | (go_at_call 51; refine (translate_any _ b g n c k R Q T S mb mg mn mc m p (H.out.call (bal (Below.refl _ _) _)) hk (HM.out.call (bal (Below.refl _ _) _)) HR.out p0 p1).mono ?_; rw [HZ.out]; rintro e w3 ⟨rfl, hc3, ho3⟩; have HC3 := Lib.hid hc3; have HO3 := Lib.hid ho3; have s0 := (ho3.cell hwz hTw r0); have s1 := (ho3.cell hwz hTw r1); have s2 := (ho3.cell hwz hTw r2); have s3 := (ho3.cell hwz hTw r3); have s4 := (ho3.cell hwz hTw r4); have x0 := ((frozen_of_block (ho3.block _ hwz hTw)).trans (fr 0)); have x1 := ((frozen_of_block (ho3.block _ hwz hTw)).trans (fr 1)); have x2 := ((frozen_of_block (ho3.block _ hwz hTw)).trans (fr 2)); have x3 := ((frozen_of_block (ho3.block _ hwz hTw)).trans (fr 3)); have x4 := ((frozen_of_block (ho3.block _ hwz hTw)).trans (fr 4)); clear hc3 ho3))
  have hoff := H.out.off
  have hlt := fun i hi => (H.out.tlb i hi).lt
  exact bodyPost_ret (v := .tuple #[trX x, .bool hit, .int .i64 cd]) (by simp [results, Try.results42, go_sem, s0, s1, s2, s3, s4]) rfl ⟨rfl, ((((HC3.out.far (Nat.ne_of_lt H.out.lb) (Nat.ne_of_lt hg) (fun i hi => Nat.ne_of_lt (hlt i hi)) _).far (Nat.ne_of_lt H.out.lb) (Nat.ne_of_lt hg) (fun i hi => Nat.ne_of_lt (hlt i hi)) _).far (Nat.ne_of_lt H.out.lb) (Nat.ne_of_lt hg) (fun i hi => Nat.ne_of_lt (hlt i hi)) _).far (Nat.ne_of_lt H.out.lb) (Nat.ne_of_lt hg) (fun i hi => Nat.ne_of_lt (hlt i hi)) _).far (Nat.ne_of_lt H.out.lb) (Nat.ne_of_lt hg) (fun i hi => Nat.ne_of_lt (hlt i hi)) _, by repeat (first | with_reducible exact (TlbOnly.of_below (bal (Below.refl _ _) _)).trans HO3.out | with_reducible refine TlbOnly.far ?_ (Nat.le_refl _) _)⟩
end
/- package cores: Set, Len, Prefetch; of none; awake. -/
section
set_option linter.unusedVariables false
set_option linter.unusedSimpArgs false
open Go.ChangeShapes Go.WideShapes Go.ChangeAt Go.RowKit Go.Shelf
theorem CoresAt.setRegs {w : World} {b g n c k : Nat} {R Q : Nat → Int} {T : Nat → Nat} {S : Nat → TS} (h : CoresAt w b g n c R Q T S) (hk : k < n) {r s : Int} (hr : RegOk r s) :
    CoresAt ((w.setCell ⟨g, k * 3, none⟩ (.int .i64 r)).setCell ⟨g, k * 3 + 1, none⟩ (.int .i64 s)) b g n c (setR R k r) (setR Q k s) T S := by
  refine ⟨?_, fun i hi => ?_, fun j => ?_, fun i hi => ?_, h.good, fun i hi => ?_, h.dist, h.off, h.ne, by simpa using h.lb, by simpa using h.lg, h.n1, h.n3, h.cap⟩
  · rw [World.cell?_setCell_other, World.cell?_setCell_other, h.hd]
    all_goals (intro e; simp only [Addr.mk.injEq] at e; exact h.ne e.1.symm)
  · obtain ⟨a0, a1, a2⟩ := h.row i hi
    unfold setR
    by_cases e : i = k
    · subst e
      simp only [if_true]
      refine ⟨?_, ?_, ?_⟩ <;> simp [go_sem, a0, a1, a2]
    · simp only [if_neg e]
      refine ⟨?_, ?_, ?_⟩
      all_goals
        rw [World.cell?_setCell_other, World.cell?_setCell_other]
        · assumption
        all_goals (intro e2; simp only [Addr.mk.injEq, true_and, and_true] at e2; omega)
  · simp [go_sem, h.free j]
  · have hg := (h.off i hi).2
    exact (h.tlb i hi).of_block (by simp) (by rw [Go.heap_setCell_other _ _ _ _ hg, Go.heap_setCell_other _ _ _ _ hg])
  · unfold setR
    split
    · exact hr
    · exact h.regs i hi
theorem cset_some (w : World) (b g n c k : Nat) (R Q : Nat → Int) (T : Nat → Nat) (S : Nat → TS) (r s : Int) (h : CoresAt w b g n c R Q T S) (hk : k < n) (r0 : 0 ≤ r) (r1 : r < 64) (s1 : 1 ≤ s) :
    Calls Try.prog 10 #[.pointer (some ⟨b, 0, none⟩), .int .i64 k, .int .i64 r, .int .i64 s] w fun e w' => e = .returned (.int .i64 0) ∧ CoresAt w' b g n c (setR R k r) (setR Q k s) T S ∧ BlkOnly g w w' := by
  have H := Lib.hid h
  obtain ⟨c0, c1, -⟩ := h.row k hk
  have hf := h.free
  have e1 : (r == -1) = false := beq_eq_false_iff_ne.2 (by omega)
  clear h
  go_enter Try.func10, Try.ntmps10
  go_wp2_with (first
    | (go_at_call 26; refine (get_ok _ b g n c k R Q T S H.out hk).mono ?_; rintro e w1 ⟨rfl, rfl⟩))
  go_ret
  exact ⟨rfl, H.out.setRegs hk (.inr ⟨r0, r1, s1⟩), ((BlkOnly.refl g w).set _ _).set _ _⟩
theorem cset_nil (w : World) (k r s : Int) : Calls Try.prog 10 #[.pointer none, .int .i64 k, .int .i64 r, .int .i64 s] w fun e w' => e = .returned (.int .i64 1) ∧ w = w' := by
  go_enter Try.func10, Try.ntmps10
  go_wp2_with (first
    | (go_at_call 26; refine (get_nil _ k).mono ?_; rintro e w1 ⟨rfl, rfl⟩))
  go_ret
  exact ⟨rfl, rfl⟩
theorem cregs_nil (w : World) (k : Int) : Calls Try.prog 49 #[.pointer none, .int .i64 k] w fun e w' => e = .returned (.tuple #[.int .i64 0, .int .i64 0, .int .i64 1]) ∧ w = w' := by
  go_enter Try.func49, Try.ntmps49
  go_wp2_with (first
    | (go_at_call 26; refine (get_nil _ k).mono ?_; rintro e w1 ⟨rfl, rfl⟩))
  exact bodyPost_ret (v := .tuple #[.int .i64 0, .int .i64 0, .int .i64 1]) (by simp [results, Try.results49, go_sem]) rfl ⟨rfl, rfl⟩
theorem ctrans_nil (w : World) (k p : Int) (m : Addr) : Calls Try.prog 42 #[.pointer none, .int .i64 k, .pointer (some m), .int .i64 p] w fun e w' => e = .returned (.tuple #[trX zT, .bool false, .int .i64 1]) ∧ Below w.heap.size w w' := by
  go_enter Try.func42, Try.ntmps42
  go_wp2_with (first
    | (go_at_call 26; refine (get_nil _ k).mono ?_; rintro e w1 ⟨rfl, rfl⟩))
  exact bodyPost_ret (v := .tuple #[trX zT, .bool false, .int .i64 1]) (by simp [results, Try.results42, go_sem]) rfl ⟨rfl, bal (Below.refl _ _) _⟩
section
attribute [local go_sem] Oper.semAt_some
end
end
end Go.Proofs.Ytgfidbjhihignaa
