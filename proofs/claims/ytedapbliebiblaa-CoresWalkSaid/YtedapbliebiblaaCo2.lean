/- package cores: translate. -/
import Derived.Test.YtedapbliebiblaaCo1
import Derived.Deep.RegionHeld3
import Derived.IntWalk
namespace Go.Proofs.Ytedapbliebiblaa
set_option linter.unusedVariables false
set_option linter.unusedSimpArgs false
open Go.ChangeShapes Go.WideShapes Go.ChangeAt Go.RowKit Go.Shelf

theorem Kept.set {n d j : Nat} {a b : World} (h : Kept n a b) (hd : n ≤ d) (v : Value) : Kept n a (b.setCell ⟨d, j, none⟩ v) := ⟨Below.setCell h.1 hd v, by simpa using h.2⟩
/-- A translation's cells. -/
def TrAt (w : World) (q : Nat) (x : TransX) : Prop :=
  w.cell? ⟨q, 0, none⟩ = some (.int .i64 x.s) ∧ w.cell? ⟨q, 1, none⟩ = some (.int .i64 x.p) ∧ w.cell? ⟨q, 2, none⟩ = some (.int .i64 x.f) ∧ w.cell? ⟨q, 3, none⟩ = some (.bool x.r) ∧ w.cell? ⟨q, 4, none⟩ = some (.bool x.w)
theorem tr_new (W : World) (x : TransX) : TrAt (W.alloc (.cells #[.int .i64 x.s, .int .i64 x.p, .int .i64 x.f, .bool x.r, .bool x.w] 52)) W.heap.size x := by
  refine ⟨?_, ?_, ?_, ?_, ?_⟩ <;> (rw [cellE]; rfl)
theorem TrAt.keep {w w' : World} {q B : Nat} {x : TransX} (h : TrAt w q x) (hq : q < B) (hb : Below B w w') : TrAt w' q x := by
  obtain ⟨h0, h1, h2, h3, h4⟩ := h
  exact ⟨(cell_of_block (hb.block q hq)).trans h0, (cell_of_block (hb.block q hq)).trans h1, (cell_of_block (hb.block q hq)).trans h2, (cell_of_block (hb.block q hq)).trans h3, (cell_of_block (hb.block q hq)).trans h4⟩
theorem tr_set {W : World} {q : Nat} {u0 u1 u2 u3 u4 : Value} (c0 : W.cell? ⟨q, 0, none⟩ = some u0) (c1 : W.cell? ⟨q, 1, none⟩ = some u1) (c2 : W.cell? ⟨q, 2, none⟩ = some u2) (c3 : W.cell? ⟨q, 3, none⟩ = some u3) (c4 : W.cell? ⟨q, 4, none⟩ = some u4) (x : TransX) :
    TrAt (((((W.setCell ⟨q, 0, none⟩ (.int .i64 x.s)).setCell ⟨q, 1, none⟩ (.int .i64 x.p)).setCell ⟨q, 2, none⟩ (.int .i64 x.f)).setCell ⟨q, 3, none⟩ (.bool x.r)).setCell ⟨q, 4, none⟩ (.bool x.w)) q x := by
  refine ⟨?_, ?_, ?_, ?_, ?_⟩ <;> simp [go_sem, c0, c1, c2, c3, c4]
theorem below_set5 {A W : World} {B q : Nat} (h : Below B A W) (hq : B ≤ q) (v0 v1 v2 v3 v4 : Value) : Below B A (((((W.setCell ⟨q, 0, none⟩ v0).setCell ⟨q, 1, none⟩ v1).setCell ⟨q, 2, none⟩ v2).setCell ⟨q, 3, none⟩ v3).setCell ⟨q, 4, none⟩ v4) :=
  ((((h.setCell hq _).setCell hq _).setCell hq _).setCell hq _).setCell hq _
def AfterT (wr : World) (q : Nat) (x : TransX) (V : World) : Prop := TrAt V q x ∧ Below wr.heap.size wr V ∧ wr.heap.size ≤ q ∧ q < V.heap.size
theorem after_ta {wr w3 : World} {x : TransX} (hb3 : Below wr.drew.heap.size wr.drew w3) : AfterT wr w3.heap.size x (w3.alloc (.cells #[.int .i64 x.s, .int .i64 x.p, .int .i64 x.f, .bool x.r, .bool x.w] 52)) := by
  have h1 : Below wr.heap.size wr w3 := ⟨hb3.os, hb3.tape, hb3.output, hb3.size, hb3.block⟩
  exact ⟨tr_new w3 x, bal h1 _, h1.size, by simp⟩
theorem after_tb {wr w3 : World} {x : TransX} (hb3 : Below (wr.alloc (.cells #[.int .i64 0, .int .i64 0, .int .i64 0, .bool false, .bool false] 52)).drew.heap.size (wr.alloc (.cells #[.int .i64 0, .int .i64 0, .int .i64 0, .bool false, .bool false] 52)).drew w3) :
    AfterT wr wr.heap.size x (((((w3.setCell ⟨wr.heap.size, 0, none⟩ (.int .i64 x.s)).setCell ⟨wr.heap.size, 1, none⟩ (.int .i64 x.p)).setCell ⟨wr.heap.size, 2, none⟩ (.int .i64 x.f)).setCell ⟨wr.heap.size, 3, none⟩ (.bool x.r)).setCell ⟨wr.heap.size, 4, none⟩ (.bool x.w)) := by
  have h0 : Below (wr.alloc (.cells #[.int .i64 0, .int .i64 0, .int .i64 0, .bool false, .bool false] 52)).heap.size (wr.alloc (.cells #[.int .i64 0, .int .i64 0, .int .i64 0, .bool false, .bool false] 52)) w3 := ⟨hb3.os, hb3.tape, hb3.output, hb3.size, hb3.block⟩
  have h1 : Below wr.heap.size wr w3 := bgo (bal (Below.refl _ _) _) h0
  obtain ⟨e0, e1, e2, e3, e4⟩ := (tr_new wr zT).keep (by simp) h0
  have hs := h0.size
  simp at hs
  exact ⟨tr_set e0 e1 e2 e3 e4 x, below_set5 h1 (Nat.le_refl _) _ _ _ _ _, Nat.le_refl _, by simp; omega⟩
theorem holdC {a d : World} {g i : Nat} {v0 v1 : Value} (hg : g < a.heap.size) (q0 : a.cell? ⟨g, i + 1, none⟩ = some v0) (q1 : a.cell? ⟨g, i + 2, none⟩ = some v1) (h : Kept a.heap.size a d) :
    d.cell? ⟨g, i + 1, none⟩ = some v0 ∧ d.cell? ⟨g, i + 2, none⟩ = some v1 ∧ g < d.heap.size ∧ a.heap.size ≤ d.heap.size ∧ Below a.heap.size a d := ⟨h.cell hg q0, h.cell hg q1, h.lt hg, h.2, h.1⟩
set_option maxRecDepth 100000 in
set_option maxHeartbeats 4000000 in
theorem translate_hit (w : World) (b g n c k : Nat) (R Q : Nat → Int) (T : Nat → Nat) (S : Nat → TS) (mp : Option Addr) (p : Int) (x : TransX) (h : CoresAt w b g n c R Q T S) (hk : k < n) (hf : findS (S k) (Q k) p = (x, true)) :
    Calls Try.prog 46 #[.pointer (some ⟨g, k * 3, none⟩), .pointer mp, .int .i64 p] w fun e w' => e = .returned (.tuple #[trX x, .bool true, .int .i64 0]) ∧ Below w.heap.size w w' := by
  obtain ⟨c0, c1, c2⟩ := h.row k hk
  have HT := Lib.hid (h.tlb k hk)
  have HF := Lib.hid hf
  have hg := h.lg
  clear h hf
  go_enter Try.func46, Try.ntmps46
  go_wp2
  obtain ⟨wr, hwr⟩ : ∃ x, x = w.alloc (.cells #[.int .i64 0, .int .i64 0, .int .i64 0, .bool false, .bool false] 52) := ⟨_, rfl⟩
  rw [← hwr]
  have hbw : Below w.heap.size w wr := hwr ▸ bal (Below.refl _ _) _
  have hsz : wr.heap.size = w.heap.size + 1 := by rw [hwr]; simp
  have hres : TrAt wr w.heap.size zT := hwr ▸ tr_new w zT
  have hfz : ∀ j, wr.frozen? ⟨w.heap.size, j, none⟩ = false := fun j => by rw [hwr]; exact frozE _ _ _ _
  have d1 : wr.cell? ⟨g, k * 3 + 1, none⟩ = some (.int .i64 (Q k)) := (hbw.cell (p := ⟨g, k * 3 + 1, none⟩) hg).trans c1
  have d2 : wr.cell? ⟨g, k * 3 + 2, none⟩ = some (.pointer (some ⟨T k, 0, none⟩)) := (hbw.cell (p := ⟨g, k * 3 + 2, none⟩) hg).trans c2
  have hgr : g < wr.heap.size := by omega
  have HTR := Lib.hid (HT.out.call hbw)
  have HRES := Lib.hid hres
  have HFZ := Lib.hid hfz
  have HBW := Lib.hid hbw
  have hK0 : Kept wr.heap.size wr wr := Kept.refl (Nat.le_refl _)
  have HSZ := Lib.hid hsz
  clear hwr hbw hres hfz c0 c1 c2 hsz
  go_region_held3 (fun w' => w'.cell? ⟨g, k * 3 + 1, none⟩ = some (.int .i64 (Q k)) ∧ w'.cell? ⟨g, k * 3 + 2, none⟩ = some (.pointer (some ⟨T k, 0, none⟩)) ∧ g < w'.heap.size ∧ wr.heap.size ≤ w'.heap.size ∧ Below wr.heap.size wr w')
    (first | (refine holdC hgr d1 d2 ?_; repeat (first | with_reducible exact hK0 | with_reducible refine Kept.drew ?_ | with_reducible refine Kept.drewN ?_ _ | with_reducible refine Kept.alloc ?_ _ | with_reducible refine Kept.set ?_ (by first | (simp; done) | (simp; omega)) _ | with_reducible refine Kept.call ?_ (by assumption))))
    (first
      | (go_at_call 58; refine (tfind_any _ (T k) (S k) (Q k) p (HTR.out.call (by repeat (first | with_reducible exact Below.refl _ _ | with_reducible refine Below.drew ?_ | with_reducible refine bal ?_ _)))).mono ?_; rw [HF.out]; rintro e w3 ⟨rfl, hb3⟩; obtain ⟨hc3, hf3⟩ := bcell hb3; (try (have hz3 : wr.heap.size < w3.heap.size := (by have := hb3.size; simp at this; omega)))))
  all_goals (first
    | (have HAF := Lib.hid (after_ta (wr := wr) (x := x) hb3); generalize (w3.alloc (.cells #[.int .i64 x.s, .int .i64 x.p, .int .i64 x.f, .bool x.r, .bool x.w] 52)) = V at HAF ⊢; generalize w3.heap.size = q at HAF ⊢)
    | (have HAF := Lib.hid (after_tb (wr := wr) (x := x) hb3); generalize (((((w3.setCell ⟨wr.heap.size, 0, none⟩ (.int .i64 x.s)).setCell ⟨wr.heap.size, 1, none⟩ (.int .i64 x.p)).setCell ⟨wr.heap.size, 2, none⟩ (.int .i64 x.f)).setCell ⟨wr.heap.size, 3, none⟩ (.bool x.r)).setCell ⟨wr.heap.size, 4, none⟩ (.bool x.w)) = V at HAF ⊢; clear hz3; obtain ⟨q, hq⟩ : ∃ q, wr.heap.size = q := ⟨_, rfl⟩; rw [hq] at HAF ⊢; clear hq))
  all_goals clear hb3 hc3 hf3
  all_goals (try clear hz3)
  all_goals
    obtain ⟨htr, hbv, hq1, hq2⟩ := HAF.out
    have hsz := HSZ.out
    have hwv : w.heap.size < wr.heap.size := by omega
    obtain ⟨z0, z1, z2, z3, z4⟩ := htr
    obtain ⟨r0, r1, r2, r3, r4⟩ := HRES.out.keep hwv hbv
    have f0 := (hbv.frozen (p := ⟨w.heap.size, 0, none⟩) hwv).trans (HFZ.out 0)
    have f1 := (hbv.frozen (p := ⟨w.heap.size, 1, none⟩) hwv).trans (HFZ.out 1)
    have f2 := (hbv.frozen (p := ⟨w.heap.size, 2, none⟩) hwv).trans (HFZ.out 2)
    have f3 := (hbv.frozen (p := ⟨w.heap.size, 3, none⟩) hwv).trans (HFZ.out 3)
    have f4 := (hbv.frozen (p := ⟨w.heap.size, 4, none⟩) hwv).trans (HFZ.out 4)
    have hne : w.heap.size ≠ q := by omega
    have hwV : w.heap.size < V.heap.size := by omega
    have HBV := Lib.hid (HBW.out.trans (hbv.mono (B' := w.heap.size) (by omega)))
    clear hbv hq1 hq2 hsz hwv HAF d1 d2 hgr hK0
    go_wp2
    exact bodyPost_ret (v := .tuple #[trX x, .bool true, .int .i64 0]) (by simp [results, Try.results46, go_sem, r0, r1, r2, r3, r4, hne]) rfl ⟨rfl, by repeat (first | with_reducible exact HBV.out | with_reducible refine Below.drew ?_ | with_reducible refine Below.setCell ?_ (by first | with_reducible exact Nat.le_refl _ | (simp; done) | (simp; omega)) _)⟩
set_option maxRecDepth 100000 in
set_option maxHeartbeats 4000000 in
theorem translate_miss (w : World) (b g n c k : Nat) (R Q : Nat → Int) (T : Nat → Nat) (S : Nat → TS) (mb mg mn mc : Nat) (m : Nat → Int) (p cd : Int) (x : TransX) (h : CoresAt w b g n c R Q T S) (hk : k < n) (hM : MemAt w mb mg mn mc m) (hf : findS (S k) (Q k) p = (x, false)) (hw : walkC mn m (R k) p = cd) (hcd : cd ≠ 0) :
    Calls Try.prog 46 #[.pointer (some ⟨g, k * 3, none⟩), .pointer (some ⟨mb, 0, none⟩), .int .i64 p] w fun e w' => e = .returned (.tuple #[trX zT, .bool false, .int .i64 cd]) ∧ Below w.heap.size w w' := by
  have hcz : (cd == 0) = false := beq_eq_false_iff_ne.2 hcd
  have HW := Lib.hid hw
  have HCD := Lib.hid hcd
  clear hw hcd
  obtain ⟨c0, c1, c2⟩ := h.row k hk
  have HT := Lib.hid (h.tlb k hk)
  have HF := Lib.hid hf
  have hg := h.lg
  have HMM := Lib.hid hM
  have d0w := c0
  clear h hf hM
  go_enter Try.func46, Try.ntmps46
  go_wp2
  obtain ⟨wr, hwr⟩ : ∃ x, x = w.alloc (.cells #[.int .i64 0, .int .i64 0, .int .i64 0, .bool false, .bool false] 52) := ⟨_, rfl⟩
  rw [← hwr]
  have hbw : Below w.heap.size w wr := hwr ▸ bal (Below.refl _ _) _
  have hsz : wr.heap.size = w.heap.size + 1 := by rw [hwr]; simp
  have hres : TrAt wr w.heap.size zT := hwr ▸ tr_new w zT
  have hfz : ∀ j, wr.frozen? ⟨w.heap.size, j, none⟩ = false := fun j => by rw [hwr]; exact frozE _ _ _ _
  have d1 : wr.cell? ⟨g, k * 3 + 1, none⟩ = some (.int .i64 (Q k)) := (hbw.cell (p := ⟨g, k * 3 + 1, none⟩) hg).trans c1
  have d2 : wr.cell? ⟨g, k * 3 + 2, none⟩ = some (.pointer (some ⟨T k, 0, none⟩)) := (hbw.cell (p := ⟨g, k * 3 + 2, none⟩) hg).trans c2
  have hgr : g < wr.heap.size := by omega
  have D0 := Lib.hid ((hbw.cell (p := ⟨g, k * 3, none⟩) hg).trans c0)
  have D1 := Lib.hid d1
  have D2 := Lib.hid d2
  have HTR := Lib.hid (HT.out.call hbw)
  have HRES := Lib.hid hres
  have HFZ := Lib.hid hfz
  have HBW := Lib.hid hbw
  have hK0 : Kept wr.heap.size wr wr := Kept.refl (Nat.le_refl _)
  have HSZ := Lib.hid hsz
  clear hwr hbw hres hfz c0 c1 c2 hsz d0w
  go_region_held3 (fun w' => w'.cell? ⟨g, k * 3 + 1, none⟩ = some (.int .i64 (Q k)) ∧ w'.cell? ⟨g, k * 3 + 2, none⟩ = some (.pointer (some ⟨T k, 0, none⟩)) ∧ g < w'.heap.size ∧ wr.heap.size ≤ w'.heap.size ∧ Below wr.heap.size wr w')
    (first | (refine holdC hgr d1 d2 ?_; repeat (first | with_reducible exact hK0 | with_reducible refine Kept.drew ?_ | with_reducible refine Kept.drewN ?_ _ | with_reducible refine Kept.alloc ?_ _ | with_reducible refine Kept.set ?_ (by first | (simp; done) | (simp; omega)) _ | with_reducible refine Kept.call ?_ (by assumption))))
    (first
      | (go_at_call 58; refine (tfind_any _ (T k) (S k) (Q k) p (HTR.out.call (by repeat (first | with_reducible exact Below.refl _ _ | with_reducible refine Below.drew ?_ | with_reducible refine bal ?_ _)))).mono ?_; rw [HF.out]; rintro e w3 ⟨rfl, hb3⟩; obtain ⟨hc3, hf3⟩ := bcell hb3; (try (have hz3 : wr.heap.size < w3.heap.size := (by have := hb3.size; simp at this; omega)))))
  all_goals (first
    | (have HAF := Lib.hid (after_ta (wr := wr) (x := x) hb3); generalize (w3.alloc (.cells #[.int .i64 x.s, .int .i64 x.p, .int .i64 x.f, .bool x.r, .bool x.w] 52)) = V at HAF ⊢; generalize w3.heap.size = q at HAF ⊢)
    | (have HAF := Lib.hid (after_tb (wr := wr) (x := x) hb3); generalize (((((w3.setCell ⟨wr.heap.size, 0, none⟩ (.int .i64 x.s)).setCell ⟨wr.heap.size, 1, none⟩ (.int .i64 x.p)).setCell ⟨wr.heap.size, 2, none⟩ (.int .i64 x.f)).setCell ⟨wr.heap.size, 3, none⟩ (.bool x.r)).setCell ⟨wr.heap.size, 4, none⟩ (.bool x.w)) = V at HAF ⊢; clear hz3; obtain ⟨q, hq⟩ : ∃ q, wr.heap.size = q := ⟨_, rfl⟩; rw [hq] at HAF ⊢; clear hq))
  all_goals clear hb3 hc3 hf3
  all_goals (try clear hz3)
  all_goals
    obtain ⟨htr, hbv, hq1, hq2⟩ := HAF.out
    have hsz := HSZ.out
    have hwv : w.heap.size < wr.heap.size := by omega
    obtain ⟨z0, z1, z2, z3, z4⟩ := htr
    obtain ⟨r0, r1, r2, r3, r4⟩ := HRES.out.keep hwv hbv
    have f0 := (hbv.frozen (p := ⟨w.heap.size, 0, none⟩) hwv).trans (HFZ.out 0)
    have f1 := (hbv.frozen (p := ⟨w.heap.size, 1, none⟩) hwv).trans (HFZ.out 1)
    have f2 := (hbv.frozen (p := ⟨w.heap.size, 2, none⟩) hwv).trans (HFZ.out 2)
    have f3 := (hbv.frozen (p := ⟨w.heap.size, 3, none⟩) hwv).trans (HFZ.out 3)
    have f4 := (hbv.frozen (p := ⟨w.heap.size, 4, none⟩) hwv).trans (HFZ.out 4)
    have hne : w.heap.size ≠ q := by omega
    have hwV : w.heap.size < V.heap.size := by omega
    have HBV := Lib.hid (HBW.out.trans (hbv.mono (B' := w.heap.size) (by omega)))
    have e0 := (hbv.cell (p := ⟨g, k * 3, none⟩) hgr).trans D0.out
    have e1 := (hbv.cell (p := ⟨g, k * 3 + 1, none⟩) hgr).trans D1.out
    have e2 := (hbv.cell (p := ⟨g, k * 3 + 2, none⟩) hgr).trans D2.out
    have hgV : g < V.heap.size := Nat.lt_of_lt_of_le hgr hbv.size
    have HMV := Lib.hid ((HMM.out.call HBW.out).call hbv)
    have HTV := Lib.hid (HTR.out.call hbv)
    clear hbv hq1 hq2 hsz hwv HAF d1 d2 hgr hK0
    go_wp2_with (first
      | (go_at_call 25; refine (walk_no _ mb mg mn mc m (R k) p cd HMV.out HW.out HCD.out).mono ?_; rintro e w5 ⟨rfl, hb5⟩; obtain ⟨hc5, hf5⟩ := bcell hb5; have hz5 : w.heap.size < w5.heap.size := (Nat.lt_of_lt_of_le hwV hb5.size)))
    have s0 := (hc5 w.heap.size 0 hwV).trans r0
    have s1 := (hc5 w.heap.size 1 hwV).trans r1
    have s2 := (hc5 w.heap.size 2 hwV).trans r2
    have s3 := (hc5 w.heap.size 3 hwV).trans r3
    have s4 := (hc5 w.heap.size 4 hwV).trans r4
    have hne5 : w.heap.size ≠ w5.heap.size := Nat.ne_of_lt hz5
    have HB5 := Lib.hid (bgo HBV.out hb5)
    exact bodyPost_ret (v := .tuple #[trX zT, .bool false, .int .i64 cd]) (by simp [results, Try.results46, go_sem, s0, s1, s2, s3, s4, hne5, hz5]) rfl ⟨rfl, by repeat (first | with_reducible exact HB5.out | with_reducible refine Below.drew ?_ | with_reducible refine Below.setCell ?_ (by first | with_reducible exact Nat.le_refl _ | (simp; done) | (simp; omega)) _ | with_reducible refine bal ?_ _)⟩
end Go.Proofs.Ytedapbliebiblaa
