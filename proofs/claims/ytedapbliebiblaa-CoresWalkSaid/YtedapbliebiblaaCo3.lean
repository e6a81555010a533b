/- package cores: translate that fills. -/
import Derived.Test.YtedapbliebiblaaCo2
namespace Go.Proofs.Ytedapbliebiblaa
set_option linter.unusedVariables false
set_option linter.unusedSimpArgs false
open Go.ChangeShapes Go.WideShapes Go.ChangeAt Go.RowKit Go.Shelf

theorem holdF {a d : World} {g q i : Nat} {v0 v1 v2 v3 : Value} (hg : g < a.heap.size) (hq : q < a.heap.size) (q0 : a.cell? ⟨g, i + 1, none⟩ = some v0) (q1 : a.cell? ⟨q, 4, none⟩ = some v1) (q2 : a.cell? ⟨q, 2, none⟩ = some v2) (q3 : a.cell? ⟨q, 3, none⟩ = some v3) (h : Kept a.heap.size a d) :
    d.cell? ⟨g, i + 1, none⟩ = some v0 ∧ d.cell? ⟨q, 4, none⟩ = some v1 ∧ d.cell? ⟨q, 2, none⟩ = some v2 ∧ d.cell? ⟨q, 3, none⟩ = some v3 ∧ g < d.heap.size ∧ q < d.heap.size ∧ Below a.heap.size a d := ⟨h.cell hg q0, h.cell hq q1, h.cell hq q2, h.cell hq q3, h.lt hg, h.lt hq, h.1⟩
theorem TlbAt.far {w : World} {b d j : Nat} {S : TS} (h : TlbAt w b S) (hd : b ≠ d) (v : Value) : TlbAt (w.setCell ⟨d, j, none⟩ v) b S := h.of_block (by simp) (Go.heap_setCell_other _ _ _ _ hd)
theorem TlbAt.dr {w : World} {b : Nat} {S : TS} (h : TlbAt w b S) : TlbAt w.drew b S := h.of_block (Nat.le_refl _) rfl
theorem TlbOnly.dr {b : Nat} {a c : World} (h : TlbOnly b a c) : TlbOnly b a c.drew := ⟨h.os, h.tape, h.output, h.size, h.block⟩
theorem TlbOnly.far {b d j : Nat} {a c : World} (h : TlbOnly b a c) (hd : a.heap.size ≤ d) (v : Value) : TlbOnly b a (c.setCell ⟨d, j, none⟩ v) :=
  ⟨h.os, h.tape, h.output, by simpa using h.size, fun i hi hn => (Go.heap_setCell_other _ _ _ _ (by simp; omega)).trans (h.block i hi hn)⟩
theorem codeF_yes {t : TransX} (h : mayX t = true) : codeF t = 0 := by unfold codeF; rw [if_pos h]
set_option maxRecDepth 100000 in
set_option maxHeartbeats 4000000 in
theorem translate_fill (w : World) (b g n c k : Nat) (R Q : Nat → Int) (T : Nat → Nat) (S : Nat → TS) (mb mg mn mc : Nat) (m : Nat → Int) (p : Int) (x : TransX) (y : Nat) (l rd wt : Bool) (fr : Int) (h : CoresAt w b g n c R Q T S) (hk : k < n) (hM : MemAt w mb mg mn mc m) (hf : findS (S k) (Q k) p = (x, false)) (hw : walkC mn m (R k) p = 0) (hy : entW (leafW m (atF mn m (R k) p 3).1) = entV true l rd wt fr) (hmay : mayX ⟨Q k, p, fr, rd, wt⟩ = true) :
    Calls Try.prog 46 #[.pointer (some ⟨g, k * 3, none⟩), .pointer (some ⟨mb, 0, none⟩), .int .i64 p] w fun e w' => e = .returned (.tuple #[trX ⟨Q k, p, fr, rd, wt⟩, .bool false, .int .i64 0]) ∧ TlbAt w' (T k) (fillS (S k) ⟨Q k, p, fr, rd, wt⟩) ∧ TlbOnly (T k) w w' := by
  have HW := Lib.hid hw
  have HY := Lib.hid hy
  have HMAY := Lib.hid hmay
  have HOK := Lib.hid (Good.ok (h.good k hk))
  have hTlt := (h.tlb k hk).lt
  have hTg := (h.off k hk).2
  clear hw hy hmay
  obtain ⟨c0, c1, c2⟩ := h.row k hk
  have HT := Lib.hid (h.tlb k hk)
  have HF := Lib.hid hf
  have hg := h.lg
  have HMM := Lib.hid hM
  have d0w := c0
  clear h hf hM
  go_enter Try.func46, Try.ntmps46
  go_wp2
  obtain ⟨wr, hwr⟩ : ∃ x, x = w.alloc (.cells #[.int .i64 0, .int .i64 0, .int .i64 0, .bool false, .bool false] 52) := ⟨_, rfl⟩
  rw [← hwr]
  have hbw : Below w.heap.size w wr := hwr ▸ bal (Below.refl _ _) _
  have hsz : wr.heap.size = w.heap.size + 1 := by rw [hwr]; simp
  have hres : TrAt wr w.heap.size zT := hwr ▸ tr_new w zT
  have hfz : ∀ j, wr.frozen? ⟨w.heap.size, j, none⟩ = false := fun j => by rw [hwr]; exact frozE _ _ _ _
  have d1 : wr.cell? ⟨g, k * 3 + 1, none⟩ = some (.int .i64 (Q k)) := (hbw.cell (p := ⟨g, k * 3 + 1, none⟩) hg).trans c1
  have d2 : wr.cell? ⟨g, k * 3 + 2, none⟩ = some (.pointer (some ⟨T k, 0, none⟩)) := (hbw.cell (p := ⟨g, k * 3 + 2, none⟩) hg).trans c2
  have hgr : g < wr.heap.size := by omega
  have D0 := Lib.hid ((hbw.cell (p := ⟨g, k * 3, none⟩) hg).trans c0)
  have D1 := Lib.hid d1
  have D2 := Lib.hid d2
  have HTR := Lib.hid (HT.out.call hbw)
  have HRES := Lib.hid hres
  have HFZ := Lib.hid hfz
  have HBW := Lib.hid hbw
  have hK0 : Kept wr.heap.size wr wr := Kept.refl (Nat.le_refl _)
  have HSZ := Lib.hid hsz
  clear hwr hbw hres hfz c0 c1 c2 hsz d0w
  go_region_held3 (fun w' => w'.cell? ⟨g, k * 3 + 1, none⟩ = some (.int .i64 (Q k)) ∧ w'.cell? ⟨g, k * 3 + 2, none⟩ = some (.pointer (some ⟨T k, 0, none⟩)) ∧ g < w'.heap.size ∧ wr.heap.size ≤ w'.heap.size ∧ Below wr.heap.size wr w')
    (first | (refine holdC hgr d1 d2 ?_; repeat (first | with_reducible exact hK0 | with_reducible refine Kept.drew ?_ | with_reducible refine Kept.drewN ?_ _ | with_reducible refine Kept.alloc ?_ _ | with_reducible refine Kept.set ?_ (by first | (simp; done) | (simp; omega)) _ | with_reducible refine Kept.call ?_ (by assumption))))
    (first
      | (go_at_call 58; refine (tfind_any _ (T k) (S k) (Q k) p (HTR.out.call (by repeat (first | with_reducible exact Below.refl _ _ | with_reducible refine Below.drew ?_ | with_reducible refine bal ?_ _)))).mono ?_; rw [HF.out]; rintro e w3 ⟨rfl, hb3⟩; obtain ⟨hc3, hf3⟩ := bcell hb3; (try (have hz3 : wr.heap.size < w3.heap.size := (by have := hb3.size; simp at this; omega)))))
  all_goals (first
    | (have HAF := Lib.hid (after_ta (wr := wr) (x := x) hb3); generalize (w3.alloc (.cells #[.int .i64 x.s, .int .i64 x.p, .int .i64 x.f, .bool x.r, .bool x.w] 52)) = V at HAF ⊢; generalize w3.heap.size = q at HAF ⊢)
    | (have HAF := Lib.hid (after_tb (wr := wr) (x := x) hb3); generalize (((((w3.setCell ⟨wr.heap.size, 0, none⟩ (.int .i64 x.s)).setCell ⟨wr.heap.size, 1, none⟩ (.int .i64 x.p)).setCell ⟨wr.heap.size, 2, none⟩ (.int .i64 x.f)).setCell ⟨wr.heap.size, 3, none⟩ (.bool x.r)).setCell ⟨wr.heap.size, 4, none⟩ (.bool x.w)) = V at HAF ⊢; clear hz3; obtain ⟨q, hq⟩ : ∃ q, wr.heap.size = q := ⟨_, rfl⟩; rw [hq] at HAF ⊢; clear hq))
  all_goals clear hb3 hc3 hf3
  all_goals (try clear hz3)
  all_goals
    obtain ⟨htr, hbv, hq1, hq2⟩ := HAF.out
    have hsz := HSZ.out
    have hwv : w.heap.size < wr.heap.size := by omega
    obtain ⟨z0, z1, z2, z3, z4⟩ := htr
    obtain ⟨r0, r1, r2, r3, r4⟩ := HRES.out.keep hwv hbv
    have f0 := (hbv.frozen (p := ⟨w.heap.size, 0, none⟩) hwv).trans (HFZ.out 0)
    have f1 := (hbv.frozen (p := ⟨w.heap.size, 1, none⟩) hwv).trans (HFZ.out 1)
    have f2 := (hbv.frozen (p := ⟨w.heap.size, 2, none⟩) hwv).trans (HFZ.out 2)
    have f3 := (hbv.frozen (p := ⟨w.heap.size, 3, none⟩) hwv).trans (HFZ.out 3)
    have f4 := (hbv.frozen (p := ⟨w.heap.size, 4, none⟩) hwv).trans (HFZ.out 4)
    have hne : w.heap.size ≠ q := by omega
    have hwV : w.heap.size < V.heap.size := by omega
    have HBV := Lib.hid (HBW.out.trans (hbv.mono (B' := w.heap.size) (by omega)))
    have e0 := (hbv.cell (p := ⟨g, k * 3, none⟩) hgr).trans D0.out
    have e1 := (hbv.cell (p := ⟨g, k * 3 + 1, none⟩) hgr).trans D1.out
    have e2 := (hbv.cell (p := ⟨g, k * 3 + 2, none⟩) hgr).trans D2.out
    have hgV : g < V.heap.size := Nat.lt_of_lt_of_le hgr hbv.size
    have HMV := Lib.hid ((HMM.out.call HBW.out).call hbv)
    have HTV := Lib.hid (HTR.out.call hbv)
    clear hbv hq1 hq2 hsz hwv HAF d1 d2 hgr hK0
    go_wp2_with (first
      | (go_at_call 25; refine (walk_ok _ mb mg mn mc m (R k) p HMV.out HW.out).mono ?_; rw [HY.out]; rintro e w5 ⟨rfl, hb5⟩))
    obtain ⟨w6, hw6⟩ : ∃ x, x = w5.alloc (.cells #[.bool true, .bool l, .bool rd, .bool wt, .int .i64 fr] 56) := ⟨_, rfl⟩
    rw [← hw6]
    have hb56 : Below w5.heap.size w5 w6 := hw6 ▸ bal (Below.refl _ _) _
    have hz5 : w5.heap.size < w6.heap.size := by rw [hw6]; simp
    have y2 : w6.cell? ⟨w5.heap.size, 2, none⟩ = some (.bool rd) := by rw [hw6, cellE]; rfl
    have y3 : w6.cell? ⟨w5.heap.size, 3, none⟩ = some (.bool wt) := by rw [hw6, cellE]; rfl
    have y4 : w6.cell? ⟨w5.heap.size, 4, none⟩ = some (.int .i64 fr) := by rw [hw6, cellE]; rfl
    have hbV6 : Below V.heap.size V w6 := bgo hb5 hb56
    have n1 : w6.cell? ⟨g, k * 3 + 1, none⟩ = some (.int .i64 (Q k)) := (hbV6.cell (p := ⟨g, k * 3 + 1, none⟩) hgV).trans e1
    have n2 : w6.cell? ⟨g, k * 3 + 2, none⟩ = some (.pointer (some ⟨T k, 0, none⟩)) := (hbV6.cell (p := ⟨g, k * 3 + 2, none⟩) hgV).trans e2
    have hg6 : g < w6.heap.size := Nat.lt_of_lt_of_le hgV hbV6.size
    have HV6 := Lib.hid hbV6
    have hK6 : Kept w6.heap.size w6 w6 := Kept.refl (Nat.le_refl _)
    clear hw6 hb5 hb56 hbV6
    go_region_held3 (fun w' => w'.cell? ⟨g, k * 3 + 1, none⟩ = some (.int .i64 (Q k)) ∧ w'.cell? ⟨w5.heap.size, 4, none⟩ = some (.int .i64 fr) ∧ w'.cell? ⟨w5.heap.size, 2, none⟩ = some (.bool rd) ∧ w'.cell? ⟨w5.heap.size, 3, none⟩ = some (.bool wt) ∧ g < w'.heap.size ∧ w5.heap.size < w'.heap.size ∧ Below w6.heap.size w6 w')
      (first | (refine holdF hg6 hz5 n1 y4 y2 y3 ?_; repeat (first | with_reducible exact hK6 | with_reducible refine Kept.drew ?_ | with_reducible refine Kept.drewN ?_ _ | with_reducible refine Kept.alloc ?_ _ | with_reducible refine Kept.set ?_ (by first | (simp; done) | (simp; omega)) _)))
      (first | fail)
    obtain ⟨w7, hw7⟩ : ∃ x, x = (w6.alloc (.cells #[.int .i64 (Q k), .int .i64 p, .int .i64 fr, .bool rd, .bool wt] 52)).drew := ⟨_, rfl⟩
    rw [← hw7]
    have hb67 : Below w6.heap.size w6 w7 := by rw [hw7]; exact (bal (Below.refl _ _) _).drew
    have hz67 : w6.heap.size < w7.heap.size := by rw [hw7]; simp
    have ht7 : TrAt w7 w6.heap.size ⟨Q k, p, fr, rd, wt⟩ := by rw [hw7]; exact tr_new w6 ⟨Q k, p, fr, rd, wt⟩
    have hbV7 : Below V.heap.size V w7 := bgo HV6.out hb67
    have m2 : w7.cell? ⟨g, k * 3 + 2, none⟩ = some (.pointer (some ⟨T k, 0, none⟩)) := (hb67.cell (p := ⟨g, k * 3 + 2, none⟩) hg6).trans n2
    have hg7 : g < w7.heap.size := Nat.lt_of_lt_of_le hg6 hb67.size
    obtain ⟨t0, t1, t2, t3, t4⟩ := ht7
    have s0 := (hbV7.cell (p := ⟨w.heap.size, 0, none⟩) hwV).trans r0
    have s1 := (hbV7.cell (p := ⟨w.heap.size, 1, none⟩) hwV).trans r1
    have s2 := (hbV7.cell (p := ⟨w.heap.size, 2, none⟩) hwV).trans r2
    have s3 := (hbV7.cell (p := ⟨w.heap.size, 3, none⟩) hwV).trans r3
    have s4 := (hbV7.cell (p := ⟨w.heap.size, 4, none⟩) hwV).trans r4
    have x0 := (hbV7.frozen (p := ⟨w.heap.size, 0, none⟩) hwV).trans f0
    have x1 := (hbV7.frozen (p := ⟨w.heap.size, 1, none⟩) hwV).trans f1
    have x2 := (hbV7.frozen (p := ⟨w.heap.size, 2, none⟩) hwV).trans f2
    have x3 := (hbV7.frozen (p := ⟨w.heap.size, 3, none⟩) hwV).trans f3
    have x4 := (hbV7.frozen (p := ⟨w.heap.size, 4, none⟩) hwV).trans f4
    have hw6lt : w.heap.size < w6.heap.size := Nat.lt_of_lt_of_le hwV HV6.out.size
    have hne6 : w.heap.size ≠ w6.heap.size := Nat.ne_of_lt hw6lt
    have hT6 : w6.heap.size ≠ T k := by omega
    have hTw : w.heap.size ≠ T k := by omega
    have hTk2 : T k ≠ w.heap.size := Ne.symm hTw
    have hwz7 : w.heap.size < w7.heap.size := by omega
    have HT7 := Lib.hid (HTV.out.call hbV7)
    have HO7 := Lib.hid (TlbOnly.of_below (b := T k) (bgo HBV.out hbV7))
    clear hw7 hb67 hbV7 n1 n2 y2 y3 y4 hg6 hz5 hgV e0 e1 e2 r0 r1 r2 r3 r4 f0 f1 f2 f3 f4 z0 z1 z2 z3 z4 hne hwV hK6
    go_wp2
    go_region_with (first
      | (go_at_call 59; refine (tfill_any _ (T k) (S k) ⟨Q k, p, fr, rd, wt⟩ (HT7.out.call (Below.refl _ _).drew) HOK.out).mono ?_; rw [codeF_yes HMAY.out]; rintro e w8 ⟨rfl, ht8, ho8⟩; have HT8 := Lib.hid ht8; have HO8 := Lib.hid ho8; have q0 := (ho8.cell hz67 hT6 t0); have q1 := (ho8.cell hz67 hT6 t1); have q2 := (ho8.cell hz67 hT6 t2); have q3 := (ho8.cell hz67 hT6 t3); have q4 := (ho8.cell hz67 hT6 t4); have p0 := (ho8.cell hwz7 hTw s0); have p1 := (ho8.cell hwz7 hTw s1); have p2 := (ho8.cell hwz7 hTw s2); have p3 := (ho8.cell hwz7 hTw s3); have p4 := (ho8.cell hwz7 hTw s4); have g0 := ((frozen_of_block (ho8.block _ hwz7 hTw)).trans x0); have g1 := ((frozen_of_block (ho8.block _ hwz7 hTw)).trans x1); have g2 := ((frozen_of_block (ho8.block _ hwz7 hTw)).trans x2); have g3 := ((frozen_of_block (ho8.block _ hwz7 hTw)).trans x3); have g4 := ((frozen_of_block (ho8.block _ hwz7 hTw)).trans x4); clear ht8 ho8))
    all_goals go_wp2
    all_goals exact bodyPost_ret (v := .tuple #[trX ⟨Q k, p, fr, rd, wt⟩, .bool false, .int .i64 0]) (by simp [results, Try.results46, go_sem, p0, p1, p2, p3, p4, q0, q1, q2, q3, q4, hne6]) rfl ⟨rfl, by repeat (first | with_reducible exact HT8.out | with_reducible refine TlbAt.dr ?_ | with_reducible refine TlbAt.far ?_ hTk2 _), by repeat (first | with_reducible exact HO7.out.trans HO8.out | with_reducible exact (TlbOnly.dr HO7.out).trans HO8.out | with_reducible refine TlbOnly.dr ?_ | with_reducible refine TlbOnly.far ?_ (Nat.le_refl _) _)⟩
end Go.Proofs.Ytedapbliebiblaa
