/- Chapter 5's own At and Walk. -/
import Derived.Test.YtgfidbjhihignaaCoM
import Derived.Test.YtgfidbjhihignaaKq
import Derived.Deep.RegionHeld3
import Derived.LoopTactic
import Derived.OwnWalk
namespace Go.Proofs.Ytgfidbjhihignaa
set_option linter.unusedVariables false
set_option linter.unusedSimpArgs false
open Go.ChangeShapes Go.WideShapes Go.ChangeAt Go.RowKit Go.Shelf

/-- An entry's cells. -/
def EntAt (w : World) (q : Nat) (v l r x : Bool) (f : Int) : Prop :=
  w.cell? ⟨q, 0, none⟩ = some (.bool v) ∧ w.cell? ⟨q, 1, none⟩ = some (.bool l) ∧ w.cell? ⟨q, 2, none⟩ = some (.bool r) ∧ w.cell? ⟨q, 3, none⟩ = some (.bool x) ∧ w.cell? ⟨q, 4, none⟩ = some (.int .i64 f)
theorem ent_new (W : World) (v l r x : Bool) (f : Int) : EntAt (W.alloc (.cells #[.bool v, .bool l, .bool r, .bool x, .int .i64 f] 137)) W.heap.size v l r x f := by
  refine ⟨?_, ?_, ?_, ?_, ?_⟩ <;> (rw [cellE]; rfl)
theorem EntAt.keep {w w' : World} {q : Nat} {v l r x : Bool} {f : Int} (h : EntAt w q v l r x f) (hq : q < w.heap.size) (hb : Below w.heap.size w w') : EntAt w' q v l r x f := by
  obtain ⟨h0, h1, h2, h3, h4⟩ := h
  have e := cell_of_block (j := 0) (hb.block q hq)
  exact ⟨(cell_of_block (hb.block q hq)).trans h0, (cell_of_block (hb.block q hq)).trans h1, (cell_of_block (hb.block q hq)).trans h2, (cell_of_block (hb.block q hq)).trans h3, (cell_of_block (hb.block q hq)).trans h4⟩
theorem decR_y (w : Nat) (W : World) (hw : w < 2 ^ 64) (h : okB w = true) : Calls Try.prog 60 #[.int .u64 w] W fun e W' =>
    e = .returned (.tuple #[entV (w.testBit 0) (w.testBit 1) (w.testBit 2) (w.testBit 3) ((w / 256 % 64 : Nat) : Int), .int .i64 0]) ∧ Below W.heap.size W W' := decR_both_yes w W hw (okB_iff.1 h)
theorem decR_n (w : Nat) (W : World) (hw : w < 2 ^ 64) (h : okB w = false) : Calls Try.prog 60 #[.int .u64 w] W fun e W' =>
    e = .returned (.tuple #[entV false false false false 0, .int .i64 5]) ∧ Below W.heap.size W W' := decR_both_no w W hw (fun h' => by have := okB_iff.2 h'; rw [h] at this; cases this)
theorem decR_gen (w : Nat) (hw : w < 2 ^ 64) : ∃ (v l r x : Bool) (f cd : Int), (∀ W : World, Calls Try.prog 60 #[.int .u64 w] W fun e W' => e = .returned (.tuple #[entV v l r x f, .int .i64 cd]) ∧ Below W.heap.size W W') ∧
    ((okB w = true ∧ cd = 0 ∧ v = w.testBit 0 ∧ l = w.testBit 1 ∧ r = w.testBit 2 ∧ x = w.testBit 3 ∧ f = ((w / 256 % 64 : Nat) : Int)) ∨ (okB w = false ∧ cd = 5 ∧ v = false ∧ l = false ∧ r = false ∧ x = false ∧ f = 0)) := by
  cases h : okB w with
  | true => exact ⟨_, _, _, _, _, 0, fun W => decR_y w W hw h, .inl ⟨rfl, rfl, rfl, rfl, rfl, rfl, rfl⟩⟩
  | false => exact ⟨_, _, _, _, _, 5, fun W => decR_n w W hw h, .inr ⟨rfl, rfl, rfl, rfl, rfl, rfl, rfl⟩⟩
theorem ent_set {W : World} {q : Nat} {u0 u1 u2 u3 u4 : Value} (c0 : W.cell? ⟨q, 0, none⟩ = some u0) (c1 : W.cell? ⟨q, 1, none⟩ = some u1) (c2 : W.cell? ⟨q, 2, none⟩ = some u2) (c3 : W.cell? ⟨q, 3, none⟩ = some u3) (c4 : W.cell? ⟨q, 4, none⟩ = some u4) (v l r x : Bool) (f : Int) :
    EntAt (((((W.setCell ⟨q, 0, none⟩ (.bool v)).setCell ⟨q, 1, none⟩ (.bool l)).setCell ⟨q, 2, none⟩ (.bool r)).setCell ⟨q, 3, none⟩ (.bool x)).setCell ⟨q, 4, none⟩ (.int .i64 f)) q v l r x f := by
  refine ⟨?_, ?_, ?_, ?_, ?_⟩ <;> simp [go_sem, c0, c1, c2, c3, c4]
/-- What the rest of a round needs of the world behind Decode. -/
def After (w : World) (b g n c : Nat) (m : Nat → Int) (q : Nat) (v l r x : Bool) (f : Int) (V : World) : Prop := EntAt V q v l r x f ∧ RefAt V b g n c m ∧ Below w.heap.size w V
theorem after_a {w wr w3 : World} {b g n c : Nat} {m : Nat → Int} {v l r x : Bool} {f : Int} (hM : RefAt wr b g n c m) (hB : Below w.heap.size w wr) (hb3 : Below wr.drew.heap.size wr.drew w3) :
    After w b g n c m w3.heap.size v l r x f (w3.alloc (.cells #[.bool v, .bool l, .bool r, .bool x, .int .i64 f] 137)) := by
  have h1 : Below wr.heap.size wr w3 := ⟨hb3.os, hb3.tape, hb3.output, hb3.size, hb3.block⟩
  exact ⟨ent_new w3 v l r x f, hM.call (bal h1 _), bgo hB (bal h1 _)⟩
theorem after_b {w wr w3 : World} {b g n c : Nat} {m : Nat → Int} {v l r x : Bool} {f : Int} (hM : RefAt wr b g n c m) (hB : Below w.heap.size w wr) (hb3 : Below (wr.alloc (.cells #[.bool false, .bool false, .bool false, .bool false, .int .i64 0] 137)).drew.heap.size (wr.alloc (.cells #[.bool false, .bool false, .bool false, .bool false, .int .i64 0] 137)).drew w3) :
    After w b g n c m wr.heap.size v l r x f (((((w3.setCell ⟨wr.heap.size, 0, none⟩ (.bool v)).setCell ⟨wr.heap.size, 1, none⟩ (.bool l)).setCell ⟨wr.heap.size, 2, none⟩ (.bool r)).setCell ⟨wr.heap.size, 3, none⟩ (.bool x)).setCell ⟨wr.heap.size, 4, none⟩ (.int .i64 f)) := by
  have h0 : Below (wr.alloc (.cells #[.bool false, .bool false, .bool false, .bool false, .int .i64 0] 137)).heap.size (wr.alloc (.cells #[.bool false, .bool false, .bool false, .bool false, .int .i64 0] 137)) w3 := ⟨hb3.os, hb3.tape, hb3.output, hb3.size, hb3.block⟩
  have h1 : Below wr.heap.size wr w3 := bgo (bal (Below.refl _ _) _) h0
  obtain ⟨e0, e1, e2, e3, e4⟩ := (ent_new wr false false false false 0).keep (by simp) h0
  have h2 := below_set5 h1 (Nat.le_refl _) (.bool v) (.bool l) (.bool r) (.bool x) (.int .i64 f)
  exact ⟨ent_set e0 e1 e2 e3 e4 v l r x f, hM.call h2, bgo hB h2⟩
theorem holdR {a d : World} {b g k : Nat} {v0 v1 : Value} (hb : b < a.heap.size) (hg : g < a.heap.size) (q0 : a.cell? ⟨b, 0, none⟩ = some v0) (q1 : a.cell? ⟨g, k, none⟩ = some v1) (h : Kept a.heap.size a d) :
    d.cell? ⟨b, 0, none⟩ = some v0 ∧ d.cell? ⟨g, k, none⟩ = some v1 ∧ b < d.heap.size ∧ g < d.heap.size ∧ a.heap.size ≤ d.heap.size ∧ Below a.heap.size a d := ⟨h.cell hb q0, h.cell hg q1, h.lt hb, h.lt hg, h.2, h.1⟩
set_option maxRecDepth 100000 in
set_option maxHeartbeats 4000000 in
theorem rat_ok (w : World) (b g n c : Nat) (m : Nat → Int) (r L : Nat) (p : Int) (hM : RefAt w b g n c m) (hr : r < n) (p0 : 0 ≤ p) (p1 : p < 512) (l1 : 1 ≤ L) (l3 : L ≤ 3) :
    Calls Try.prog 59 #[.pointer (some ⟨b, 0, none⟩), .int .i64 r, .int .i64 p, .int .i64 L] w fun e w' => e = .returned (.tuple #[.int .u64 (descF n m p (L - 1) 1 r).1, .int .i64 (descF n m p (L - 1) 1 r).2]) ∧ Below w.heap.size w w' := by
  obtain ⟨⟨ra, rc⟩, hdr⟩ : ∃ z, descF n m p (L - 1) 1 r = z := ⟨_, rfl⟩
  rw [hdr]
  have HDR := Lib.hid hdr
  clear hdr
  have HM := Lib.hid hM
  have hb := hM.lb
  have hr' : (r : Int) < n := by omega
  have l1' : 1 ≤ (L : Int) := by omega
  have l3' : (L : Int) ≤ 3 := by omega
  have hM64 : n ≤ 64 := hM.n64
  have HL1 := Lib.hid l1
  have HL3 := Lib.hid l3
  have HR := Lib.hid hr
  clear hM l1 l3 hr
  go_enter Try.func59, Try.ntmps59
  go_wp2_with (first
    | (go_at_call 33; refine (rframes_any _ b g n c m HM.out).mono ?_; rintro e w1 ⟨rfl, rfl⟩))
  have hrn : r < n := HR.out
  simp only [show decide ((r : Int) < 0) = false from decide_eq_false (by omega), show decide (n ≤ r) = false from decide_eq_false (by omega), show decide (p < 0) = false from decide_eq_false (by omega), show decide (512 ≤ p) = false from decide_eq_false (by omega), show decide ((L : Int) < 1) = false from decide_eq_false (by omega), show decide (3 < (L : Int)) = false from decide_eq_false (by omega), Bool.or_false, Bool.false_or]
  clear hrn
  go_loopw [10, 11] (fun tt i wr => ∃ k t : Nat, 1 ≤ k ∧ k ≤ L ∧ t < n ∧ tt = .int .i64 t ∧ i = .int .i64 k ∧ descF n m p (L - k) k t = (ra, rc) ∧ Hid (RefAt wr b g n c m) ∧ Below w.heap.size w wr) (fun _ i _ => L - (intOf i).toNat)
  case atStart => exact ⟨1, r, by omega, HL1.out, HR.out, rfl, rfl, HDR.out, HM, Below.refl _ _⟩
  case round =>
    obtain ⟨k, t, k1, kL, ht, rfl, rfl, hd, HMr, hB⟩ := hrel
    have HD := Lib.hid hd
    clear hd
    obtain ⟨i0, i1⟩ := indexN_bd p (k : Int) p0 p1
    obtain ⟨i, hi⟩ : ∃ i, indexN p (k : Int) = i := ⟨_, rfl⟩
    rw [hi] at i0 i1
    have HI := Lib.hid hi
    have ht64 : (t : Int) < 64 := by omega
    by_cases hlt : k < L
    · have hlt' : (k : Int) < L := by omega
      have hk : 8 * t + i.toNat < 8 * n := by omega
      have hcell := HMr.out.cells _ hk
      have hword := HMr.out.word (8 * t + i.toNat)
      have hhd := HMr.out.hd
      have hlb := HMr.out.lb
      have hlg := HMr.out.lg
      obtain ⟨x, hx⟩ : ∃ x, (m (8 * t + i.toNat)).toNat = x := ⟨_, rfl⟩
      obtain ⟨hx1, hx2⟩ := word_nat hword
      rw [hx] at hx1 hx2
      rw [hx1] at hcell
      have HX := Lib.hid hx
      have a0 : 0 ≤ 8 * (t : Int) + i := by omega
      have a1 : 8 * (t : Int) + i < ((8 * n : Nat) : Int) := by omega
      have a2 : (8 * (t : Int) + i).toNat = 8 * t + i.toNat := by omega
      have a3 : 8 * (t : Int) + i < 8 * (n : Int) := by omega
      have a4 : IntKind.i64.wrap (8 * (t : Int) + i) = 8 * (t : Int) + i := IntWalk.i64_in _ (by omega)
      have a5 : IntKind.i64.wrap (8 * (t : Int)) = 8 * (t : Int) := IntWalk.i64_in _ (by omega)
      have HK3 : Hid (1 ≤ (k : Int) ∧ (k : Int) ≤ 3) := Lib.hid (by omega)
      clear hx1 hx hword hi
      obtain ⟨v, l, rr, xx, f, cd, hdec, hval⟩ := decR_gen x hx2
      have HDEC := Lib.hid hdec
      have HVAL := Lib.hid hval
      have hK0 : Kept wr.heap.size wr wr := Kept.refl (Nat.le_refl _)
      have hstep : (ra, rc) = if nextC n x = 0 then descF n m p (L - (k + 1)) (k + 1) (x / 256 % 64) else (0, nextC n x) := by
        rw [← HD.out]
        obtain ⟨j, hj⟩ : ∃ j, L - k = j + 1 := ⟨L - k - 1, by omega⟩
        rw [hj, show L - (k + 1) = j by omega]
        show (if nextC n (m (8 * t + (indexN p (k : Int)).toNat)).toNat = 0 then _ else _) = _
        rw [HI.out, HX.out]
      have HST := Lib.hid hstep
      clear hdec hval a0 a1 a2 a3 a4 a5 hstep
      have a0 : 0 ≤ 8 * (t : Int) + i := by omega
      have a1 : 8 * (t : Int) + i < ((8 * n : Nat) : Int) := by omega
      have a2 : (8 * (t : Int) + i).toNat = 8 * t + i.toNat := by omega
      have a3 : 8 * (t : Int) + i < 8 * (n : Int) := by omega
      have a4 : IntKind.i64.wrap (8 * (t : Int) + i) = 8 * (t : Int) + i := IntWalk.i64_in _ (by omega)
      have a5 : IntKind.i64.wrap (8 * (t : Int)) = 8 * (t : Int) := IntWalk.i64_in _ (by omega)
      go_wp2
      go_region_held3 (fun w' => w'.cell? ⟨b, 0, none⟩ = some (.slice (some ⟨g, 0, none⟩) (8 * n) c) ∧ w'.cell? ⟨g, 8 * t + i.toNat, none⟩ = some (.int .u64 x) ∧ b < w'.heap.size ∧ g < w'.heap.size ∧ wr.heap.size ≤ w'.heap.size ∧ Below wr.heap.size wr w')
        (first | (refine holdR hlb hlg hhd hcell ?_; repeat (first | with_reducible exact hK0 | with_reducible refine Kept.drew ?_ | with_reducible refine Kept.drewN ?_ _ | with_reducible refine Kept.alloc ?_ _ | with_reducible refine Kept.set ?_ (by first | (simp; done) | (simp; omega)) _ | with_reducible refine Kept.call ?_ (by assumption))))
        (first
          | (go_at_call 68; with_reducible refine (indexR_yes p k _ p0 p1 HK3.out.1 HK3.out.2).mono ?_; rw [HI.out]; rintro e w2 ⟨rfl, rfl⟩)
          | (go_at_call 60; with_reducible refine (HDEC.out _).mono ?_; rintro e w3 ⟨rfl, hb3⟩; obtain ⟨hc3, hf3⟩ := bcell hb3; (try (have hz3 : wr.heap.size < w3.heap.size := (by have := hb3.size; simp at this; omega)))))
      all_goals clear a0 a1 a2 a3 a4 a5 hK0 hhd hcell
      all_goals (first
        | (have HAF := Lib.hid (after_a (v := v) (l := l) (r := rr) (x := xx) (f := f) HMr.out hB hb3); generalize (w3.alloc (.cells #[.bool v, .bool l, .bool rr, .bool xx, .int .i64 f] 137)) = V at HAF ⊢; generalize w3.heap.size = Q at HAF ⊢)
        | (have HAF := Lib.hid (after_b (v := v) (l := l) (r := rr) (x := xx) (f := f) HMr.out hB hb3); generalize (((((w3.setCell ⟨wr.heap.size, 0, none⟩ (.bool v)).setCell ⟨wr.heap.size, 1, none⟩ (.bool l)).setCell ⟨wr.heap.size, 2, none⟩ (.bool rr)).setCell ⟨wr.heap.size, 3, none⟩ (.bool xx)).setCell ⟨wr.heap.size, 4, none⟩ (.int .i64 f)) = V at HAF ⊢; clear hz3; generalize wr.heap.size = Q at HAF ⊢))
      all_goals clear hb3 hc3 hf3
      all_goals (try clear hz3)
      all_goals
        obtain ⟨⟨y0, y1, y2, y3, y4⟩, hMV, hB2⟩ := HAF.out
        have hQ := World.block_lt_of_cell? V _ y0
        simp only at hQ
        have R0 := Lib.hid (fun w' (hw : KeptQ V.heap.size V w') => (hw.1.cell (p := ⟨Q, 0, none⟩) hQ).trans y0)
        have R1 := Lib.hid (fun w' (hw : KeptQ V.heap.size V w') => (hw.1.cell (p := ⟨Q, 1, none⟩) hQ).trans y1)
        have R4 := Lib.hid (fun w' (hw : KeptQ V.heap.size V w') => (hw.1.cell (p := ⟨Q, 4, none⟩) hQ).trans y4)
        have RM := Lib.hid (fun w' (hw : KeptQ V.heap.size V w') => hMV.call hw.1)
        have RB := Lib.hid (fun w' (hw : KeptQ V.heap.size V w') => bgo hB2 hw.1)
        clear hMV HAF y0 y1 y2 y3 y4 hQ
        rcases HVAL.out with ⟨ho, rfl, hv, hl, hrr, hxx, hff⟩ | ⟨ho, rfl, rfl, rfl, rfl, rfl, rfl⟩
        · clear HVAL hrr hxx
          cases v
          · have hT : (ra, rc) = ((0, 6) : Int × Int) := by
              have hc : nextC n x = 6 := by unfold nextC entC; simp [ho, ← hv]
              rw [HST.out, hc]; rfl
            obtain ⟨rfl, rfl⟩ := Prod.mk.inj hT
            clear hT ho hv hl HST HD
            go_wp2
            refine wp_region_keptQ V.heap.size V (by kernel_rfl) (by kernel_rfl) (KeptQ.refl (Nat.le_refl _)) ?_
            repeat (first
              | go_big_quiet_skip
              | (go_big_quiet_want; first
                | (refine quietQ_load_cell 4 _ rfl ⟨Q, 0, none⟩ rfl _ R0.out _ Try.underlying4 rfl ?_; simp only [Act.put, List.setIfInBounds_toArray, List.set_cons_zero, List.set_cons_succ]; go_big_quiet_on)
                | (refine quietQ_load_cell 4 _ rfl ⟨Q, 1, none⟩ rfl _ R1.out _ Try.underlying4 rfl ?_; simp only [Act.put, List.setIfInBounds_toArray, List.set_cons_zero, List.set_cons_succ]; go_big_quiet_on)
                | (refine quietQ_load_cell 3 _ rfl ⟨Q, 4, none⟩ rfl _ R4.out _ Try.underlying3 rfl ?_; simp only [Act.put, List.setIfInBounds_toArray, List.set_cons_zero, List.set_cons_succ]; go_big_quiet_on)
                | (go_big_quiet_op; first
                  | go_big_quiet_on
                  | (refine ⟨_, fun _ _ => rfl, ?_⟩; go_big_quiet_on)
                  | go_big_quiet_call ((intro hw; first
                    | (go_at_call 33; refine (rframes_any _ b g n c m (RM.out _ hw)).mono ?_; rintro e w7 ⟨rfl, rfl⟩; exact ⟨rfl, hw⟩))))))
            refine wpQuiet_nil ?_
            intro w7 hw7
            have z0 := R0.out _ hw7
            have z4 := R4.out _ hw7
            have HM7 := Lib.hid (RM.out _ hw7)
            have HB7 := Lib.hid (RB.out _ hw7)
            clear R0 R1 R4 RM RB hw7
            go_wp2
            go_ret2
            exact ⟨rfl, HB7.out⟩
          · cases l
            · by_cases hfn : x / 256 % 64 < n
              · have hfn' : f < (n : Int) := by omega
                have hT : (ra, rc) = descF n m p (L - (k + 1)) (k + 1) (x / 256 % 64) := by
                  have hc : nextC n x = 0 := by unfold nextC entC; simp [ho, ← hv, ← hl, hfn]
                  rw [HST.out, if_pos hc]
                have HT := Lib.hid hT
                have HFF := Lib.hid hff
                have HFN := Lib.hid hfn
                clear hT ho hv hl HST HD hff hfn
                go_wp2
                refine wp_region_keptQ V.heap.size V (by kernel_rfl) (by kernel_rfl) (KeptQ.refl (Nat.le_refl _)) ?_
                repeat (first
                  | go_big_quiet_skip
                  | (go_big_quiet_want; first
                    | (refine quietQ_load_cell 4 _ rfl ⟨Q, 0, none⟩ rfl _ R0.out _ Try.underlying4 rfl ?_; simp only [Act.put, List.setIfInBounds_toArray, List.set_cons_zero, List.set_cons_succ]; go_big_quiet_on)
                    | (refine quietQ_load_cell 4 _ rfl ⟨Q, 1, none⟩ rfl _ R1.out _ Try.underlying4 rfl ?_; simp only [Act.put, List.setIfInBounds_toArray, List.set_cons_zero, List.set_cons_succ]; go_big_quiet_on)
                    | (refine quietQ_load_cell 3 _ rfl ⟨Q, 4, none⟩ rfl _ R4.out _ Try.underlying3 rfl ?_; simp only [Act.put, List.setIfInBounds_toArray, List.set_cons_zero, List.set_cons_succ]; go_big_quiet_on)
                    | (go_big_quiet_op; first
                      | go_big_quiet_on
                      | (refine ⟨_, fun _ _ => rfl, ?_⟩; go_big_quiet_on)
                      | go_big_quiet_call ((intro hw; first
                        | (go_at_call 33; refine (rframes_any _ b g n c m (RM.out _ hw)).mono ?_; rintro e w7 ⟨rfl, rfl⟩; exact ⟨rfl, hw⟩))))))
                refine wpQuiet_nil ?_
                intro w7 hw7
                have z0 := R0.out _ hw7
                have z4 := R4.out _ hw7
                have HM7 := Lib.hid (RM.out _ hw7)
                have HB7 := Lib.hid (RB.out _ hw7)
                clear R0 R1 R4 RM RB hw7
                go_wp2
                go_roundw
                case rel => first | exact ⟨k + 1, x / 256 % 64, by omega, by omega, HFN.out, congrArg (Value.int IntKind.i64) HFF.out, by go_num, HT.out.symm, HM7, HB7.out⟩ | ((repeat apply Exists.intro); exact ⟨⟨k + 1, x / 256 % 64, by omega, by omega, HFN.out, congrArg (Value.int IntKind.i64) HFF.out, by go_num, HT.out.symm, HM7, HB7.out⟩, rfl⟩)
                case measure => simp [intOf]; omega
              · have hfn' : (n : Int) ≤ f := by omega
                have hT : (ra, rc) = ((0, 5) : Int × Int) := by
                  have hc : nextC n x = 5 := by unfold nextC entC; simp [ho, ← hv, ← hl, hfn]
                  rw [HST.out, hc]; rfl
                obtain ⟨rfl, rfl⟩ := Prod.mk.inj hT
                clear hT ho hv hl HST HD hff hfn
                go_wp2
                refine wp_region_keptQ V.heap.size V (by kernel_rfl) (by kernel_rfl) (KeptQ.refl (Nat.le_refl _)) ?_
                repeat (first
                  | go_big_quiet_skip
                  | (go_big_quiet_want; first
                    | (refine quietQ_load_cell 4 _ rfl ⟨Q, 0, none⟩ rfl _ R0.out _ Try.underlying4 rfl ?_; simp only [Act.put, List.setIfInBounds_toArray, List.set_cons_zero, List.set_cons_succ]; go_big_quiet_on)
                    | (refine quietQ_load_cell 4 _ rfl ⟨Q, 1, none⟩ rfl _ R1.out _ Try.underlying4 rfl ?_; simp only [Act.put, List.setIfInBounds_toArray, List.set_cons_zero, List.set_cons_succ]; go_big_quiet_on)
                    | (refine quietQ_load_cell 3 _ rfl ⟨Q, 4, none⟩ rfl _ R4.out _ Try.underlying3 rfl ?_; simp only [Act.put, List.setIfInBounds_toArray, List.set_cons_zero, List.set_cons_succ]; go_big_quiet_on)
                    | (go_big_quiet_op; first
                      | go_big_quiet_on
                      | (refine ⟨_, fun _ _ => rfl, ?_⟩; go_big_quiet_on)
                      | go_big_quiet_call ((intro hw; first
                        | (go_at_call 33; refine (rframes_any _ b g n c m (RM.out _ hw)).mono ?_; rintro e w7 ⟨rfl, rfl⟩; exact ⟨rfl, hw⟩))))))
                refine wpQuiet_nil ?_
                intro w7 hw7
                have z0 := R0.out _ hw7
                have z4 := R4.out _ hw7
                have HM7 := Lib.hid (RM.out _ hw7)
                have HB7 := Lib.hid (RB.out _ hw7)
                clear R0 R1 R4 RM RB hw7
                go_wp2
                go_ret2
                exact ⟨rfl, HB7.out⟩
            · have hT : (ra, rc) = ((0, 5) : Int × Int) := by
                have hc : nextC n x = 5 := by unfold nextC entC; by_cases hfn : x / 256 % 64 < n <;> simp [ho, ← hv, ← hl, hfn]
                rw [HST.out, hc]; rfl
              obtain ⟨rfl, rfl⟩ := Prod.mk.inj hT
              clear hT ho hv hl HST HD hff
              go_wp2
              refine wp_region_keptQ V.heap.size V (by kernel_rfl) (by kernel_rfl) (KeptQ.refl (Nat.le_refl _)) ?_
              repeat (first
                | go_big_quiet_skip
                | (go_big_quiet_want; first
                  | (refine quietQ_load_cell 4 _ rfl ⟨Q, 0, none⟩ rfl _ R0.out _ Try.underlying4 rfl ?_; simp only [Act.put, List.setIfInBounds_toArray, List.set_cons_zero, List.set_cons_succ]; go_big_quiet_on)
                  | (refine quietQ_load_cell 4 _ rfl ⟨Q, 1, none⟩ rfl _ R1.out _ Try.underlying4 rfl ?_; simp only [Act.put, List.setIfInBounds_toArray, List.set_cons_zero, List.set_cons_succ]; go_big_quiet_on)
                  | (refine quietQ_load_cell 3 _ rfl ⟨Q, 4, none⟩ rfl _ R4.out _ Try.underlying3 rfl ?_; simp only [Act.put, List.setIfInBounds_toArray, List.set_cons_zero, List.set_cons_succ]; go_big_quiet_on)
                  | (go_big_quiet_op; first
                    | go_big_quiet_on
                    | (refine ⟨_, fun _ _ => rfl, ?_⟩; go_big_quiet_on)
                    | go_big_quiet_call ((intro hw; first
                      | (go_at_call 33; refine (rframes_any _ b g n c m (RM.out _ hw)).mono ?_; rintro e w7 ⟨rfl, rfl⟩; exact ⟨rfl, hw⟩))))))
              refine wpQuiet_nil ?_
              intro w7 hw7
              have z0 := R0.out _ hw7
              have z4 := R4.out _ hw7
              have HM7 := Lib.hid (RM.out _ hw7)
              have HB7 := Lib.hid (RB.out _ hw7)
              clear R0 R1 R4 RM RB hw7
              go_wp2
              go_ret2
              exact ⟨rfl, HB7.out⟩
        · have hT : (ra, rc) = ((0, 5) : Int × Int) := by
            have hc : nextC n x = 5 := by unfold nextC entC; simp [ho]
            rw [HST.out, hc]; rfl
          obtain ⟨rfl, rfl⟩ := Prod.mk.inj hT
          clear hT ho HST HD HVAL
          go_wp2
          refine wp_region_keptQ V.heap.size V (by kernel_rfl) (by kernel_rfl) (KeptQ.refl (Nat.le_refl _)) ?_
          repeat (first
            | go_big_quiet_skip
            | (go_big_quiet_want; first
              | (refine quietQ_load_cell 4 _ rfl ⟨Q, 0, none⟩ rfl _ R0.out _ Try.underlying4 rfl ?_; simp only [Act.put, List.setIfInBounds_toArray, List.set_cons_zero, List.set_cons_succ]; go_big_quiet_on)
              | (refine quietQ_load_cell 4 _ rfl ⟨Q, 1, none⟩ rfl _ R1.out _ Try.underlying4 rfl ?_; simp only [Act.put, List.setIfInBounds_toArray, List.set_cons_zero, List.set_cons_succ]; go_big_quiet_on)
              | (refine quietQ_load_cell 3 _ rfl ⟨Q, 4, none⟩ rfl _ R4.out _ Try.underlying3 rfl ?_; simp only [Act.put, List.setIfInBounds_toArray, List.set_cons_zero, List.set_cons_succ]; go_big_quiet_on)
              | (go_big_quiet_op; first
                | go_big_quiet_on
                | (refine ⟨_, fun _ _ => rfl, ?_⟩; go_big_quiet_on)
                | go_big_quiet_call ((intro hw; first
                  | (go_at_call 33; refine (rframes_any _ b g n c m (RM.out _ hw)).mono ?_; rintro e w7 ⟨rfl, rfl⟩; exact ⟨rfl, hw⟩))))))
          refine wpQuiet_nil ?_
          intro w7 hw7
          have z0 := R0.out _ hw7
          have z4 := R4.out _ hw7
          have HM7 := Lib.hid (RM.out _ hw7)
          have HB7 := Lib.hid (RB.out _ hw7)
          clear R0 R1 R4 RM RB hw7
          go_wp2
          go_ret2
          exact ⟨rfl, HB7.out⟩
    · obtain rfl : k = L := by omega
      have hT : (ra, rc) = (64 * (t : Int) + 8 * i, (0 : Int)) := by
        rw [← HD.out, Nat.sub_self]
        show (64 * (t : Int) + 8 * indexN p (k : Int), (0 : Int)) = _
        rw [HI.out]
      obtain ⟨rfl, rfl⟩ := Prod.mk.inj hT
      have hL3 := HL3.out
      have hL1 := HL1.out
      clear hT HD
      go_wp2_with (first
        | (go_at_call 68; refine (indexR_yes p k _ p0 p1 (by omega) (by omega)).mono ?_; rw [HI.out]; rintro e w2 ⟨rfl, rfl⟩))
      go_ret2
      exact ⟨rfl, hB⟩
theorem rat_nil (w : World) (r p l : Int) : Calls Try.prog 59 #[.pointer none, .int .i64 r, .int .i64 p, .int .i64 l] w fun e w' => e = .returned (.tuple #[.int .u64 0, .int .i64 1]) ∧ Below w.heap.size w w' := by
  go_enter Try.func59, Try.ntmps59
  go_wp2
  go_ret2
  exact ⟨rfl, Below.refl _ _⟩
theorem rat_bad (w : World) (b g n c : Nat) (m : Nat → Int) (r p l : Int) (hM : RefAt w b g n c m) (h : ¬ (0 ≤ r ∧ r < n ∧ 0 ≤ p ∧ p < 512 ∧ 1 ≤ l ∧ l ≤ 3)) :
    Calls Try.prog 59 #[.pointer (some ⟨b, 0, none⟩), .int .i64 r, .int .i64 p, .int .i64 l] w fun e w' => e = .returned (.tuple #[.int .u64 0, .int .i64 3]) ∧ Below w.heap.size w w' := by
  have HM := Lib.hid hM
  clear hM
  by_cases h1 : r < 0
  · clear h
    go_enter Try.func59, Try.ntmps59
    go_wp2_with (first
      | (go_at_call 33; refine (rframes_any _ b g n c m HM.out).mono ?_; rintro e w1 ⟨rfl, rfl⟩))
    go_ret2
    exact ⟨rfl, Below.refl _ _⟩
  by_cases h2 : (n : Int) ≤ r
  · clear h
    go_enter Try.func59, Try.ntmps59
    go_wp2_with (first
      | (go_at_call 33; refine (rframes_any _ b g n c m HM.out).mono ?_; rintro e w1 ⟨rfl, rfl⟩))
    go_ret2
    exact ⟨rfl, Below.refl _ _⟩
  by_cases h3 : p < 0
  · clear h
    go_enter Try.func59, Try.ntmps59
    go_wp2_with (first
      | (go_at_call 33; refine (rframes_any _ b g n c m HM.out).mono ?_; rintro e w1 ⟨rfl, rfl⟩))
    go_ret2
    exact ⟨rfl, Below.refl _ _⟩
  by_cases h4 : 512 ≤ p
  · clear h
    go_enter Try.func59, Try.ntmps59
    go_wp2_with (first
      | (go_at_call 33; refine (rframes_any _ b g n c m HM.out).mono ?_; rintro e w1 ⟨rfl, rfl⟩))
    go_ret2
    exact ⟨rfl, Below.refl _ _⟩
  by_cases h5 : l < 1
  · clear h
    go_enter Try.func59, Try.ntmps59
    go_wp2_with (first
      | (go_at_call 33; refine (rframes_any _ b g n c m HM.out).mono ?_; rintro e w1 ⟨rfl, rfl⟩))
    go_ret2
    exact ⟨rfl, Below.refl _ _⟩
  have h6 : 3 < l := by omega
  clear h
  go_enter Try.func59, Try.ntmps59
  go_wp2_with (first
    | (go_at_call 33; refine (rframes_any _ b g n c m HM.out).mono ?_; rintro e w1 ⟨rfl, rfl⟩))
  go_ret2
  exact ⟨rfl, Below.refl _ _⟩
theorem rat_gen (w : World) (b g n c : Nat) (m : Nat → Int) (r p l : Int) (hM : RefAt w b g n c m) :
    Calls Try.prog 59 #[.pointer (some ⟨b, 0, none⟩), .int .i64 r, .int .i64 p, .int .i64 l] w fun e w' => e = .returned (.tuple #[.int .u64 (atF n m r p l).1, .int .i64 (atF n m r p l).2]) ∧ Below w.heap.size w w' := by
  by_cases h : 0 ≤ r ∧ r < n ∧ 0 ≤ p ∧ p < 512 ∧ 1 ≤ l ∧ l ≤ 3
  · unfold atF
    rw [if_pos h]
    obtain ⟨R, rfl⟩ := Int.eq_ofNat_of_zero_le h.1
    obtain ⟨L, rfl⟩ := Int.eq_ofNat_of_zero_le (show 0 ≤ l by omega)
    simp only [Int.toNat_natCast]
    exact rat_ok w b g n c m R L p hM (by omega) h.2.2.1 h.2.2.2.1 (by omega) (by omega)
  · have e : atF n m r p l = (0, 3) := by unfold atF; rw [if_neg h]
    rw [e]
    exact rat_bad w b g n c m r p l hM h
/-- What Walk tells, whatever comes. -/
def walkV (n : Nat) (m : Nat → Int) (r p : Int) : Value := if walkC n m r p = 0 then entW (leafW m (atF n m r p 3).1) else entV false false false false 0
theorem walk_gen (w : World) (b g n c : Nat) (m : Nat → Int) (r p : Int) (hM : MemAt w b g n c m) :
    Calls Try.prog 57 #[.pointer (some ⟨b, 0, none⟩), .int .i64 r, .int .i64 p] w fun e w' => e = .returned (.tuple #[walkV n m r p, .int .i64 (walkC n m r p)]) ∧ Below w.heap.size w w' := by
  by_cases h : walkC n m r p = 0
  · unfold walkV
    rw [if_pos h, h]
    exact walk_ok w b g n c m r p hM h
  · unfold walkV
    rw [if_neg h]
    exact walk_no w b g n c m r p _ hM rfl h
set_option maxHeartbeats 4000000 in
theorem rwalk_gen (w : World) (b g n c : Nat) (m : Nat → Int) (r p : Int) (hM : RefAt w b g n c m) :
    Calls Try.prog 53 #[.pointer (some ⟨b, 0, none⟩), .int .i64 r, .int .i64 p] w fun e w' => e = .returned (.tuple #[walkV n m r p, .int .i64 (walkC n m r p)]) ∧ Below w.heap.size w w' := by
  obtain ⟨⟨a, c0⟩, hac⟩ : ∃ z, atF n m r p 3 = z := ⟨_, rfl⟩
  have HAC := Lib.hid hac
  have HM := Lib.hid hM
  have hhd := hM.hd
  have hlb := hM.lb
  have hlg := hM.lg
  by_cases h0 : c0 = 0
  · subst h0
    obtain ⟨k, hk, ha⟩ := at_addr (show (atF n m r p 3).2 = 0 by rw [hac])
    rw [hac] at ha
    simp only at ha
    have hlw : leafW m a = (m k).toNat := by unfold leafW; rw [ha]; congr 2; omega
    have hcell := hM.cells k hk
    have hn64 := hM.n64
    have hcap := hM.cap
    obtain ⟨x, hx⟩ : ∃ x, (m k).toNat = x := ⟨_, rfl⟩
    obtain ⟨hx1, hx2⟩ := word_nat (hM.word k)
    rw [hx] at hx1 hx2 hlw
    rw [hx1] at hcell
    have hwc : walkC n m r p = leafC n x := by unfold walkC; rw [hac]; simp only [if_true]; rw [hlw]
    have hwv : leafW m (atF n m r p 3).1 = x := by rw [hac]; exact hlw
    have a0 : 0 ≤ a := by omega
    have a1 : a ≤ 4096 := by omega
    have a4 : 0 ≤ a / 8 := by omega
    have a5 : a / 8 < 8 * (n : Int) := by omega
    have a6 : a / 8 < ((8 * n : Nat) : Int) := by omega
    have a7 : (a / 8).toNat = k := by omega
    obtain ⟨v, l, rr, xx, f, cd, hdec, hval⟩ := decR_gen x hx2
    have HDEC := Lib.hid hdec
    have HVAL := Lib.hid hval
    have HWC := Lib.hid hwc
    have HWV := Lib.hid hwv
    clear hdec hval hx1 hx2 hlw ha hac hM hx hwc hwv
    go_enter Try.func53, Try.ntmps53
    go_wp2_with (first
      | (go_at_call 59; refine (rat_gen _ b g n c m r p 3 (HM.out.call (bal (Below.refl _ _) _))).mono ?_; rw [HAC.out]; rintro e w1 ⟨rfl, hb1⟩; obtain ⟨hc1, hf1⟩ := bcell hb1; have hz1 : w.heap.size < w1.heap.size := (by have := hb1.size; simp at this; omega); have hbl1 : b < w1.heap.size := (by omega); have hgl1 : g < w1.heap.size := (by omega); have hd1 := (HM.out.call (bgo (bal (Below.refl _ _) _) hb1)).hd; have hk1 := ((HM.out.call (bgo (bal (Below.refl _ _) _) hb1)).cells k hk))
      | (go_at_call 60; refine (HDEC.out _).mono ?_; rintro e w2 ⟨rfl, hb2⟩; obtain ⟨hc2, hf2⟩ := bcell hb2; have hz2 : w.heap.size < w2.heap.size := (by have := hb2.size; omega)))
    obtain ⟨V, hV⟩ : ∃ V, V = w2.alloc (.cells #[.bool v, .bool l, .bool rr, .bool xx, .int .i64 f] 137) := ⟨_, rfl⟩
    have hE := ent_new w2 v l rr xx f
    have hB3 : Below w2.heap.size w2 V := by rw [hV]; exact bal (Below.refl _ _) _
    rw [← hV] at hE ⊢
    obtain ⟨y0, y1, y2, y3, y4⟩ := hE
    have hQ : w2.heap.size < V.heap.size := by rw [hV]; simp
    have BV : Below w.heap.size w V := bgo (bgo (bgo (bal (Below.refl _ _) _) hb1) hb2) hB3
    have hzV : w.heap.size < V.heap.size := by omega
    have MV := ((HM.out.call (bgo (bal (Below.refl _ _) _) hb1)).call hb2).call hB3
    have r0 : V.cell? ⟨w.heap.size, 0, none⟩ = some (.bool false) := (hB3.cell (p := ⟨w.heap.size, 0, none⟩) hz2).trans ((hc2 _ _ hz1).trans ((hc1 _ _ (by simp)).trans (by rw [cellE]; rfl)))
    have r1 : V.cell? ⟨w.heap.size, 1, none⟩ = some (.bool false) := (hB3.cell (p := ⟨w.heap.size, 1, none⟩) hz2).trans ((hc2 _ _ hz1).trans ((hc1 _ _ (by simp)).trans (by rw [cellE]; rfl)))
    have r2 : V.cell? ⟨w.heap.size, 2, none⟩ = some (.bool false) := (hB3.cell (p := ⟨w.heap.size, 2, none⟩) hz2).trans ((hc2 _ _ hz1).trans ((hc1 _ _ (by simp)).trans (by rw [cellE]; rfl)))
    have r3 : V.cell? ⟨w.heap.size, 3, none⟩ = some (.bool false) := (hB3.cell (p := ⟨w.heap.size, 3, none⟩) hz2).trans ((hc2 _ _ hz1).trans ((hc1 _ _ (by simp)).trans (by rw [cellE]; rfl)))
    have r4 : V.cell? ⟨w.heap.size, 4, none⟩ = some (.int .i64 0) := (hB3.cell (p := ⟨w.heap.size, 4, none⟩) hz2).trans ((hc2 _ _ hz1).trans ((hc1 _ _ (by simp)).trans (by rw [cellE]; rfl)))
    have fr : ∀ j, V.frozen? ⟨w.heap.size, j, none⟩ = false := fun j => (hB3.frozen (p := ⟨w.heap.size, j, none⟩) hz2).trans ((hf2 _ _ hz1).trans ((hf1 _ _ (by simp)).trans (frozE _ _ _ _)))
    have RZ := Lib.hid (fun w' (hw : KeptQ V.heap.size V w') => (⟨(hw.1.cell (p := ⟨w.heap.size, 0, none⟩) hzV).trans r0, (hw.1.cell (p := ⟨w.heap.size, 1, none⟩) hzV).trans r1, (hw.1.cell (p := ⟨w.heap.size, 2, none⟩) hzV).trans r2, (hw.1.cell (p := ⟨w.heap.size, 3, none⟩) hzV).trans r3, (hw.1.cell (p := ⟨w.heap.size, 4, none⟩) hzV).trans r4⟩ : EntAt w' w.heap.size false false false false 0))
    have RF := Lib.hid (fun w' (hw : KeptQ V.heap.size V w') j => (hw.1.frozen (p := ⟨w.heap.size, j, none⟩) hzV).trans (fr j))
    have R0 := Lib.hid (fun w' (hw : KeptQ V.heap.size V w') => (hw.1.cell (p := ⟨w2.heap.size, 0, none⟩) hQ).trans y0)
    have R1 := Lib.hid (fun w' (hw : KeptQ V.heap.size V w') => (hw.1.cell (p := ⟨w2.heap.size, 1, none⟩) hQ).trans y1)
    have R2 := Lib.hid (fun w' (hw : KeptQ V.heap.size V w') => (hw.1.cell (p := ⟨w2.heap.size, 2, none⟩) hQ).trans y2)
    have R3 := Lib.hid (fun w' (hw : KeptQ V.heap.size V w') => (hw.1.cell (p := ⟨w2.heap.size, 3, none⟩) hQ).trans y3)
    have R4 := Lib.hid (fun w' (hw : KeptQ V.heap.size V w') => (hw.1.cell (p := ⟨w2.heap.size, 4, none⟩) hQ).trans y4)
    have RM := Lib.hid (fun w' (hw : KeptQ V.heap.size V w') => MV.call hw.1)
    have RB := Lib.hid (fun w' (hw : KeptQ V.heap.size V w') => bgo BV hw.1)
    have hne : w.heap.size ≠ w2.heap.size := Nat.ne_of_lt hz2
    clear hV y0 y1 y2 y3 y4 hB3 BV MV r0 r1 r2 r3 r4 fr hc1 hf1 hc2 hf2 hb1 hb2
    rcases HVAL.out with ⟨ho, rfl, hv, hl, hrr, hxx, hff⟩ | ⟨ho, rfl, rfl, rfl, rfl, rfl, rfl⟩
    · clear HVAL
      cases v
      · clear hrr hxx
        have hres : Ending.returned (.tuple #[entV false false false false 0, .int .i64 6]) = .returned (.tuple #[walkV n m r p, .int .i64 (walkC n m r p)]) := by
          have e : walkC n m r p = 6 := by rw [HWC.out]; unfold leafC entC; simp [ho, ← hv]
          have e2 : walkV n m r p = entV false false false false 0 := by unfold walkV; rw [if_neg (by rw [e]; decide)]
          rw [e, e2]
        have HRES := Lib.hid hres
        clear hres ho hv hl
        go_wp2
        refine wp_region_keptQ V.heap.size V (by kernel_rfl) (by kernel_rfl) (KeptQ.refl (Nat.le_refl _)) ?_
        repeat (first
          | go_big_quiet_skip
          | (go_big_quiet_want; first
            | (refine quietQ_load_cell 4 _ rfl ⟨w2.heap.size, 0, none⟩ rfl _ R0.out _ Try.underlying4 rfl ?_; simp only [Act.put, List.setIfInBounds_toArray, List.set_cons_zero, List.set_cons_succ]; go_big_quiet_on)
            | (refine quietQ_load_cell 4 _ rfl ⟨w2.heap.size, 1, none⟩ rfl _ R1.out _ Try.underlying4 rfl ?_; simp only [Act.put, List.setIfInBounds_toArray, List.set_cons_zero, List.set_cons_succ]; go_big_quiet_on)
            | (refine quietQ_load_cell 3 _ rfl ⟨w2.heap.size, 4, none⟩ rfl _ R4.out _ Try.underlying3 rfl ?_; simp only [Act.put, List.setIfInBounds_toArray, List.set_cons_zero, List.set_cons_succ]; go_big_quiet_on)
            | (go_big_quiet_op; first
              | go_big_quiet_on
              | (refine ⟨_, fun _ _ => rfl, ?_⟩; go_big_quiet_on)
              | go_big_quiet_call ((intro hw; first
                | (go_at_call 33; refine (rframes_any _ b g n c m (RM.out _ hw)).mono ?_; rintro e w7 ⟨rfl, rfl⟩; exact ⟨rfl, hw⟩))))))
        refine wpQuiet_nil ?_
        intro w7 hw7
        have z0 := R0.out _ hw7
        have z1 := R1.out _ hw7
        have z2 := R2.out _ hw7
        have z3 := R3.out _ hw7
        have z4 := R4.out _ hw7
        obtain ⟨r0, r1, r2, r3, r4⟩ := RZ.out _ hw7
        have g0 := RF.out _ hw7 0
        have g1 := RF.out _ hw7 1
        have g2 := RF.out _ hw7 2
        have g3 := RF.out _ hw7 3
        have g4 := RF.out _ hw7 4
        have HB7 := RB.out _ hw7
        have hz7 : w.heap.size < w7.heap.size := Nat.lt_of_lt_of_le hzV hw7.1.size
        clear R0 R1 R2 R3 R4 RM RB RZ RF hw7
        go_wp2
        exact bodyPost_ret (v := .tuple #[entV false false false false 0, .int .i64 6]) (by simp [results, Try.results53, go_sem, r0, r1, r2, r3, r4, hne]) rfl ⟨HRES.out, by repeat (first | with_reducible exact HB7 | with_reducible refine Below.drew ?_ | with_reducible refine Below.setCell ?_ (by first | with_reducible exact Nat.le_refl _ | (simp; done) | (simp; omega)) _)⟩
      · by_cases hfn : x / 256 % 64 < n
        · have hfn' : f < (n : Int) := by omega
          cases l
          · clear hrr hxx
            have hres : Ending.returned (.tuple #[entV false false false false 0, .int .i64 5]) = .returned (.tuple #[walkV n m r p, .int .i64 (walkC n m r p)]) := by
              have e : walkC n m r p = 5 := by rw [HWC.out]; unfold leafC entC; simp [ho, ← hv, ← hl, hfn]
              have e2 : walkV n m r p = entV false false false false 0 := by unfold walkV; rw [if_neg (by rw [e]; decide)]
              rw [e, e2]
            have HRES := Lib.hid hres
            clear hres ho hv hl hfn
            go_wp2
            refine wp_region_keptQ V.heap.size V (by kernel_rfl) (by kernel_rfl) (KeptQ.refl (Nat.le_refl _)) ?_
            repeat (first
              | go_big_quiet_skip
              | (go_big_quiet_want; first
                | (refine quietQ_load_cell 4 _ rfl ⟨w2.heap.size, 0, none⟩ rfl _ R0.out _ Try.underlying4 rfl ?_; simp only [Act.put, List.setIfInBounds_toArray, List.set_cons_zero, List.set_cons_succ]; go_big_quiet_on)
                | (refine quietQ_load_cell 4 _ rfl ⟨w2.heap.size, 1, none⟩ rfl _ R1.out _ Try.underlying4 rfl ?_; simp only [Act.put, List.setIfInBounds_toArray, List.set_cons_zero, List.set_cons_succ]; go_big_quiet_on)
                | (refine quietQ_load_cell 3 _ rfl ⟨w2.heap.size, 4, none⟩ rfl _ R4.out _ Try.underlying3 rfl ?_; simp only [Act.put, List.setIfInBounds_toArray, List.set_cons_zero, List.set_cons_succ]; go_big_quiet_on)
                | (go_big_quiet_op; first
                  | go_big_quiet_on
                  | (refine ⟨_, fun _ _ => rfl, ?_⟩; go_big_quiet_on)
                  | go_big_quiet_call ((intro hw; first
                    | (go_at_call 33; refine (rframes_any _ b g n c m (RM.out _ hw)).mono ?_; rintro e w7 ⟨rfl, rfl⟩; exact ⟨rfl, hw⟩))))))
            refine wpQuiet_nil ?_
            intro w7 hw7
            have z0 := R0.out _ hw7
            have z1 := R1.out _ hw7
            have z2 := R2.out _ hw7
            have z3 := R3.out _ hw7
            have z4 := R4.out _ hw7
            obtain ⟨r0, r1, r2, r3, r4⟩ := RZ.out _ hw7
            have g0 := RF.out _ hw7 0
            have g1 := RF.out _ hw7 1
            have g2 := RF.out _ hw7 2
            have g3 := RF.out _ hw7 3
            have g4 := RF.out _ hw7 4
            have HB7 := RB.out _ hw7
            have hz7 : w.heap.size < w7.heap.size := Nat.lt_of_lt_of_le hzV hw7.1.size
            clear R0 R1 R2 R3 R4 RM RB RZ RF hw7
            go_wp2
            exact bodyPost_ret (v := .tuple #[entV false false false false 0, .int .i64 5]) (by simp [results, Try.results53, go_sem, r0, r1, r2, r3, r4, hne]) rfl ⟨HRES.out, by repeat (first | with_reducible exact HB7 | with_reducible refine Below.drew ?_ | with_reducible refine Below.setCell ?_ (by first | with_reducible exact Nat.le_refl _ | (simp; done) | (simp; omega)) _)⟩
          · have hres : Ending.returned (.tuple #[entV true true rr xx f, .int .i64 0]) = .returned (.tuple #[walkV n m r p, .int .i64 (walkC n m r p)]) := by
              have e : walkC n m r p = 0 := by rw [HWC.out]; unfold leafC entC; simp [ho, ← hv, ← hl, hfn]
              have e2 : walkV n m r p = entV true true rr xx f := by unfold walkV; rw [if_pos e, HWV.out]; unfold entW; rw [← hl, ← hrr, ← hxx, hff]
              rw [e, e2]
            have HRES := Lib.hid hres
            clear hres ho hv hl hrr hxx hfn hff
            go_wp2
            refine wp_region_keptQ V.heap.size V (by kernel_rfl) (by kernel_rfl) (KeptQ.refl (Nat.le_refl _)) ?_
            repeat (first
              | go_big_quiet_skip
              | (go_big_quiet_want; first
                | (refine quietQ_load_cell 4 _ rfl ⟨w2.heap.size, 0, none⟩ rfl _ R0.out _ Try.underlying4 rfl ?_; simp only [Act.put, List.setIfInBounds_toArray, List.set_cons_zero, List.set_cons_succ]; go_big_quiet_on)
                | (refine quietQ_load_cell 4 _ rfl ⟨w2.heap.size, 1, none⟩ rfl _ R1.out _ Try.underlying4 rfl ?_; simp only [Act.put, List.setIfInBounds_toArray, List.set_cons_zero, List.set_cons_succ]; go_big_quiet_on)
                | (refine quietQ_load_cell 3 _ rfl ⟨w2.heap.size, 4, none⟩ rfl _ R4.out _ Try.underlying3 rfl ?_; simp only [Act.put, List.setIfInBounds_toArray, List.set_cons_zero, List.set_cons_succ]; go_big_quiet_on)
                | (go_big_quiet_op; first
                  | go_big_quiet_on
                  | (refine ⟨_, fun _ _ => rfl, ?_⟩; go_big_quiet_on)
                  | go_big_quiet_call ((intro hw; first
                    | (go_at_call 33; refine (rframes_any _ b g n c m (RM.out _ hw)).mono ?_; rintro e w7 ⟨rfl, rfl⟩; exact ⟨rfl, hw⟩))))))
            refine wpQuiet_nil ?_
            intro w7 hw7
            have z0 := R0.out _ hw7
            have z1 := R1.out _ hw7
            have z2 := R2.out _ hw7
            have z3 := R3.out _ hw7
            have z4 := R4.out _ hw7
            obtain ⟨r0, r1, r2, r3, r4⟩ := RZ.out _ hw7
            have g0 := RF.out _ hw7 0
            have g1 := RF.out _ hw7 1
            have g2 := RF.out _ hw7 2
            have g3 := RF.out _ hw7 3
            have g4 := RF.out _ hw7 4
            have HB7 := RB.out _ hw7
            have hz7 : w.heap.size < w7.heap.size := Nat.lt_of_lt_of_le hzV hw7.1.size
            clear R0 R1 R2 R3 R4 RM RB RZ RF hw7
            go_wp2
            exact bodyPost_ret (v := .tuple #[entV true true rr xx f, .int .i64 0]) (by simp [results, Try.results53, go_sem, r0, r1, r2, r3, r4, hne]) rfl ⟨HRES.out, by repeat (first | with_reducible exact HB7 | with_reducible refine Below.drew ?_ | with_reducible refine Below.setCell ?_ (by first | with_reducible exact Nat.le_refl _ | (simp; done) | (simp; omega)) _)⟩
        · have hfn' : (n : Int) ≤ f := by omega
          cases l
          all_goals
            clear hrr hxx
            have hres : Ending.returned (.tuple #[entV false false false false 0, .int .i64 5]) = .returned (.tuple #[walkV n m r p, .int .i64 (walkC n m r p)]) := by
              have e : walkC n m r p = 5 := by rw [HWC.out]; unfold leafC entC; simp [ho, ← hv, ← hl, hfn]
              have e2 : walkV n m r p = entV false false false false 0 := by unfold walkV; rw [if_neg (by rw [e]; decide)]
              rw [e, e2]
            have HRES := Lib.hid hres
            clear hres ho hv hl hfn
            go_wp2
            refine wp_region_keptQ V.heap.size V (by kernel_rfl) (by kernel_rfl) (KeptQ.refl (Nat.le_refl _)) ?_
            repeat (first
              | go_big_quiet_skip
              | (go_big_quiet_want; first
                | (refine quietQ_load_cell 4 _ rfl ⟨w2.heap.size, 0, none⟩ rfl _ R0.out _ Try.underlying4 rfl ?_; simp only [Act.put, List.setIfInBounds_toArray, List.set_cons_zero, List.set_cons_succ]; go_big_quiet_on)
                | (refine quietQ_load_cell 4 _ rfl ⟨w2.heap.size, 1, none⟩ rfl _ R1.out _ Try.underlying4 rfl ?_; simp only [Act.put, List.setIfInBounds_toArray, List.set_cons_zero, List.set_cons_succ]; go_big_quiet_on)
                | (refine quietQ_load_cell 3 _ rfl ⟨w2.heap.size, 4, none⟩ rfl _ R4.out _ Try.underlying3 rfl ?_; simp only [Act.put, List.setIfInBounds_toArray, List.set_cons_zero, List.set_cons_succ]; go_big_quiet_on)
                | (go_big_quiet_op; first
                  | go_big_quiet_on
                  | (refine ⟨_, fun _ _ => rfl, ?_⟩; go_big_quiet_on)
                  | go_big_quiet_call ((intro hw; first
                    | (go_at_call 33; refine (rframes_any _ b g n c m (RM.out _ hw)).mono ?_; rintro e w7 ⟨rfl, rfl⟩; exact ⟨rfl, hw⟩))))))
            refine wpQuiet_nil ?_
            intro w7 hw7
            have z0 := R0.out _ hw7
            have z1 := R1.out _ hw7
            have z2 := R2.out _ hw7
            have z3 := R3.out _ hw7
            have z4 := R4.out _ hw7
            obtain ⟨r0, r1, r2, r3, r4⟩ := RZ.out _ hw7
            have g0 := RF.out _ hw7 0
            have g1 := RF.out _ hw7 1
            have g2 := RF.out _ hw7 2
            have g3 := RF.out _ hw7 3
            have g4 := RF.out _ hw7 4
            have HB7 := RB.out _ hw7
            have hz7 : w.heap.size < w7.heap.size := Nat.lt_of_lt_of_le hzV hw7.1.size
            clear R0 R1 R2 R3 R4 RM RB RZ RF hw7
            go_wp2
            exact bodyPost_ret (v := .tuple #[entV false false false false 0, .int .i64 5]) (by simp [results, Try.results53, go_sem, r0, r1, r2, r3, r4, hne]) rfl ⟨HRES.out, by repeat (first | with_reducible exact HB7 | with_reducible refine Below.drew ?_ | with_reducible refine Below.setCell ?_ (by first | with_reducible exact Nat.le_refl _ | (simp; done) | (simp; omega)) _)⟩
    · clear HVAL
      have hres : Ending.returned (.tuple #[entV false false false false 0, .int .i64 5]) = .returned (.tuple #[walkV n m r p, .int .i64 (walkC n m r p)]) := by
        have e : walkC n m r p = 5 := by rw [HWC.out]; unfold leafC entC; simp [ho]
        have e2 : walkV n m r p = entV false false false false 0 := by unfold walkV; rw [if_neg (by rw [e]; decide)]
        rw [e, e2]
      have HRES := Lib.hid hres
      clear hres ho
      go_wp2
      refine wp_region_keptQ V.heap.size V (by kernel_rfl) (by kernel_rfl) (KeptQ.refl (Nat.le_refl _)) ?_
      repeat (first
        | go_big_quiet_skip
        | (go_big_quiet_want; first
          | (refine quietQ_load_cell 4 _ rfl ⟨w2.heap.size, 0, none⟩ rfl _ R0.out _ Try.underlying4 rfl ?_; simp only [Act.put, List.setIfInBounds_toArray, List.set_cons_zero, List.set_cons_succ]; go_big_quiet_on)
          | (refine quietQ_load_cell 4 _ rfl ⟨w2.heap.size, 1, none⟩ rfl _ R1.out _ Try.underlying4 rfl ?_; simp only [Act.put, List.setIfInBounds_toArray, List.set_cons_zero, List.set_cons_succ]; go_big_quiet_on)
          | (refine quietQ_load_cell 3 _ rfl ⟨w2.heap.size, 4, none⟩ rfl _ R4.out _ Try.underlying3 rfl ?_; simp only [Act.put, List.setIfInBounds_toArray, List.set_cons_zero, List.set_cons_succ]; go_big_quiet_on)
          | (go_big_quiet_op; first
            | go_big_quiet_on
            | (refine ⟨_, fun _ _ => rfl, ?_⟩; go_big_quiet_on)
            | go_big_quiet_call ((intro hw; first
              | (go_at_call 33; refine (rframes_any _ b g n c m (RM.out _ hw)).mono ?_; rintro e w7 ⟨rfl, rfl⟩; exact ⟨rfl, hw⟩))))))
      refine wpQuiet_nil ?_
      intro w7 hw7
      have z0 := R0.out _ hw7
      have z1 := R1.out _ hw7
      have z2 := R2.out _ hw7
      have z3 := R3.out _ hw7
      have z4 := R4.out _ hw7
      obtain ⟨r0, r1, r2, r3, r4⟩ := RZ.out _ hw7
      have g0 := RF.out _ hw7 0
      have g1 := RF.out _ hw7 1
      have g2 := RF.out _ hw7 2
      have g3 := RF.out _ hw7 3
      have g4 := RF.out _ hw7 4
      have HB7 := RB.out _ hw7
      have hz7 : w.heap.size < w7.heap.size := Nat.lt_of_lt_of_le hzV hw7.1.size
      clear R0 R1 R2 R3 R4 RM RB RZ RF hw7
      go_wp2
      exact bodyPost_ret (v := .tuple #[entV false false false false 0, .int .i64 5]) (by simp [results, Try.results53, go_sem, r0, r1, r2, r3, r4, hne]) rfl ⟨HRES.out, by repeat (first | with_reducible exact HB7 | with_reducible refine Below.drew ?_ | with_reducible refine Below.setCell ?_ (by first | with_reducible exact Nat.le_refl _ | (simp; done) | (simp; omega)) _)⟩
  · have hz : (c0 == 0) = false := beq_eq_false_iff_ne.2 h0
    have hres : Ending.returned (.tuple #[entV false false false false 0, .int .i64 c0]) = .returned (.tuple #[walkV n m r p, .int .i64 (walkC n m r p)]) := by
      have e : walkC n m r p = c0 := by unfold walkC; rw [hac]; simp only; rw [if_neg h0]
      have e2 : walkV n m r p = entV false false false false 0 := by unfold walkV; rw [if_neg (by rw [e]; exact h0)]
      rw [e, e2]
    have HRES := Lib.hid hres
    clear hres h0 hac hM hhd hlb hlg
    go_enter Try.func53, Try.ntmps53
    go_wp2_with (first
      | (go_at_call 59; refine (rat_gen _ b g n c m r p 3 (HM.out.call (bal (Below.refl _ _) _))).mono ?_; rw [HAC.out]; rintro e w1 ⟨rfl, hb1⟩; obtain ⟨hc1, hf1⟩ := bcell hb1; have hz1 : w.heap.size < w1.heap.size := (by have := hb1.size; simp at this; omega)))
    have r0 : w1.cell? ⟨w.heap.size, 0, none⟩ = some (.bool false) := (hc1 _ _ (by simp)).trans (by rw [cellE]; rfl)
    have r1 : w1.cell? ⟨w.heap.size, 1, none⟩ = some (.bool false) := (hc1 _ _ (by simp)).trans (by rw [cellE]; rfl)
    have r2 : w1.cell? ⟨w.heap.size, 2, none⟩ = some (.bool false) := (hc1 _ _ (by simp)).trans (by rw [cellE]; rfl)
    have r3 : w1.cell? ⟨w.heap.size, 3, none⟩ = some (.bool false) := (hc1 _ _ (by simp)).trans (by rw [cellE]; rfl)
    have r4 : w1.cell? ⟨w.heap.size, 4, none⟩ = some (.int .i64 0) := (hc1 _ _ (by simp)).trans (by rw [cellE]; rfl)
    exact bodyPost_ret (v := .tuple #[entV false false false false 0, .int .i64 c0]) (by simp [results, Try.results53, go_sem, r0, r1, r2, r3, r4, hz1, Nat.ne_of_lt hz1]) rfl ⟨HRES.out, by repeat (first | with_reducible exact Below.refl _ _ | with_reducible refine Below.drew ?_ | with_reducible refine Below.setCell ?_ (by first | with_reducible exact Nat.le_refl _ | (simp; done) | (simp; omega)) _ | with_reducible refine bal ?_ _ | with_reducible refine bgo ?_ (by assumption))⟩
end Go.Proofs.Ytgfidbjhihignaa
