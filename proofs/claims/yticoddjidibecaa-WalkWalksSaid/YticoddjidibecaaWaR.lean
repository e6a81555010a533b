/- Chapter 5's own answer: At. -/
import Derived.Test.YticoddjidibecaaWa8
import Derived.Deep.RegionHeld3
import Derived.Test.YticoddjidibecaaKq
namespace Go.Proofs.Yticoddjidibecaa
set_option linter.unusedVariables false
set_option linter.unusedSimpArgs false
open Go.ChangeShapes Go.WideShapes Go.ChangeAt Go.RowKit Go.Shelf

theorem decR_y (w : Nat) (W : World) (hw : w < 2 ^ 64) (h : okB w = true) : Calls Try.prog 29 #[.int .u64 w] W fun e W' =>
    e = .returned (.tuple #[entV (w.testBit 0) (w.testBit 1) (w.testBit 2) (w.testBit 3) ((w / 256 % 64 : Nat) : Int), .int .i64 0]) ∧ Below W.heap.size W W' := decR_both_yes w W hw (okB_iff.1 h)
theorem decR_n (w : Nat) (W : World) (hw : w < 2 ^ 64) (h : okB w = false) : Calls Try.prog 29 #[.int .u64 w] W fun e W' =>
    e = .returned (.tuple #[entV false false false false 0, .int .i64 5]) ∧ Below W.heap.size W W' := decR_both_no w W hw (fun h' => by have := okB_iff.2 h'; rw [h] at this; cases this)
theorem decR_gen (w : Nat) (hw : w < 2 ^ 64) : ∃ (v l r x : Bool) (f cd : Int), (∀ W : World, Calls Try.prog 29 #[.int .u64 w] W fun e W' => e = .returned (.tuple #[entV v l r x f, .int .i64 cd]) ∧ Below W.heap.size W W') ∧
    ((okB w = true ∧ cd = 0 ∧ v = w.testBit 0 ∧ l = w.testBit 1 ∧ r = w.testBit 2 ∧ x = w.testBit 3 ∧ f = ((w / 256 % 64 : Nat) : Int)) ∨ (okB w = false ∧ cd = 5 ∧ v = false ∧ l = false ∧ r = false ∧ x = false ∧ f = 0)) := by
  cases h : okB w with
  | true => exact ⟨_, _, _, _, _, 0, fun W => decR_y w W hw h, .inl ⟨rfl, rfl, rfl, rfl, rfl, rfl, rfl⟩⟩
  | false => exact ⟨_, _, _, _, _, 5, fun W => decR_n w W hw h, .inr ⟨rfl, rfl, rfl, rfl, rfl, rfl, rfl⟩⟩
theorem Kept.set {n d j : Nat} {a b : World} (h : Kept n a b) (hd : n ≤ d) (v : Value) : Kept n a (b.setCell ⟨d, j, none⟩ v) := ⟨Below.setCell h.1 hd v, by simpa using h.2⟩
theorem ent_set {W : World} {q : Nat} {u0 u1 u2 u3 u4 : Value} (c0 : W.cell? ⟨q, 0, none⟩ = some u0) (c1 : W.cell? ⟨q, 1, none⟩ = some u1) (c2 : W.cell? ⟨q, 2, none⟩ = some u2) (c3 : W.cell? ⟨q, 3, none⟩ = some u3) (c4 : W.cell? ⟨q, 4, none⟩ = some u4) (v l r x : Bool) (f : Int) :
    EntAt (((((W.setCell ⟨q, 0, none⟩ (.bool v)).setCell ⟨q, 1, none⟩ (.bool l)).setCell ⟨q, 2, none⟩ (.bool r)).setCell ⟨q, 3, none⟩ (.bool x)).setCell ⟨q, 4, none⟩ (.int .i64 f)) q v l r x f := by
  refine ⟨?_, ?_, ?_, ?_, ?_⟩ <;> simp [go_sem, c0, c1, c2, c3, c4]
theorem below_set5 {A W : World} {B q : Nat} (h : Below B A W) (hq : B ≤ q) (v0 v1 v2 v3 v4 : Value) : Below B A (((((W.setCell ⟨q, 0, none⟩ v0).setCell ⟨q, 1, none⟩ v1).setCell ⟨q, 2, none⟩ v2).setCell ⟨q, 3, none⟩ v3).setCell ⟨q, 4, none⟩ v4) :=
  ((((h.setCell hq _).setCell hq _).setCell hq _).setCell hq _).setCell hq _
/-- What the rest of a round needs of the world behind Decode. -/
def After (w : World) (b g n c : Nat) (m : Nat → Int) (q : Nat) (v l r x : Bool) (f : Int) (V : World) : Prop := EntAt V q v l r x f ∧ RefAt V b g n c m ∧ Below w.heap.size w V
theorem after_a {w wr w3 : World} {b g n c : Nat} {m : Nat → Int} {v l r x : Bool} {f : Int} (hM : RefAt wr b g n c m) (hB : Below w.heap.size w wr) (hb3 : Below wr.drew.heap.size wr.drew w3) :
    After w b g n c m w3.heap.size v l r x f (w3.alloc (.cells #[.bool v, .bool l, .bool r, .bool x, .int .i64 f] 38)) := by
  have h1 : Below wr.heap.size wr w3 := ⟨hb3.os, hb3.tape, hb3.output, hb3.size, hb3.block⟩
  exact ⟨ent_new w3 v l r x f, hM.call (bal h1 _), bgo hB (bal h1 _)⟩
theorem after_b {w wr w3 : World} {b g n c : Nat} {m : Nat → Int} {v l r x : Bool} {f : Int} (hM : RefAt wr b g n c m) (hB : Below w.heap.size w wr) (hb3 : Below (wr.alloc (.cells #[.bool false, .bool false, .bool false, .bool false, .int .i64 0] 38)).drew.heap.size (wr.alloc (.cells #[.bool false, .bool false, .bool false, .bool false, .int .i64 0] 38)).drew w3) :
    After w b g n c m wr.heap.size v l r x f (((((w3.setCell ⟨wr.heap.size, 0, none⟩ (.bool v)).setCell ⟨wr.heap.size, 1, none⟩ (.bool l)).setCell ⟨wr.heap.size, 2, none⟩ (.bool r)).setCell ⟨wr.heap.size, 3, none⟩ (.bool x)).setCell ⟨wr.heap.size, 4, none⟩ (.int .i64 f)) := by
  have h0 : Below (wr.alloc (.cells #[.bool false, .bool false, .bool false, .bool false, .int .i64 0] 38)).heap.size (wr.alloc (.cells #[.bool false, .bool false, .bool false, .bool false, .int .i64 0] 38)) w3 := ⟨hb3.os, hb3.tape, hb3.output, hb3.size, hb3.block⟩
  have h1 : Below wr.heap.size wr w3 := bgo (bal (Below.refl _ _) _) h0
  obtain ⟨e0, e1, e2, e3, e4⟩ := (ent_new wr false false false false 0).keep (by simp) h0
  have h2 := below_set5 h1 (Nat.le_refl _) (.bool v) (.bool l) (.bool r) (.bool x) (.int .i64 f)
  exact ⟨ent_set e0 e1 e2 e3 e4 v l r x f, hM.call h2, bgo hB h2⟩
theorem holdR {a d : World} {b g k : Nat} {v0 v1 : Value} (hb : b < a.heap.size) (hg : g < a.heap.size) (q0 : a.cell? ⟨b, 0, none⟩ = some v0) (q1 : a.cell? ⟨g, k, none⟩ = some v1) (h : Kept a.heap.size a d) :
    d.cell? ⟨b, 0, none⟩ = some v0 ∧ d.cell? ⟨g, k, none⟩ = some v1 ∧ b < d.heap.size ∧ g < d.heap.size ∧ a.heap.size ≤ d.heap.size ∧ Below a.heap.size a d := ⟨h.cell hb q0, h.cell hg q1, h.lt hb, h.lt hg, h.2, h.1⟩
set_option maxRecDepth 100000 in
set_option maxHeartbeats 4000000 in
theorem rat_ok (w : World) (b g n c : Nat) (m : Nat → Int) (r L : Nat) (p : Int) (hM : RefAt w b g n c m) (hr : r < n) (p0 : 0 ≤ p) (p1 : p < 512) (l1 : 1 ≤ L) (l3 : L ≤ 3) :
    Calls Try.prog 10 #[.pointer (some ⟨b, 0, none⟩), .int .i64 r, .int .i64 p, .int .i64 L] w fun e w' => e = .returned (.tuple #[.int .u64 (descF n m p (L - 1) 1 r).1, .int .i64 (descF n m p (L - 1) 1 r).2]) ∧ Below w.heap.size w w' := by
  obtain ⟨⟨ra, rc⟩, hdr⟩ : ∃ z, descF n m p (L - 1) 1 r = z := ⟨_, rfl⟩
  rw [hdr]
  have HDR := Lib.hid hdr
  clear hdr
  have HM := Lib.hid hM
  have hb := hM.lb
  have hr' : (r : Int) < n := by omega
  have l1' : 1 ≤ (L : Int) := by omega
  have l3' : (L : Int) ≤ 3 := by omega
  have hM64 : n ≤ 64 := hM.n64
  have HL1 := Lib.hid l1
  have HL3 := Lib.hid l3
  have HR := Lib.hid hr
  clear hM l1 l3 hr
  go_enter Try.func10, Try.ntmps10
  go_wp2_with (first
    | (go_at_call 28; refine (rframes_any _ b g n c m HM.out).mono ?_; rintro e w1 ⟨rfl, rfl⟩))
  have hrn : r < n := HR.out
  simp only [show decide ((r : Int) < 0) = false from decide_eq_false (by omega), show decide (n ≤ r) = false from decide_eq_false (by omega), show decide (p < 0) = false from decide_eq_false (by omega), show decide (512 ≤ p) = false from decide_eq_false (by omega), show decide ((L : Int) < 1) = false from decide_eq_false (by omega), show decide (3 < (L : Int)) = false from decide_eq_false (by omega), Bool.or_false, Bool.false_or]
  clear hrn
  go_loopw [10, 11] (fun tt i wr => ∃ k t : Nat, 1 ≤ k ∧ k ≤ L ∧ t < n ∧ tt = .int .i64 t ∧ i = .int .i64 k ∧ descF n m p (L - k) k t = (ra, rc) ∧ Hid (RefAt wr b g n c m) ∧ Below w.heap.size w wr) (fun _ i _ => L - (intOf i).toNat)
  case atStart => exact ⟨1, r, by omega, HL1.out, HR.out, rfl, rfl, HDR.out, HM, Below.refl _ _⟩
  case round =>
    obtain ⟨k, t, k1, kL, ht, rfl, rfl, hd, HMr, hB⟩ := hrel
    have HD := Lib.hid hd
    clear hd
    obtain ⟨i0, i1⟩ := indexN_bd p (k : Int) p0 p1
    obtain ⟨i, hi⟩ : ∃ i, indexN p (k : Int) = i := ⟨_, rfl⟩
    rw [hi] at i0 i1
    have HI := Lib.hid hi
    have ht64 : (t : Int) < 64 := by omega
    by_cases hlt : k < L
    · have hlt' : (k : Int) < L := by omega
      have hk : 8 * t + i.toNat < 8 * n := by omega
      have hcell := HMr.out.cells _ hk
      have hword := HMr.out.word (8 * t + i.toNat)
      have hhd := HMr.out.hd
      have hlb := HMr.out.lb
      have hlg := HMr.out.lg
      obtain ⟨x, hx⟩ : ∃ x, (m (8 * t + i.toNat)).toNat = x := ⟨_, rfl⟩
      obtain ⟨hx1, hx2⟩ := word_nat hword
      rw [hx] at hx1 hx2
      rw [hx1] at hcell
      have HX := Lib.hid hx
      have a0 : 0 ≤ 8 * (t : Int) + i := by omega
      have a1 : 8 * (t : Int) + i < ((8 * n : Nat) : Int) := by omega
      have a2 : (8 * (t : Int) + i).toNat = 8 * t + i.toNat := by omega
      have a3 : 8 * (t : Int) + i < 8 * (n : Int) := by omega
      have a4 : IntKind.i64.wrap (8 * (t : Int) + i) = 8 * (t : Int) + i := IntWalk.i64_in _ (by omega)
      have a5 : IntKind.i64.wrap (8 * (t : Int)) = 8 * (t : Int) := IntWalk.i64_in _ (by omega)
      have HK3 : Hid (1 ≤ (k : Int) ∧ (k : Int) ≤ 3) := Lib.hid (by omega)
      clear hx1 hx hword hi
      obtain ⟨v, l, rr, xx, f, cd, hdec, hval⟩ := decR_gen x hx2
      have HDEC := Lib.hid hdec
      have HVAL := Lib.hid hval
      have hK0 : Kept wr.heap.size wr wr := Kept.refl (Nat.le_refl _)
      have hstep : (ra, rc) = if nextC n x = 0 then descF n m p (L - (k + 1)) (k + 1) (x / 256 % 64) else (0, nextC n x) := by
        rw [← HD.out]
        obtain ⟨j, hj⟩ : ∃ j, L - k = j + 1 := ⟨L - k - 1, by omega⟩
        rw [hj, show L - (k + 1) = j by omega]
        show (if nextC n (m (8 * t + (indexN p (k : Int)).toNat)).toNat = 0 then _ else _) = _
        rw [HI.out, HX.out]
      have HST := Lib.hid hstep
      clear hdec hval a0 a1 a2 a3 a4 a5 hstep
      have a0 : 0 ≤ 8 * (t : Int) + i := by omega
      have a1 : 8 * (t : Int) + i < ((8 * n : Nat) : Int) := by omega
      have a2 : (8 * (t : Int) + i).toNat = 8 * t + i.toNat := by omega
      have a3 : 8 * (t : Int) + i < 8 * (n : Int) := by omega
      have a4 : IntKind.i64.wrap (8 * (t : Int) + i) = 8 * (t : Int) + i := IntWalk.i64_in _ (by omega)
      have a5 : IntKind.i64.wrap (8 * (t : Int)) = 8 * (t : Int) := IntWalk.i64_in _ (by omega)
      go_wp2
      go_region_held3 (fun w' => w'.cell? ⟨b, 0, none⟩ = some (.slice (some ⟨g, 0, none⟩) (8 * n) c) ∧ w'.cell? ⟨g, 8 * t + i.toNat, none⟩ = some (.int .u64 x) ∧ b < w'.heap.size ∧ g < w'.heap.size ∧ wr.heap.size ≤ w'.heap.size ∧ Below wr.heap.size wr w')
        (first | (refine holdR hlb hlg hhd hcell ?_; repeat (first | with_reducible exact hK0 | with_reducible refine Kept.drew ?_ | with_reducible refine Kept.drewN ?_ _ | with_reducible refine Kept.alloc ?_ _ | with_reducible refine Kept.set ?_ (by first | (simp; done) | (simp; omega)) _ | with_reducible refine Kept.call ?_ (by assumption))))
        (first
          | (go_at_call 30; with_reducible refine (indexR_yes p k _ p0 p1 HK3.out.1 HK3.out.2).mono ?_; rw [HI.out]; rintro e w2 ⟨rfl, rfl⟩)
          | (go_at_call 29; with_reducible refine (HDEC.out _).mono ?_; rintro e w3 ⟨rfl, hb3⟩; obtain ⟨hc3, hf3⟩ := bcell hb3; (try (have hz3 : wr.heap.size < w3.heap.size := (by have := hb3.size; simp at this; omega)))))
      all_goals clear a0 a1 a2 a3 a4 a5 hK0 hhd hcell
      all_goals (first
        | (have HAF := Lib.hid (after_a (v := v) (l := l) (r := rr) (x := xx) (f := f) HMr.out hB hb3); generalize (w3.alloc (.cells #[.bool v, .bool l, .bool rr, .bool xx, .int .i64 f] 38)) = V at HAF ⊢; generalize w3.heap.size = Q at HAF ⊢)
        | (have HAF := Lib.hid (after_b (v := v) (l := l) (r := rr) (x := xx) (f := f) HMr.out hB hb3); generalize (((((w3.setCell ⟨wr.heap.size, 0, none⟩ (.bool v)).setCell ⟨wr.heap.size, 1, none⟩ (.bool l)).setCell ⟨wr.heap.size, 2, none⟩ (.bool rr)).setCell ⟨wr.heap.size, 3, none⟩ (.bool xx)).setCell ⟨wr.heap.size, 4, none⟩ (.int .i64 f)) = V at HAF ⊢; clear hz3; generalize wr.heap.size = Q at HAF ⊢))
      all_goals clear hb3 hc3 hf3
      all_goals (try clear hz3)
      all_goals
        obtain ⟨⟨y0, y1, y2, y3, y4⟩, hMV, hB2⟩ := HAF.out
        have hQ := World.block_lt_of_cell? V _ y0
        simp only at hQ
        have R0 := Lib.hid (fun w' (hw : KeptQ V.heap.size V w') => (hw.1.cell (p := ⟨Q, 0, none⟩) hQ).trans y0)
        have R1 := Lib.hid (fun w' (hw : KeptQ V.heap.size V w') => (hw.1.cell (p := ⟨Q, 1, none⟩) hQ).trans y1)
        have R4 := Lib.hid (fun w' (hw : KeptQ V.heap.size V w') => (hw.1.cell (p := ⟨Q, 4, none⟩) hQ).trans y4)
        have RM := Lib.hid (fun w' (hw : KeptQ V.heap.size V w') => hMV.call hw.1)
        have RB := Lib.hid (fun w' (hw : KeptQ V.heap.size V w') => bgo hB2 hw.1)
        clear hMV HAF y0 y1 y2 y3 y4 hQ
        rcases HVAL.out with ⟨ho, rfl, hv, hl, hrr, hxx, hff⟩ | ⟨ho, rfl, rfl, rfl, rfl, rfl, rfl⟩
        · clear HVAL hrr hxx
          cases v
          · have hT : (ra, rc) = ((0, 6) : Int × Int) := by
              have hc : nextC n x = 6 := by unfold nextC entC; simp [ho, ← hv]
              rw [HST.out, hc]; rfl
            obtain ⟨rfl, rfl⟩ := Prod.mk.inj hT
            clear hT ho hv hl HST HD
            go_wp2
            refine wp_region_keptQ V.heap.size V (by kernel_rfl) (by kernel_rfl) (KeptQ.refl (Nat.le_refl _)) ?_
            repeat (first
              | go_big_quiet_skip
              | (go_big_quiet_want; first
                | (refine quietQ_load_cell 4 _ rfl ⟨Q, 0, none⟩ rfl _ R0.out _ Try.underlying4 rfl ?_; simp only [Act.put, List.setIfInBounds_toArray, List.set_cons_zero, List.set_cons_succ]; go_big_quiet_on)
                | (refine quietQ_load_cell 4 _ rfl ⟨Q, 1, none⟩ rfl _ R1.out _ Try.underlying4 rfl ?_; simp only [Act.put, List.setIfInBounds_toArray, List.set_cons_zero, List.set_cons_succ]; go_big_quiet_on)
                | (refine quietQ_load_cell 3 _ rfl ⟨Q, 4, none⟩ rfl _ R4.out _ Try.underlying3 rfl ?_; simp only [Act.put, List.setIfInBounds_toArray, List.set_cons_zero, List.set_cons_succ]; go_big_quiet_on)
                | (go_big_quiet_op; first
                  | go_big_quiet_on
                  | (refine ⟨_, fun _ _ => rfl, ?_⟩; go_big_quiet_on)
                  | go_big_quiet_call ((intro hw; first
                    | (go_at_call 28; refine (rframes_any _ b g n c m (RM.out _ hw)).mono ?_; rintro e w7 ⟨rfl, rfl⟩; exact ⟨rfl, hw⟩))))))
            refine wpQuiet_nil ?_
            intro w7 hw7
            have z0 := R0.out _ hw7
            have z4 := R4.out _ hw7
            have HM7 := Lib.hid (RM.out _ hw7)
            have HB7 := Lib.hid (RB.out _ hw7)
            clear R0 R1 R4 RM RB hw7
            go_wp2
            go_ret2
            exact ⟨rfl, HB7.out⟩
          · cases l
            · by_cases hfn : x / 256 % 64 < n
              · have hfn' : f < (n : Int) := by omega
                have hT : (ra, rc) = descF n m p (L - (k + 1)) (k + 1) (x / 256 % 64) := by
                  have hc : nextC n x = 0 := by unfold nextC entC; simp [ho, ← hv, ← hl, hfn]
                  rw [HST.out, if_pos hc]
                have HT := Lib.hid hT
                have HFF := Lib.hid hff
                have HFN := Lib.hid hfn
                clear hT ho hv hl HST HD hff hfn
                go_wp2
                refine wp_region_keptQ V.heap.size V (by kernel_rfl) (by kernel_rfl) (KeptQ.refl (Nat.le_refl _)) ?_
                repeat (first
                  | go_big_quiet_skip
                  | (go_big_quiet_want; first
                    | (refine quietQ_load_cell 4 _ rfl ⟨Q, 0, none⟩ rfl _ R0.out _ Try.underlying4 rfl ?_; simp only [Act.put, List.setIfInBounds_toArray, List.set_cons_zero, List.set_cons_succ]; go_big_quiet_on)
                    | (refine quietQ_load_cell 4 _ rfl ⟨Q, 1, none⟩ rfl _ R1.out _ Try.underlying4 rfl ?_; simp only [Act.put, List.setIfInBounds_toArray, List.set_cons_zero, List.set_cons_succ]; go_big_quiet_on)
                    | (refine quietQ_load_cell 3 _ rfl ⟨Q, 4, none⟩ rfl _ R4.out _ Try.underlying3 rfl ?_; simp only [Act.put, List.setIfInBounds_toArray, List.set_cons_zero, List.set_cons_succ]; go_big_quiet_on)
                    | (go_big_quiet_op; first
                      | go_big_quiet_on
                      | (refine ⟨_, fun _ _ => rfl, ?_⟩; go_big_quiet_on)
                      | go_big_quiet_call ((intro hw; first
                        | (go_at_call 28; refine (rframes_any _ b g n c m (RM.out _ hw)).mono ?_; rintro e w7 ⟨rfl, rfl⟩; exact ⟨rfl, hw⟩))))))
                refine wpQuiet_nil ?_
                intro w7 hw7
                have z0 := R0.out _ hw7
                have z4 := R4.out _ hw7
                have HM7 := Lib.hid (RM.out _ hw7)
                have HB7 := Lib.hid (RB.out _ hw7)
                clear R0 R1 R4 RM RB hw7
                go_wp2
                go_roundw
                case rel => first | exact ⟨k + 1, x / 256 % 64, by omega, by omega, HFN.out, congrArg (Value.int IntKind.i64) HFF.out, by go_num, HT.out.symm, HM7, HB7.out⟩ | ((repeat apply Exists.intro); exact ⟨⟨k + 1, x / 256 % 64, by omega, by omega, HFN.out, congrArg (Value.int IntKind.i64) HFF.out, by go_num, HT.out.symm, HM7, HB7.out⟩, rfl⟩)
                case measure => simp [intOf]; omega
              · have hfn' : (n : Int) ≤ f := by omega
                have hT : (ra, rc) = ((0, 5) : Int × Int) := by
                  have hc : nextC n x = 5 := by unfold nextC entC; simp [ho, ← hv, ← hl, hfn]
                  rw [HST.out, hc]; rfl
                obtain ⟨rfl, rfl⟩ := Prod.mk.inj hT
                clear hT ho hv hl HST HD hff hfn
                go_wp2
                refine wp_region_keptQ V.heap.size V (by kernel_rfl) (by kernel_rfl) (KeptQ.refl (Nat.le_refl _)) ?_
                repeat (first
                  | go_big_quiet_skip
                  | (go_big_quiet_want; first
                    | (refine quietQ_load_cell 4 _ rfl ⟨Q, 0, none⟩ rfl _ R0.out _ Try.underlying4 rfl ?_; simp only [Act.put, List.setIfInBounds_toArray, List.set_cons_zero, List.set_cons_succ]; go_big_quiet_on)
                    | (refine quietQ_load_cell 4 _ rfl ⟨Q, 1, none⟩ rfl _ R1.out _ Try.underlying4 rfl ?_; simp only [Act.put, List.setIfInBounds_toArray, List.set_cons_zero, List.set_cons_succ]; go_big_quiet_on)
                    | (refine quietQ_load_cell 3 _ rfl ⟨Q, 4, none⟩ rfl _ R4.out _ Try.underlying3 rfl ?_; simp only [Act.put, List.setIfInBounds_toArray, List.set_cons_zero, List.set_cons_succ]; go_big_quiet_on)
                    | (go_big_quiet_op; first
                      | go_big_quiet_on
                      | (refine ⟨_, fun _ _ => rfl, ?_⟩; go_big_quiet_on)
                      | go_big_quiet_call ((intro hw; first
                        | (go_at_call 28; refine (rframes_any _ b g n c m (RM.out _ hw)).mono ?_; rintro e w7 ⟨rfl, rfl⟩; exact ⟨rfl, hw⟩))))))
                refine wpQuiet_nil ?_
                intro w7 hw7
                have z0 := R0.out _ hw7
                have z4 := R4.out _ hw7
                have HM7 := Lib.hid (RM.out _ hw7)
                have HB7 := Lib.hid (RB.out _ hw7)
                clear R0 R1 R4 RM RB hw7
                go_wp2
                go_ret2
                exact ⟨rfl, HB7.out⟩
            · have hT : (ra, rc) = ((0, 5) : Int × Int) := by
                have hc : nextC n x = 5 := by unfold nextC entC; by_cases hfn : x / 256 % 64 < n <;> simp [ho, ← hv, ← hl, hfn]
                rw [HST.out, hc]; rfl
              obtain ⟨rfl, rfl⟩ := Prod.mk.inj hT
              clear hT ho hv hl HST HD hff
              go_wp2
              refine wp_region_keptQ V.heap.size V (by kernel_rfl) (by kernel_rfl) (KeptQ.refl (Nat.le_refl _)) ?_
              repeat (first
                | go_big_quiet_skip
                | (go_big_quiet_want; first
                  | (refine quietQ_load_cell 4 _ rfl ⟨Q, 0, none⟩ rfl _ R0.out _ Try.underlying4 rfl ?_; simp only [Act.put, List.setIfInBounds_toArray, List.set_cons_zero, List.set_cons_succ]; go_big_quiet_on)
                  | (refine quietQ_load_cell 4 _ rfl ⟨Q, 1, none⟩ rfl _ R1.out _ Try.underlying4 rfl ?_; simp only [Act.put, List.setIfInBounds_toArray, List.set_cons_zero, List.set_cons_succ]; go_big_quiet_on)
                  | (refine quietQ_load_cell 3 _ rfl ⟨Q, 4, none⟩ rfl _ R4.out _ Try.underlying3 rfl ?_; simp only [Act.put, List.setIfInBounds_toArray, List.set_cons_zero, List.set_cons_succ]; go_big_quiet_on)
                  | (go_big_quiet_op; first
                    | go_big_quiet_on
                    | (refine ⟨_, fun _ _ => rfl, ?_⟩; go_big_quiet_on)
                    | go_big_quiet_call ((intro hw; first
                      | (go_at_call 28; refine (rframes_any _ b g n c m (RM.out _ hw)).mono ?_; rintro e w7 ⟨rfl, rfl⟩; exact ⟨rfl, hw⟩))))))
              refine wpQuiet_nil ?_
              intro w7 hw7
              have z0 := R0.out _ hw7
              have z4 := R4.out _ hw7
              have HM7 := Lib.hid (RM.out _ hw7)
              have HB7 := Lib.hid (RB.out _ hw7)
              clear R0 R1 R4 RM RB hw7
              go_wp2
              go_ret2
              exact ⟨rfl, HB7.out⟩
        · have hT : (ra, rc) = ((0, 5) : Int × Int) := by
            have hc : nextC n x = 5 := by unfold nextC entC; simp [ho]
            rw [HST.out, hc]; rfl
          obtain ⟨rfl, rfl⟩ := Prod.mk.inj hT
          clear hT ho HST HD HVAL
          go_wp2
          refine wp_region_keptQ V.heap.size V (by kernel_rfl) (by kernel_rfl) (KeptQ.refl (Nat.le_refl _)) ?_
          repeat (first
            | go_big_quiet_skip
            | (go_big_quiet_want; first
              | (refine quietQ_load_cell 4 _ rfl ⟨Q, 0, none⟩ rfl _ R0.out _ Try.underlying4 rfl ?_; simp only [Act.put, List.setIfInBounds_toArray, List.set_cons_zero, List.set_cons_succ]; go_big_quiet_on)
              | (refine quietQ_load_cell 4 _ rfl ⟨Q, 1, none⟩ rfl _ R1.out _ Try.underlying4 rfl ?_; simp only [Act.put, List.setIfInBounds_toArray, List.set_cons_zero, List.set_cons_succ]; go_big_quiet_on)
              | (refine quietQ_load_cell 3 _ rfl ⟨Q, 4, none⟩ rfl _ R4.out _ Try.underlying3 rfl ?_; simp only [Act.put, List.setIfInBounds_toArray, List.set_cons_zero, List.set_cons_succ]; go_big_quiet_on)
              | (go_big_quiet_op; first
                | go_big_quiet_on
                | (refine ⟨_, fun _ _ => rfl, ?_⟩; go_big_quiet_on)
                | go_big_quiet_call ((intro hw; first
                  | (go_at_call 28; refine (rframes_any _ b g n c m (RM.out _ hw)).mono ?_; rintro e w7 ⟨rfl, rfl⟩; exact ⟨rfl, hw⟩))))))
          refine wpQuiet_nil ?_
          intro w7 hw7
          have z0 := R0.out _ hw7
          have z4 := R4.out _ hw7
          have HM7 := Lib.hid (RM.out _ hw7)
          have HB7 := Lib.hid (RB.out _ hw7)
          clear R0 R1 R4 RM RB hw7
          go_wp2
          go_ret2
          exact ⟨rfl, HB7.out⟩
    · obtain rfl : k = L := by omega
      have hT : (ra, rc) = (64 * (t : Int) + 8 * i, (0 : Int)) := by
        rw [← HD.out, Nat.sub_self]
        show (64 * (t : Int) + 8 * indexN p (k : Int), (0 : Int)) = _
        rw [HI.out]
      obtain ⟨rfl, rfl⟩ := Prod.mk.inj hT
      have hL3 := HL3.out
      have hL1 := HL1.out
      clear hT HD
      go_wp2_with (first
        | (go_at_call 30; refine (indexR_yes p k _ p0 p1 (by omega) (by omega)).mono ?_; rw [HI.out]; rintro e w2 ⟨rfl, rfl⟩))
      go_ret2
      exact ⟨rfl, hB⟩
end Go.Proofs.Yticoddjidibecaa
