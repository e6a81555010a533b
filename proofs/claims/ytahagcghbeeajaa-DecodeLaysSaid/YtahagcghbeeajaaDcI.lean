/- Package decode: Encode. -/
import Derived.Test.YtahagcghbeeajaaDcG
import Derived.LoopN
namespace Go.Proofs.Ytahagcghbeeajaa
set_option linter.unusedVariables false
set_option linter.unusedSimpArgs false
open Go.ChangeShapes Go.WideShapes Go.ChangeAt Go.RowKit Go.Shelf

theorem eq6 (a b c d e f a' b' c' d' e' f' : Int) (w : World) : (Op.equalIn 9999 23 (.agg #[.int .u64 a, .int .u64 b, .int .u64 c, .int .u64 d, .int .u64 e, .int .u64 f]) (.agg #[.int .u64 a', .int .u64 b', .int .u64 c', .int .u64 d', .int .u64 e', .int .u64 f'])).run Try.prog w = .ok (a == a' && (b == b' && (c == c' && (d == d' && (e == e' && f == f'))))) w := by
  obtain ⟨i, hi⟩ : ∃ i, Try.prog.info? 22 = some i := Option.isSome_iff_exists.1 (by kernel_rfl)
  have hc : Try.prog.cellsOf 22 = 1 := by kernel_rfl
  rw [run_equalIn_array (P := Try.prog) w 9998 _ _ Try.underlying23 hi]
  simp [Op.eqItems, hc, go_sem, List.range, List.range.loop]
  repeat (split <;> simp_all)
attribute [go_sem] eq6
def eqCB (n m : Int) (a b : Nat → Int) : Bool := decide (n = m ∧ a 0 = b 0 ∧ a 1 = b 1 ∧ a 2 = b 2 ∧ a 3 = b 3 ∧ a 4 = b 4 ∧ a 5 = b 5)
theorem eqCB_iff (n m : Int) (a b : Nat → Int) : eqCB n m a b = true ↔ n = m ∧ ∀ i, i < 6 → a i = b i := by
  unfold eqCB
  rw [decide_eq_true_iff]
  constructor
  · rintro ⟨h, h0, h1, h2, h3, h4, h5⟩
    refine ⟨h, fun i hi => ?_⟩
    obtain rfl | rfl | rfl | rfl | rfl | rfl : i = 0 ∨ i = 1 ∨ i = 2 ∨ i = 3 ∨ i = 4 ∨ i = 5 := by omega
    all_goals assumption
  · rintro ⟨h, h'⟩
    exact ⟨h, h' 0 (by decide), h' 1 (by decide), h' 2 (by decide), h' 3 (by decide), h' 4 (by decide), h' 5 (by decide)⟩
set_option maxHeartbeats 1000000 in
theorem eqC (n m : Int) (a b : Nat → Int) (w : World) : (binOp .eql 25 (.agg #[.int .u64 n, .int .u64 (a 0), .int .u64 (a 1), .int .u64 (a 2), .int .u64 (a 3), .int .u64 (a 4), .int .u64 (a 5)]) (.agg #[.int .u64 m, .int .u64 (b 0), .int .u64 (b 1), .int .u64 (b 2), .int .u64 (b 3), .int .u64 (b 4), .int .u64 (b 5)])).run Try.prog w = .ok (.bool (eqCB n m a b)) w := by
  unfold eqCB
  go_simp
  repeat (split <;> simp_all)
theorem neq_of_eql (t : TypeId) (xs ys : Array Value) (w : World) (b : Bool) (hg : Try.prog.eqGuardType 10000 t = false) (h : (binOp .eql t (.agg xs) (.agg ys)).run Try.prog w = .ok (.bool b) w) : (binOp .neq t (.agg xs) (.agg ys)).run Try.prog w = .ok (.bool (!b)) w := by
  rw [run_eql_struct] at h
  rw [run_neq_struct]
  cases hr : (Op.equalIn 10000 t (.agg xs) (.agg ys)).run Try.prog w with
  | ok r w1 =>
    rw [hr] at h
    simp only [Result.andThen_ok] at h ⊢
    cases h
    rfl
  | halt c w1 =>
    rw [hr] at h
    cases h
theorem neC (n m : Int) (a b : Nat → Int) (w : World) : (binOp .neq 25 (.agg #[.int .u64 n, .int .u64 (a 0), .int .u64 (a 1), .int .u64 (a 2), .int .u64 (a 3), .int .u64 (a 4), .int .u64 (a 5)]) (.agg #[.int .u64 m, .int .u64 (b 0), .int .u64 (b 1), .int .u64 (b 2), .int .u64 (b 3), .int .u64 (b 4), .int .u64 (b 5)])).run Try.prog w = .ok (.bool (!eqCB n m a b)) w := neq_of_eql _ _ _ w _ (by kernel_rfl) (eqC n m a b w)
theorem neO (o p : Nat → Int) (w : World) : (binOp .neq 29 (.agg #[.int .i64 (o 0), .int .i64 (o 1), .int .i64 (o 2), .int .i64 (o 3), .int .i64 (o 4), .int .i64 (o 5), .int .i64 (o 6), .int .u64 (o 7), .int .u64 (o 8), .int .u64 (o 9), .int .u64 (o 10), .int .u64 (o 11)]) (.agg #[.int .i64 (p 0), .int .i64 (p 1), .int .i64 (p 2), .int .i64 (p 3), .int .i64 (p 4), .int .i64 (p 5), .int .i64 (p 6), .int .u64 (p 7), .int .u64 (p 8), .int .u64 (p 9), .int .u64 (p 10), .int .u64 (p 11)])).run Try.prog w = .ok (.bool (!eqB o p)) w := neq_of_eql _ _ _ w _ (by kernel_rfl) (eqO o p w)
theorem get_any (w : World) (o : Nat → Int) (to : Nat) (h0 : to ≠ 0) (h1 : to < 12) :
    Calls Try.prog 22 #[.agg (ordA o), .int .i64 to] w fun e w' => e = .returned (.int .u64 (getF to o)) ∧ Below w.heap.size w w' := by
  obtain rfl | rfl | rfl | rfl | rfl | rfl | rfl | rfl | rfl | rfl | rfl : to = 1 ∨ to = 2 ∨ to = 3 ∨ to = 4 ∨ to = 5 ∨ to = 6 ∨ to = 7 ∨ to = 8 ∨ to = 9 ∨ to = 10 ∨ to = 11 := by omega
  · exact get_1 w o
  · exact get_2 w o
  · exact get_3 w o
  · exact get_4 w o
  · exact get_5 w o
  · exact get_6 w o
  · exact get_7 w o
  · exact get_8 w o
  · exact get_9 w o
  · exact get_10 w o
  · exact get_11 w o
def formL (n : Nat) : List Frm := (formsL n).getD []
theorem formL_ok (n : Nat) : (formL n).length ≤ 6 ∧ ∀ i < (formL n).length, (fmAt (formL n) i).1 ≠ 0 ∧ (fmAt (formL n) i).1 < 12 := by
  unfold formL
  cases h : formsL n with
  | none => exact ⟨by simp, fun i hi => by simp at hi⟩
  | some L =>
    refine ⟨fm_len n L h, fun i hi => ⟨?_, forms_lt n L h i (by have := fm_len n L h; simp at hi; omega)⟩⟩
    simp only [Option.getD_some] at hi ⊢
    revert i
    unfold formsL at h
    split at h
    all_goals first
      | (cases h; done)
      | (cases h; decide)
theorem forms_any (n : Nat) (w : World) : Calls Try.prog 14 #[.int .u64 n] w fun e w' => ∃ ao c, e = .returned (.slice ao (formL n).length c) ∧ (∀ i f, (formL n)[i]? = some f → ∃ q, ao = some ⟨q, 0, none⟩ ∧ q < w'.heap.size ∧ w'.cell? ⟨q, 3 * i, none⟩ = some (.int .i64 f.1) ∧ w'.cell? ⟨q, 3 * i + 1, none⟩ = some (.int .u64 f.2.1) ∧ w'.cell? ⟨q, 3 * i + 2, none⟩ = some (.int .u64 f.2.2)) ∧ Below w.heap.size w w' := by
  cases h : formsL n with
  | none =>
    have e : formL n = [] := by unfold formL; rw [h]; rfl
    rw [e]
    exact (forms_no n n rfl h w).mono fun _ _ ⟨he, hb⟩ => ⟨none, 0, he, fun i f hf => by simp at hf, hb⟩
  | some L =>
    have e : formL n = L := by unfold formL; rw [h]; rfl
    rw [e]
    refine (forms_some n n L rfl h w).mono ?_
    rintro _ w' ⟨v, he, ⟨q, c, rfl, hc, hq, hcs⟩, hb⟩
    exact ⟨_, c, he, fun i f hf => ⟨q, rfl, hq, hcs i f hf⟩, hb⟩
/-- The words of an order. -/
def encA (L : List Frm) (o : Nat → Int) (k : Nat) (i : Nat) : Int := if i < k then getF (fmAt L i).1 o else 0
theorem encA_0 (L : List Frm) (o : Nat → Int) : encA L o 0 = zW := funext fun i => if_neg (Nat.not_lt_zero i)
theorem encA_s (L : List Frm) (o : Nat → Int) (k : Nat) : up (encA L o k) k (getF (fmAt L k).1 o) = encA L o (k + 1) := funext fun i => by
  unfold up encA
  by_cases h : i = k
  · subst h; rw [if_pos rfl, if_pos (Nat.lt_succ_self _)]
  · rw [if_neg h]
    by_cases h2 : i < k
    · rw [if_pos h2, if_pos (by omega)]
    · rw [if_neg h2, if_neg (by omega)]
def opN (o : Nat → Int) : Nat := (IntKind.u64.wrap (o 0)).toNat
def wordsO (o : Nat → Int) : Nat → Int := encA (formL (opN o)) o (formL (opN o)).length
/-- What Encode answers: an Op, words and a code. -/
def encM (o : Nat → Int) : (Int × (Nat → Int)) × Int :=
  if (decM (opN o) (wordsO o)).2 = 0 ∧ eqB (decM (opN o) (wordsO o)).1 o = true then ((opN o, wordsO o), 0) else ((0, zW), 5)
theorem three_boxes (w w2 : World) (o : Nat → Int) (n : Nat) (B : Nat) (hB : w.heap.size = B) (h : w2 = (((w.alloc (.cells (ordA o) 29)).alloc (.cells #[.int .u64 0, .int .u64 0, .int .u64 0, .int .u64 0, .int .u64 0, .int .u64 0, .int .u64 0] 25)).alloc (.cells #[.int .u64 n, .int .u64 0, .int .u64 0, .int .u64 0, .int .u64 0, .int .u64 0, .int .u64 0] 25))) : OrdAt w2 B o ∧ CallAt w2 (B + 1) 0 zW ∧ CallAt w2 (B + 1 + 1) n zW ∧ w2.heap.size = B + 3 ∧ Below w.heap.size w w2 := by
  subst hB
  have e1 := World.size_alloc w (.cells (ordA o) 29)
  have e2 := World.size_alloc (w.alloc (.cells (ordA o) 29)) (.cells #[.int .u64 0, .int .u64 0, .int .u64 0, .int .u64 0, .int .u64 0, .int .u64 0, .int .u64 0] 25)
  have n1 : CallAt ((w.alloc (.cells (ordA o) 29)).alloc (.cells #[.int .u64 0, .int .u64 0, .int .u64 0, .int .u64 0, .int .u64 0, .int .u64 0, .int .u64 0] 25)) _ 0 zW := World.alloc_heap_new (w.alloc (.cells (ordA o) 29)) (.cells #[.int .u64 0, .int .u64 0, .int .u64 0, .int .u64 0, .int .u64 0, .int .u64 0, .int .u64 0] 25)
  have n2 : CallAt (((w.alloc (.cells (ordA o) 29)).alloc (.cells #[.int .u64 0, .int .u64 0, .int .u64 0, .int .u64 0, .int .u64 0, .int .u64 0, .int .u64 0] 25)).alloc (.cells #[.int .u64 n, .int .u64 0, .int .u64 0, .int .u64 0, .int .u64 0, .int .u64 0, .int .u64 0] 25)) _ n zW := World.alloc_heap_new _ _
  rw [e1] at n1
  rw [e2, e1] at n2
  refine ⟨?_, ?_, ?_, ?_, ?_⟩
  · rw [h]; exact alloc_old (alloc_old (ord_new w o) (by rw [e1]; omega)) (by rw [e2, e1]; omega)
  · rw [h]; exact alloc_old n1 (by rw [e2, e1]; omega)
  · rw [h]; exact n2
  · rw [h, World.size_alloc, e2, e1]
  · rw [h]; exact bal (bal (bal (Below.refl _ _) _) _) _
structure EncI (w w3 wr : World) (B q n : Nat) (o : Nat → Int) (L : List Frm) (k : Nat) : Prop where
  ord : OrdAt wr B o
  res : CallAt wr (B + 1) 0 zW
  cal : CallAt wr (B + 1 + 1) n (encA L o k)
  blk : wr.heap[q]? = w3.heap[q]?
  siz : w3.heap.size ≤ wr.heap.size
  bel : Below w.heap.size w wr
set_option maxRecDepth 100000 in
set_option maxHeartbeats 2000000 in
theorem encode_any (o : Nat → Int) (w : World) :
    Calls Try.prog 11 #[.agg (ordA o)] w fun e w' => e = .returned (.tuple #[.agg (callA (encM o).1.1 (encM o).1.2), .int .i64 (encM o).2]) ∧ Below w.heap.size w w' := by
  obtain ⟨n, hn⟩ : ∃ n, opN o = n := ⟨_, rfl⟩
  have hnw : IntKind.u64.wrap (o 0) = n := by rw [← hn]; unfold opN; rw [IntKind.wrap_u64]; omega
  obtain ⟨L, hL⟩ : ∃ L, formL n = L := ⟨_, rfl⟩
  obtain ⟨hl6, hlp⟩ := formL_ok n
  have hfo := forms_any n
  rw [hL] at hl6 hlp hfo
  have HLP := Lib.hid hlp
  have HFO := Lib.hid hfo
  have hzc : ∀ w, (zeroValue 25).run Try.prog w = .ok (.agg #[.int .u64 0, .int .u64 0, .int .u64 0, .int .u64 0, .int .u64 0, .int .u64 0, .int .u64 0]) w := zeroCall
  have ho0 : (ordA o)[0]? = some (.int .i64 (o 0)) := rfl
  have HEM : Hid (encM o = if (decM n (encA L o L.length)).2 = 0 ∧ eqB (decM n (encA L o L.length)).1 o = true then (((n : Int), encA L o L.length), (0 : Int)) else ((0, zW), 5)) := Lib.hid (by
    unfold encM wordsO
    rw [hn, hL])
  clear hlp hfo hL hn
  go_enter Try.func11, Try.ntmps11
  go_upto_region 2 with fail
  obtain ⟨B, hB⟩ : ∃ B, w.heap.size = B := ⟨_, rfl⟩
  obtain ⟨w2, hw2⟩ : ∃ x, x = (((w.alloc (.cells (ordA o) 29)).alloc (.cells #[.int .u64 0, .int .u64 0, .int .u64 0, .int .u64 0, .int .u64 0, .int .u64 0, .int .u64 0] 25)).alloc (.cells #[.int .u64 n, .int .u64 0, .int .u64 0, .int .u64 0, .int .u64 0, .int .u64 0, .int .u64 0] 25)) := ⟨_, rfl⟩
  rw [← hw2]
  obtain ⟨o2, r2, c2, s2, b2⟩ := three_boxes w w2 o n B hB hw2
  rw [hB]
  have c20 : w2.cell? ⟨B + 1 + 1, 0, none⟩ = some (.int .u64 n) := row_cell c2 0
  clear hw2
  go_wp2_with (first
    | (go_at_call 14; refine (HFO.out _).mono ?_; rintro e w3 ⟨ao, c, rfl, hcs, hb3⟩))
  have o3 := o2.call hb3
  have r3 := r2.call hb3
  have c3 := c2.call hb3
  have hs3 := hb3.size
  have hq : ∃ q, q ≠ B + 1 + 1 ∧ q < w3.heap.size ∧ ∀ i f, L[i]? = some f → ao = some ⟨q, 0, none⟩ ∧ w3.cell? ⟨q, 3 * i, none⟩ = some (.int .i64 f.1) ∧ w3.cell? ⟨q, 3 * i + 1, none⟩ = some (.int .u64 f.2.1) ∧ w3.cell? ⟨q, 3 * i + 2, none⟩ = some (.int .u64 f.2.2) := by
    cases L with
    | nil => exact ⟨B, by omega, by omega, fun i f h => by simp at h⟩
    | cons f L =>
      obtain ⟨q, rfl, hql, e0, -, -⟩ := hcs 0 f rfl
      refine ⟨q, fun e => ?_, hql, fun i g hg => ?_⟩
      · rw [e, row_cell c3] at e0
        cases e0
      · obtain ⟨q', e, -, h⟩ := hcs i g hg
        cases e
        exact ⟨rfl, h⟩
  obtain ⟨q, hq2, hql, hqc⟩ := hq
  have HQC := Lib.hid hqc
  have b3 : Below w.heap.size w w3 := b2.trans (hb3.mono (by omega))
  have hE0 : Hid (EncI w w3 w3 B q n o L 0) := Lib.hid ⟨o3, r3, by rw [encA_0]; exact c3, rfl, Nat.le_refl _, b3⟩
  clear hcs hqc o2 r2 c2 c20 b2 hb3 o3 r3 c3 b3
  have hlu : (L.length : Int) ≤ 6 := by omega
  obtain ⟨N, hN⟩ : ∃ N, L.length = N := ⟨_, rfl⟩
  rw [hN] at hlu hl6 ⊢
  go_loopw [17] (fun i wr => ∃ k : Nat, k ≤ N ∧ i = .int .i64 k ∧ Hid (EncI w w3 wr B q n o L k)) (fun i _ => N - (intOf i).toNat)
  case atStart => exact ⟨0, by omega, rfl, hE0⟩
  case round =>
    clear hE0
    obtain ⟨k, hk, rfl, HE⟩ := hrel
    by_cases hlt : k < N
    · have hlt' : (k : Int) < N := by omega
      have k0 : (0 : Int) ≤ k := by omega
      have k6 : (k : Int) < 6 := by omega
      have hk6 : k < 6 := by omega
      obtain ⟨f, hf⟩ : ∃ f, L[k]? = some f := ⟨L[k], List.getElem?_eq_getElem (by omega)⟩
      obtain ⟨rfl, q0, q1, q2⟩ := HQC.out k f hf
      have hfm : fmAt L k = f := by unfold fmAt; rw [hf]; rfl
      obtain ⟨p0, p1⟩ := HLP.out k (by omega)
      rw [hfm] at p0 p1
      rw [Nat.mul_comm 3 k] at q0 q1 q2
      have d0 := (cell_of_block HE.out.blk).trans q0
      have d1 := (cell_of_block HE.out.blk).trans q1
      have d2 := (cell_of_block HE.out.blk).trans q2
      have hsz := HE.out.siz
      have HES := Lib.hid (encA_s L o k)
      rw [hfm] at HES
      clear q0 q1 q2 hf hfm
      obtain ⟨f0, f1, f2⟩ := f
      simp only at d0 d1 d2 p0 p1 HES
      go_wp2_with (first
        | (refine wpList_load_mid rfl 29 (.tmp 1) rfl B 0 rfl (ordA o).toList _ (ord_range (alloc_old HE.out.ord HE.out.ord.lt)) Try.underlying29 rfl (by kernel_rfl) ?_; rw [Array.toArray_toList])
        | (go_at_call 22; refine (get_any _ o f0 p0 p1).mono ?_; rintro e w4 ⟨rfl, hb4⟩; have hb44 : Below wr.heap.size wr w4 := bgo (bal (Below.refl _ _) _) hb4; have hc4 := HE.out.cal.call hb44; have hcl : w4.cell? ⟨B + 1 + 1, 1 + k, none⟩ = some (.int .u64 (encA L o k k)) := (row_cell hc4 _).trans (callA_at n _ k hk6); have hfz := (fun j => frozen_of_row w4 (B + 1 + 1) j _ _ hc4); have HC4 := Lib.hid hc4; have HB4 := Lib.hid hb44; clear hc4 hb4 hb44))
      have hon : OneOnly (B + 1 + 1) w4 (w4.setCell ⟨B + 1 + 1, 1 + k, none⟩ (.int .u64 (getF f0 o))) := OneOnly.refl.set _ _
      have hz4 := HB4.out.size
      have hbs := HE.out.ord.lt
      have hrs := (Array.getElem?_eq_some_iff.1 HE.out.cal).1
      have hws := HE.out.bel.size
      refine ⟨⟨k + 1, by omega, by go_num, Lib.hid ⟨(hon.block B (by omega) (by omega)).trans (HE.out.ord.call HB4.out), (hon.block (B + 1) (by omega) (by omega)).trans (HE.out.res.call HB4.out), ?_, (hon.block q (by omega) hq2).trans ((HB4.out.block q (by omega)).trans HE.out.blk), ?_, ?_⟩⟩, by simp [intOf]; omega⟩
      · rw [← HES.out]
        exact HC4.out.set _ _ (callA_set n _ k hk6 _)
      · have := hon.size; omega
      · exact (bgo HE.out.bel HB4.out).trans (hon.below (by omega) (by omega))
    · obtain rfl : k = N := by omega
      obtain ⟨⟨p, cd⟩, hm⟩ : ∃ z, decM n (encA L o k) = z := ⟨_, rfl⟩
      have hd : ∀ w, Calls Try.prog 7 #[.agg (callA n (encA L o k))] w fun e w' => e = .returned (.tuple #[ordV p, .int .i64 cd]) ∧ Below w.heap.size w w' := fun w => by
        have := decode_any n (encA L o k) w
        rw [hm] at this
        exact this
      have HD := Lib.hid hd
      have hem := HEM.out
      rw [hN, hm] at hem
      have HEM2 := Lib.hid hem
      clear hd hem HEM hm
      have hz := zeroOrd
      go_upto_region 8 with (first
        | (refine wpList_load_mid rfl 25 _ rfl (B + 1 + 1) 0 rfl (callA n (encA L o k)).toList _ (call_range HE.out.cal) Try.underlying25 rfl (by kernel_rfl) ?_; rw [Array.toArray_toList])
        | (go_at_call 7; refine (HD.out _).mono ?_; rintro e w5 ⟨rfl, hb5⟩)
        | (refine wpList_store_mid rfl 29 (.tmp 7) (.tmp 33) rfl w5.heap.size 0 (ordA p) rfl rfl (ord_new w5 zO).there (by kernel_rfl) (ord_one p) ?_; obtain ⟨ho6, hb6⟩ := box_ord w5 p; generalize (w5.alloc (.cells (ordA zO) 29)).setCells w5.heap.size 0 (ordA p).toList = w6 at ho6 hb6 ⊢))
      have hb66 : Below wr.heap.size wr w6 := bgo hb5 hb6
      have o6 := HE.out.ord.call hb66
      have r6 := HE.out.res.call hb66
      have c6 := HE.out.cal.call hb66
      have b6 := bgo HE.out.bel hb66
      have HR6 := Lib.hid r6
      have HC6 := Lib.hid c6
      have HB6 := Lib.hid b6
      have hws := HE.out.bel.size
      obtain ⟨x0, x1, x2, x3, x4, x5, x6, x7, x8, x9, x10, x11⟩ := ho6.cells
      obtain ⟨y0, y1, y2, y3, y4, y5, y6, y7, y8, y9, y10, y11⟩ := o6.cells
      clear hb66 hb5 hb6 o6 r6 c6 b6 ho6
      have fin : ∀ (m : Int) (a : Nat → Int), CallAt (w6.setCells (B + 1) 0 (callA m a).toList) (B + 1) m a ∧ Below w.heap.size w (w6.setCells (B + 1) 0 (callA m a).toList) := fun m a => by
        obtain ⟨h1, h2⟩ := call_put (n := m) a HR6.out
        exact ⟨h1, HB6.out.trans (h2.below (by omega) HB6.out.size)⟩
      have FIN := Lib.hid fin
      clear fin
      by_cases hc : cd = 0
      · subst hc
        by_cases he : eqB p o = true
        · have hem2 := HEM2.out
          rw [if_pos ⟨rfl, he⟩] at hem2
          have HEM3 := Lib.hid hem2
          have hq := neO p o
          rw [he] at hq
          clear hem2 hz
          go_wp2_with (first
            | (refine wpList_load_mid rfl 25 _ rfl (B + 1 + 1) 0 rfl (callA n (encA L o k)).toList _ (call_range HC6.out) Try.underlying25 rfl (by kernel_rfl) ?_; rw [Array.toArray_toList])
            | (refine wpList_store_mid rfl 25 (.tmp 2) (.tmp 43) rfl (B + 1) 0 (callA n (encA L o k)) rfl rfl HR6.out.there (by kernel_rfl) (call_one _ _) ?_; obtain ⟨hc7, hb7⟩ := FIN.out n (encA L o k); generalize w6.setCells (B + 1) 0 (callA n (encA L o k)).toList = w7 at hc7 hb7 ⊢))
          obtain ⟨z0, z1, z2, z3, z4, z5, z6⟩ := hc7.cells
          refine bodyPost_ret (v := .tuple #[.agg (callA n (encA L o k)), .int .i64 0]) (by simp [results, Try.results11, go_sem, callA, z0, z1, z2, z3, z4, z5, z6]) rfl ⟨by rw [HEM3.out], by first | exact hb7 | exact hB ▸ hb7⟩
        · have hem2 := HEM2.out
          rw [if_neg (fun h => he h.2)] at hem2
          have HEM3 := Lib.hid hem2
          have hq := neO p o
          rw [(by simpa using he : eqB p o = false)] at hq
          clear hem2 hz
          go_wp2_with (refine wpList_store_mid rfl 25 (.tmp 2) (.tmp 42) rfl (B + 1) 0 (callA 0 zW) rfl rfl HR6.out.there (by kernel_rfl) (call_one _ _) ?_; obtain ⟨hc7, hb7⟩ := FIN.out 0 zW; generalize w6.setCells (B + 1) 0 (callA 0 zW).toList = w7 at hc7 hb7 ⊢)
          obtain ⟨z0, z1, z2, z3, z4, z5, z6⟩ := hc7.cells
          refine bodyPost_ret (v := .tuple #[.agg (callA 0 zW), .int .i64 5]) (by simp [results, Try.results11, go_sem, callA, z0, z1, z2, z3, z4, z5, z6]) rfl ⟨by rw [HEM3.out], by first | exact hb7 | exact hB ▸ hb7⟩
      · have hem2 := HEM2.out
        rw [if_neg (fun h => hc h.1)] at hem2
        have HEM3 := Lib.hid hem2
        have hcb : (cd != 0) = true := bne_iff_ne.2 hc
        have hcb2 : (cd == 0) = false := beq_eq_false_iff_ne.2 hc
        clear hem2 hz
        go_wp2_with (refine wpList_store_mid rfl 25 (.tmp 2) (.tmp 42) rfl (B + 1) 0 (callA 0 zW) rfl rfl HR6.out.there (by kernel_rfl) (call_one _ _) ?_; obtain ⟨hc7, hb7⟩ := FIN.out 0 zW; generalize w6.setCells (B + 1) 0 (callA 0 zW).toList = w7 at hc7 hb7 ⊢)
        obtain ⟨z0, z1, z2, z3, z4, z5, z6⟩ := hc7.cells
        refine bodyPost_ret (v := .tuple #[.agg (callA 0 zW), .int .i64 5]) (by simp [results, Try.results11, go_sem, callA, z0, z1, z2, z3, z4, z5, z6]) rfl ⟨by rw [HEM3.out], by first | exact hb7 | exact hB ▸ hb7⟩
end Go.Proofs.Ytahagcghbeeajaa
