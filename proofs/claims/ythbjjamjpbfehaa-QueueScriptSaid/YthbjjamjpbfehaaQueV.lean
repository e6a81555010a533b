/- Chapter 21's own answer: Add. -/
import Derived.Test.YthbjjamjpbfehaaQueU
import Derived.Test.YthbjjamjpbfehaaQueO
namespace Go.Proofs.Ythbjjamjpbfehaa
set_option linter.unusedVariables false
set_option linter.unusedSimpArgs false
open Go.ChangeShapes Go.WideShapes Go.ChangeAt Go.RowKit Go.Shelf

/-- Only block rb, and new ones, are other. -/
structure ROnly (rb : Nat) (w w' : World) : Prop where
  os : w'.os = w.os
  tape : w'.tape = w.tape
  output : w'.output = w.output
  size : w.heap.size ≤ w'.heap.size
  block : ∀ k, k < w.heap.size → k ≠ rb → w'.heap[k]? = w.heap[k]?
theorem ROnly.refl (rb : Nat) (w : World) : ROnly rb w w := ⟨rfl, rfl, rfl, Nat.le_refl _, fun _ _ _ => rfl⟩
theorem ROnly.trans {rb : Nat} {a b c : World} (h : ROnly rb a b) (k : ROnly rb b c) : ROnly rb a c := ⟨k.os.trans h.os, k.tape.trans h.tape, k.output.trans h.output, Nat.le_trans h.size k.size, fun j hj hn => (k.block j (Nat.lt_of_lt_of_le hj h.size) hn).trans (h.block j hj hn)⟩
theorem ROnly.below {rb B : Nat} {w w' : World} (h : ROnly rb w w') (h1 : B ≤ rb) (h2 : B ≤ w.heap.size) : Below B w w' := ⟨h.os, h.tape, h.output, h.size, fun k hk => h.block k (by omega) (by omega)⟩
/-- Where the list lies behind a call: where it lay, or in a new block. -/
def NewAt (w : World) (v v' : Value) : Prop := v'.ownBlock = v.ownBlock ∨ ∀ g, v'.ownBlock = some g → w.heap.size ≤ g
def InsTo (R : List (Int × Nat)) (x : Int) (q k : Nat) (T : List (Int × Nat)) (b : Bool) : Prop :=
  (b = false → T = R.take k ∧ ∀ e ∈ R.take k, q ≤ e.2) ∧
  (b = true → T = (R.take k).filter (fun e => decide (q ≤ e.2)) ++ (x, q) :: (R.take k).filter (fun e => decide (e.2 < q)) ∧ ∀ i e, k ≤ i → R[i]? = some e → e.2 < q)
theorem ins_0 (R : List (Int × Nat)) (x : Int) (q : Nat) : InsTo R x q 0 [] false := ⟨fun _ => ⟨rfl, by simp⟩, fun e => (by cases e)⟩
theorem take_one {R : List (Int × Nat)} {k : Nat} {e : Int × Nat} (h : R[k]? = some e) : R.take (k + 1) = R.take k ++ [e] := by rw [List.take_add_one, h]; rfl
theorem filt_all {L : List (Int × Nat)} {q : Nat} (h : ∀ e ∈ L, q ≤ e.2) : L.filter (fun e => decide (q ≤ e.2)) = L ∧ L.filter (fun e => decide (e.2 < q)) = [] :=
  ⟨List.filter_eq_self.2 fun a ha => by simpa using h a ha, by rw [List.filter_eq_nil_iff]; intro a ha; have := h a ha; simp; omega⟩
theorem ins_a {R T : List (Int × Nat)} {x : Int} {q k : Nat} {e : Int × Nat} (hG : Good R) (h : InsTo R x q k T false) (he : R[k]? = some e) (hq : e.2 < q) : InsTo R x q (k + 1) (T ++ [(x, q)] ++ [e]) true := by
  obtain ⟨rfl, h2⟩ := h.1 rfl
  obtain ⟨f1, f2⟩ := filt_all h2
  refine ⟨fun e => (by cases e), fun _ => ⟨?_, fun i a hi ha => ?_⟩⟩
  · rw [take_one he, List.filter_append, List.filter_append, f1, f2, List.filter_cons_of_neg (by simp; omega), List.filter_cons_of_pos (by simpa using hq)]
    simp
  · have := (falls hG (show k < i by omega) he ha).1
    omega
theorem ins_b {R T : List (Int × Nat)} {x : Int} {q k : Nat} {e : Int × Nat} (h : InsTo R x q k T false) (he : R[k]? = some e) (hq : q ≤ e.2) : InsTo R x q (k + 1) (T ++ [e]) false := by
  obtain ⟨rfl, h2⟩ := h.1 rfl
  refine ⟨fun _ => ⟨(take_one he).symm, fun a ha => ?_⟩, fun e => (by cases e)⟩
  rw [take_one he] at ha
  rcases List.mem_append.1 ha with ha | ha
  · exact h2 a ha
  · simp at ha; subst ha; exact hq
theorem ins_c {R T : List (Int × Nat)} {x : Int} {q k : Nat} {e : Int × Nat} (h : InsTo R x q k T true) (he : R[k]? = some e) : InsTo R x q (k + 1) (T ++ [e]) true := by
  obtain ⟨rfl, h2⟩ := h.2 rfl
  have hq := h2 k e (Nat.le_refl _) he
  refine ⟨fun e => (by cases e), fun _ => ⟨?_, fun i a hi ha => h2 i a (by omega) ha⟩⟩
  rw [take_one he, List.filter_append, List.filter_append, List.filter_cons_of_neg (by simp; omega), List.filter_cons_of_pos (by simpa using hq)]
  simp
theorem ins_end0 {R T : List (Int × Nat)} {x : Int} {q : Nat} (h : InsTo R x q R.length T false) : T ++ [(x, q)] = insR R x q := by
  obtain ⟨rfl, h2⟩ := h.1 rfl
  rw [List.take_length] at h2
  obtain ⟨f1, f2⟩ := filt_all h2
  unfold insR
  rw [f1, f2, List.take_length]
theorem ins_end1 {R T : List (Int × Nat)} {x : Int} {q : Nat} (h : InsTo R x q R.length T true) : T = insR R x q := by
  obtain ⟨rfl, h2⟩ := h.2 rfl
  rw [List.take_length]
  rfl
theorem ins_len {R T : List (Int × Nat)} {x : Int} {q k : Nat} {b : Bool} (h : InsTo R x q k T b) : T.length ≤ 2 * k + 1 := by
  cases b
  · obtain ⟨rfl, _⟩ := h.1 rfl
    simp; omega
  · obtain ⟨rfl, _⟩ := h.2 rfl
    have h1 := List.length_filter_le (fun e : Int × Nat => decide (q ≤ e.2)) (R.take k)
    have h2 := List.length_filter_le (fun e : Int × Nat => decide (e.2 < q)) (R.take k)
    simp at h1 h2 ⊢; omega
theorem infoOne : (Try.prog.info? 52).map (fun i => (i.zero, i.size, i.bytes)) = some (some (.agg #[.int .i64 0, .int .i64 0]), 2, 16) := by kernel_rfl
theorem cell_two_new (w : World) (a b : Value) (t : TypeId) : ∀ j u, ([a, b] : List Value)[j]? = some u → (w.alloc (.cells #[a, b] t)).cell? ((⟨w.heap.size, 0, none⟩ : Addr).add j) = some u := by
  intro j u hj
  have h := World.alloc_heap_new w (.cells #[a, b] t)
  have e : ((⟨w.heap.size, 0, none⟩ : Addr).add j) = ⟨w.heap.size, j, none⟩ := by unfold Addr.add; split <;> simp_all
  rw [e, cell_of_row _ _ _ _ _ _ h]
  simpa using hj
theorem row_lower {w : World} {B B' : Nat} {e : TypeId} {s : Nat} {v : Value} {n : Nat} {xs : List Value} (h : w.ownsRow B e s v n xs) (hB : B' ≤ B) : w.ownsRow B' e s v n xs := by
  refine ⟨h.1, ?_⟩
  rcases h.2 with q | ⟨g, cap, cur, h1, h2, h3⟩
  · exact .inl q
  · exact .inr ⟨g, cap, cur, h1, by omega, h3⟩
theorem ref_end {w w1 : World} {B rb : Nat} {v vl : Value} {R T : List (Int × Nat)} (h : RefQ w B rb v R) (hB : B ≤ w.heap.size) (hb : Below w.heap.size w w1) (hr : w1.ownsRow w.heap.size 52 2 vl T.length (cellsR T)) :
    RefQ (w1.setCell ⟨rb, 0, none⟩ vl) B rb vl T ∧ ROnly rb w (w1.setCell ⟨rb, 0, none⟩ vl) ∧ NewAt w v vl := by
  have hlt := h.lt
  have hne : ∀ g, vl.ownBlock = some g → g ≠ rb := fun g hg => by have := (hr.lt g hg).1; omega
  have hc := (hb.cell (p := ⟨rb, 0, none⟩) hlt).trans h.cell
  have hf := (hb.frozen (p := ⟨rb, 0, none⟩) hlt).trans h.free
  refine ⟨⟨by have := hb.size; simp; omega, World.cell?_setCell_same' _ _ _ (by rw [hc]; rfl), (World.frozen?_setCell _ _ _ _).trans hf, row_of_block (row_lower hr hB) (fun g hg => Go.heap_setCell_other _ _ _ _ (hne g hg)), fun e => hne _ e rfl⟩, ⟨hb.os, hb.tape, hb.output, by have := hb.size; simpa using this, fun k hk hn => (Go.heap_setCell_other _ _ _ _ hn).trans (hb.block k hk)⟩, .inr fun g hg => (hr.lt g hg).1⟩
theorem all_ref2 {B : Nat} {w wr w1 : World} {e : TypeId} {vl : Value} {n s : Nat} {xs : List Value} {o : Obj} (h : wr.ownsRow w.heap.size e s vl n xs) (hB : Below w.heap.size w wr) (hg : (wr.alloc o).grownBy w1 vl.ownBlock) : Below w.heap.size w w1 :=
  (hB.alloc hB.size o).grown hg (by have := hB.size; simp; omega) (fun k hk => (h.lt k hk).1)
theorem radd_bad (w : World) (B rb : Nat) (v : Value) (R : List (Int × Nat)) (x p : Int) (hR : R.length ≤ 1000) (hne : ¬ addE R x p = 0) (h : RefQ w B rb v R) :
    Calls Try.prog 11 #[.pointer (some ⟨rb, 0, none⟩), .int .i64 x, .int .i64 p] w fun e w' => e = .returned (.int .i64 (addE R x p)) ∧ w' = w := by
  have H := Lib.hid h
  clear h
  by_cases c1 : x < 1
  · have e1 : addE R x p = 2 := if_pos (.inl c1)
    rw [e1]
    clear hne e1
    go_enter Try.func11, Try.ntmps11
    go_wp2
    go_ret
    exact ⟨rfl, rfl⟩
  by_cases c2 : p < 0
  · have e1 : addE R x p = 2 := if_pos (.inr (.inl c2))
    rw [e1]
    clear hne e1
    go_enter Try.func11, Try.ntmps11
    go_wp2
    go_ret
    exact ⟨rfl, rfl⟩
  by_cases c3 : 7 < p
  · have e1 : addE R x p = 2 := if_pos (.inr (.inr c3))
    rw [e1]
    clear hne e1
    go_enter Try.func11, Try.ntmps11
    go_wp2
    go_ret
    exact ⟨rfl, rfl⟩
  have hh : hasR R x = true := by
    unfold addE at hne
    rw [if_neg (by omega)] at hne
    by_cases d : hasR R x = true
    · exact d
    · rw [if_neg d] at hne; exact absurd rfl hne
  have e1 : addE R x p = 16 := by unfold addE; rw [if_neg (by omega), if_pos hh]
  rw [e1]
  have HN := Lib.hid (show ¬ ∀ e ∈ R, e.1 ≠ x from fun q => by
    unfold hasR at hh
    rw [fR_no q] at hh
    cases hh)
  clear hne e1 hh
  go_enter Try.func11, Try.ntmps11
  go_wp2_with (go_at_call 24; refine (at_any _ B rb v R x hR H.out).mono ?_; rintro e w1 ⟨⟨k, rfl, hk⟩, rfl⟩; have hk' : 0 ≤ k := (by rcases hk with ⟨_, h1⟩ | ⟨i, a, h1, _⟩; exact absurd h1 HN.out; omega); clear hk)
  go_ret
  exact ⟨rfl, rfl⟩
set_option maxRecDepth 100000 in
set_option maxHeartbeats 2000000 in
theorem radd_yes (w : World) (B rb : Nat) (v : Value) (R : List (Int × Nat)) (x : Int) (q : Nat) (hR : R.length ≤ 200) (hG : Good R) (hB : B ≤ w.heap.size) (hx1 : 1 ≤ x) (hq : q < 8) (hn : ∀ e ∈ R, e.1 ≠ x) (h : RefQ w B rb v R) :
    Calls Try.prog 11 #[.pointer (some ⟨rb, 0, none⟩), .int .i64 x, .int .i64 q] w fun e w' => e = .returned (.int .i64 0) ∧ ∃ v', RefQ w' B rb v' (insR R x q) ∧ ROnly rb w w' ∧ NewAt w v v' := by
  obtain ⟨i0, hi, hz0, hz1, hz2⟩ := info_parts infoOne
  have HI := Lib.hid hi
  obtain ⟨a0, c0, rfl, hnn, hm⟩ := one_form h.row
  unfold maxLen at hm
  have hc := h.cell
  have hfr := h.free
  have hlt := h.lt
  have H := Lib.hid h
  have HG := Lib.hid hG
  have HN := Lib.hid hn
  have hR' : (R.length : Int) ≤ 200 := by omega
  have c1 : ¬ x < 1 := by omega
  have c2 : ¬ (q : Int) < 0 := by omega
  have c3 : ¬ (q : Int) > 7 := by omega
  have c4 : ¬ 7 < q := by omega
  clear h hi hG hn
  go_enter Try.func11, Try.ntmps11
  go_wp2_with (go_at_call 24; refine (at_any _ B rb _ R x (by omega) H.out).mono ?_; rintro e w1 ⟨⟨k, rfl, hk⟩, rfl⟩; have hk' : k = -1 := (by rcases hk with ⟨h1, _⟩ | ⟨i, a, _, h2, h3⟩; exact h1; exact absurd h3 (HN.out a (List.mem_of_getElem? h2))); subst hk'; clear hk)
  go_loopw [7, 8, 9] (fun l b i wr => ∃ (k : Nat) (vl : Value) (T : List (Int × Nat)) (t : Bool), k ≤ R.length ∧ i = .int .i64 k ∧ l = vl ∧ b = .bool t ∧ Hid (wr.ownsRow w1.heap.size 52 2 vl T.length (cellsR T)) ∧ Hid (InsTo R x q k T t) ∧ Hid (Below w1.heap.size w1 wr)) (fun _ _ i _ => R.length - (intOf i).toNat)
  case atStart => exact ⟨0, _, [], false, by omega, rfl, rfl, rfl, Lib.hid (World.ownsRow_nil _ _ _ _), Lib.hid (ins_0 _ _ _), Lib.hid (Below.refl _ _)⟩
  case round =>
    obtain ⟨k, vl, T, t, hk, rfl, rfl, rfl, HR, HT, HW⟩ := hrel
    have hc1 := (HW.out.cell (p := ⟨rb, 0, none⟩) hlt).trans hc
    have hf1 := (HW.out.frozen (p := ⟨rb, 0, none⟩) hlt).trans hfr
    have hsz := HW.out.size
    have hTl := ins_len HT.out
    by_cases hlk : k < R.length
    · have hlt' : (k : Int) < R.length := by omega
      obtain ⟨g, c9, hv, -, -, -, hg, hcs⟩ := one_place H.out.row (by omega)
      simp only [Value.slice.injEq, true_and] at hv
      obtain ⟨rfl, rfl⟩ := hv
      obtain ⟨e, he⟩ : ∃ e, R[k]? = some e := ⟨_, List.getElem?_eq_getElem hlk⟩
      have dd0 := hcs _ _ (cellsR_at he).1
      have dd1 := hcs _ _ (cellsR_at he).2
      have d0 := (HW.out.cell (p := ⟨g, k * 2, none⟩) hg).trans dd0
      have d1 := (HW.out.cell (p := ⟨g, k * 2 + 1, none⟩) hg).trans dd1
      have HE := Lib.hid he
      clear hcs he hc hfr
      obtain ⟨⟨ex, eq⟩, hee⟩ : ∃ z, e = z := ⟨_, rfl⟩
      subst hee
      simp only at dd0 dd1 d0 d1
      cases t
      · by_cases hlq : eq < q
        · have hlq' : (eq : Int) < (q : Int) := by omega
          have HT2 := Lib.hid (ins_a HG.out HT.out HE.out hlq)
          go_wp2_with (first
            | (have _t := hown1; at_builtin; refine wpList_append_own _ rfl _ _ 27 rfl w1.heap.size 52 i0 _ 2 16 Try.underlying27 HI.out hz0 hz1 hz2 rfl (by decide) _ _ _ rfl (World.ownsRow.alloc hown1.out _) ⟨w2.heap.size, 0, none⟩ 1 1 [.int .i64 ex, .int .i64 eq] rfl rfl (cell_two_new _ _ _ _) (by simp [Value.oneCell']) (by unfold maxLen; omega) (by omega) (by simp; omega) ?_; intro v3 w3 hown3 hgr3 _)
            | (at_builtin; refine wpList_append_own _ rfl _ _ 27 rfl w1.heap.size 52 i0 _ 2 16 Try.underlying27 HI.out hz0 hz1 hz2 rfl (by decide) _ _ _ rfl (HR.out.alloc _) ⟨wr.heap.size, 0, none⟩ 1 1 [.int .i64 x, .int .i64 q] rfl rfl (cell_two_new _ _ _ _) (by simp [Value.oneCell']) (by unfold maxLen; omega) (by omega) (by simp; omega) ?_; intro v2 w2 hown1' hgr2 _; have hown1 := Lib.hid hown1'; have hb2 := Lib.hid (all_ref2 (B := 0) HR.out HW.out hgr2); have s2 := hb2.out.size; have e0 := (hb2.out.cell (p := ⟨g, k * 2, none⟩) hg).trans dd0; have e1 := (hb2.out.cell (p := ⟨g, k * 2 + 1, none⟩) hg).trans dd1; have e2 := (hb2.out.cell (p := ⟨rb, 0, none⟩) hlt).trans H.out.cell; clear hown1' hgr2))
          go_roundw
          case rel =>
            refine ⟨k + 1, v3, _, true, by omega, by go_num, rfl, rfl, Lib.hid ?_, HT2, Lib.hid (all_ref2 (B := 0) hown1.out hb2.out hgr3)⟩
            simpa [cellsR] using hown3
          case measure => simp [intOf]; omega
        · have hlq' : ¬ (eq : Int) < (q : Int) := by omega
          have HT2 := Lib.hid (ins_b HT.out HE.out (by simp only; omega))
          go_wp2_with (at_builtin; refine wpList_append_own _ rfl _ _ 27 rfl w1.heap.size 52 i0 _ 2 16 Try.underlying27 HI.out hz0 hz1 hz2 rfl (by decide) _ _ _ rfl (HR.out.alloc _) ⟨wr.heap.size, 0, none⟩ 1 1 [.int .i64 ex, .int .i64 eq] rfl rfl (cell_two_new _ _ _ _) (by simp [Value.oneCell']) (by unfold maxLen; omega) (by omega) (by simp; omega) ?_; intro v3 w3 hown3 hgr3 _)
          go_roundw
          case rel =>
            refine ⟨k + 1, v3, _, false, by omega, by go_num, rfl, rfl, Lib.hid ?_, HT2, Lib.hid (all_ref2 (B := 0) HR.out HW.out hgr3)⟩
            simpa [cellsR] using hown3
          case measure => simp [intOf]; omega
      · have HT2 := Lib.hid (ins_c HT.out HE.out)
        go_wp2_with (at_builtin; refine wpList_append_own _ rfl _ _ 27 rfl w1.heap.size 52 i0 _ 2 16 Try.underlying27 HI.out hz0 hz1 hz2 rfl (by decide) _ _ _ rfl (HR.out.alloc _) ⟨wr.heap.size, 0, none⟩ 1 1 [.int .i64 ex, .int .i64 eq] rfl rfl (cell_two_new _ _ _ _) (by simp [Value.oneCell']) (by unfold maxLen; omega) (by omega) (by simp; omega) ?_; intro v3 w3 hown3 hgr3 _)
        go_roundw
        case rel =>
          refine ⟨k + 1, v3, _, true, by omega, by go_num, rfl, rfl, Lib.hid ?_, HT2, Lib.hid (all_ref2 (B := 0) HR.out HW.out hgr3)⟩
          simpa [cellsR] using hown3
        case measure => simp [intOf]; omega
    · obtain rfl : k = R.length := by omega
      have hrs : rb < wr.heap.size := by omega
      cases t
      · have HE0 := Lib.hid (ins_end0 HT.out)
        go_wp2_with (at_builtin; refine wpList_append_own _ rfl _ _ 27 rfl w1.heap.size 52 i0 _ 2 16 Try.underlying27 HI.out hz0 hz1 hz2 rfl (by decide) _ _ _ rfl (HR.out.alloc _) ⟨wr.heap.size, 0, none⟩ 1 1 [.int .i64 x, .int .i64 q] rfl rfl (cell_two_new _ _ _ _) (by simp [Value.oneCell']) (by unfold maxLen; omega) (by omega) (by simp; omega) ?_; intro v3 w3 hown3 hgr3 _; have hb3 := Lib.hid (all_ref2 (B := 0) HR.out HW.out hgr3); have e2 := (hb3.out.cell (p := ⟨rb, 0, none⟩) hlt).trans H.out.cell; have e3 := (hb3.out.frozen (p := ⟨rb, 0, none⟩) hlt).trans H.out.free; obtain ⟨a3, c3, rfl, -, -⟩ := one_form hown3; have s3 := hb3.out.size; have s4 : rb < w3.heap.size := (by omega))
        go_ret
        have hr3 : w3.ownsRow w1.heap.size 52 2 (.slice a3 (T.length + 1) c3) (insR R x q).length (cellsR (insR R x q)) := by
          rw [← HE0.out]
          simpa [cellsR] using hown3
        exact ⟨rfl, _, ref_end H.out hB hb3.out hr3⟩
      · have HE0 := Lib.hid (ins_end1 HT.out)
        obtain ⟨al, cl, rfl, -, -⟩ := one_form HR.out
        go_wp2
        go_ret
        have hr3 := HR.out
        rw [HE0.out] at hr3 ⊢
        exact ⟨rfl, _, ref_end H.out hB HW.out hr3⟩
end Go.Proofs.Ythbjjamjpbfehaa
