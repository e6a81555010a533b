/- chapter 20's own answer: Add. -/
import Derived.Test.YtiagkoiikmmgdaaTi4
namespace Go.Proofs.Ytiagkoiikmmgdaa
set_option linter.unusedVariables false
set_option linter.unusedSimpArgs false
open Go.ChangeShapes Go.WideShapes Go.ChangeAt Go.RowKit Go.Shelf
open TabT

/-- The list so far. -/
def insP (L : List Th) (p t : Nat) (x : Th) : List Th := if p < t then L.take p ++ x :: (L.drop p).take (t - p) else L.take t
theorem insP_before {L : List Th} {p t : Nat} {x y : Th} (h : t < p) (hy : L[t]? = some y) : insP L p (t + 1) x = insP L p t x ++ [y] := by
  unfold insP
  rw [if_neg (by omega), if_neg (by omega), List.take_add_one, hy]
  rfl
theorem insP_at {L : List Th} {p : Nat} {x y : Th} (hy : L[p]? = some y) : insP L p (p + 1) x = (insP L p p x ++ [x]) ++ [y] := by
  unfold insP
  rw [if_pos (by omega), if_neg (by omega), show p + 1 - p = 0 + 1 by omega, List.take_add_one, List.getElem?_drop, Nat.add_zero, hy]
  simp
theorem insP_after {L : List Th} {p t : Nat} {x y : Th} (h : p < t) (hy : L[t]? = some y) : insP L p (t + 1) x = insP L p t x ++ [y] := by
  unfold insP
  rw [if_pos (by omega), if_pos h, show t + 1 - p = (t - p) + 1 by omega, List.take_add_one, List.getElem?_drop, show p + (t - p) = t by omega, hy]
  simp
theorem insP_len {L : List Th} {p t : Nat} {x : Th} (hp : p ≤ L.length) (ht : t ≤ L.length) : (insP L p t x).length ≤ L.length + 1 := by
  unfold insP
  split
  · simp; omega
  · simp; omega
theorem insP_end {L : List Th} {p : Nat} {x : Th} (hp : posR (rowsH L) x.id = p) (h : p < L.length) : insP L p L.length x = insH L x := by
  have e : (L.drop p).take (L.length - p) = L.drop p := List.take_of_length_le (by rw [List.length_drop]; omega)
  unfold insP insH
  rw [if_pos h, hp, e]
theorem insP_last {L : List Th} {p : Nat} {x : Th} (hp : posR (rowsH L) x.id = p) (h : p = L.length) : insP L p L.length x ++ [x] = insH L x := by
  unfold insP insH
  rw [if_neg (by omega), hp, List.drop_eq_nil_iff.2 (by omega), h]
/-- The list that is built. -/
structure InsR (w5 wr : World) (l : Value) (M : List Th) : Prop where
  bl : Below w5.heap.size w5 wr
  row : wr.ownsRow w5.heap.size 35 24 l M.length (thsC M)
theorem InsR.drewN {w5 wr : World} {l : Value} {M : List Th} (h : InsR w5 wr l M) (k : Nat) : InsR w5 (wr.drewN k) l M :=
  ⟨below_drewN h.bl k, row_of_block h.row (fun g _ => by rw [World.heap_drewN])⟩
theorem InsR.app {w5 wr w8 : World} {l v' : Value} {M : List Th} {y : Th} {o : Obj} (h : InsR w5 wr l M) (hown : w8.ownsRow w5.heap.size 35 24 v' (M.length + 1) (thsC M ++ y.cells)) (hg : (wr.alloc o).grownBy w8 l.ownBlock) : InsR w5 w8 v' (M ++ [y]) := by
  have hal : Below w5.heap.size w5 (wr.alloc o) := h.bl.trans ((bal (Below.refl _ wr) o).mono h.bl.size)
  refine ⟨hal.grown hg hal.size (fun k e => (h.row.lt k e).1), ?_⟩
  rw [ths_app, show thsC [y] = y.cells by simp [thsC], List.length_append]
  exact hown
/-- What a round reads. -/
theorem rd_facts {W1 wr : World} {rb base g c oB t : Nat} {L : List Th} {x y : Th} (h : RefT W1 rb base (.slice (some ⟨g, 0, none⟩) L.length c) L) (hx : XT W1 oB x) (hb : Below W1.heap.size W1 wr) (hy : L[t]? = some y) :
    (loadVar 27 ⟨rb, 0, none⟩).run Try.prog wr = .ok (.slice (some ⟨g, 0, none⟩) L.length c) wr ∧ (loadVar 3 ⟨g, t * 24, none⟩).run Try.prog wr = .ok (.int .i64 y.id) wr ∧ (loadVar 35 ⟨g, t * 24, none⟩).run Try.prog wr = .ok (.agg #[.int .i64 y.id, .int .i64 y.st, .int .i64 y.pr, .int .u64 y.m0, .int .u64 y.m1, .int .u64 y.m2, .int .u64 y.m3, .int .u64 y.bd, .bool y.got, .int .i64 y.ca, .int .i64 y.wa, .int .u64 y.o0, .int .u64 y.o1, .int .u64 y.o2, .int .u64 y.o3, .int .u64 y.ob, .int .i64 y.gi, .int .i64 y.nn, .bool y.cs, .bool y.fl, .bool y.rh, .bool y.rw, .int .u64 y.va, .int .u64 y.vl]) wr ∧ (loadVar 35 ⟨oB, 0, none⟩).run Try.prog wr = .ok (.agg #[.int .i64 x.id, .int .i64 x.st, .int .i64 x.pr, .int .u64 x.m0, .int .u64 x.m1, .int .u64 x.m2, .int .u64 x.m3, .int .u64 x.bd, .bool x.got, .int .i64 x.ca, .int .i64 x.wa, .int .u64 x.o0, .int .u64 x.o1, .int .u64 x.o2, .int .u64 x.o3, .int .u64 x.ob, .int .i64 x.gi, .int .i64 x.nn, .bool x.cs, .bool x.fl, .bool x.rh, .bool x.rw, .int .u64 x.va, .int .u64 x.vl]) wr := by
  have hR := h.call hb
  obtain ⟨ra, rc, e, _, hra⟩ := ths_of hR.row
  obtain ⟨g', e2, _, _, hobs⟩ := hra t (List.getElem?_eq_some_iff.1 hy).1
  cases e
  cases e2
  exact ⟨run_load_sl hR.c0, run_load_int (ths_id hobs hy), run_load_th (hobs t y hy), run_load_th (hx.call hb).range⟩
theorem rd_list {W1 wr : World} {rb base : Nat} {v : Value} {L : List Th} (h : RefT W1 rb base v L) (hb : Below W1.heap.size W1 wr) : (loadVar 27 ⟨rb, 0, none⟩).run Try.prog wr = .ok v wr := run_load_sl (h.call hb).c0
theorem rd_box {W1 wr : World} {oB : Nat} {x : Th} (hx : XT W1 oB x) (hb : Below W1.heap.size W1 wr) : (loadVar 35 ⟨oB, 0, none⟩).run Try.prog wr = .ok (.agg #[.int .i64 x.id, .int .i64 x.st, .int .i64 x.pr, .int .u64 x.m0, .int .u64 x.m1, .int .u64 x.m2, .int .u64 x.m3, .int .u64 x.bd, .bool x.got, .int .i64 x.ca, .int .i64 x.wa, .int .u64 x.o0, .int .u64 x.o1, .int .u64 x.o2, .int .u64 x.o3, .int .u64 x.ob, .int .i64 x.gi, .int .i64 x.nn, .bool x.cs, .bool x.fl, .bool x.rh, .bool x.rw, .int .u64 x.va, .int .u64 x.vl]) wr := run_load_th (hx.call hb).range
attribute [-go_sem] loadVar
set_option maxRecDepth 100000 in
set_option maxHeartbeats 4000000 in
theorem radd_yes (w : World) (rb base : Nat) (v : Value) (L : List Th) (id : Int) (h : RefT w rb base v L) (hasc : Asc (rowsH L)) (hl : L.length < 1000000) (h1 : ¬ id < 1) (hh : hasH L id = false) :
    Calls Try.prog 10 #[.pointer (some ⟨rb, 0, none⟩), .int .i64 id] w fun e w' => e = .returned (.int .i64 0) ∧ ∃ u, RefT w' rb base u (insH L (newT id)) ∧ OnlyR w w' rb v u := by
  obtain ⟨i0, hi0, hz0, hz1, hz2⟩ := info_parts infoTh
  have HI0 := Lib.hid hi0
  clear hi0
  have HNO := Lib.hid (at_none hh)
  have H := Lib.hid h
  obtain ⟨p, hp⟩ : ∃ p, posR (rowsH L) (newT id).id = p := ⟨_, rfl⟩
  have hple : p ≤ L.length := by have := posR_le (rowsH L) (newT id).id; rw [rowsH_len] at this; omega
  obtain ⟨hlo, hhi⟩ := posR_facts (k := id) hasc
  rw [show posR (rowsH L) id = p from hp] at hlo hhi
  have HLO : Hid (∀ (t : Nat) (y : Th), t < p → L[t]? = some y → y.id < id) := Lib.hid (fun t y ht hy => hlo t (rowH y) ht (by rw [rowsH_get, hy]; rfl))
  have HHI : Hid (∀ (t : Nat) (y : Th), p ≤ t → L[t]? = some y → id < y.id) := Lib.hid (fun t y ht hy => by
    have a := hhi t (rowH y) ht (by rw [rowsH_get, hy]; rfl)
    have b := HNO.out y (List.mem_of_getElem? hy)
    change id ≤ y.id at a
    omega)
  have HP := Lib.hid hp
  have HPL := Lib.hid hple
  have hal : Below w.heap.size w (w.alloc (.cells (newT id).cells.toArray 35)) := bal (Below.refl _ _) _
  have hx1 : XT (w.alloc (.cells (newT id).cells.toArray 35)) w.heap.size (newT id) := heap_alloc_new w _
  have HAL := Lib.hid hal
  have HX1 := Lib.hid hx1
  clear h hasc hh hp hple hlo hhi hal hx1
  go_enter Try.func10, Try.ntmps10
  go_upto_region 6 with (first
    | (go_at_call 26; refine (at_no _ rb base v L id H.out hl HNO.out).mono ?_; rintro e w1 ⟨rfl, rfl⟩)
    | (refine wpList_store_row rfl 35 _ _ rfl w.heap.size (newT id).cells.toArray rfl rfl _ _ (heap_alloc_new w _) (by kernel_rfl) rfl (th_one' (newT id)) ?_))
  rw [alloc_setRow]
  obtain ⟨W1, hW1⟩ : ∃ z, z = w.alloc (.cells (newT id).cells.toArray 35) := ⟨_, rfl⟩
  rw [← hW1] at HAL HX1 ⊢
  have HR1 := Lib.hid (H.out.call HAL.out)
  clear hW1
  have HOB := Lib.hid (show OnlyR w W1 rb v v from .of_below HAL.out)
  generalize w.heap.size = oB at *
  obtain ⟨ra, rc, rfl, hrc, hra⟩ := ths_of HR1.out.row
  have HRA := Lib.hid hra
  have q0 := rd_list HR1.out (Below.refl _ _)
  clear hra
  go_wp2
  go_loopw [6, 7, 8] (fun l n i wr => ∃ (t : Nat) (lv : Value), lv = l ∧ t ≤ L.length ∧ i = .int .i64 t ∧ n = .bool (decide (p < t)) ∧ Hid (InsR W1 wr lv (insP L p t (newT id)))) (fun _ _ i _ => L.length - (intOf i).toNat)
  case atStart => exact ⟨0, _, rfl, Nat.zero_le _, rfl, by simp, Lib.hid ⟨Below.refl _ _, by rw [show insP L p 0 (newT id) = [] by unfold insP; rw [if_neg (by omega)]; rfl]; exact World.ownsRow_nil _ _ _ _⟩⟩
  case round =>
    obtain ⟨t, lv, rfl, ht, rfl, rfl, HI⟩ := hrel
    clear q0
    have HLM : Hid ((insP L p t (newT id)).length ≤ 1000000) := Lib.hid (by have := insP_len (x := newT id) HPL.out ht; omega)
    by_cases htL : t < L.length
    · have htI : (t : Int) < L.length := by omega
      have HTL := Lib.hid htL
      obtain ⟨g, rfl, _, _, _⟩ := HRA.out t htL
      obtain ⟨y, hy⟩ : ∃ y, L[t]? = some y := ⟨L[t]'htL, List.getElem?_eq_getElem _⟩
      have HY := Lib.hid hy
      obtain ⟨q1, q2, q3, q4⟩ := rd_facts HR1.out HX1.out HI.out.bl hy
      have hws := HI.out.bl.size
      have HWS := Lib.hid hws
      clear hws
      rcases Nat.lt_trichotomy t p with hc | hc | hc
      · have hyl := HLO.out t y hc hy
        have hd : decide (id < y.id) = false := decide_eq_false (by omega)
        have e1 : decide (p < t) = false := decide_eq_false (by omega)
        have n1 : decide (p < t + 1) = false := decide_eq_false (by omega)
        have HC := Lib.hid hc
        clear hy hc
        rw [e1]
        go_wp2_with (at_builtin; refine wpList_append_own _ rfl _ _ 27 rfl W1.heap.size 35 i0 (.agg #[.int .i64 0, .int .i64 0, .int .i64 0, .int .u64 0, .int .u64 0, .int .u64 0, .int .u64 0, .int .u64 0, .bool false, .int .i64 0, .int .i64 0, .int .u64 0, .int .u64 0, .int .u64 0, .int .u64 0, .int .u64 0, .int .i64 0, .int .i64 0, .bool false, .bool false, .bool false, .bool false, .int .u64 0, .int .u64 0]) 24 176 Try.underlying27 HI0.out hz0 hz1 hz2 rfl (by decide) lv _ _ rfl (HI.out.row.alloc _) ⟨wr.heap.size, 0, none⟩ 1 1 y.cells rfl rfl (news_at wr _ y.cells _ rfl) (th_one _) (by have := HLM.out; unfold maxLen; omega) (by have := HLM.out; omega) (by have := HI.out.bl.size; simp; omega) ?_; intro v2 w8 hown' hgrow _; have HQ := Lib.hid (HI.out.app (y := y) hown' hgrow); clear hown' hgrow)
        go_roundw
        case rel => exact ⟨t + 1, _, rfl, by have := HTL.out; omega, by go_num, by rw [n1], Lib.hid (by rw [insP_before HC.out HY.out]; exact HQ.out)⟩
        case measure => have := HTL.out; first | (simp [intOf]; done) | (simp [intOf]; omega)
      · subst hc
        have hyl := HHI.out t y (Nat.le_refl _) hy
        have hd : decide (id < y.id) = true := decide_eq_true hyl
        have e1 : decide (t < t) = false := decide_eq_false (by omega)
        have n1 : decide (t < t + 1) = true := decide_eq_true (by omega)
        clear hy
        rw [e1]
        go_upto_region 14 with (at_builtin; refine wpList_append_own _ rfl _ _ 27 rfl W1.heap.size 35 i0 (.agg #[.int .i64 0, .int .i64 0, .int .i64 0, .int .u64 0, .int .u64 0, .int .u64 0, .int .u64 0, .int .u64 0, .bool false, .int .i64 0, .int .i64 0, .int .u64 0, .int .u64 0, .int .u64 0, .int .u64 0, .int .u64 0, .int .i64 0, .int .i64 0, .bool false, .bool false, .bool false, .bool false, .int .u64 0, .int .u64 0]) 24 176 Try.underlying27 HI0.out hz0 hz1 hz2 rfl (by decide) lv _ _ rfl (HI.out.row.alloc _) ⟨wr.heap.size, 0, none⟩ 1 1 (newT id).cells rfl rfl (news_at wr _ (newT id).cells _ rfl) (th_one _) (by have := HLM.out; unfold maxLen; omega) (by have := HLM.out; omega) (by have := HI.out.bl.size; simp; omega) ?_; intro v2 w8 hown' hgrow _; have HQ := Lib.hid (HI.out.app (y := newT id) hown' hgrow); clear hown' hgrow)
        clear q1 q2 q3 q4
        obtain ⟨q1, q2, q3, q4⟩ := rd_facts HR1.out HX1.out HQ.out.bl HY.out
        have HLM2 : Hid ((insP L t t (newT id) ++ [newT id]).length ≤ 1000001) := Lib.hid (by have := HLM.out; rw [List.length_append]; simp; omega)
        go_wp2_with (at_builtin; refine wpList_append_own _ rfl _ _ 27 rfl W1.heap.size 35 i0 (.agg #[.int .i64 0, .int .i64 0, .int .i64 0, .int .u64 0, .int .u64 0, .int .u64 0, .int .u64 0, .int .u64 0, .bool false, .int .i64 0, .int .i64 0, .int .u64 0, .int .u64 0, .int .u64 0, .int .u64 0, .int .u64 0, .int .i64 0, .int .i64 0, .bool false, .bool false, .bool false, .bool false, .int .u64 0, .int .u64 0]) 24 176 Try.underlying27 HI0.out hz0 hz1 hz2 rfl (by decide) v2 _ _ rfl (HQ.out.row.alloc _) ⟨w8.heap.size, 0, none⟩ 1 1 y.cells rfl rfl (news_at w8 _ y.cells _ rfl) (th_one _) (by have := HLM2.out; unfold maxLen; omega) (by have := HLM2.out; omega) (by have := HQ.out.bl.size; simp; omega) ?_; intro v3 w9 hown' hgrow _; have HQ2 := Lib.hid (HQ.out.app (y := y) hown' hgrow); clear hown' hgrow)
        go_roundw
        case rel => exact ⟨t + 1, _, rfl, by have := HTL.out; omega, by go_num, by rw [n1], Lib.hid (by rw [insP_at HY.out]; exact HQ2.out)⟩
        case measure => have := HTL.out; first | (simp [intOf]; done) | (simp [intOf]; omega)
      · have e1 : decide (p < t) = true := decide_eq_true hc
        have n1 : decide (p < t + 1) = true := decide_eq_true (by omega)
        have HC := Lib.hid hc
        clear hy hc
        rw [e1]
        go_wp2_with (at_builtin; refine wpList_append_own _ rfl _ _ 27 rfl W1.heap.size 35 i0 (.agg #[.int .i64 0, .int .i64 0, .int .i64 0, .int .u64 0, .int .u64 0, .int .u64 0, .int .u64 0, .int .u64 0, .bool false, .int .i64 0, .int .i64 0, .int .u64 0, .int .u64 0, .int .u64 0, .int .u64 0, .int .u64 0, .int .i64 0, .int .i64 0, .bool false, .bool false, .bool false, .bool false, .int .u64 0, .int .u64 0]) 24 176 Try.underlying27 HI0.out hz0 hz1 hz2 rfl (by decide) lv _ _ rfl (HI.out.row.alloc _) ⟨wr.heap.size, 0, none⟩ 1 1 y.cells rfl rfl (news_at wr _ y.cells _ rfl) (th_one _) (by have := HLM.out; unfold maxLen; omega) (by have := HLM.out; omega) (by have := HI.out.bl.size; simp; omega) ?_; intro v2 w8 hown' hgrow _; have HQ := Lib.hid (HI.out.app (y := y) hown' hgrow); clear hown' hgrow)
        go_roundw
        case rel => exact ⟨t + 1, _, rfl, by have := HTL.out; omega, by go_num, by rw [n1], Lib.hid (by rw [insP_after HC.out HY.out]; exact HQ.out)⟩
        case measure => have := HTL.out; first | (simp [intOf]; done) | (simp [intOf]; omega)
    · obtain rfl : t = L.length := by omega
      have q1 := rd_list HR1.out HI.out.bl
      have q4 := rd_box HX1.out HI.out.bl
      by_cases hpl : p < L.length
      · have e1 : decide (p < L.length) = true := decide_eq_true hpl
        rw [e1]
        have hrow := HI.out.row
        rw [insP_end (x := newT id) HP.out hpl] at hrow
        obtain ⟨ua, un, uc, rfl⟩ := own_slice hrow
        have HST := Lib.hid (HR1.out.store HI.out.bl hrow)
        have c1 := (HR1.out.call HI.out.bl).c0
        have f1 := (HR1.out.call HI.out.bl).f0
        clear hrow
        go_wp2
        go_ret
        exact ⟨rfl, _, HST.out.1, HOB.out.trans HST.out.2⟩
      · have e1 : decide (p < L.length) = false := decide_eq_false hpl
        have hpe : p = L.length := by have := HPL.out; omega
        have HPE := Lib.hid hpe
        clear hpe
        rw [e1]
        go_upto_region 17 with (at_builtin; refine wpList_append_own _ rfl _ _ 27 rfl W1.heap.size 35 i0 (.agg #[.int .i64 0, .int .i64 0, .int .i64 0, .int .u64 0, .int .u64 0, .int .u64 0, .int .u64 0, .int .u64 0, .bool false, .int .i64 0, .int .i64 0, .int .u64 0, .int .u64 0, .int .u64 0, .int .u64 0, .int .u64 0, .int .i64 0, .int .i64 0, .bool false, .bool false, .bool false, .bool false, .int .u64 0, .int .u64 0]) 24 176 Try.underlying27 HI0.out hz0 hz1 hz2 rfl (by decide) lv _ _ rfl (HI.out.row.alloc _) ⟨wr.heap.size, 0, none⟩ 1 1 (newT id).cells rfl rfl (news_at wr _ (newT id).cells _ rfl) (th_one _) (by have := HLM.out; unfold maxLen; omega) (by have := HLM.out; omega) (by have := HI.out.bl.size; simp; omega) ?_; intro v2 w8 hown' hgrow _; have HQ := Lib.hid (HI.out.app (y := newT id) hown' hgrow); clear hown' hgrow)
        have hrow := HQ.out.row
        rw [insP_last (x := newT id) HP.out HPE.out] at hrow
        obtain ⟨ua, un, uc, rfl⟩ := own_slice hrow
        have HST := Lib.hid (HR1.out.store HQ.out.bl hrow)
        have c1 := (HR1.out.call HQ.out.bl).c0
        have f1 := (HR1.out.call HQ.out.bl).f0
        clear hrow
        go_wp2
        go_ret
        exact ⟨rfl, _, HST.out.1, HOB.out.trans HST.out.2⟩
theorem radd_any (w : World) (rb base : Nat) (v : Value) (L : List Th) (id : Int) (h : RefT w rb base v L) (hasc : Asc (rowsH L)) (hl : L.length < 1000000) :
    Calls Try.prog 10 #[.pointer (some ⟨rb, 0, none⟩), .int .i64 id] w fun e w' => e = .returned (.int .i64 (addTR L id)) ∧ ∃ u, RefT w' rb base u (addTL L id) ∧ OnlyR w w' rb v u := by
  unfold addTR addTL
  by_cases h1 : id < 1
  · rw [if_pos h1, if_pos h1]
    have H := Lib.hid h
    clear h
    go_enter Try.func10, Try.ntmps10
    go_wp2
    go_ret
    exact ⟨rfl, v, H.out, .of_below (Below.refl _ _)⟩
  · rw [if_neg h1, if_neg h1]
    cases hh : hasH L id with
    | false =>
      simp only [Bool.false_eq_true, if_false]
      exact radd_yes w rb base v L id h hasc hl h1 hh
    | true =>
      simp only [if_true]
      obtain ⟨y, p, hx, hid, hg, hp, hbe⟩ := at_facts hasc hh
      have H := Lib.hid h
      have HX := Lib.hid hx
      have HXI := Lib.hid hid
      have HBE := Lib.hid hbe
      clear h hasc hx hid hbe hp hg hh
      go_enter Try.func10, Try.ntmps10
      go_wp2_with (go_at_call 26; refine (at_yes _ rb base v L id H.out hl p y HX.out HXI.out HBE.out).mono ?_; rintro e w1 ⟨rfl, rfl⟩)
      go_ret
      exact ⟨rfl, v, H.out, .of_below (Below.refl _ _)⟩
end Go.Proofs.Ytiagkoiikmmgdaa
