/- chapter 20's own answer: Set. -/
import Derived.Test.YtiagkoiikmmgdaaTi3
namespace Go.Proofs.Ytiagkoiikmmgdaa
set_option linter.unusedVariables false
set_option linter.unusedSimpArgs false
open Go.ChangeShapes Go.WideShapes Go.ChangeAt Go.RowKit Go.Shelf
open TabT
attribute [-go_sem] Builtin.append_

theorem sets_left : ∀ (cs a b : List Value) (o : Nat), o + cs.length ≤ a.length → setsL (a ++ b) o cs = setsL a o cs ++ b
  | [], _, _, _, _ => rfl
  | c :: cs, a, b, o, h => by
    simp only [List.length_cons] at h
    rw [setsL, setsL, List.set_append_left _ _ (by omega), sets_left cs (a.set o c) b (o + 1) (by rw [List.length_set]; omega)]
theorem sets_right : ∀ (cs a b : List Value) (o : Nat), setsL (a ++ b) (a.length + o) cs = a ++ setsL b o cs
  | [], _, _, _ => rfl
  | c :: cs, a, b, o => by
    rw [setsL, setsL, List.set_append_right _ _ (by omega), Nat.add_sub_cancel_left, Nat.add_assoc, sets_right cs a (b.set o c) (o + 1)]
theorem ths_sets : ∀ (L : List Th) (p : Nat) (x : Th), p < L.length → setsL (thsC L) (p * 24) x.cells = thsC (L.set p x)
  | [], p, x, h => by simp at h
  | y :: L, 0, x, _ => by
    have e : thsC (y :: L) = y.cells ++ thsC L := rfl
    rw [e, show 0 * 24 = 0 from rfl, sets_left x.cells y.cells (thsC L) 0 (by show 0 + 24 ≤ 24; omega), setsL_all x.cells y.cells rfl]
    rfl
  | y :: L, p + 1, x, h => by
    have e : thsC (y :: L) = y.cells ++ thsC L := rfl
    have hl : y.cells.length = 24 := rfl
    rw [e, show (p + 1) * 24 = y.cells.length + p * 24 by rw [hl]; omega, sets_right, ths_sets L p x (by simpa using h)]
    rfl
theorem own_set {w : World} {B s g n c i : Nat} {e : TypeId} {xs : List Value} (u : Value) (h : w.ownsRow B e s (.slice (some ⟨g, 0, none⟩) n c) n xs) : (w.setCell ⟨g, i, none⟩ u).ownsRow B e s (.slice (some ⟨g, 0, none⟩) n c) n (xs.set i u) := by
  rcases h.2 with ⟨h1, _⟩ | ⟨g', cap, cur, h1, q1, q2, q3, q4, q5, q6⟩
  · cases h1
  · cases h1
    refine ⟨by simpa using h.1, .inr ⟨_, _, cur.setIfInBounds i u, rfl, q1, Go.heap_setCell_same _ _ _ _ _ _ q2, q3, q4, by simpa using q5, ?_⟩⟩
    rw [← q6, Array.toList_setIfInBounds, List.take_set]
theorem own_sets {B s g n c : Nat} {e : TypeId} : ∀ (cs : List Value) (o : Nat) (w : World) (xs : List Value), w.ownsRow B e s (.slice (some ⟨g, 0, none⟩) n c) n xs → (w.setCells g o cs).ownsRow B e s (.slice (some ⟨g, 0, none⟩) n c) n (setsL xs o cs)
  | [], _, _, _, h => h
  | u :: cs, o, w, xs, h => own_sets cs (o + 1) _ _ (own_set u h)
/-- A record of the own answer's list is written over. -/
theorem RefT.put {w : World} {rb base g c p : Nat} {L : List Th} (x : Th) (h : RefT w rb base (.slice (some ⟨g, 0, none⟩) L.length c) L) (hp : p < L.length) :
    RefT (w.setCells g (p * 24) x.cells) rb base (.slice (some ⟨g, 0, none⟩) L.length c) (L.set p x) ∧ OnlyR w (w.setCells g (p * 24) x.cells) rb (.slice (some ⟨g, 0, none⟩) L.length c) (.slice (some ⟨g, 0, none⟩) L.length c) ∧ w.there g (p * 24) 24 := by
  obtain ⟨q1, q2, q3, q4⟩ := setCells_world g x.cells (p * 24) w
  have hg := (h.row.lt g rfl)
  have hne : rb ≠ g := by have := h.lt; omega
  refine ⟨⟨(setCells_other g _ _ _ _ hne).trans h.blk, ?_, h.lt, by rw [q4]; exact h.bs⟩, ⟨q1, q2, q3, Nat.le_of_eq q4.symm, fun k hk h1 h2 => setCells_other g _ _ _ _ (fun e => h2 (by rw [e]; rfl)), fun k _ e => e⟩, fun j hj => ?_⟩
  · have := own_sets x.cells (p * 24) w (thsC L) h.row
    rw [ths_sets L p x hp] at this
    rw [List.length_set]
    exact this
  · rcases h.row.2 with ⟨e, _⟩ | ⟨g', cap, cur, e, p1, p2, p3, p4, p5, _⟩
    · cases e
    · cases e
      refine ⟨?_, Go.frozen_of_row _ _ _ _ _ p2⟩
      unfold World.cell?
      simp only [p2]
      rw [Array.getElem?_eq_getElem (by omega)]
      rfl
theorem run_store_th {w : World} {b o : Nat} {x : Th} (h : w.there b o 24) : (storeVar 35 ⟨b, o, none⟩ (.agg x.cells.toArray)).run Try.prog w = .ok () (w.setCells b o x.cells) :=
  run_storeVar_mid w b o _ _ h (by kernel_rfl) (th_one' x)
attribute [-go_sem] loadVar storeVar
set_option maxRecDepth 100000 in
set_option maxHeartbeats 2000000 in
theorem rset_any (w : World) (rb base : Nat) (v : Value) (L : List Th) (x : Th) (h : RefT w rb base v L) (hA : Asc (rowsH L)) (hl : L.length < 1000000) :
    Calls Try.prog 14 #[.pointer (some ⟨rb, 0, none⟩), .agg x.cells.toArray] w fun e w' => e = .returned (.int .i64 (setTR L x)) ∧ ∃ u, RefT w' rb base u (setTL L x) ∧ OnlyR w w' rb v u := by
  obtain ⟨i0, hi0, hz0, hz1, hz2⟩ := info_parts infoTh
  have HI0 := Lib.hid hi0
  clear hi0
  unfold setTR setTL
  have hal : Below w.heap.size w (w.alloc (.cells x.cells.toArray 35)) := bal (Below.refl _ _) _
  have hne : x.cells.toArray ≠ #[] := by simp [Th.cells]
  have hsz : x.cells.toArray.size = 24 := rfl
  obtain ⟨W1, hW1⟩ : ∃ z, z = w.alloc (.cells x.cells.toArray 35) := ⟨_, rfl⟩
  rw [← hW1] at hal
  have hXT : XT W1 w.heap.size x := by rw [hW1]; exact heap_alloc_new w _
  have hR1 := h.call hal
  have HR1 := Lib.hid hR1
  have HAL := Lib.hid hal
  have HXT := Lib.hid hXT
  have q1 := run_load_int (hXT.cell 0)
  have q2 := run_load_th hXT.range
  have HOB := Lib.hid (show OnlyR w W1 rb v v from .of_below hal)
  have HW1 := Lib.hid hW1
  have hbx : w.heap.size < W1.heap.size := hXT.lt
  have HBX := Lib.hid hbx
  have hrw : rb < w.heap.size := Nat.lt_of_lt_of_le h.lt h.bs
  have HRW := Lib.hid hrw
  clear hrw
  clear hal hXT hR1 hbx hW1
  cases hh : hasH L x.id with
  | false =>
    have HNO := Lib.hid (at_none hh)
    clear h hA hh
    simp only [Bool.false_and, Bool.false_eq_true, if_false]
    cases hm : mayT x
    all_goals
      have HM := Lib.hid hm
      clear hm
      go_enter Try.func14, Try.ntmps14
      go_upto_region 1 with (fail)
      rw [← HW1.out]
      go_wp2_with (first
        | (go_at_call 26; refine (at_no _ rb base v L x.id HR1.out hl HNO.out).mono ?_; rintro e w1 ⟨rfl, rfl⟩)
        | (go_at_call 16; refine (rmay_any _ x).mono ?_; rw [HM.out]; rintro e w2 ⟨rfl, hb2⟩))
      go_ret
      exact ⟨rfl, v, HR1.out.call hb2, HOB.out.trans (.of_below hb2)⟩
  | true =>
    obtain ⟨y, p, hx, hid, hg, hp, hbe⟩ := at_facts hA hh
    have HX := Lib.hid hx
    have HXI := Lib.hid hid
    have HBE := Lib.hid hbe
    have hpL := (List.getElem?_eq_some_iff.1 hx).1
    have HPL := Lib.hid hpL
    rw [hp]
    clear h hA hh hx hid hbe hp hg
    simp only [Bool.true_and]
    cases hm : mayT x with
    | false =>
      have HM := Lib.hid hm
      clear hm
      simp only [Bool.false_eq_true, if_false]
      go_enter Try.func14, Try.ntmps14
      go_upto_region 1 with (fail)
      rw [← HW1.out]
      go_wp2_with (first
        | (go_at_call 26; refine (at_yes _ rb base v L x.id HR1.out hl p y HX.out HXI.out HBE.out).mono ?_; rintro e w1 ⟨rfl, rfl⟩)
        | (go_at_call 16; refine (rmay_any _ x).mono ?_; rw [HM.out]; rintro e w2 ⟨rfl, hb2⟩))
      go_ret
      exact ⟨rfl, v, HR1.out.call hb2, HOB.out.trans (.of_below hb2)⟩
    | true =>
      have HM := Lib.hid hm
      clear hm
      simp only [if_true]
      obtain ⟨ra, rc, rfl, hrc, hra⟩ := ths_of HR1.out.row
      obtain ⟨g, rfl, _, hgl, hobs⟩ := hra p hpL
      clear hra hobs
      go_enter Try.func14, Try.ntmps14
      go_upto_region 1 with (fail)
      rw [← HW1.out]
      go_upto_region 4 with (first
        | (go_at_call 26; refine (at_yes _ rb base _ L x.id HR1.out hl p y HX.out HXI.out HBE.out).mono ?_; rintro e w1 ⟨rfl, rfl⟩)
        | (go_at_call 16; refine (rmay_any _ x).mono ?_; rw [HM.out]; rintro e w2 ⟨rfl, hb2⟩))
      have HB2 := Lib.hid hb2
      have HR2 := Lib.hid (HR1.out.call hb2)
      have HX2 := Lib.hid (HXT.out.call hb2)
      have q3 := run_load_sl HR2.out.c0
      have hrow2 := HR2.out.row
      obtain ⟨u1, w3, hrun1, hown1, hgr1, _⟩ := run_append_own_at (P := Try.prog) (w := w2) w2.heap.size 27 27 35 i0 (.agg #[.int .i64 0, .int .i64 0, .int .i64 0, .int .u64 0, .int .u64 0, .int .u64 0, .int .u64 0, .int .u64 0, .bool false, .int .i64 0, .int .i64 0, .int .u64 0, .int .u64 0, .int .u64 0, .int .u64 0, .int .u64 0, .int .i64 0, .int .i64 0, .bool false, .bool false, .bool false, .bool false, .int .u64 0, .int .u64 0]) 24 176 Try.underlying27 HI0.out hz0 hz1 hz2 rfl (by decide) (.slice none 0 0) 0 [] (World.ownsRow_nil _ _ _ _) ⟨g, 0, none⟩ L.length rc (thsC L) (by rw [ths_len]) (fun j u hj => by rw [Addr.add_mid, Nat.zero_add]; exact row_cells hrow2 hj) ths_one (by unfold maxLen; omega) (by omega) (Nat.le_refl _)
      rw [List.nil_append, Nat.zero_add] at hown1
      have hb3 : Below w2.heap.size w2 w3 := (Below.refl _ w2).grown hgr1 (Nat.le_refl _) (fun k e => by cases e)
      obtain ⟨ua, uc, rfl, huc, hua⟩ := ths_of hown1
      obtain ⟨gu, rfl, hgu1, hgu2, _⟩ := hua p hpL
      have HST := Lib.hid (HR2.out.store hb3 hown1)
      have HX3 := Lib.hid (HX2.out.call hb3)
      have q4 := (HR2.out.call hb3).c0
      have f4 := (HR2.out.call hb3).f0
      have hxl := HX3.out.lt
      have hrl : rb < w2.heap.size := Nat.lt_of_lt_of_le HR2.out.lt HR2.out.bs
      have s4 : (storeVar 27 ⟨rb, 0, none⟩ (.slice (some ⟨gu, 0, none⟩) L.length uc)).run Try.prog w3 = .ok () (w3.setCell ⟨rb, 0, none⟩ (.slice (some ⟨gu, 0, none⟩) L.length uc)) := by simp [go_sem, storeVar, q4, f4]
      clear hrow2 hown1 hgr1 hb2 hb3 hua
      go_upto_region 5 with (fail)
      obtain ⟨w4, hw4⟩ : ∃ z, z = w3.setCell ⟨rb, 0, none⟩ (.slice (some ⟨gu, 0, none⟩) L.length uc) := ⟨_, rfl⟩
      rw [← hw4]
      have hR4 : RefT w4 rb base (.slice (some ⟨gu, 0, none⟩) L.length uc) L := by rw [hw4]; exact HST.out.1
      have hO4 : OnlyR w2 w4 rb (.slice (some ⟨g, 0, none⟩) L.length rc) (.slice (some ⟨gu, 0, none⟩) L.length uc) := by rw [hw4]; exact HST.out.2
      have hX4 : XT w4 w.heap.size x := by rw [hw4]; exact (Go.heap_setCell_other _ _ _ _ (by have := HRW.out; show w.heap.size ≠ rb; omega)).trans HX3.out
      have hX5 : XT w4.drew w.heap.size x := hX4
      have hR5 := hR4.call (Below.refl _ _).drew
      have hput := hR5.put x HPL.out
      have HPUT := Lib.hid hput
      have HO4 := Lib.hid hO4
      have HDW := Lib.hid (show OnlyR w4 w4.drew rb (.slice (some ⟨gu, 0, none⟩) L.length uc) (.slice (some ⟨gu, 0, none⟩) L.length uc) from .of_below (Below.refl _ _).drew)
      have q5 : (loadVar 27 ⟨rb, 0, none⟩).run Try.prog w4.drew = .ok (.slice (some ⟨gu, 0, none⟩) L.length uc) w4.drew := run_load_sl hR5.c0
      have q6 : (loadVar 35 ⟨w.heap.size, 0, none⟩).run Try.prog w4.drew = .ok (.agg x.cells.toArray) w4.drew := run_load_th hX5.range
      have s5 := run_store_th (x := x) hput.2.2
      have hpI : (p : Int) < L.length := by omega
      clear hw4 hR4 hO4 hX4 hX5 hR5 hput q1 q2 q3 q4 f4 s4 hrun1 HST HX3
      go_region
      all_goals go_wp2
      all_goals go_ret
      all_goals exact ⟨rfl, _, HPUT.out.1, (((HOB.out.trans (.of_below HB2.out)).trans HO4.out).trans HDW.out).trans HPUT.out.2.1⟩
end Go.Proofs.Ytiagkoiikmmgdaa
