/- package thread, over tables of any number of rows: a record is written over; Set. -/
import Derived.Test.YtiagkoiikmmgdaaTh3
namespace Go.Proofs.Ytiagkoiikmmgdaa
set_option linter.unusedVariables false
set_option linter.unusedSimpArgs false
open Go.ChangeShapes Go.WideShapes Go.ChangeAt Go.RowKit Go.Shelf
open TabT

/-- So many of a list's places are written over, from j on. -/
def setsL : List Value → Nat → List Value → List Value
  | l, _, [] => l
  | l, j, c :: cs => setsL (l.set j c) (j + 1) cs
theorem setsL_len : ∀ (cs l : List Value) (j : Nat), (setsL l j cs).length = l.length
  | [], _, _ => rfl
  | c :: cs, l, j => by rw [setsL, setsL_len cs, List.length_set]
theorem setsL_get : ∀ (cs l : List Value) (j k : Nat), j + cs.length ≤ l.length → (setsL l j cs)[k]? = if j ≤ k ∧ k < j + cs.length then cs[k - j]? else l[k]?
  | [], l, j, k, h => by
    rw [if_neg (by simp only [List.length_nil]; omega)]
    rfl
  | c :: cs, l, j, k, h => by
    simp only [List.length_cons] at h ⊢
    rw [setsL, setsL_get cs (l.set j c) (j + 1) k (by rw [List.length_set]; omega)]
    by_cases h1 : j + 1 ≤ k ∧ k < j + 1 + cs.length
    · rw [if_pos h1, if_pos (by omega), show k - j = (k - (j + 1)) + 1 by omega, List.getElem?_cons_succ]
    · rw [if_neg h1]
      by_cases h2 : k = j
      · subst h2
        rw [if_pos (by omega), List.getElem?_set_self (by omega)]
        simp
      · rw [if_neg (by omega), List.getElem?_set_ne (by omega)]
theorem setsL_all (cs l : List Value) (h : cs.length = l.length) : setsL l 0 cs = cs := by
  apply List.ext_getElem?
  intro k
  rw [setsL_get cs l 0 k (by omega)]
  split
  · simp
  · rw [List.getElem?_eq_none (by omega), List.getElem?_eq_none (by omega)]
theorem tab_sets {b o base g n c i : Nat} {k : Int} : ∀ (cs : List Value) (w : World) (R : List Rw) (l : List Value) (j : Nat), TabAt w b o base (.slice (some ⟨g, 0, none⟩) n c) R → R[i]? = some (k, l) → j + cs.length < 25 → (∀ u ∈ cs, u.oneCell' = true) →
    TabAt (w.setCells g (i * 25 + 1 + j) cs) b o base (.slice (some ⟨g, 0, none⟩) n c) (R.set i (k, setsL l j cs))
  | [], w, R, l, j, h, hi, hj, h1 => by
    have hil := (List.getElem?_eq_some_iff.1 hi).1
    have e : R.set i (k, setsL l j []) = R := by
      apply List.ext_getElem?
      intro q
      by_cases hq : i = q
      · subst hq
        rw [List.getElem?_set_self hil, hi]
        rfl
      · rw [List.getElem?_set_ne hq]
    rw [e]
    exact h
  | u :: cs, w, R, l, j, h, hi, hj, h1 => by
    have hil := (List.getElem?_eq_some_iff.1 hi).1
    simp only [List.length_cons] at hj
    have h2 := tab_set (j := j) h hi (by omega) (h1 u (by simp))
    have h3 := tab_sets cs _ _ (l.set j u) (j + 1) h2 (by rw [List.getElem?_set_self hil]) (by omega) (fun y hy => h1 y (List.mem_cons_of_mem _ hy))
    rw [List.set_set] at h3
    rw [World.setCells, show i * 25 + 1 + j + 1 = i * 25 + 1 + (j + 1) by omega]
    rw [show i * 25 + (j + 1) = i * 25 + 1 + j by omega] at h3
    exact h3
theorem setCells_other (g : Nat) : ∀ (cs : List Value) (o : Nat) (w : World) (k : Nat), k ≠ g → (w.setCells g o cs).heap[k]? = w.heap[k]?
  | [], _, _, _, _ => rfl
  | u :: cs, o, w, k, h => by
    rw [World.setCells, setCells_other g cs (o + 1) _ k h]
    exact Go.heap_setCell_other _ _ _ _ h
theorem setCells_world (g : Nat) : ∀ (cs : List Value) (o : Nat) (w : World), (w.setCells g o cs).os = w.os ∧ (w.setCells g o cs).tape = w.tape ∧ (w.setCells g o cs).output = w.output ∧ (w.setCells g o cs).heap.size = w.heap.size
  | [], _, _ => ⟨rfl, rfl, rfl, rfl⟩
  | u :: cs, o, w => by
    obtain ⟨h1, h2, h3, h4⟩ := setCells_world g cs (o + 1) (w.setCell ⟨g, o, none⟩ u)
    exact ⟨h1, h2, h3, h4.trans (by simp)⟩
/-- A record is written over. -/
theorem thr_put {w : World} {b base g c k : Nat} {L : List Th} {y : Th} (x : Th) (h : ThrAt w b base (.slice (some ⟨g, 0, none⟩) L.length c) L) (hk : L[k]? = some y) (hid : x.id = y.id) :
    ThrAt (w.setCells g (k * 25 + 1) x.cells) b base (.slice (some ⟨g, 0, none⟩) L.length c) (L.set k x) ∧ Only w (w.setCells g (k * 25 + 1) x.cells) b 0 (.slice (some ⟨g, 0, none⟩) L.length c) (.slice (some ⟨g, 0, none⟩) L.length c) ∧ w.there g (k * 25 + 1) 24 := by
  obtain ⟨g', c', e, hgl, hgb, hga, hcs⟩ := h.vform hk
  cases e
  obtain ⟨q1, q2, q3, q4⟩ := setCells_world g x.cells (k * 25 + 1) w
  have hb : (w.setCells g (k * 25 + 1) x.cells).heap[b]? = w.heap[b]? := setCells_other g _ _ _ _ (fun e => hgb e.symm)
  refine ⟨?_, ⟨q1, q2, q3, Nat.le_of_eq q4.symm, fun j hj h1 h2 => setCells_other g _ _ _ _ (fun e => h2 (by rw [e]; rfl)), fun j _ => World.cell?_of_block hb, fun j => World.frozen?_of_block hb, .inl rfl⟩, fun j hj => ?_⟩
  · have := tab_sets x.cells w (rowsH L) y.cells 0 h (i := k) (k := y.id) (by rw [rowsH_get, hk]; rfl) (by show 0 + 24 < 25; omega) (th_one x)
    rw [setsL_all x.cells y.cells rfl, ← hid] at this
    unfold ThrAt
    rw [show rowsH (L.set k x) = (rowsH L).set k (x.id, x.cells) by unfold rowsH; rw [List.map_set]; rfl]
    exact this
  · have hx := hcs j (y.cells[j]'hj) (List.getElem?_eq_getElem hj)
    rw [show k * 25 + 1 + j = k * 25 + (j + 1) by omega]
    refine ⟨by rw [hx]; rfl, ?_⟩
    rcases h.row.2 with ⟨e, _⟩ | ⟨g', cap, cur, e, p1, p2, _⟩
    · cases e
    · rw [rowsH_len] at e
      cases e
      unfold World.frozen?
      simp only [p2]
      simp
theorem Only.after {w w1 w2 : World} {b : Nat} {v v' : Value} (hb : Below w.heap.size w w1) (h : Only w1 w2 b 0 v v') (hl : b < w.heap.size) : Only w w2 b 0 v v' :=
  ⟨h.os.trans hb.os, h.tape.trans hb.tape, h.output.trans hb.output, Nat.le_trans hb.size h.size, fun k hk h1 h2 => (h.block k (Nat.lt_of_lt_of_le hk hb.size) h1 h2).trans (hb.block k hk), fun j hj => (h.cells j hj).trans (hb.cell (p := ⟨b, j, none⟩) hl), fun j => (h.frozs j).trans (hb.frozen (p := ⟨b, j, none⟩) hl), by
    rcases h.foot with q | ⟨g, q, hg⟩
    · exact .inl q
    · exact .inr ⟨g, q, Nat.le_trans hb.size hg⟩⟩
theorem range_add {w : World} {b o : Nat} {cs : List Value} (h : w.rangeAt b o cs) : ∀ j v, cs[j]? = some v → w.cell? ((⟨b, o, none⟩ : Addr).add j) = some v := fun j v hj => by
  rw [Addr.add_mid]
  exact h j v hj
/-- What Set answers, and what it leaves. -/
def setTR (L : List Th) (x : Th) : Int := if hasH L x.id && mayT x then 0 else 2
def setTL (L : List Th) (x : Th) : List Th := if hasH L x.id && mayT x then L.set (posH L x.id) x else L
set_option maxRecDepth 100000 in
set_option maxHeartbeats 2000000 in
theorem tset_any (w : World) (b base : Nat) (v : Value) (L : List Th) (x : Th) (h : ThrAt w b base v L) :
    Calls Try.prog 13 #[.pointer (some ⟨b, 0, none⟩), .agg x.cells.toArray] w fun e w' => e = .returned (.int .i64 (setTR L x)) ∧ ThrAt w' b base v (setTL L x) ∧ Only w w' b 0 v v := by
  have hbl := h.lt
  have H := Lib.hid h
  unfold setTR setTL
  have hal : Below w.heap.size w (w.alloc (.cells x.cells.toArray 35)) := bal (Below.refl _ _) _
  have hc0 := (box_cells w x 35).1
  have hblk := heap_alloc_new w (.cells x.cells.toArray 35)
  have hrow : ∀ w1, Below (w.heap.size + 1) (w.alloc (.cells x.cells.toArray 35)) w1 → w1.rangeAt w.heap.size 0 x.cells := by
    intro w1 hb1 j u hj
    rw [Nat.zero_add]
    exact (World.cell?_of_block (hb1.block w.heap.size (by omega))).trans ((cell_cur (cur := x.cells) hblk j).trans hj)
  have hne : x.cells.toArray ≠ #[] := by simp [Th.cells]
  have hsz : x.cells.toArray.size = 24 := rfl
  have HAL := Lib.hid hal
  have HRW := Lib.hid hrow
  clear hal hblk hrow
  rcases getT_has h.asc x.id with ⟨hg, hh⟩ | ⟨y, hg, hh, hy, hid⟩
  · rw [hh]
    have HH := Lib.hid hh
    clear h hh hg
    simp only [Bool.false_and, Bool.false_eq_true, if_false]
    go_enter Try.func13, Try.ntmps13
    go_upto_region 3 with (fail)
    obtain ⟨W1, hW1⟩ : ∃ z, z = w.alloc (.cells x.cells.toArray 35) := ⟨_, rfl⟩
    rw [← hW1] at HAL hc0 ⊢
    clear hW1 HRW
    go_region_with (go_at_call 28; with_reducible refine (tabget_no _ b base v L x.id (H.out.call HAL.out.drew) HH.out).mono ?_; rintro e w1 ⟨rfl, hb1⟩; have HB := Lib.hid (HAL.out.drew.trans (hb1.mono HAL.out.drew.size)); clear hb1)
    all_goals
      go_wp2
      go_ret
      exact ⟨rfl, H.out.call HB.out, Only.of_below HB.out hbl⟩
  · rw [hh]
    obtain ⟨g, c, rfl, hgl, hgb, hga, hcs⟩ := h.vform hy
    have HH := Lib.hid hh
    have HY := Lib.hid hy
    have HI := Lib.hid hid
    have hpl := (List.getElem?_eq_some_iff.1 hy).1
    clear h hh hg hcs hy hid
    simp only [Bool.true_and]
    cases hm : mayT x with
    | false =>
      have HM := Lib.hid hm
      clear hm
      simp only [Bool.false_eq_true, if_false]
      go_enter Try.func13, Try.ntmps13
      go_upto_region 3 with (fail)
      have hbx : ∀ w1, Below (w.heap.size + 1) (w.alloc (.cells x.cells.toArray 35)) w1 → w1.rangeAt w.heap.size 0 x.cells := HRW.out
      have hsz1 : (w.alloc (.cells x.cells.toArray 35)).heap.size = w.heap.size + 1 := by simp
      obtain ⟨W1, hW1⟩ : ∃ z, z = w.alloc (.cells x.cells.toArray 35) := ⟨_, rfl⟩
      rw [← hW1] at HAL hc0 hbx hsz1 ⊢
      have HBX := Lib.hid hbx
      have HSZ := Lib.hid hsz1
      clear hW1 HRW hbx hsz1
      go_region_with (go_at_call 28; with_reducible refine (tabget_yes _ b base g c L x.id (H.out.call HAL.out.drew) HH.out).mono ?_; rintro e w1 ⟨rfl, hb1⟩; have HB := Lib.hid (HAL.out.drew.trans (hb1.mono HAL.out.drew.size)); have HL := Lib.hid (range_add (HBX.out w1 ((Below.refl _ _).drew.trans (hb1.mono (by have := HSZ.out; simp; omega))))); clear hb1)
      all_goals
        go_wp2_with (first
          | (refine wpList_load_list (by first | rfl | simp [Region.wanted, yielded]) 35 _ rfl ⟨w.heap.size, 0, none⟩ rfl x.cells HL.out _ Try.underlying35 rfl (by kernel_rfl) ?_)
          | (go_at_call 15; refine (may_any _ x).mono ?_; rw [HM.out]; rintro e w2 ⟨rfl, hb2⟩))
        go_ret
        exact ⟨rfl, H.out.call (HB.out.trans (hb2.mono HB.out.size)), Only.of_below (HB.out.trans (hb2.mono HB.out.size)) hbl⟩
    | true =>
      have HM := Lib.hid hm
      clear hm
      simp only [if_true]
      go_enter Try.func13, Try.ntmps13
      go_upto_region 3 with (fail)
      have hbx : ∀ w1, Below (w.heap.size + 1) (w.alloc (.cells x.cells.toArray 35)) w1 → w1.rangeAt w.heap.size 0 x.cells := HRW.out
      have hsz1 : (w.alloc (.cells x.cells.toArray 35)).heap.size = w.heap.size + 1 := by simp
      obtain ⟨W1, hW1⟩ : ∃ z, z = w.alloc (.cells x.cells.toArray 35) := ⟨_, rfl⟩
      rw [← hW1] at HAL hc0 hbx hsz1 ⊢
      have HBX := Lib.hid hbx
      have HSZ := Lib.hid hsz1
      clear hW1 HRW hbx hsz1
      generalize hp : posH L x.id = p at *
      have HP := Lib.hid hp
      clear hp
      go_region_with (go_at_call 28; with_reducible refine (tabget_yes _ b base g c L x.id (H.out.call HAL.out.drew) HH.out).mono ?_; rw [HP.out]; rintro e w1 ⟨rfl, hb1⟩; have HB := Lib.hid (HAL.out.drew.trans (hb1.mono HAL.out.drew.size)); have HBD := Lib.hid (show Below (w.heap.size + 1) W1 w1 from (Below.refl _ _).drew.trans (hb1.mono (by have := HSZ.out; simp; omega))); have HL := Lib.hid (HBX.out w1 HBD.out); clear hb1)
      all_goals
        go_upto_region 6 with (first
          | (refine wpList_load_list (by first | rfl | simp [Region.wanted, yielded]) 35 _ rfl ⟨w.heap.size, 0, none⟩ rfl x.cells (range_add HL.out) _ Try.underlying35 rfl (by kernel_rfl) ?_)
          | (go_at_call 15; refine (may_any _ x).mono ?_; rw [HM.out]; rintro e w2 ⟨rfl, hb2⟩; have HB2 := Lib.hid (HB.out.trans (hb2.mono HB.out.size)); have HL2 := Lib.hid (HBX.out w2 (HBD.out.trans (hb2.mono (by have := HBD.out.size; have := HSZ.out; omega))))))
        have HPU := Lib.hid (thr_put x (H.out.call HB2.out) HY.out HI.out.symm)
        go_wp2_with (first
          | (refine wpList_load_mid rfl 35 _ rfl w.heap.size 0 rfl x.cells _ HL2.out Try.underlying35 rfl (by kernel_rfl) ?_)
          | (refine wpList_store_mid rfl 35 _ _ rfl g (p * 25 + 1) x.cells.toArray rfl rfl HPU.out.2.2 (by kernel_rfl) (th_one' _) ?_))
        go_ret
        rw [HP.out]
        refine ⟨rfl, ?_, ?_⟩
        · have := HPU.out.1
          simpa only [List.toList_toArray] using this
        · have := Only.after HB2.out HPU.out.2.1 hbl
          simpa only [List.toList_toArray] using this
end Go.Proofs.Ytiagkoiikmmgdaa
