/- chapter 12's own answer: Add, that adds. -/
import Derived.Test.YtkladhbamkomnaaAxD
namespace Go.Proofs.Ytkladhbamkomnaa
set_option linter.unusedVariables false
set_option linter.unusedSimpArgs false
open Go.ChangeShapes Go.WideShapes Go.ChangeAt Go.RowKit Go.Shelf
open TabA

theorem OnlyR.trans {a b c : World} {rb : Nat} {v0 v1 v2 : Value} (h : OnlyR a b rb v0 v1) (k : OnlyR b c rb v1 v2) : OnlyR a c rb v0 v2 :=
  ⟨k.os.trans h.os, k.tape.trans h.tape, k.output.trans h.output, Nat.le_trans h.size k.size,
   fun j hj h1 h2 => (k.block j (Nat.lt_of_lt_of_le hj h.size) h1 (fun e => h2 (h.foot j hj e))).trans (h.block j hj h1 h2), fun j hj e => h.foot j hj (k.foot j (Nat.lt_of_lt_of_le hj h.size) e)⟩
theorem own_named {w wr : World} {rb base oB : Nat} {F : Int} {v : Value} {L : List Ob} {G : List Int} {x : Ob} (nid : Int) (h0 : RefA w rb base F v L G) (h : OwnO w wr rb base oB F v L G x) : OwnO w (wr.setCell ⟨oB, 0, none⟩ (.int .i64 nid)) rb base oB F v L G { x with id := nid } := by
  have hob := h.ob
  have hbl : Below w.heap.size w (wr.setCell ⟨oB, 0, none⟩ (.int .i64 nid)) := Below.setCell h.bl (by show _ ≤ oB; omega) _
  refine ⟨h0.call hbl, fun j u hj => ?_, fun j => ?_, by simpa using h.ol, hob, hbl⟩
  · cases j with
    | zero =>
      cases hj
      exact World.cell?_setCell_same' _ _ _ (by rw [h.ox 0 _ rfl]; rfl)
    | succ j =>
      have := h.ox (j + 1) u hj
      rw [← this]
      apply World.cell?_setCell_other
      intro q
      simp at q
  · have := h.of j
    simp [go_sem, this]
theorem RefA.count {w : World} {rb base k : Nat} {F c : Int} {v : Value} {L : List Ob} {G : List Int} (h : RefA w rb base F v L G) (hk : G[k]? = some c) (h0 : 0 ≤ c) (h1 : c + 1 ≤ 1024) :
    RefA (w.setCell ⟨rb, 2 + k, none⟩ (.int .i64 (c + 1))) rb base F v L (G.set k (c + 1)) := by
  have hlt := h.lt
  have hn : v.ownBlock ≠ some rb := fun e => by have := (h.row.lt rb e).1; omega
  refine ⟨?_, by rw [List.length_set]; exact h.gl, ownsRow_setCell_other h.row hn _, h.lt, by simpa using h.bs, fun g hg => ?_⟩
  · rw [Go.heap_setCell_same _ _ _ _ _ _ h.blk]
    congr 2
    rw [List.setIfInBounds_toArray, show 2 + k = k + 1 + 1 by omega, List.set_cons_succ, List.set_cons_succ, List.map_set]
  · rcases List.mem_or_eq_of_mem_set hg with q | q
    · exact h.cn g q
    · subst q; exact ⟨by omega, h1⟩
theorem own_count {w w4 : World} {rb base oB k : Nat} {F c : Int} {v : Value} {L : List Ob} {G : List Int} {x : Ob} (h0 : RefA w rb base F v L G) (h : OwnO w w4 rb base oB F v L G x) (hk : G[k]? = some c) (hc0 : 0 ≤ c) (hc1 : c + 1 ≤ 1024) :
    RefA ((w4.setCell ⟨rb, 2 + k, none⟩ (.int .i64 (c + 1))).drew) rb base F v L (G.set k (c + 1)) ∧ OnlyR w ((w4.setCell ⟨rb, 2 + k, none⟩ (.int .i64 (c + 1))).drew) rb v v ∧ (∀ j u, x.cells[j]? = some u → ((w4.setCell ⟨rb, 2 + k, none⟩ (.int .i64 (c + 1))).drew).cell? ⟨oB, j, none⟩ = some u) := by
  have hlt := h0.lt
  have hbs := h0.bs
  have hob := h.ob
  have hbl := h.bl
  refine ⟨(h.ref.count hk hc0 hc1).call (Below.refl _ _).drew, ⟨hbl.os, hbl.tape, hbl.output, by simpa using hbl.size, fun j hj h1 _ => (Go.heap_setCell_other _ _ _ _ h1).trans (hbl.block j hj), fun j _ e => e⟩, fun j u hj => ?_⟩
  rw [← h.ox j u hj]
  exact World.cell?_of_block (a := ⟨oB, j, none⟩) (Go.heap_setCell_other _ _ _ _ (by show oB ≠ rb; omega))
/-- The list so far. -/
def insP (L : List Ob) (p t : Nat) (x : Ob) : List Ob := if p < t then L.take p ++ x :: (L.drop p).take (t - p) else L.take t
theorem insP_before {L : List Ob} {p t : Nat} {x y : Ob} (h : t < p) (hy : L[t]? = some y) : insP L p (t + 1) x = insP L p t x ++ [y] := by
  unfold insP
  rw [if_neg (by omega), if_neg (by omega), List.take_add_one, hy]
  rfl
theorem insP_at {L : List Ob} {p : Nat} {x y : Ob} (hy : L[p]? = some y) : insP L p (p + 1) x = (insP L p p x ++ [x]) ++ [y] := by
  unfold insP
  rw [if_pos (by omega), if_neg (by omega), show p + 1 - p = 0 + 1 by omega, List.take_add_one, List.getElem?_drop, Nat.add_zero, hy]
  simp
theorem insP_after {L : List Ob} {p t : Nat} {x y : Ob} (h : p < t) (hy : L[t]? = some y) : insP L p (t + 1) x = insP L p t x ++ [y] := by
  unfold insP
  rw [if_pos (by omega), if_pos h, show t + 1 - p = (t - p) + 1 by omega, List.take_add_one, List.getElem?_drop, show p + (t - p) = t by omega, hy]
  simp
theorem insP_len {L : List Ob} {p t : Nat} {x : Ob} (hp : p ≤ L.length) (ht : t ≤ L.length) : (insP L p t x).length ≤ L.length + 1 := by
  unfold insP
  split
  · simp; omega
  · simp; omega
theorem insP_end {L : List Ob} {p : Nat} {x : Ob} (hp : posR (rowsO L) x.id = p) (h : p < L.length) : insP L p L.length x = insO L x := by
  have e : (L.drop p).take (L.length - p) = L.drop p := List.take_of_length_le (by rw [List.length_drop]; omega)
  unfold insP insO
  rw [if_pos h, hp, e]
theorem insP_last {L : List Ob} {p : Nat} {x : Ob} (hp : posR (rowsO L) x.id = p) (h : p = L.length) : insP L p L.length x ++ [x] = insO L x := by
  unfold insP insO
  rw [if_neg (by omega), hp, List.drop_eq_nil_iff.2 (by omega), h]
/-- The list that is built. -/
structure InsR (w5 wr : World) (l : Value) (M : List Ob) : Prop where
  bl : Below w5.heap.size w5 wr
  row : wr.ownsRow w5.heap.size 37 9 l M.length (objsC M)
theorem InsR.drewN {w5 wr : World} {l : Value} {M : List Ob} (h : InsR w5 wr l M) (k : Nat) : InsR w5 (wr.drewN k) l M :=
  ⟨below_drewN h.bl k, row_of_block h.row (fun g _ => by rw [World.heap_drewN])⟩
theorem InsR.app {w5 wr w8 : World} {l v' : Value} {M : List Ob} {y : Ob} {o : Obj} (h : InsR w5 wr l M) (hown : w8.ownsRow w5.heap.size 37 9 v' (M.length + 1) (objsC M ++ y.cells)) (hg : (wr.alloc o).grownBy w8 l.ownBlock) : InsR w5 w8 v' (M ++ [y]) := by
  have hal : Below w5.heap.size w5 (wr.alloc o) := h.bl.trans ((bal (Below.refl _ wr) o).mono h.bl.size)
  refine ⟨hal.grown hg hal.size (fun k e => (h.row.lt k e).1), ?_⟩
  rw [objs_app, show objsC [y] = y.cells by simp [objsC], List.length_append]
  exact hown
set_option maxRecDepth 100000 in
set_option maxHeartbeats 4000000 in
theorem radd_yes (w : World) (rb base : Nat) (F : Int) (v : Value) (L : List Ob) (G : List Int) (kd sz fi : Int) (h : RefA w rb base F v L G) (hF : 1 ≤ F ∧ F ≤ 64) (hl : L.length < 1000000) (hf : framesN kd sz ≠ 0) (hr : ¬ (fi < 0 ∨ F - framesN kd sz < fi)) (hany : L.any (collideA (newO kd sz fi)) = false) (nid : Int) (hnx : nextR F G fi = nid) (hn0 : nid ≠ 0) (hasc : Asc (rowsO L)) (hfr : ∀ y ∈ L, y.id ≠ nid) :
    Calls Try.prog 28 #[.pointer (some ⟨rb, 0, none⟩), .int .i64 kd, .int .i64 sz, .int .i64 fi] w fun e w' => e = .returned (.tuple #[.int .i64 nid, .int .i64 0]) ∧ ∃ c u, G[fi.toNat]? = some c ∧ RefA w' rb base F u (insO L { newO kd sz fi with id := nid }) (G.set fi.toNat (c + 1)) ∧ OnlyR w w' rb v u := by
  obtain ⟨hb1, hb2⟩ := frames_bd hf
  have c0 := h.c0
  have how := own_first (newO kd sz fi) h
  have HAN : Hid (∀ y ∈ L, collideA (newO kd sz fi) y = false) := Lib.hid (fun y hy => by
    rw [List.any_eq_false] at hany
    simpa using hany y hy)
  have HNX := Lib.hid hnx
  clear hnx
  obtain ⟨c, hc, hc1, hc2, hnid⟩ : ∃ c, G[fi.toNat]? = some c ∧ 0 ≤ c ∧ c + 1 ≤ 1024 ∧ nid = fi + 1 + 64 * c := by
    obtain ⟨c, hc⟩ : ∃ c, G[fi.toNat]? = some c := ⟨G[fi.toNat]'(by have := h.gl; omega), List.getElem?_eq_getElem _⟩
    have hb := h.cn c (List.mem_of_getElem? hc)
    have hnx' := HNX.out
    unfold nextR at hnx'
    rw [if_neg (by omega), hc] at hnx'
    simp only [] at hnx'
    split at hnx'
    · exact absurd hnx'.symm hn0
    · exact ⟨c, hc, hb.1, by omega, hnx'.symm⟩
  have HR0 := Lib.hid h
  have HC0 := Lib.hid hc
  have HFRE := Lib.hid hfr
  have HASC := Lib.hid hasc
  clear hfr hasc hc hnid
  obtain ⟨ra, rc, rfl, hrc, _⟩ := obs_of h.row
  clear h hany
  have hn : newO kd sz fi = ⟨0, kd, sz, fi, framesN kd sz, 0, 0, 0, 0⟩ := rfl
  rw [hn] at how HAN
  clear hn
  have hng : ({ newO kd sz fi with id := nid } : Ob) = ⟨nid, kd, sz, fi, framesN kd sz, 0, 0, 0, 0⟩ := rfl
  rw [hng]
  clear hng
  generalize hfr2 : framesN kd sz = fr at *
  have HF := Lib.hid hfr2
  have HOW := Lib.hid how
  clear hfr2 how
  have h1 : ¬ fi < 0 := by omega
  have h2 : ¬ F < fi := by omega
  have h4 : ¬ F - fi < fr := by omega
  clear hr
  go_enter Try.func28, Try.ntmps28
  go_upto_region 7 with (go_at_call 41; refine (framesR_any _ _ _).mono ?_; rw [HF.out]; rintro e w1 ⟨rfl, rfl⟩)
  obtain ⟨w1, hw1⟩ : ∃ y, y = w.alloc (.cells (obA ⟨0, kd, sz, fi, fr, 0, 0, 0, 0⟩) 37) := ⟨_, rfl⟩
  rw [← hw1]
  rw [← hw1] at HOW
  clear hw1 c0
  obtain ⟨oB, hoB⟩ : ∃ y, y = w.heap.size := ⟨_, rfl⟩
  rw [← hoB] at HOW ⊢
  have HOB := Lib.hid hoB
  clear hoB
  go_wp2
  go_loopw [12] (fun i wr => ∃ t : Nat, t ≤ L.length ∧ i = .int .i64 t ∧ Hid (OwnO w wr rb base oB F (.slice ra L.length rc) L G ⟨0, kd, sz, fi, fr, 0, 0, 0, 0⟩) ) (fun i _ => L.length - (intOf i).toNat)
  case atStart => exact ⟨0, Nat.zero_le _, rfl, HOW⟩
  case round =>
    obtain ⟨t, ht, rfl, HO⟩ := hrel
    clear HOW
    have c1 := HO.out.ref.c1
    by_cases htL : t < L.length
    · have htI : (t : Int) < L.length := by omega
      obtain ⟨y, hy⟩ : ∃ y, L[t]? = some y := ⟨L[t]'htL, List.getElem?_eq_getElem _⟩
      obtain ⟨ra', rc', hv, _, hra⟩ := obs_of HO.out.ref.row
      cases hv
      obtain ⟨g, rfl, hgl, hobs⟩ := hra t htL
      have HY := Lib.hid hy
      obtain ⟨yi, yk, ys, yf, yr, ym, ye, yp, yl⟩ := y
      have y0 := hobs t 0 _ _ hy rfl
      simp only [Nat.add_zero] at y0
      have y1 := hobs t 1 _ _ hy rfl
      have y2 := hobs t 2 _ _ hy rfl
      have y3 := hobs t 3 _ _ hy rfl
      have y4 := hobs t 4 _ _ hy rfl
      have y5 := hobs t 5 _ _ hy rfl
      have y6 := hobs t 6 _ _ hy rfl
      have y7 := hobs t 7 _ _ hy rfl
      have y8 := hobs t 8 _ _ hy rfl
      have x0 := HO.out.ox 0 _ rfl
      have x1 := HO.out.ox 1 _ rfl
      have x2 := HO.out.ox 2 _ rfl
      have x3 := HO.out.ox 3 _ rfl
      have x4 := HO.out.ox 4 _ rfl
      have x5 := HO.out.ox 5 _ rfl
      have x6 := HO.out.ox 6 _ rfl
      have x7 := HO.out.ox 7 _ rfl
      have x8 := HO.out.ox 8 _ rfl
      clear hy hra hobs
      go_upto_region 10 with fail
      go_still_tail 8, (by kernel_rfl)
      change wpList _ _ _ _ _ wr.drew
      have HO2 : Hid (OwnO w wr.drew rb base oB F (.slice (some ⟨g, 0, none⟩) L.length rc) L G ⟨0, kd, sz, fi, fr, 0, 0, 0, 0⟩) := Lib.hid (HO.out.call (Below.refl _ _).drew)
      clear y0 y1 y2 y3 y4 y5 y6 y7 y8 x0 x1 x2 x3 x4 x5 x6 x7 x8 c1 HO hgl
      generalize wr.drew = wd at *
      have HC := Lib.hid (HAN.out _ (List.mem_of_getElem? HY.out))
      go_wp2_with (go_at_call 42; refine (may_any _ ⟨0, kd, sz, fi, fr, 0, 0, 0, 0⟩ ⟨yi, yk, ys, yf, yr, ym, ye, yp, yl⟩).mono ?_; rw [HC.out]; rintro e w3 ⟨rfl, hb3⟩)
      go_roundw
      case rel => exact ⟨t + 1, by omega, by go_num, Lib.hid (HO2.out.call hb3)⟩
      case measure => first | (simp [intOf]; done) | (simp [intOf]; omega)
    · obtain rfl : t = L.length := by omega
      have x0 := HO.out.ox 0 _ rfl
      have xf := HO.out.of 0
      have xl := HO.out.ol
      have HN4 := Lib.hid (own_named nid HR0.out HO.out)
      go_upto_region 13 with (go_at_call 14; refine (rnext_any _ rb base F _ L G fi HO.out.ref hF).mono ?_; rw [HNX.out]; rintro e w4 ⟨rfl, rfl⟩)
      obtain ⟨w4, hw4⟩ : ∃ y, y = wr.setCell ⟨oB, 0, none⟩ (.int .i64 nid) := ⟨_, rfl⟩
      rw [← hw4]
      rw [← hw4] at HN4
      clear hw4 x0 xf xl HO c1
      have x0 := HN4.out.ox 0 _ rfl
      have cg := HN4.out.ref.cg HC0.out
      have fg : w4.frozen? ⟨rb, 2 + fi.toNat, none⟩ = false := froz_row HN4.out.ref.blk
      have h64 : fi < 64 := by omega
      have hcw : IntKind.i64.wrap (c + 1) = c + 1 := IntWalk.i64_in _ (by omega)
      go_upto_region 15 with fail
      go_region
      obtain ⟨hR5, hO5, hx5⟩ := own_count HR0.out HN4.out HC0.out hc1 hc2
      obtain ⟨w5, hw5⟩ : ∃ y, y = (w4.setCell ⟨rb, 2 + fi.toNat, none⟩ (.int .i64 (c + 1))).drew := ⟨_, rfl⟩
      rw [← hw5] at hR5 hO5 hx5 ⊢
      have HR5 := Lib.hid hR5
      have HO5 := Lib.hid hO5
      have HX5 := Lib.hid hx5
      have HOL := Lib.hid (show oB < w5.heap.size by rw [hw5]; simpa using HN4.out.ol)
      clear hR5 hO5 hx5 hw5 HN4 x0 cg fg
      obtain ⟨p, hp⟩ : ∃ p, posR (rowsO L) nid = p := ⟨_, rfl⟩
      have HPF := Lib.hid (posR_facts (k := nid) HASC.out)
      rw [hp] at HPF
      have HPL : Hid (p ≤ L.length) := Lib.hid (by rw [← hp, ← rows_len L]; exact posR_le _ _)
      have HP := Lib.hid hp
      clear hp
      obtain ⟨i0, hi0, hz0, hz1, hz2⟩ := info_parts infoOb
      have HI0 := Lib.hid hi0
      clear hi0
      clear w4
      go_wp2
      go_loopw [13, 14, 15] (fun lw b i wr => ∃ (t : Nat) (lv : Value), lv = lw ∧ t ≤ L.length ∧ i = .int .i64 t ∧ b = .bool (decide (p < t)) ∧ Hid (InsR w5 wr lv (insP L p t ⟨nid, kd, sz, fi, fr, 0, 0, 0, 0⟩))) (fun _ _ i _ => L.length - (intOf i).toNat)
      case atStart => exact ⟨0, _, rfl, Nat.zero_le _, rfl, by simp, Lib.hid ⟨Below.refl _ _, World.ownsRow_nil _ _ _ _⟩⟩
      case round =>
        obtain ⟨t, lv, rfl, ht, rfl, rfl, HI⟩ := hrel
        have hR := HR5.out.call HI.out.bl
        have c1 := hR.c1
        have HLM : Hid ((insP L p t ⟨nid, kd, sz, fi, fr, 0, 0, 0, 0⟩).length ≤ 1000000) := Lib.hid (by have := insP_len (x := ⟨nid, kd, sz, fi, fr, 0, 0, 0, 0⟩) HPL.out ht; omega)
        have hxo := fun j u hj => (HI.out.bl.cell (p := ⟨oB, j, none⟩) HOL.out).trans (HX5.out j u hj)
        by_cases htL : t < L.length
        · have htI : (t : Int) < L.length := by omega
          obtain ⟨y, hy⟩ : ∃ y, L[t]? = some y := ⟨L[t]'htL, List.getElem?_eq_getElem _⟩
          obtain ⟨ra', rc', hv, _, hra⟩ := obs_of hR.row
          cases hv
          obtain ⟨g, rfl, hgl, hobs⟩ := hra t htL
          have HY := Lib.hid hy
          have hylt := fun h => HPF.out.1 t (rowO y) h (by rw [rows_get, hy]; rfl)
          have hyge := fun h => HPF.out.2 t (rowO y) h (by rw [rows_get, hy]; rfl)
          have hyne := HFRE.out y (List.mem_of_getElem? hy)
          obtain ⟨yi, yk, ys, yf, yr, ym, ye, yp, yl⟩ := y
          have hylt' : t < p → yi < nid := hylt
          have hyge' : p ≤ t → nid ≤ yi := hyge
          have hyne' : yi ≠ nid := hyne
          clear hylt hyge hyne
          have y0 := hobs t 0 _ _ hy rfl
          simp only [Nat.add_zero] at y0
          have x0 := hxo 0 _ rfl
          have HTL := Lib.hid htL
          clear hy hra hobs hxo hR hgl
          go_upto_region 21 with fail
          rcases Nat.lt_trichotomy t p with hc3 | hc3 | hc3
          · have e2 : decide (nid < yi) = false := decide_eq_false (by have := hylt' hc3; omega)
            clear hylt' hyge' hyne'
            have e1 : decide (p < t) = false := decide_eq_false (by omega)
            have n1 : decide (p < t + 1) = false := decide_eq_false (by omega)
            go_quiet (fail)
            obtain ⟨wq, hwq⟩ : ∃ y, y = wr.drewN nq := ⟨_, rfl⟩
            rw [← hwq]
            have HQ : Hid (InsR w5 wq lv (insP L p t ⟨nid, kd, sz, fi, fr, 0, 0, 0, 0⟩)) := Lib.hid (by rw [hwq]; exact HI.out.drewN _)
            clear hwq y0 x0 c1 HI
            have hRq := HR5.out.call HQ.out.bl
            obtain ⟨ra2, rc2, hvq, _, hraq⟩ := obs_of hRq.row
            cases hvq
            obtain ⟨g2, hg2, hglq, hobsq⟩ := hraq t HTL.out
            cases hg2
            have c1 := hRq.c1
            have hxoq := fun j u hj => (HQ.out.bl.cell (p := ⟨oB, j, none⟩) HOL.out).trans (HX5.out j u hj)
            have y0 := hobsq t 0 _ _ HY.out rfl
            simp only [Nat.add_zero] at y0
            have y1 := hobsq t 1 _ _ HY.out rfl
            have y2 := hobsq t 2 _ _ HY.out rfl
            have y3 := hobsq t 3 _ _ HY.out rfl
            have y4 := hobsq t 4 _ _ HY.out rfl
            have y5 := hobsq t 5 _ _ HY.out rfl
            have y6 := hobsq t 6 _ _ HY.out rfl
            have y7 := hobsq t 7 _ _ HY.out rfl
            have y8 := hobsq t 8 _ _ HY.out rfl
            have x0 := hxoq 0 _ rfl
            have x1 := hxoq 1 _ rfl
            have x2 := hxoq 2 _ rfl
            have x3 := hxoq 3 _ rfl
            have x4 := hxoq 4 _ rfl
            have x5 := hxoq 5 _ rfl
            have x6 := hxoq 6 _ rfl
            have x7 := hxoq 7 _ rfl
            have x8 := hxoq 8 _ rfl
            have hsz := HQ.out.bl.size
            have HSZ := Lib.hid hsz
            clear hRq hraq hobsq hxoq hglq hsz
            go_wp2_with (at_builtin; refine wpList_append_own _ rfl _ _ 40 rfl w5.heap.size 37 i0 (.agg #[.int .i64 0, .int .i64 0, .int .i64 0, .int .i64 0, .int .i64 0, .int .i64 0, .int .i64 0, .int .i64 0, .int .i64 0]) 9 72 Try.underlying40 HI0.out hz0 hz1 hz2 rfl (by decide) lv _ _ rfl (HQ.out.row.alloc _) ⟨wq.heap.size, 0, none⟩ 1 1 [.int .i64 yi, .int .i64 yk, .int .i64 ys, .int .i64 yf, .int .i64 yr, .int .i64 ym, .int .i64 ye, .int .i64 yp, .int .i64 yl] rfl rfl (news_at wq _ _ _ rfl) (by simp [Value.oneCell']) (by have := HLM.out; unfold maxLen; omega) (by have := HLM.out; omega) (by have := HQ.out.bl.size; simp; omega) ?_; intro v2 w8 hown' hgrow _; have HQ2 := Lib.hid (HQ.out.app (y := ⟨yi, yk, ys, yf, yr, ym, ye, yp, yl⟩) hown' hgrow); clear hown' hgrow)
            go_roundw
            case rel => exact ⟨_, _, _, ⟨t + 1, by omega, by go_num, by simp only [n1, e1], Lib.hid (by rw [insP_before hc3 HY.out]; exact HQ2.out)⟩, rfl, rfl, rfl⟩
            case measure => first | (simp [intOf]; done) | (simp [intOf]; omega)
          · subst hc3
            have e2 : decide (nid < yi) = true := decide_eq_true (by have := hyge' (Nat.le_refl _); omega)
            have e1 : decide (t < t) = false := decide_eq_false (by omega)
            have n1 : decide (t < t + 1) = true := decide_eq_true (by omega)
            clear hylt' hyge' hyne'
            go_quiet (fail)
            obtain ⟨wq, hwq⟩ : ∃ y, y = wr.drewN nq := ⟨_, rfl⟩
            rw [← hwq]
            have HQ : Hid (InsR w5 wq lv (insP L t t ⟨nid, kd, sz, fi, fr, 0, 0, 0, 0⟩)) := Lib.hid (by rw [hwq]; exact HI.out.drewN _)
            clear hwq y0 x0 c1 HI
            have hRq := HR5.out.call HQ.out.bl
            obtain ⟨ra2, rc2, hvq, _, hraq⟩ := obs_of hRq.row
            cases hvq
            obtain ⟨g2, hg2, hglq, hobsq⟩ := hraq t HTL.out
            cases hg2
            have c1 := hRq.c1
            have hxoq := fun j u hj => (HQ.out.bl.cell (p := ⟨oB, j, none⟩) HOL.out).trans (HX5.out j u hj)
            have y0 := hobsq t 0 _ _ HY.out rfl
            simp only [Nat.add_zero] at y0
            have y1 := hobsq t 1 _ _ HY.out rfl
            have y2 := hobsq t 2 _ _ HY.out rfl
            have y3 := hobsq t 3 _ _ HY.out rfl
            have y4 := hobsq t 4 _ _ HY.out rfl
            have y5 := hobsq t 5 _ _ HY.out rfl
            have y6 := hobsq t 6 _ _ HY.out rfl
            have y7 := hobsq t 7 _ _ HY.out rfl
            have y8 := hobsq t 8 _ _ HY.out rfl
            have x0 := hxoq 0 _ rfl
            have x1 := hxoq 1 _ rfl
            have x2 := hxoq 2 _ rfl
            have x3 := hxoq 3 _ rfl
            have x4 := hxoq 4 _ rfl
            have x5 := hxoq 5 _ rfl
            have x6 := hxoq 6 _ rfl
            have x7 := hxoq 7 _ rfl
            have x8 := hxoq 8 _ rfl
            have hsz := HQ.out.bl.size
            have HSZ := Lib.hid hsz
            clear hRq hraq hobsq hxoq hglq hsz
            go_upto_region 23 with (at_builtin; refine wpList_append_own _ rfl _ _ 40 rfl w5.heap.size 37 i0 (.agg #[.int .i64 0, .int .i64 0, .int .i64 0, .int .i64 0, .int .i64 0, .int .i64 0, .int .i64 0, .int .i64 0, .int .i64 0]) 9 72 Try.underlying40 HI0.out hz0 hz1 hz2 rfl (by decide) lv _ _ rfl (HQ.out.row.alloc _) ⟨wq.heap.size, 0, none⟩ 1 1 [.int .i64 nid, .int .i64 kd, .int .i64 sz, .int .i64 fi, .int .i64 fr, .int .i64 0, .int .i64 0, .int .i64 0, .int .i64 0] rfl rfl (news_at wq _ _ _ rfl) (by simp [Value.oneCell']) (by have := HLM.out; unfold maxLen; omega) (by have := HLM.out; omega) (by have := HQ.out.bl.size; simp; omega) ?_; intro v2 w8 hown' hgrow _; have HQ2 := Lib.hid (HQ.out.app (y := ⟨nid, kd, sz, fi, fr, 0, 0, 0, 0⟩) hown' hgrow); clear hown' hgrow)
            clear c1 y0 y1 y2 y3 y4 y5 y6 y7 y8 x0 x1 x2 x3 x4 x5 x6 x7 x8 HSZ
            have hRq := HR5.out.call HQ2.out.bl
            obtain ⟨ra2, rc2, hvq, _, hraq⟩ := obs_of hRq.row
            cases hvq
            obtain ⟨g2, hg2, hglq, hobsq⟩ := hraq t HTL.out
            cases hg2
            have c1 := hRq.c1
            have hxoq := fun j u hj => (HQ2.out.bl.cell (p := ⟨oB, j, none⟩) HOL.out).trans (HX5.out j u hj)
            have y0 := hobsq t 0 _ _ HY.out rfl
            simp only [Nat.add_zero] at y0
            have y1 := hobsq t 1 _ _ HY.out rfl
            have y2 := hobsq t 2 _ _ HY.out rfl
            have y3 := hobsq t 3 _ _ HY.out rfl
            have y4 := hobsq t 4 _ _ HY.out rfl
            have y5 := hobsq t 5 _ _ HY.out rfl
            have y6 := hobsq t 6 _ _ HY.out rfl
            have y7 := hobsq t 7 _ _ HY.out rfl
            have y8 := hobsq t 8 _ _ HY.out rfl
            have x0 := hxoq 0 _ rfl
            have x1 := hxoq 1 _ rfl
            have x2 := hxoq 2 _ rfl
            have x3 := hxoq 3 _ rfl
            have x4 := hxoq 4 _ rfl
            have x5 := hxoq 5 _ rfl
            have x6 := hxoq 6 _ rfl
            have x7 := hxoq 7 _ rfl
            have x8 := hxoq 8 _ rfl
            have hsz := HQ2.out.bl.size
            have HSZ := Lib.hid hsz
            clear hRq hraq hobsq hxoq hglq hsz
            have HLM2 : Hid ((insP L t t ⟨nid, kd, sz, fi, fr, 0, 0, 0, 0⟩ ++ [(⟨nid, kd, sz, fi, fr, 0, 0, 0, 0⟩ : Ob)]).length ≤ 1000001) := Lib.hid (by have := HLM.out; rw [List.length_append]; simp; omega)
            go_wp2_with (at_builtin; refine wpList_append_own _ rfl _ _ 40 rfl w5.heap.size 37 i0 (.agg #[.int .i64 0, .int .i64 0, .int .i64 0, .int .i64 0, .int .i64 0, .int .i64 0, .int .i64 0, .int .i64 0, .int .i64 0]) 9 72 Try.underlying40 HI0.out hz0 hz1 hz2 rfl (by decide) v2 _ _ rfl (HQ2.out.row.alloc _) ⟨w8.heap.size, 0, none⟩ 1 1 [.int .i64 yi, .int .i64 yk, .int .i64 ys, .int .i64 yf, .int .i64 yr, .int .i64 ym, .int .i64 ye, .int .i64 yp, .int .i64 yl] rfl rfl (news_at w8 _ _ _ rfl) (by simp [Value.oneCell']) (by have := HLM2.out; unfold maxLen; omega) (by have := HLM2.out; omega) (by have := HQ2.out.bl.size; simp; omega) ?_; intro v3 w9 hown' hgrow _; have HQ3 := Lib.hid (HQ2.out.app (y := ⟨yi, yk, ys, yf, yr, ym, ye, yp, yl⟩) hown' hgrow); clear hown' hgrow)
            go_roundw
            case rel => exact ⟨_, _, _, ⟨t + 1, by omega, by go_num, by simp only [n1], Lib.hid (by rw [insP_at HY.out]; exact HQ3.out)⟩, rfl, rfl, rfl⟩
            case measure => first | (simp [intOf]; done) | (simp [intOf]; omega)
          · clear hylt' hyge' hyne'
            have e1 : decide (p < t) = true := decide_eq_true hc3
            have n1 : decide (p < t + 1) = true := decide_eq_true (by omega)
            go_quiet (fail)
            obtain ⟨wq, hwq⟩ : ∃ y, y = wr.drewN nq := ⟨_, rfl⟩
            rw [← hwq]
            have HQ : Hid (InsR w5 wq lv (insP L p t ⟨nid, kd, sz, fi, fr, 0, 0, 0, 0⟩)) := Lib.hid (by rw [hwq]; exact HI.out.drewN _)
            clear hwq y0 x0 c1 HI
            have hRq := HR5.out.call HQ.out.bl
            obtain ⟨ra2, rc2, hvq, _, hraq⟩ := obs_of hRq.row
            cases hvq
            obtain ⟨g2, hg2, hglq, hobsq⟩ := hraq t HTL.out
            cases hg2
            have c1 := hRq.c1
            have hxoq := fun j u hj => (HQ.out.bl.cell (p := ⟨oB, j, none⟩) HOL.out).trans (HX5.out j u hj)
            have y0 := hobsq t 0 _ _ HY.out rfl
            simp only [Nat.add_zero] at y0
            have y1 := hobsq t 1 _ _ HY.out rfl
            have y2 := hobsq t 2 _ _ HY.out rfl
            have y3 := hobsq t 3 _ _ HY.out rfl
            have y4 := hobsq t 4 _ _ HY.out rfl
            have y5 := hobsq t 5 _ _ HY.out rfl
            have y6 := hobsq t 6 _ _ HY.out rfl
            have y7 := hobsq t 7 _ _ HY.out rfl
            have y8 := hobsq t 8 _ _ HY.out rfl
            have x0 := hxoq 0 _ rfl
            have x1 := hxoq 1 _ rfl
            have x2 := hxoq 2 _ rfl
            have x3 := hxoq 3 _ rfl
            have x4 := hxoq 4 _ rfl
            have x5 := hxoq 5 _ rfl
            have x6 := hxoq 6 _ rfl
            have x7 := hxoq 7 _ rfl
            have x8 := hxoq 8 _ rfl
            have hsz := HQ.out.bl.size
            have HSZ := Lib.hid hsz
            clear hRq hraq hobsq hxoq hglq hsz
            go_wp2_with (at_builtin; refine wpList_append_own _ rfl _ _ 40 rfl w5.heap.size 37 i0 (.agg #[.int .i64 0, .int .i64 0, .int .i64 0, .int .i64 0, .int .i64 0, .int .i64 0, .int .i64 0, .int .i64 0, .int .i64 0]) 9 72 Try.underlying40 HI0.out hz0 hz1 hz2 rfl (by decide) lv _ _ rfl (HQ.out.row.alloc _) ⟨wq.heap.size, 0, none⟩ 1 1 [.int .i64 yi, .int .i64 yk, .int .i64 ys, .int .i64 yf, .int .i64 yr, .int .i64 ym, .int .i64 ye, .int .i64 yp, .int .i64 yl] rfl rfl (news_at wq _ _ _ rfl) (by simp [Value.oneCell']) (by have := HLM.out; unfold maxLen; omega) (by have := HLM.out; omega) (by have := HQ.out.bl.size; simp; omega) ?_; intro v2 w8 hown' hgrow _; have HQ2 := Lib.hid (HQ.out.app (y := ⟨yi, yk, ys, yf, yr, ym, ye, yp, yl⟩) hown' hgrow); clear hown' hgrow)
            go_roundw
            case rel => exact ⟨_, _, _, ⟨t + 1, by omega, by go_num, by simp only [n1, e1], Lib.hid (by rw [insP_after hc3 HY.out]; exact HQ2.out)⟩, rfl, rfl, rfl⟩
            case measure => first | (simp [intOf]; done) | (simp [intOf]; omega)
        · obtain rfl : t = L.length := by omega
          have x0 := hxo 0 _ rfl
          have x1 := hxo 1 _ rfl
          have x2 := hxo 2 _ rfl
          have x3 := hxo 3 _ rfl
          have x4 := hxo 4 _ rfl
          have x5 := hxo 5 _ rfl
          have x6 := hxo 6 _ rfl
          have x7 := hxo 7 _ rfl
          have x8 := hxo 8 _ rfl
          have hne : ¬ oB = rb := by have := HOB.out; have := HR0.out.lt; have := HR0.out.bs; omega
          have hne2 : ¬ rb = oB := fun e => hne e.symm
          by_cases hpl : p < L.length
          · have e1 : decide (p < L.length) = true := decide_eq_true hpl
            have hrow := HI.out.row
            rw [insP_end (x := ⟨nid, kd, sz, fi, fr, 0, 0, 0, 0⟩) HP.out hpl] at hrow
            obtain ⟨ua, un, uc, rfl⟩ := own_slice hrow
            have HST := Lib.hid (HR5.out.store HI.out.bl hrow)
            have f1 : wr.frozen? ⟨rb, 1, none⟩ = false := froz_row hR.blk
            clear hrow hR hxo
            go_wp2
            go_ret2
            exact ⟨rfl, c, HC0.out, _, HST.out.1, HO5.out.trans HST.out.2⟩
          · have e1 : decide (p < L.length) = false := decide_eq_false hpl
            have hpe : p = L.length := by have := HPL.out; omega
            have HPE := Lib.hid hpe
            have hsz := HI.out.bl.size
            clear hpe hR hxo
            go_upto_region 27 with (at_builtin; refine wpList_append_own _ rfl _ _ 40 rfl w5.heap.size 37 i0 (.agg #[.int .i64 0, .int .i64 0, .int .i64 0, .int .i64 0, .int .i64 0, .int .i64 0, .int .i64 0, .int .i64 0, .int .i64 0]) 9 72 Try.underlying40 HI0.out hz0 hz1 hz2 rfl (by decide) lv _ _ rfl (HI.out.row.alloc _) ⟨wr.heap.size, 0, none⟩ 1 1 [.int .i64 nid, .int .i64 kd, .int .i64 sz, .int .i64 fi, .int .i64 fr, .int .i64 0, .int .i64 0, .int .i64 0, .int .i64 0] rfl rfl (news_at wr _ _ _ rfl) (by simp [Value.oneCell']) (by have := HLM.out; unfold maxLen; omega) (by have := HLM.out; omega) (by have := HI.out.bl.size; simp; omega) ?_; intro v2 w8 hown' hgrow _; have HQ2 := Lib.hid (HI.out.app (y := ⟨nid, kd, sz, fi, fr, 0, 0, 0, 0⟩) hown' hgrow); clear hown' hgrow)
            have hrow := HQ2.out.row
            rw [insP_last (x := ⟨nid, kd, sz, fi, fr, 0, 0, 0, 0⟩) HP.out HPE.out] at hrow
            obtain ⟨ua, un, uc, rfl⟩ := own_slice hrow
            have hR2 := HR5.out.call HQ2.out.bl
            have c1 := hR2.c1
            have z0 := (HQ2.out.bl.cell (p := ⟨oB, 0, none⟩) HOL.out).trans (HX5.out 0 _ rfl)
            have HST := Lib.hid (HR5.out.store HQ2.out.bl hrow)
            have f1 : w8.frozen? ⟨rb, 1, none⟩ = false := froz_row hR2.blk
            clear hrow hR2
            go_wp2
            go_ret2
            exact ⟨rfl, c, HC0.out, _, HST.out.1, HO5.out.trans HST.out.2⟩
end Go.Proofs.Ytkladhbamkomnaa
