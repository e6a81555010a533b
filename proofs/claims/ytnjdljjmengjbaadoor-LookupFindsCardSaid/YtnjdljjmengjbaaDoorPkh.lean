import Derived.Test.YtnjdljjmengjbaaDoorPkg
import Derived.Test.YtnjdljjmengjbaaDoorPke
import Derived.Test.YtnjdljjmengjbaaDoorPka
import Derived.Deep.QuietTactic
import Derived.BigQuiet
import Derived.Lib.Hide
import Derived.Laws.BitsAllLaws
import Derived.WalkSmall
import Derived.StillTailTactics
import Derived.Deep.RegionWith
import Derived.Deep.RegionHeld3
namespace Go.Proofs.YtnjdljjmengjbaaDoor
/- chapter 12's own answer: Add, that adds. -/
section
set_option linter.unusedVariables false
set_option linter.unusedSimpArgs false
open Go.ChangeShapes Go.WideShapes Go.ChangeAt Go.RowKit Go.Shelf
open TabA

theorem OnlyR.trans {a b c : World} {rb : Nat} {v0 v1 v2 : Value} (h : OnlyR a b rb v0 v1) (k : OnlyR b c rb v1 v2) : OnlyR a c rb v0 v2 :=
  ⟨k.os.trans h.os, k.tape.trans h.tape, k.output.trans h.output, Nat.le_trans h.size k.size,
   fun j hj h1 h2 => (k.block j (Nat.lt_of_lt_of_le hj h.size) h1 (fun e => h2 (h.foot j hj e))).trans (h.block j hj h1 h2), fun j hj e => h.foot j hj (k.foot j (Nat.lt_of_lt_of_le hj h.size) e)⟩
theorem own_named {w wr : World} {rb base oB : Nat} {F : Int} {v : Value} {L : List Ob} {G : List Int} {x : Ob} (nid : Int) (h0 : RefA w rb base F v L G) (h : OwnO w wr rb base oB F v L G x) : OwnO w (wr.setCell ⟨oB, 0, none⟩ (.int .i64 nid)) rb base oB F v L G { x with id := nid } := by
  have hob := h.ob
  have hbl : Below w.heap.size w (wr.setCell ⟨oB, 0, none⟩ (.int .i64 nid)) := Below.setCell h.bl (by show _ ≤ oB; omega) _
  refine ⟨h0.call hbl, fun j u hj => ?_, fun j => ?_, by simpa using h.ol, hob, hbl⟩
  · cases j with
    | zero =>
      cases hj
      exact World.cell?_setCell_same' _ _ _ (by rw [h.ox 0 _ rfl]; rfl)
    | succ j =>
      have := h.ox (j + 1) u hj
      rw [← this]
      apply World.cell?_setCell_other
      intro q
      simp at q
  · have := h.of j
    simp [go_sem, this]
theorem RefA.count {w : World} {rb base k : Nat} {F c : Int} {v : Value} {L : List Ob} {G : List Int} (h : RefA w rb base F v L G) (hk : G[k]? = some c) (h0 : 0 ≤ c) (h1 : c + 1 ≤ 1024) :
    RefA (w.setCell ⟨rb, 2 + k, none⟩ (.int .i64 (c + 1))) rb base F v L (G.set k (c + 1)) := by
  have hlt := h.lt
  have hn : v.ownBlock ≠ some rb := fun e => by have := (h.row.lt rb e).1; omega
  refine ⟨?_, by rw [List.length_set]; exact h.gl, ownsRow_setCell_other h.row hn _, h.lt, by simpa using h.bs, fun g hg => ?_⟩
  · rw [Go.heap_setCell_same _ _ _ _ _ _ h.blk]
    congr 2
    rw [List.setIfInBounds_toArray, show 2 + k = k + 1 + 1 by omega, List.set_cons_succ, List.set_cons_succ, List.map_set]
  · rcases List.mem_or_eq_of_mem_set hg with q | q
    · exact h.cn g q
    · subst q; exact ⟨by omega, h1⟩
theorem own_count {w w4 : World} {rb base oB k : Nat} {F c : Int} {v : Value} {L : List Ob} {G : List Int} {x : Ob} (h0 : RefA w rb base F v L G) (h : OwnO w w4 rb base oB F v L G x) (hk : G[k]? = some c) (hc0 : 0 ≤ c) (hc1 : c + 1 ≤ 1024) :
    RefA ((w4.setCell ⟨rb, 2 + k, none⟩ (.int .i64 (c + 1))).drew) rb base F v L (G.set k (c + 1)) ∧ OnlyR w ((w4.setCell ⟨rb, 2 + k, none⟩ (.int .i64 (c + 1))).drew) rb v v ∧ (∀ j u, x.cells[j]? = some u → ((w4.setCell ⟨rb, 2 + k, none⟩ (.int .i64 (c + 1))).drew).cell? ⟨oB, j, none⟩ = some u) := by
  have hlt := h0.lt
  have hbs := h0.bs
  have hob := h.ob
  have hbl := h.bl
  refine ⟨(h.ref.count hk hc0 hc1).call (Below.refl _ _).drew, ⟨hbl.os, hbl.tape, hbl.output, by simpa using hbl.size, fun j hj h1 _ => (Go.heap_setCell_other _ _ _ _ h1).trans (hbl.block j hj), fun j _ e => e⟩, fun j u hj => ?_⟩
  rw [← h.ox j u hj]
  exact World.cell?_of_block (a := ⟨oB, j, none⟩) (Go.heap_setCell_other _ _ _ _ (by show oB ≠ rb; omega))
/-- The list so far. -/
def insP (L : List Ob) (p t : Nat) (x : Ob) : List Ob := if p < t then L.take p ++ x :: (L.drop p).take (t - p) else L.take t
theorem insP_before {L : List Ob} {p t : Nat} {x y : Ob} (h : t < p) (hy : L[t]? = some y) : insP L p (t + 1) x = insP L p t x ++ [y] := by
  unfold insP
  rw [if_neg (by omega), if_neg (by omega), List.take_add_one, hy]
  rfl
theorem insP_at {L : List Ob} {p : Nat} {x y : Ob} (hy : L[p]? = some y) : insP L p (p + 1) x = (insP L p p x ++ [x]) ++ [y] := by
  unfold insP
  rw [if_pos (by omega), if_neg (by omega), show p + 1 - p = 0 + 1 by omega, List.take_add_one, List.getElem?_drop, Nat.add_zero, hy]
  simp
theorem insP_after {L : List Ob} {p t : Nat} {x y : Ob} (h : p < t) (hy : L[t]? = some y) : insP L p (t + 1) x = insP L p t x ++ [y] := by
  unfold insP
  rw [if_pos (by omega), if_pos h, show t + 1 - p = (t - p) + 1 by omega, List.take_add_one, List.getElem?_drop, show p + (t - p) = t by omega, hy]
  simp
theorem insP_len {L : List Ob} {p t : Nat} {x : Ob} (hp : p ≤ L.length) (ht : t ≤ L.length) : (insP L p t x).length ≤ L.length + 1 := by
  unfold insP
  split
  · simp; omega
  · simp; omega
theorem insP_end {L : List Ob} {p : Nat} {x : Ob} (hp : posR (rowsO L) x.id = p) (h : p < L.length) : insP L p L.length x = insO L x := by
  have e : (L.drop p).take (L.length - p) = L.drop p := List.take_of_length_le (by rw [List.length_drop]; omega)
  unfold insP insO
  rw [if_pos h, hp, e]
theorem insP_last {L : List Ob} {p : Nat} {x : Ob} (hp : posR (rowsO L) x.id = p) (h : p = L.length) : insP L p L.length x ++ [x] = insO L x := by
  unfold insP insO
  rw [if_neg (by omega), hp, List.drop_eq_nil_iff.2 (by omega), h]
/-- The list that is built. -/
structure InsR (w5 wr : World) (l : Value) (M : List Ob) : Prop where
  bl : Below w5.heap.size w5 wr
  row : wr.ownsRow w5.heap.size 84 9 l M.length (objsC M)
theorem InsR.drewN {w5 wr : World} {l : Value} {M : List Ob} (h : InsR w5 wr l M) (k : Nat) : InsR w5 (wr.drewN k) l M :=
  ⟨below_drewN h.bl k, row_of_block h.row (fun g _ => by rw [World.heap_drewN])⟩
theorem InsR.app {w5 wr w8 : World} {l v' : Value} {M : List Ob} {y : Ob} {o : Obj} (h : InsR w5 wr l M) (hown : w8.ownsRow w5.heap.size 84 9 v' (M.length + 1) (objsC M ++ y.cells)) (hg : (wr.alloc o).grownBy w8 l.ownBlock) : InsR w5 w8 v' (M ++ [y]) := by
  have hal : Below w5.heap.size w5 (wr.alloc o) := h.bl.trans ((bal (Below.refl _ wr) o).mono h.bl.size)
  refine ⟨hal.grown hg hal.size (fun k e => (h.row.lt k e).1), ?_⟩
  rw [objs_app, show objsC [y] = y.cells by simp [objsC], List.length_append]
  exact hown
set_option maxRecDepth 100000 in
set_option maxHeartbeats 4000000 in
theorem radd_yes (w : World) (rb base : Nat) (F : Int) (v : Value) (L : List Ob) (G : List Int) (kd sz fi : Int) (h : RefA w rb base F v L G) (hF : 1 ≤ F ∧ F ≤ 64) (hl : L.length < 1000000) (hf : framesN kd sz ≠ 0) (hr : ¬ (fi < 0 ∨ F - framesN kd sz < fi)) (hany : L.any (collideA (newO kd sz fi)) = false) (nid : Int) (hnx : nextR F G fi = nid) (hn0 : nid ≠ 0) (hasc : Asc (rowsO L)) (hfr : ∀ y ∈ L, y.id ≠ nid) :
    Calls Tryd.prog 22 #[.pointer (some ⟨rb, 0, none⟩), .int .i64 kd, .int .i64 sz, .int .i64 fi] w fun e w' => e = .returned (.tuple #[.int .i64 nid, .int .i64 0]) ∧ ∃ c u, G[fi.toNat]? = some c ∧ RefA w' rb base F u (insO L { newO kd sz fi with id := nid }) (G.set fi.toNat (c + 1)) ∧ OnlyR w w' rb v u := by
  obtain ⟨hb1, hb2⟩ := frames_bd hf
  have c0 := h.c0
  have how := own_first (newO kd sz fi) h
  have HAN : Hid (∀ y ∈ L, collideA (newO kd sz fi) y = false) := Lib.hid (fun y hy => by
    rw [List.any_eq_false] at hany
    simpa using hany y hy)
  have HNX := Lib.hid hnx
  clear hnx
  obtain ⟨c, hc, hc1, hc2, hnid⟩ : ∃ c, G[fi.toNat]? = some c ∧ 0 ≤ c ∧ c + 1 ≤ 1024 ∧ nid = fi + 1 + 64 * c := by
    obtain ⟨c, hc⟩ : ∃ c, G[fi.toNat]? = some c := ⟨G[fi.toNat]'(by have := h.gl; omega), List.getElem?_eq_getElem _⟩
    have hb := h.cn c (List.mem_of_getElem? hc)
    have hnx' := HNX.out
    unfold nextR at hnx'
    rw [if_neg (by omega), hc] at hnx'
    simp only [] at hnx'
    split at hnx'
    · exact absurd hnx'.symm hn0
    · exact ⟨c, hc, hb.1, by omega, hnx'.symm⟩
  have HR0 := Lib.hid h
  have HC0 := Lib.hid hc
  have HFRE := Lib.hid hfr
  have HASC := Lib.hid hasc
  clear hfr hasc hc hnid
  obtain ⟨ra, rc, rfl, hrc, _⟩ := obs_of h.row
  clear h hany
  have hn : newO kd sz fi = ⟨0, kd, sz, fi, framesN kd sz, 0, 0, 0, 0⟩ := rfl
  rw [hn] at how HAN
  clear hn
  have hng : ({ newO kd sz fi with id := nid } : Ob) = ⟨nid, kd, sz, fi, framesN kd sz, 0, 0, 0, 0⟩ := rfl
  rw [hng]
  clear hng
  generalize hfr2 : framesN kd sz = fr at *
  have HF := Lib.hid hfr2
  have HOW := Lib.hid how
  clear hfr2 how
  have h1 : ¬ fi < 0 := by omega
  have h2 : ¬ F < fi := by omega
  have h4 : ¬ F - fi < fr := by omega
  clear hr
  go_enter Tryd.func22, Tryd.ntmps22
  go_upto_region 7 with (go_at_call 39; refine (framesR_any _ _ _).mono ?_; rw [HF.out]; rintro e w1 ⟨rfl, rfl⟩)
  obtain ⟨w1, hw1⟩ : ∃ y, y = w.alloc (.cells (obA ⟨0, kd, sz, fi, fr, 0, 0, 0, 0⟩) 84) := ⟨_, rfl⟩
  rw [← hw1]
  rw [← hw1] at HOW
  clear hw1 c0
  obtain ⟨oB, hoB⟩ : ∃ y, y = w.heap.size := ⟨_, rfl⟩
  rw [← hoB] at HOW ⊢
  have HOB := Lib.hid hoB
  clear hoB
  go_wp2
  go_loopw [12] (fun i wr => ∃ t : Nat, t ≤ L.length ∧ i = .int .i64 t ∧ Hid (OwnO w wr rb base oB F (.slice ra L.length rc) L G ⟨0, kd, sz, fi, fr, 0, 0, 0, 0⟩) ) (fun i _ => L.length - (intOf i).toNat)
  case atStart => exact ⟨0, Nat.zero_le _, rfl, HOW⟩
  case round =>
    obtain ⟨t, ht, rfl, HO⟩ := hrel
    clear HOW
    have c1 := HO.out.ref.c1
    by_cases htL : t < L.length
    · have htI : (t : Int) < L.length := by omega
      obtain ⟨y, hy⟩ : ∃ y, L[t]? = some y := ⟨L[t]'htL, List.getElem?_eq_getElem _⟩
      obtain ⟨ra', rc', hv, _, hra⟩ := obs_of HO.out.ref.row
      cases hv
      obtain ⟨g, rfl, hgl, hobs⟩ := hra t htL
      have HY := Lib.hid hy
      obtain ⟨yi, yk, ys, yf, yr, ym, ye, yp, yl⟩ := y
      have y0 := hobs t 0 _ _ hy rfl
      simp only [Nat.add_zero] at y0
      have y1 := hobs t 1 _ _ hy rfl
      have y2 := hobs t 2 _ _ hy rfl
      have y3 := hobs t 3 _ _ hy rfl
      have y4 := hobs t 4 _ _ hy rfl
      have y5 := hobs t 5 _ _ hy rfl
      have y6 := hobs t 6 _ _ hy rfl
      have y7 := hobs t 7 _ _ hy rfl
      have y8 := hobs t 8 _ _ hy rfl
      have x0 := HO.out.ox 0 _ rfl
      have x1 := HO.out.ox 1 _ rfl
      have x2 := HO.out.ox 2 _ rfl
      have x3 := HO.out.ox 3 _ rfl
      have x4 := HO.out.ox 4 _ rfl
      have x5 := HO.out.ox 5 _ rfl
      have x6 := HO.out.ox 6 _ rfl
      have x7 := HO.out.ox 7 _ rfl
      have x8 := HO.out.ox 8 _ rfl
      clear hy hra hobs
      go_upto_region 10 with fail
      go_still_tail 8, (by kernel_rfl)
      change wpList _ _ _ _ _ wr.drew
      have HO2 : Hid (OwnO w wr.drew rb base oB F (.slice (some ⟨g, 0, none⟩) L.length rc) L G ⟨0, kd, sz, fi, fr, 0, 0, 0, 0⟩) := Lib.hid (HO.out.call (Below.refl _ _).drew)
      clear y0 y1 y2 y3 y4 y5 y6 y7 y8 x0 x1 x2 x3 x4 x5 x6 x7 x8 c1 HO hgl
      generalize wr.drew = wd at *
      have HC := Lib.hid (HAN.out _ (List.mem_of_getElem? HY.out))
      go_wp2_with (go_at_call 40; refine (may_any _ ⟨0, kd, sz, fi, fr, 0, 0, 0, 0⟩ ⟨yi, yk, ys, yf, yr, ym, ye, yp, yl⟩).mono ?_; rw [HC.out]; rintro e w3 ⟨rfl, hb3⟩)
      go_roundw
      case rel => exact ⟨t + 1, by omega, by go_num, Lib.hid (HO2.out.call hb3)⟩
      case measure => first | (simp [intOf]; done) | (simp [intOf]; omega)
    · obtain rfl : t = L.length := by omega
      have x0 := HO.out.ox 0 _ rfl
      have xf := HO.out.of 0
      have xl := HO.out.ol
      have HN4 := Lib.hid (own_named nid HR0.out HO.out)
      go_upto_region 13 with (go_at_call 41; refine (rnext_any _ rb base F _ L G fi HO.out.ref hF).mono ?_; rw [HNX.out]; rintro e w4 ⟨rfl, rfl⟩)
      obtain ⟨w4, hw4⟩ : ∃ y, y = wr.setCell ⟨oB, 0, none⟩ (.int .i64 nid) := ⟨_, rfl⟩
      rw [← hw4]
      rw [← hw4] at HN4
      clear hw4 x0 xf xl HO c1
      have x0 := HN4.out.ox 0 _ rfl
      have cg := HN4.out.ref.cg HC0.out
      have fg : w4.frozen? ⟨rb, 2 + fi.toNat, none⟩ = false := froz_row HN4.out.ref.blk
      have h64 : fi < 64 := by omega
      have hcw : IntKind.i64.wrap (c + 1) = c + 1 := IntWalk.i64_in _ (by omega)
      go_upto_region 15 with fail
      go_region
      obtain ⟨hR5, hO5, hx5⟩ := own_count HR0.out HN4.out HC0.out hc1 hc2
      obtain ⟨w5, hw5⟩ : ∃ y, y = (w4.setCell ⟨rb, 2 + fi.toNat, none⟩ (.int .i64 (c + 1))).drew := ⟨_, rfl⟩
      rw [← hw5] at hR5 hO5 hx5 ⊢
      have HR5 := Lib.hid hR5
      have HO5 := Lib.hid hO5
      have HX5 := Lib.hid hx5
      have HOL := Lib.hid (show oB < w5.heap.size by rw [hw5]; simpa using HN4.out.ol)
      clear hR5 hO5 hx5 hw5 HN4 x0 cg fg
      obtain ⟨p, hp⟩ : ∃ p, posR (rowsO L) nid = p := ⟨_, rfl⟩
      have HPF := Lib.hid (posR_facts (k := nid) HASC.out)
      rw [hp] at HPF
      have HPL : Hid (p ≤ L.length) := Lib.hid (by rw [← hp, ← rows_len L]; exact posR_le _ _)
      have HP := Lib.hid hp
      clear hp
      obtain ⟨i0, hi0, hz0, hz1, hz2⟩ := info_parts infoOb
      have HI0 := Lib.hid hi0
      clear hi0
      clear w4
      go_wp2
      go_loopw [13, 14, 15] (fun lw b i wr => ∃ (t : Nat) (lv : Value), lv = lw ∧ t ≤ L.length ∧ i = .int .i64 t ∧ b = .bool (decide (p < t)) ∧ Hid (InsR w5 wr lv (insP L p t ⟨nid, kd, sz, fi, fr, 0, 0, 0, 0⟩))) (fun _ _ i _ => L.length - (intOf i).toNat)
      case atStart => exact ⟨0, _, rfl, Nat.zero_le _, rfl, by simp, Lib.hid ⟨Below.refl _ _, World.ownsRow_nil _ _ _ _⟩⟩
      case round =>
        obtain ⟨t, lv, rfl, ht, rfl, rfl, HI⟩ := hrel
        have hR := HR5.out.call HI.out.bl
        have c1 := hR.c1
        have HLM : Hid ((insP L p t ⟨nid, kd, sz, fi, fr, 0, 0, 0, 0⟩).length ≤ 1000000) := Lib.hid (by have := insP_len (x := ⟨nid, kd, sz, fi, fr, 0, 0, 0, 0⟩) HPL.out ht; omega)
        have hxo := fun j u hj => (HI.out.bl.cell (p := ⟨oB, j, none⟩) HOL.out).trans (HX5.out j u hj)
        by_cases htL : t < L.length
        · have htI : (t : Int) < L.length := by omega
          obtain ⟨y, hy⟩ : ∃ y, L[t]? = some y := ⟨L[t]'htL, List.getElem?_eq_getElem _⟩
          obtain ⟨ra', rc', hv, _, hra⟩ := obs_of hR.row
          cases hv
          obtain ⟨g, rfl, hgl, hobs⟩ := hra t htL
          have HY := Lib.hid hy
          have hylt := fun h => HPF.out.1 t (rowO y) h (by rw [rows_get, hy]; rfl)
          have hyge := fun h => HPF.out.2 t (rowO y) h (by rw [rows_get, hy]; rfl)
          have hyne := HFRE.out y (List.mem_of_getElem? hy)
          obtain ⟨yi, yk, ys, yf, yr, ym, ye, yp, yl⟩ := y
          have hylt' : t < p → yi < nid := hylt
          have hyge' : p ≤ t → nid ≤ yi := hyge
          have hyne' : yi ≠ nid := hyne
          clear hylt hyge hyne
          have y0 := hobs t 0 _ _ hy rfl
          simp only [Nat.add_zero] at y0
          have x0 := hxo 0 _ rfl
          have HTL := Lib.hid htL
          clear hy hra hobs hxo hR hgl
          go_upto_region 21 with fail
          rcases Nat.lt_trichotomy t p with hc3 | hc3 | hc3
          · have e2 : decide (nid < yi) = false := decide_eq_false (by have := hylt' hc3; omega)
            clear hylt' hyge' hyne'
            have e1 : decide (p < t) = false := decide_eq_false (by omega)
            have n1 : decide (p < t + 1) = false := decide_eq_false (by omega)
            go_quiet (fail)
            obtain ⟨wq, hwq⟩ : ∃ y, y = wr.drewN nq := ⟨_, rfl⟩
            rw [← hwq]
            have HQ : Hid (InsR w5 wq lv (insP L p t ⟨nid, kd, sz, fi, fr, 0, 0, 0, 0⟩)) := Lib.hid (by rw [hwq]; exact HI.out.drewN _)
            clear hwq y0 x0 c1 HI
            have hRq := HR5.out.call HQ.out.bl
            obtain ⟨ra2, rc2, hvq, _, hraq⟩ := obs_of hRq.row
            cases hvq
            obtain ⟨g2, hg2, hglq, hobsq⟩ := hraq t HTL.out
            cases hg2
            have c1 := hRq.c1
            have hxoq := fun j u hj => (HQ.out.bl.cell (p := ⟨oB, j, none⟩) HOL.out).trans (HX5.out j u hj)
            have y0 := hobsq t 0 _ _ HY.out rfl
            simp only [Nat.add_zero] at y0
            have y1 := hobsq t 1 _ _ HY.out rfl
            have y2 := hobsq t 2 _ _ HY.out rfl
            have y3 := hobsq t 3 _ _ HY.out rfl
            have y4 := hobsq t 4 _ _ HY.out rfl
            have y5 := hobsq t 5 _ _ HY.out rfl
            have y6 := hobsq t 6 _ _ HY.out rfl
            have y7 := hobsq t 7 _ _ HY.out rfl
            have y8 := hobsq t 8 _ _ HY.out rfl
            have x0 := hxoq 0 _ rfl
            have x1 := hxoq 1 _ rfl
            have x2 := hxoq 2 _ rfl
            have x3 := hxoq 3 _ rfl
            have x4 := hxoq 4 _ rfl
            have x5 := hxoq 5 _ rfl
            have x6 := hxoq 6 _ rfl
            have x7 := hxoq 7 _ rfl
            have x8 := hxoq 8 _ rfl
            have hsz := HQ.out.bl.size
            have HSZ := Lib.hid hsz
            clear hRq hraq hobsq hxoq hglq hsz
            go_wp2_with (at_builtin; refine wpList_append_own _ rfl _ _ 66 rfl w5.heap.size 84 i0 (.agg #[.int .i64 0, .int .i64 0, .int .i64 0, .int .i64 0, .int .i64 0, .int .i64 0, .int .i64 0, .int .i64 0, .int .i64 0]) 9 72 Tryd.underlying66 HI0.out hz0 hz1 hz2 rfl (by decide) lv _ _ rfl (HQ.out.row.alloc _) ⟨wq.heap.size, 0, none⟩ 1 1 [.int .i64 yi, .int .i64 yk, .int .i64 ys, .int .i64 yf, .int .i64 yr, .int .i64 ym, .int .i64 ye, .int .i64 yp, .int .i64 yl] rfl rfl (news_at wq _ _ _ rfl) (by simp [Value.oneCell']) (by have := HLM.out; unfold maxLen; omega) (by have := HLM.out; omega) (by have := HQ.out.bl.size; simp; omega) ?_; intro v2 w8 hown' hgrow _; have HQ2 := Lib.hid (HQ.out.app (y := ⟨yi, yk, ys, yf, yr, ym, ye, yp, yl⟩) hown' hgrow); clear hown' hgrow)
            go_roundw
            case rel => exact ⟨_, _, _, ⟨t + 1, by omega, by go_num, by simp only [n1, e1], Lib.hid (by rw [insP_before hc3 HY.out]; exact HQ2.out)⟩, rfl, rfl, rfl⟩
            case measure => first | (simp [intOf]; done) | (simp [intOf]; omega)
          · subst hc3
            have e2 : decide (nid < yi) = true := decide_eq_true (by have := hyge' (Nat.le_refl _); omega)
            have e1 : decide (t < t) = false := decide_eq_false (by omega)
            have n1 : decide (t < t + 1) = true := decide_eq_true (by omega)
            clear hylt' hyge' hyne'
            go_quiet (fail)
            obtain ⟨wq, hwq⟩ : ∃ y, y = wr.drewN nq := ⟨_, rfl⟩
            rw [← hwq]
            have HQ : Hid (InsR w5 wq lv (insP L t t ⟨nid, kd, sz, fi, fr, 0, 0, 0, 0⟩)) := Lib.hid (by rw [hwq]; exact HI.out.drewN _)
            clear hwq y0 x0 c1 HI
            have hRq := HR5.out.call HQ.out.bl
            obtain ⟨ra2, rc2, hvq, _, hraq⟩ := obs_of hRq.row
            cases hvq
            obtain ⟨g2, hg2, hglq, hobsq⟩ := hraq t HTL.out
            cases hg2
            have c1 := hRq.c1
            have hxoq := fun j u hj => (HQ.out.bl.cell (p := ⟨oB, j, none⟩) HOL.out).trans (HX5.out j u hj)
            have y0 := hobsq t 0 _ _ HY.out rfl
            simp only [Nat.add_zero] at y0
            have y1 := hobsq t 1 _ _ HY.out rfl
            have y2 := hobsq t 2 _ _ HY.out rfl
            have y3 := hobsq t 3 _ _ HY.out rfl
            have y4 := hobsq t 4 _ _ HY.out rfl
            have y5 := hobsq t 5 _ _ HY.out rfl
            have y6 := hobsq t 6 _ _ HY.out rfl
            have y7 := hobsq t 7 _ _ HY.out rfl
            have y8 := hobsq t 8 _ _ HY.out rfl
            have x0 := hxoq 0 _ rfl
            have x1 := hxoq 1 _ rfl
            have x2 := hxoq 2 _ rfl
            have x3 := hxoq 3 _ rfl
            have x4 := hxoq 4 _ rfl
            have x5 := hxoq 5 _ rfl
            have x6 := hxoq 6 _ rfl
            have x7 := hxoq 7 _ rfl
            have x8 := hxoq 8 _ rfl
            have hsz := HQ.out.bl.size
            have HSZ := Lib.hid hsz
            clear hRq hraq hobsq hxoq hglq hsz
            go_upto_region 23 with (at_builtin; refine wpList_append_own _ rfl _ _ 66 rfl w5.heap.size 84 i0 (.agg #[.int .i64 0, .int .i64 0, .int .i64 0, .int .i64 0, .int .i64 0, .int .i64 0, .int .i64 0, .int .i64 0, .int .i64 0]) 9 72 Tryd.underlying66 HI0.out hz0 hz1 hz2 rfl (by decide) lv _ _ rfl (HQ.out.row.alloc _) ⟨wq.heap.size, 0, none⟩ 1 1 [.int .i64 nid, .int .i64 kd, .int .i64 sz, .int .i64 fi, .int .i64 fr, .int .i64 0, .int .i64 0, .int .i64 0, .int .i64 0] rfl rfl (news_at wq _ _ _ rfl) (by simp [Value.oneCell']) (by have := HLM.out; unfold maxLen; omega) (by have := HLM.out; omega) (by have := HQ.out.bl.size; simp; omega) ?_; intro v2 w8 hown' hgrow _; have HQ2 := Lib.hid (HQ.out.app (y := ⟨nid, kd, sz, fi, fr, 0, 0, 0, 0⟩) hown' hgrow); clear hown' hgrow)
            clear c1 y0 y1 y2 y3 y4 y5 y6 y7 y8 x0 x1 x2 x3 x4 x5 x6 x7 x8 HSZ
            have hRq := HR5.out.call HQ2.out.bl
            obtain ⟨ra2, rc2, hvq, _, hraq⟩ := obs_of hRq.row
            cases hvq
            obtain ⟨g2, hg2, hglq, hobsq⟩ := hraq t HTL.out
            cases hg2
            have c1 := hRq.c1
            have hxoq := fun j u hj => (HQ2.out.bl.cell (p := ⟨oB, j, none⟩) HOL.out).trans (HX5.out j u hj)
            have y0 := hobsq t 0 _ _ HY.out rfl
            simp only [Nat.add_zero] at y0
            have y1 := hobsq t 1 _ _ HY.out rfl
            have y2 := hobsq t 2 _ _ HY.out rfl
            have y3 := hobsq t 3 _ _ HY.out rfl
            have y4 := hobsq t 4 _ _ HY.out rfl
            have y5 := hobsq t 5 _ _ HY.out rfl
            have y6 := hobsq t 6 _ _ HY.out rfl
            have y7 := hobsq t 7 _ _ HY.out rfl
            have y8 := hobsq t 8 _ _ HY.out rfl
            have x0 := hxoq 0 _ rfl
            have x1 := hxoq 1 _ rfl
            have x2 := hxoq 2 _ rfl
            have x3 := hxoq 3 _ rfl
            have x4 := hxoq 4 _ rfl
            have x5 := hxoq 5 _ rfl
            have x6 := hxoq 6 _ rfl
            have x7 := hxoq 7 _ rfl
            have x8 := hxoq 8 _ rfl
            have hsz := HQ2.out.bl.size
            have HSZ := Lib.hid hsz
            clear hRq hraq hobsq hxoq hglq hsz
            have HLM2 : Hid ((insP L t t ⟨nid, kd, sz, fi, fr, 0, 0, 0, 0⟩ ++ [(⟨nid, kd, sz, fi, fr, 0, 0, 0, 0⟩ : Ob)]).length ≤ 1000001) := Lib.hid (by have := HLM.out; rw [List.length_append]; simp; omega)
            go_wp2_with (at_builtin; refine wpList_append_own _ rfl _ _ 66 rfl w5.heap.size 84 i0 (.agg #[.int .i64 0, .int .i64 0, .int .i64 0, .int .i64 0, .int .i64 0, .int .i64 0, .int .i64 0, .int .i64 0, .int .i64 0]) 9 72 Tryd.underlying66 HI0.out hz0 hz1 hz2 rfl (by decide) v2 _ _ rfl (HQ2.out.row.alloc _) ⟨w8.heap.size, 0, none⟩ 1 1 [.int .i64 yi, .int .i64 yk, .int .i64 ys, .int .i64 yf, .int .i64 yr, .int .i64 ym, .int .i64 ye, .int .i64 yp, .int .i64 yl] rfl rfl (news_at w8 _ _ _ rfl) (by simp [Value.oneCell']) (by have := HLM2.out; unfold maxLen; omega) (by have := HLM2.out; omega) (by have := HQ2.out.bl.size; simp; omega) ?_; intro v3 w9 hown' hgrow _; have HQ3 := Lib.hid (HQ2.out.app (y := ⟨yi, yk, ys, yf, yr, ym, ye, yp, yl⟩) hown' hgrow); clear hown' hgrow)
            go_roundw
            case rel => exact ⟨_, _, _, ⟨t + 1, by omega, by go_num, by simp only [n1], Lib.hid (by rw [insP_at HY.out]; exact HQ3.out)⟩, rfl, rfl, rfl⟩
            case measure => first | (simp [intOf]; done) | (simp [intOf]; omega)
          · clear hylt' hyge' hyne'
            have e1 : decide (p < t) = true := decide_eq_true hc3
            have n1 : decide (p < t + 1) = true := decide_eq_true (by omega)
            go_quiet (fail)
            obtain ⟨wq, hwq⟩ : ∃ y, y = wr.drewN nq := ⟨_, rfl⟩
            rw [← hwq]
            have HQ : Hid (InsR w5 wq lv (insP L p t ⟨nid, kd, sz, fi, fr, 0, 0, 0, 0⟩)) := Lib.hid (by rw [hwq]; exact HI.out.drewN _)
            clear hwq y0 x0 c1 HI
            have hRq := HR5.out.call HQ.out.bl
            obtain ⟨ra2, rc2, hvq, _, hraq⟩ := obs_of hRq.row
            cases hvq
            obtain ⟨g2, hg2, hglq, hobsq⟩ := hraq t HTL.out
            cases hg2
            have c1 := hRq.c1
            have hxoq := fun j u hj => (HQ.out.bl.cell (p := ⟨oB, j, none⟩) HOL.out).trans (HX5.out j u hj)
            have y0 := hobsq t 0 _ _ HY.out rfl
            simp only [Nat.add_zero] at y0
            have y1 := hobsq t 1 _ _ HY.out rfl
            have y2 := hobsq t 2 _ _ HY.out rfl
            have y3 := hobsq t 3 _ _ HY.out rfl
            have y4 := hobsq t 4 _ _ HY.out rfl
            have y5 := hobsq t 5 _ _ HY.out rfl
            have y6 := hobsq t 6 _ _ HY.out rfl
            have y7 := hobsq t 7 _ _ HY.out rfl
            have y8 := hobsq t 8 _ _ HY.out rfl
            have x0 := hxoq 0 _ rfl
            have x1 := hxoq 1 _ rfl
            have x2 := hxoq 2 _ rfl
            have x3 := hxoq 3 _ rfl
            have x4 := hxoq 4 _ rfl
            have x5 := hxoq 5 _ rfl
            have x6 := hxoq 6 _ rfl
            have x7 := hxoq 7 _ rfl
            have x8 := hxoq 8 _ rfl
            have hsz := HQ.out.bl.size
            have HSZ := Lib.hid hsz
            clear hRq hraq hobsq hxoq hglq hsz
            go_wp2_with (at_builtin; refine wpList_append_own _ rfl _ _ 66 rfl w5.heap.size 84 i0 (.agg #[.int .i64 0, .int .i64 0, .int .i64 0, .int .i64 0, .int .i64 0, .int .i64 0, .int .i64 0, .int .i64 0, .int .i64 0]) 9 72 Tryd.underlying66 HI0.out hz0 hz1 hz2 rfl (by decide) lv _ _ rfl (HQ.out.row.alloc _) ⟨wq.heap.size, 0, none⟩ 1 1 [.int .i64 yi, .int .i64 yk, .int .i64 ys, .int .i64 yf, .int .i64 yr, .int .i64 ym, .int .i64 ye, .int .i64 yp, .int .i64 yl] rfl rfl (news_at wq _ _ _ rfl) (by simp [Value.oneCell']) (by have := HLM.out; unfold maxLen; omega) (by have := HLM.out; omega) (by have := HQ.out.bl.size; simp; omega) ?_; intro v2 w8 hown' hgrow _; have HQ2 := Lib.hid (HQ.out.app (y := ⟨yi, yk, ys, yf, yr, ym, ye, yp, yl⟩) hown' hgrow); clear hown' hgrow)
            go_roundw
            case rel => exact ⟨_, _, _, ⟨t + 1, by omega, by go_num, by simp only [n1, e1], Lib.hid (by rw [insP_after hc3 HY.out]; exact HQ2.out)⟩, rfl, rfl, rfl⟩
            case measure => first | (simp [intOf]; done) | (simp [intOf]; omega)
        · obtain rfl : t = L.length := by omega
          have x0 := hxo 0 _ rfl
          have x1 := hxo 1 _ rfl
          have x2 := hxo 2 _ rfl
          have x3 := hxo 3 _ rfl
          have x4 := hxo 4 _ rfl
          have x5 := hxo 5 _ rfl
          have x6 := hxo 6 _ rfl
          have x7 := hxo 7 _ rfl
          have x8 := hxo 8 _ rfl
          have hne : ¬ oB = rb := by have := HOB.out; have := HR0.out.lt; have := HR0.out.bs; omega
          have hne2 : ¬ rb = oB := fun e => hne e.symm
          by_cases hpl : p < L.length
          · have e1 : decide (p < L.length) = true := decide_eq_true hpl
            have hrow := HI.out.row
            rw [insP_end (x := ⟨nid, kd, sz, fi, fr, 0, 0, 0, 0⟩) HP.out hpl] at hrow
            obtain ⟨ua, un, uc, rfl⟩ := own_slice hrow
            have HST := Lib.hid (HR5.out.store HI.out.bl hrow)
            have f1 : wr.frozen? ⟨rb, 1, none⟩ = false := froz_row hR.blk
            clear hrow hR hxo
            go_wp2
            go_ret2
            exact ⟨rfl, c, HC0.out, _, HST.out.1, HO5.out.trans HST.out.2⟩
          · have e1 : decide (p < L.length) = false := decide_eq_false hpl
            have hpe : p = L.length := by have := HPL.out; omega
            have HPE := Lib.hid hpe
            have hsz := HI.out.bl.size
            clear hpe hR hxo
            go_upto_region 27 with (at_builtin; refine wpList_append_own _ rfl _ _ 66 rfl w5.heap.size 84 i0 (.agg #[.int .i64 0, .int .i64 0, .int .i64 0, .int .i64 0, .int .i64 0, .int .i64 0, .int .i64 0, .int .i64 0, .int .i64 0]) 9 72 Tryd.underlying66 HI0.out hz0 hz1 hz2 rfl (by decide) lv _ _ rfl (HI.out.row.alloc _) ⟨wr.heap.size, 0, none⟩ 1 1 [.int .i64 nid, .int .i64 kd, .int .i64 sz, .int .i64 fi, .int .i64 fr, .int .i64 0, .int .i64 0, .int .i64 0, .int .i64 0] rfl rfl (news_at wr _ _ _ rfl) (by simp [Value.oneCell']) (by have := HLM.out; unfold maxLen; omega) (by have := HLM.out; omega) (by have := HI.out.bl.size; simp; omega) ?_; intro v2 w8 hown' hgrow _; have HQ2 := Lib.hid (HI.out.app (y := ⟨nid, kd, sz, fi, fr, 0, 0, 0, 0⟩) hown' hgrow); clear hown' hgrow)
            have hrow := HQ2.out.row
            rw [insP_last (x := ⟨nid, kd, sz, fi, fr, 0, 0, 0, 0⟩) HP.out HPE.out] at hrow
            obtain ⟨ua, un, uc, rfl⟩ := own_slice hrow
            have hR2 := HR5.out.call HQ2.out.bl
            have c1 := hR2.c1
            have z0 := (HQ2.out.bl.cell (p := ⟨oB, 0, none⟩) HOL.out).trans (HX5.out 0 _ rfl)
            have HST := Lib.hid (HR5.out.store HQ2.out.bl hrow)
            have f1 : w8.frozen? ⟨rb, 1, none⟩ = false := froz_row hR2.blk
            clear hrow hR2
            go_wp2
            go_ret2
            exact ⟨rfl, c, HC0.out, _, HST.out.1, HO5.out.trans HST.out.2⟩
end
/- chapter 12: the arena of no size; both count alike. -/
section
set_option linter.unusedVariables false
set_option linter.unusedSimpArgs false
open Go.ChangeShapes Go.WideShapes Go.ChangeAt Go.RowKit Go.Shelf
open TabA

set_option maxRecDepth 100000 in
set_option maxHeartbeats 1000000 in
theorem anew_no (w : World) (F : Int) (hF : F < 1 ∨ 64 < F) :
    Calls Tryd.prog 19 #[.int .i64 F] w fun e w' => e = .returned (.tuple #[.pointer none, .int .i64 3]) ∧ w = w' := by
  have h2 : F < 1 ∨ (¬ F < 1 ∧ 64 < F) := by omega
  clear hF
  rcases h2 with h | ⟨h, h'⟩
  all_goals
    go_enter Tryd.func19, Tryd.ntmps19
    go_wp2
    go_ret2
    exact ⟨rfl, rfl⟩
theorem next_eq {F : Nat} {G cnt : List Int} (hG : G.length = 64) (hF : F ≤ 64) (h : cnt = G.take F) (fi : Int) : nextR F G fi = nextA cnt fi := by
  subst h
  unfold nextR nextA
  by_cases h0 : fi < 0
  · rw [if_pos (.inl h0), if_pos h0]
  · rw [if_neg h0]
    by_cases h1 : (F : Int) ≤ fi
    · rw [if_pos (.inr h1), List.getElem?_take, if_neg (by omega)]
    · rw [if_neg (by omega), List.getElem?_take, if_pos (by omega)]
      rfl
theorem take_set_eq {G : List Int} {F k : Nat} {c : Int} : (G.set k c).take F = (G.take F).set k c := List.take_set
theorem OnlyR.of_below {w w' : World} {rb : Nat} {v : Value} (h : Below w.heap.size w w') : OnlyR w w' rb v v := .of (OnlyA.of_below h)
theorem radd_any (w : World) (rb base F : Nat) (v : Value) (L : List Ob) (G : List Int) (kd sz fi : Int) (h : RefA w rb base F v L G) (hF : 1 ≤ F ∧ F ≤ 64) (hl : L.length < 1000000) (hasc : Asc (rowsO L)) (hfr : nextA (G.take F) fi ≠ 0 → ∀ y ∈ L, y.id ≠ nextA (G.take F) fi) :
    Calls Tryd.prog 22 #[.pointer (some ⟨rb, 0, none⟩), .int .i64 kd, .int .i64 sz, .int .i64 fi] w fun e w' => e = .returned (.tuple #[.int .i64 (addR F (G.take F) L kd sz fi).1, .int .i64 (addR F (G.take F) L kd sz fi).2]) ∧
      ∃ u G', RefA w' rb base F u (addL F (G.take F) L kd sz fi) G' ∧ G'.take F = addC F (G.take F) L kd sz fi ∧ OnlyR w w' rb v u := by
  have hFI : (1 : Int) ≤ F ∧ (F : Int) ≤ 64 := by omega
  have hnx := next_eq h.gl hF.2 (cnt := G.take F) rfl fi
  have keep : ∀ c : Int × Int, addR F (G.take F) L kd sz fi = c → c.2 ≠ 0 → addL F (G.take F) L kd sz fi = L ∧ addC F (G.take F) L kd sz fi = G.take F := by
    intro c hc hn
    unfold addL addC
    rw [hc, if_neg hn, if_neg hn]
    exact ⟨rfl, rfl⟩
  by_cases h0 : framesN kd sz = 0
  · have e : addR F (G.take F) L kd sz fi = (0, 2) := by unfold addR; rw [if_pos h0]
    obtain ⟨k1, k2⟩ := keep _ e (by decide)
    rw [k1, k2, e]
    exact (radd_arg w rb kd sz fi h0).mono fun e w' ⟨he, hb⟩ => ⟨he, v, G, hb ▸ h, rfl, hb ▸ .of (refl_onlyA _ _ _)⟩
  · by_cases hr : fi < 0 ∨ (F : Int) - framesN kd sz < fi
    · have e : addR F (G.take F) L kd sz fi = (0, 3) := by unfold addR; rw [if_neg h0, if_pos hr]
      obtain ⟨k1, k2⟩ := keep _ e (by decide)
      rw [k1, k2, e]
      exact (radd_range w rb base F v L G kd sz fi h hFI h0 hr).mono fun e w' ⟨he, hb⟩ => ⟨he, v, G, hb ▸ h, rfl, hb ▸ .of (refl_onlyA _ _ _)⟩
    · have e : addR F (G.take F) L kd sz fi = addA (G.take F) L (newO kd sz fi) := by unfold addR; rw [if_neg h0, if_neg hr]
      cases hany : L.any (collideA (newO kd sz fi)) with
      | true =>
        have e2 : addR F (G.take F) L kd sz fi = (0, 16) := by rw [e]; unfold addA; rw [hany]; rfl
        obtain ⟨k1, k2⟩ := keep _ e2 (by decide)
        rw [k1, k2, e2]
        exact (radd_busy w rb base F v L G kd sz fi h hFI hl h0 hr hany).mono fun e w' ⟨he, hb⟩ => ⟨he, v, G, h.call hb, rfl, .of_below hb⟩
      | false =>
        by_cases hz : nextA (G.take F) fi = 0
        · have e2 : addR F (G.take F) L kd sz fi = (0, 11) := by rw [e]; unfold addA; rw [hany]; show (if nextA (G.take F) fi = 0 then ((0 : Int), (11 : Int)) else (nextA (G.take F) fi, 0)) = _; rw [if_pos hz]
          obtain ⟨k1, k2⟩ := keep _ e2 (by decide)
          rw [k1, k2, e2]
          exact (radd_full w rb base F v L G kd sz fi h hFI hl h0 hr hany (hnx.trans hz)).mono fun e w' ⟨he, hb⟩ => ⟨he, v, G, h.call hb, rfl, .of_below hb⟩
        · have e2 : addR F (G.take F) L kd sz fi = (nextA (G.take F) fi, 0) := by rw [e]; unfold addA; rw [hany]; show (if nextA (G.take F) fi = 0 then ((0 : Int), (11 : Int)) else (nextA (G.take F) fi, 0)) = _; rw [if_neg hz]
          have hL : addL F (G.take F) L kd sz fi = insO L { newO kd sz fi with id := nextA (G.take F) fi } := by unfold addL; rw [e2]; exact if_pos rfl
          have hC : addC F (G.take F) L kd sz fi = (G.take F).set fi.toNat (((G.take F)[fi.toNat]?).getD 0 + 1) := by unfold addC; rw [e2]; exact if_pos rfl
          rw [hL, hC, e2]
          refine (radd_yes w rb base F v L G kd sz fi h hFI hl h0 hr hany _ hnx hz hasc (hfr hz)).mono fun e w' ⟨he, c, u, hc, hR, hO⟩ => ⟨he, u, _, hR, ?_, hO⟩
          have hb := frames_bd h0
          rw [take_set_eq, List.getElem?_take, if_pos (by omega), hc]
          rfl
end
/- chapter 12: the arena and the own answer side by side. -/
section
set_option linter.unusedVariables false
set_option linter.unusedSimpArgs false
open Go.ChangeShapes Go.WideShapes Go.ChangeAt Go.RowKit Go.Shelf
open TabA

/-- The arena of b beside the own answer of rb, both made since W. -/
structure PT (W w : World) (b ab base rb rbase F : Nat) (cnt : List Int) (v : Value) (L : List Ob) (u : Value) (M : List Ob) (G : List Int) : Prop where
  ar : ArAt w b ab base F cnt v L
  rf : RefA w rb rbase F u M G
  n1 : rb ≠ b
  n2 : rb ≠ ab
  n3 : v.ownBlock ≠ some rb
  n4 : u.ownBlock ≠ some b
  n5 : u.ownBlock ≠ some ab
  n6 : ∀ k, u.ownBlock = some k → v.ownBlock ≠ some k
  l1 : W.heap.size ≤ b
  l2 : W.heap.size ≤ ab
  l3 : W.heap.size ≤ rb
  bl : Below W.heap.size W w
theorem RefA.keep {w w' : World} {rb base : Nat} {F : Int} {v : Value} {L : List Ob} {G : List Int} (h : RefA w rb base F v L G) (hs : w.heap.size ≤ w'.heap.size) (h1 : w'.heap[rb]? = w.heap[rb]?) (h2 : ∀ k, v.ownBlock = some k → w'.heap[k]? = w.heap[k]?) : RefA w' rb base F v L G :=
  ⟨h1.trans h.blk, h.gl, row_of_block h.row h2, h.lt, Nat.le_trans h.bs hs, h.cn⟩
/-- An act of the arena alone. -/
theorem PT.arena {W w w' : World} {b ab base rb rbase F : Nat} {cnt cnt' : List Int} {v v' : Value} {L L' : List Ob} {u : Value} {M : List Ob} {G : List Int} (h : PT W w b ab base rb rbase F cnt v L u M G) (hA : ArAt w' b ab base F cnt' v' L') (hO : OnlyA w w' b ab v v') : PT W w' b ab base rb rbase F cnt' v' L' u M G := by
  have hrl : rb < w.heap.size := Nat.lt_of_lt_of_le h.rf.lt h.rf.bs
  have hul : ∀ k, u.ownBlock = some k → k < w.heap.size := fun k e => (h.rf.row.lt k e).2
  have hv : ∀ k, k < w.heap.size → v.ownBlock ≠ some k → v'.ownBlock ≠ some k := by
    intro k hk hn
    rcases hO.foot with q | ⟨g, q, hg⟩
    · rw [q]; exact hn
    · rw [q]; intro e; cases e; omega
  refine ⟨hA, h.rf.keep hO.size (hO.block rb hrl h.n1 h.n2 h.n3) (fun k e => hO.block k (hul k e) (fun q => h.n4 (by rw [← q]; exact e)) (fun q => h.n5 (by rw [← q]; exact e)) (h.n6 k e)), h.n1, h.n2, hv rb hrl h.n3, h.n4, h.n5, fun k e => hv k (hul k e) (h.n6 k e), h.l1, h.l2, h.l3, h.bl.trans (hO.below h.ar h.l1 h.l2)⟩
theorem ArAt.keep {w w' : World} {b ab base F : Nat} {cnt : List Int} {v : Value} {L : List Ob} (h : ArAt w b ab base F cnt v L) (hs : w.heap.size ≤ w'.heap.size) (h1 : w'.heap[b]? = w.heap[b]?) (h2 : w'.heap[ab]? = w.heap[ab]?) (h3 : ∀ k, v.ownBlock = some k → w'.heap[k]? = w.heap[k]?) : ArAt w' b ab base F cnt v L :=
  ⟨(World.cell?_of_block h1).trans h.c0, h2.trans h.ad, h.fl, h.f1, h.tab.of hs (World.cell?_of_block h1) (World.frozen?_of_block h1) h3, h.abl, h.ne, h.cn, h.good⟩
/-- An act of the own answer alone. -/
theorem PT.own {W w w' : World} {b ab base rb rbase F : Nat} {cnt : List Int} {v : Value} {L : List Ob} {u u' : Value} {M M' : List Ob} {G G' : List Int} (h : PT W w b ab base rb rbase F cnt v L u M G) (hR : RefA w' rb rbase F u' M' G') (hO : OnlyR w w' rb u u') : PT W w' b ab base rb rbase F cnt v L u' M' G' := by
  have hvl : ∀ k, v.ownBlock = some k → k < w.heap.size := fun k e => (h.ar.tab.own e).2
  refine ⟨h.ar.keep hO.size (hO.block b h.ar.bl (fun e => h.n1 e.symm) h.n4) (hO.block ab h.ar.al (fun e => h.n2 e.symm) h.n5) (fun k e => hO.block k (hvl k e) (fun q => h.n3 (by rw [← q]; exact e)) (fun q => h.n6 k q e)), hR, h.n1, h.n2, h.n3, fun e => h.n4 (hO.foot b h.ar.bl e), fun e => h.n5 (hO.foot ab h.ar.al e), fun k e e2 => h.n6 k (hO.foot k (hvl k e2) e) e2, h.l1, h.l2, h.l3, ?_⟩
  refine h.bl.trans ⟨hO.os, hO.tape, hO.output, hO.size, fun k hk => hO.block k (Nat.lt_of_lt_of_le hk h.bl.size) (fun e => by have := h.l3; omega) (fun e => ?_)⟩
  have := (h.rf.row.lt k e).1
  have := h.rf.lt
  have := h.l3
  omega
/-- What is below leaves both. -/
theorem PT.call {W w w' : World} {b ab base rb rbase F : Nat} {cnt : List Int} {v : Value} {L : List Ob} {u : Value} {M : List Ob} {G : List Int} (h : PT W w b ab base rb rbase F cnt v L u M G) (hb : Below w.heap.size w w') : PT W w' b ab base rb rbase F cnt v L u M G :=
  ⟨h.ar.call hb, h.rf.call hb, h.n1, h.n2, h.n3, h.n4, h.n5, h.n6, h.l1, h.l2, h.l3, h.bl.trans (hb.mono h.bl.size)⟩
end
/- chapter 12: a new number is none of those there; both sides at one list. -/
section
set_option linter.unusedVariables false
set_option linter.unusedSimpArgs false
open Go.ChangeShapes Go.WideShapes Go.ChangeAt Go.RowKit Go.Shelf
open TabA

theorem fresh_next {w : World} {b ab base F : Nat} {cnt : List Int} {v : Value} {L : List Ob} (h : ArAt w b ab base F cnt v L) (fi : Int) : nextA cnt fi ≠ 0 → ∀ y ∈ L, y.id ≠ nextA cnt fi := by
  intro hn y hy e
  obtain ⟨g1, g2, g3, _, c, m, g5, g6, g7, g8⟩ := h.good y hy
  have hl := h.fl
  have hF := h.f1
  unfold nextA at hn e
  split at e
  · rename_i hf
    rw [if_pos hf] at hn
    exact hn rfl
  · rename_i hf
    cases hc : cnt[fi.toNat]? with
    | none => rw [if_neg hf, hc] at hn; exact hn rfl
    | some d =>
      rw [hc] at e
      simp only [] at e
      have hk := (List.getElem?_eq_some_iff.1 hc).1
      split at e
      · omega
      · have h1 : y.fi = fi := by omega
        rw [h1, hc] at g7
        cases g7
        omega
/-- Both sides at one list. -/
def Both (W w : World) (b rb F : Nat) (cnt : List Int) (L : List Ob) : Prop := ∃ ab base rbase v u G, PT W w b ab base rb rbase F cnt v L u L G ∧ G.take F = cnt
theorem Both.call {W w w' : World} {b rb F : Nat} {cnt : List Int} {L : List Ob} (h : Both W w b rb F cnt L) (hb : Below w.heap.size w w') : Both W w' b rb F cnt L := by
  obtain ⟨ab, base, rbase, v, u, G, hP, hG⟩ := h
  exact ⟨ab, base, rbase, v, u, G, hP.call hb, hG⟩
theorem Both.bl {W w : World} {b rb F : Nat} {cnt : List Int} {L : List Ob} (h : Both W w b rb F cnt L) : Below W.heap.size W w := by
  obtain ⟨ab, base, rbase, v, u, G, hP, hG⟩ := h
  exact hP.bl
end
/- chapter 12: the start of both; each act on one side, then on the other. -/
section
set_option linter.unusedVariables false
set_option linter.unusedSimpArgs false
open Go.ChangeShapes Go.WideShapes Go.ChangeAt Go.RowKit Go.Shelf
open TabA

theorem zeroG_take {F : Nat} (hF : F ≤ 64) : zeroG.take F = zerosA F := by
  unfold zeroG zerosA
  rw [List.take_replicate, Nat.min_eq_left hF]
/-- Blocks that neither side has. -/
def Bes (w : World) (b ab rb : Nat) (v u : Value) (S : Nat → Prop) : Prop := ∀ k, S k → k < w.heap.size ∧ k ≠ b ∧ k ≠ ab ∧ k ≠ rb ∧ v.ownBlock ≠ some k ∧ u.ownBlock ≠ some k
def SameK (S : Nat → Prop) (w w' : World) : Prop := ∀ k, S k → w'.heap[k]? = w.heap[k]?
/-- Both sides at one list, beside the blocks of S. -/
def Bs (W w : World) (b rb F : Nat) (S : Nat → Prop) (cnt : List Int) (L : List Ob) : Prop := ∃ ab base rbase v u G, PT W w b ab base rb rbase F cnt v L u L G ∧ G.take F = cnt ∧ Bes w b ab rb v u S
theorem Both.beside {W w : World} {b rb F : Nat} {cnt : List Int} {L : List Ob} (h : Both W w b rb F cnt L) (o : Obj) : Bs W (w.alloc o) b rb F (fun k => k = w.heap.size) cnt L := by
  obtain ⟨ab, base, rbase, v, u, G, hP, hG⟩ := h
  have h1 := hP.ar.bl
  have h2 := hP.ar.al
  have h3 := Nat.lt_of_lt_of_le hP.rf.lt hP.rf.bs
  refine ⟨ab, base, rbase, v, u, G, hP.call (bal (Below.refl _ _) _), hG, fun k e => ?_⟩
  subst e
  exact ⟨by simp, by omega, by omega, by omega, (fun e => by have := (hP.ar.tab.own e).2; omega), (fun e => by have := (hP.rf.row.lt _ e).2; omega)⟩
theorem Bs.both {W w : World} {b rb F : Nat} {S : Nat → Prop} {cnt : List Int} {L : List Ob} (h : Bs W w b rb F S cnt L) : Both W w b rb F cnt L := by
  obtain ⟨ab, base, rbase, v, u, G, hP, hG, _⟩ := h
  exact ⟨ab, base, rbase, v, u, G, hP, hG⟩
theorem both_start {W w1 w2 : World} {b rb F : Nat} (h : NewA W w1 b F) (hR : RefA w2 rb (rb + 1) F (.slice none 0 0) [] zeroG) (hb : Below w1.heap.size w1 w2) (hrb : rb = w1.heap.size) : Both W w2 b rb F (zerosA F) [] := by
  obtain ⟨ab, base, hA, h1, h2, h3⟩ := h
  have b1 := hA.bl
  have b2 := hA.al
  have b3 := h3.size
  exact ⟨ab, base, _, _, _, _, ⟨hA.call hb, hR, by omega, by omega, (by simp [Value.ownBlock]), (by simp [Value.ownBlock]), (by simp [Value.ownBlock]), (by simp [Value.ownBlock]), h2, h1, by omega, h3.trans (hb.mono b3)⟩, zeroG_take hA.f1.2⟩
/-- The arena has gone on; the own answer has not. -/
def Half (W w : World) (b rb F : Nat) (S : Nat → Prop) (cnt : List Int) (L : List Ob) (cnt' : List Int) (L' : List Ob) : Prop :=
  ∃ ab base rbase v u G, PT W w b ab base rb rbase F cnt' v L' u L G ∧ G.take F = cnt ∧ (1 ≤ F ∧ F ≤ 64) ∧ Asc (rowsO L) ∧ (∀ fi, nextA cnt fi ≠ 0 → ∀ y ∈ L, y.id ≠ nextA cnt fi) ∧ Bes w b ab rb v u S
theorem Bes.arena {w w' : World} {b ab rb : Nat} {v v' u : Value} {S : Nat → Prop} (h : Bes w b ab rb v u S) (hO : OnlyA w w' b ab v v') : Bes w' b ab rb v' u S ∧ SameK S w w' := by
  refine ⟨fun k hk => ?_, fun k hk => ?_⟩
  · obtain ⟨h1, h2, h3, h4, h5, h6⟩ := h k hk
    refine ⟨Nat.lt_of_lt_of_le h1 hO.size, h2, h3, h4, ?_, h6⟩
    rcases hO.foot with q | ⟨g, q, hg⟩
    · rw [q]; exact h5
    · rw [q]; intro e; cases e; omega
  · obtain ⟨h1, h2, h3, h4, h5, h6⟩ := h k hk
    exact hO.block k h1 h2 h3 h5
theorem Bes.own {w w' : World} {b ab rb : Nat} {v u u' : Value} {S : Nat → Prop} (h : Bes w b ab rb v u S) (hO : OnlyR w w' rb u u') : Bes w' b ab rb v u' S ∧ SameK S w w' := by
  refine ⟨fun k hk => ?_, fun k hk => ?_⟩
  · obtain ⟨h1, h2, h3, h4, h5, h6⟩ := h k hk
    exact ⟨Nat.lt_of_lt_of_le h1 hO.size, h2, h3, h4, h5, fun e => h6 (hO.foot k h1 e)⟩
  · obtain ⟨h1, h2, h3, h4, h5, h6⟩ := h k hk
    exact hO.block k h1 h4 h6
theorem Bs.half {W w w' : World} {b rb F ab base rbase : Nat} {S : Nat → Prop} {cnt cnt' : List Int} {L L' : List Ob} {v v' u : Value} {G : List Int} (h : PT W w b ab base rb rbase F cnt v L u L G) (hG : G.take F = cnt) (hS : Bes w b ab rb v u S) (hA : ArAt w' b ab base F cnt' v' L') (hO : OnlyA w w' b ab v v') : Half W w' b rb F S cnt L cnt' L' ∧ SameK S w w' :=
  ⟨⟨ab, base, rbase, v', u, G, h.arena hA hO, hG, h.ar.f1, h.ar.tab.asc, fresh_next h.ar, (hS.arena hO).1⟩, (hS.arena hO).2⟩
theorem Half.bs {W w w' : World} {b rb F ab base rbase : Nat} {S : Nat → Prop} {cnt' : List Int} {L L' : List Ob} {v u u' : Value} {G G' : List Int} (h : PT W w b ab base rb rbase F cnt' v L' u L G) (hS : Bes w b ab rb v u S) (hR : RefA w' rb rbase F u' L' G') (hG : G'.take F = cnt') (hO : OnlyR w w' rb u u') : Bs W w' b rb F S cnt' L' ∧ SameK S w w' :=
  ⟨⟨ab, base, rbase, v, u', G', h.own hR hO, hG, (hS.own hO).1⟩, (hS.own hO).2⟩
theorem Half.call {W w w' : World} {b rb F : Nat} {S : Nat → Prop} {cnt cnt' : List Int} {L L' : List Ob} (h : Half W w b rb F S cnt L cnt' L') (hb : Below w.heap.size w w') : Half W w' b rb F S cnt L cnt' L' := by
  obtain ⟨ab, base, rbase, v, u, G, hP, hG, hF, hA, hf, hS⟩ := h
  exact ⟨ab, base, rbase, v, u, G, hP.call hb, hG, hF, hA, hf, fun k hk => ⟨Nat.lt_of_lt_of_le (hS k hk).1 hb.size, (hS k hk).2⟩⟩
theorem Bs.call {W w w' : World} {b rb F : Nat} {S : Nat → Prop} {cnt : List Int} {L : List Ob} (h : Bs W w b rb F S cnt L) (hb : Below w.heap.size w w') : Bs W w' b rb F S cnt L := by
  obtain ⟨ab, base, rbase, v, u, G, hP, hG, hS⟩ := h
  exact ⟨ab, base, rbase, v, u, G, hP.call hb, hG, fun k hk => ⟨Nat.lt_of_lt_of_le (hS k hk).1 hb.size, (hS k hk).2⟩⟩
theorem Bs.addA {W w : World} {b rb F : Nat} {S : Nat → Prop} {cnt : List Int} {L : List Ob} (h : Bs W w b rb F S cnt L) (hl : L.length < 1000000) (x1 x2 x3 : Int) (wf : -9223372036854775808 ≤ x3 ∧ x3 ≤ 9223372036854775807) :
    Calls Tryd.prog 21 #[.pointer (some ⟨b, 0, none⟩), .int .i64 x1, .int .i64 x2, .int .i64 x3] w fun e w' => e = .returned (.tuple #[.int .i64 (addR F cnt L x1 x2 x3).1, .int .i64 (addR F cnt L x1 x2 x3).2]) ∧ Half W w' b rb F S cnt L (addC F cnt L x1 x2 x3) (addL F cnt L x1 x2 x3) ∧ SameK S w w' := by
  obtain ⟨ab, base, rbase, v, u, G, hP, hG, hS⟩ := h
  exact (add_any w b ab base F cnt v L x1 x2 x3 hP.ar wf hl).mono fun e w' ⟨he, v', hA, hO⟩ => ⟨he, Bs.half hP hG hS hA hO⟩
theorem Half.addR {W w : World} {b rb F : Nat} {S : Nat → Prop} {cnt : List Int} {L : List Ob} {x1 x2 x3 : Int} (h : Half W w b rb F S cnt L (addC F cnt L x1 x2 x3) (addL F cnt L x1 x2 x3)) (hl : L.length < 1000000) :
    Calls Tryd.prog 22 #[.pointer (some ⟨rb, 0, none⟩), .int .i64 x1, .int .i64 x2, .int .i64 x3] w fun e w' => e = .returned (.tuple #[.int .i64 (addR F cnt L x1 x2 x3).1, .int .i64 (addR F cnt L x1 x2 x3).2]) ∧ Bs W w' b rb F S (addC F cnt L x1 x2 x3) (addL F cnt L x1 x2 x3) ∧ SameK S w w' := by
  obtain ⟨ab, base, rbase, v, u, G, hP, hG, hF, hA, hfr, hS⟩ := h
  subst hG
  exact (radd_any w rb rbase F u L G x1 x2 x3 hP.rf hF hl hA (hfr x3)).mono fun e w' ⟨he, u', G', hR, hG', hO⟩ => ⟨he, Half.bs hP hS hR hG' hO⟩
theorem Both.next {W w : World} {b rb F : Nat} {cnt : List Int} {L : List Ob} (h : Both W w b rb F cnt L) (fi : Int) :
    Calls Tryd.prog 37 #[.pointer (some ⟨b, 0, none⟩), .int .i64 fi] w fun e w' => e = .returned (.int .i64 (nextA cnt fi)) ∧ w' = w := by
  obtain ⟨ab, base, rbase, v, u, G, hP, hG⟩ := h
  exact next_any w b ab base F cnt v L fi hP.ar
theorem Both.rnext {W w : World} {b rb F : Nat} {cnt : List Int} {L : List Ob} (h : Both W w b rb F cnt L) (fi : Int) :
    Calls Tryd.prog 41 #[.pointer (some ⟨rb, 0, none⟩), .int .i64 fi] w fun e w' => e = .returned (.int .i64 (nextA cnt fi)) ∧ w = w' := by
  obtain ⟨ab, base, rbase, v, u, G, hP, hG⟩ := h
  have hF := hP.ar.f1
  rw [← next_eq hP.rf.gl hF.2 hG.symm fi]
  exact rnext_any w rb rbase F u L G fi hP.rf (by omega)
theorem Both.get {W w : World} {b rb F : Nat} {cnt : List Int} {L : List Ob} (h : Both W w b rb F cnt L) (id : Int) :
    Calls Tryd.prog 70 #[.pointer (some ⟨b, 0, none⟩), .int .i64 id] w fun e w' => e = .returned (.tuple #[obD (getO L id), .bool (getO L id).isSome]) ∧ Below w.heap.size w w' := by
  obtain ⟨ab, base, rbase, v, u, G, hP, hG⟩ := h
  exact aget_any w b ab base F cnt v L id hP.ar
theorem Both.rget {W w : World} {b rb F : Nat} {cnt : List Int} {L : List Ob} (h : Both W w b rb F cnt L) (id : Int) (hl : L.length < 1000000) :
    Calls Tryd.prog 29 #[.pointer (some ⟨rb, 0, none⟩), .int .i64 id] w fun e w' => e = .returned (.tuple #[obD (getO L id), .bool (getO L id).isSome]) ∧ Below w.heap.size w w' := by
  obtain ⟨ab, base, rbase, v, u, G, hP, hG⟩ := h
  exact rget_any w rb rbase F u L G id hP.rf hP.ar.tab.asc hl
/-- The own answer's list, as its cell tells it. -/
theorem Both.list {W w : World} {b rb F : Nat} {cnt : List Int} {L : List Ob} (h : Both W w b rb F cnt L) : ∃ ra rc, w.cell? ⟨rb, 1, none⟩ = some (.slice ra L.length rc) ∧ ObsIs w ra L ∧ rb < w.heap.size := by
  obtain ⟨ab, base, rbase, v, u, G, hP, hG⟩ := h
  obtain ⟨ra, rc, rfl, hrc, hra⟩ := obs_of hP.rf.row
  exact ⟨ra, rc, hP.rf.c1, hra, Nat.lt_of_lt_of_le hP.rf.lt hP.rf.bs⟩
/-- A block made later may be written over. -/
theorem grown_below {w w' : World} {n : Nat} {o : Option Nat} (h : w.grownBy w' o) (ho : ∀ k, o = some k → n ≤ k) (hn : n ≤ w.heap.size) : Below n w w' := by
  obtain ⟨h1, h2, h3, h4, h5⟩ := h
  exact ⟨h1, h2, h3, h4, fun k hk => h5 k (Nat.lt_of_lt_of_le hk hn) (fun e => by have := ho k e.symm; omega)⟩
end
/- chapter 16: what a step is, and the slots that are gone through. -/
section
set_option linter.unusedVariables false
set_option linter.unusedSimpArgs false

open Go.ChangeShapes Go.WideShapes Go.ChangeAt Go.RowKit Go.Shelf

namespace LkS
open TabS (Cp Sn zC mayC sizS getR)
/-- The n highest of the l lowest bits. -/
def takeN (a l n : Nat) : Nat := a / 2 ^ (l - n) % 2 ^ n
/-- A slot, and how many bits are left behind it. -/
structure Nx where
  n : Int
  i : Nat
  l : Nat
def stepP (L : List Sn) (O : List Ob) (c : Cp) (a rest : Nat) : Option Nx :=
  if mayC c = true ∧ c.a = 2 then
    match getO O c.b with
    | none => none
    | some o => if o.kd = 2 ∧ c.f.toNat + o.sz.toNat ≤ rest ∧ takeN a rest c.f.toNat = c.e.toNat ∧ (takeN a (rest - c.f.toNat) o.sz.toNat : Int) < sizS L c.b then some ⟨c.b, takeN a (rest - c.f.toNat) o.sz.toNat, rest - c.f.toNat - o.sz.toNat⟩ else none
  else none
/-- The nodes of the arena have a radix. -/
def Rad (O : List Ob) : Prop := ∀ id o, getO O id = some o → o.kd = 2 → 1 ≤ o.sz ∧ o.sz ≤ 4
theorem stepP_lt {L : List Sn} {O : List Ob} {c : Cp} {a rest : Nat} {p : Nx} (hR : Rad O) (h : stepP L O c a rest = some p) : p.l < rest ∧ p.n = c.b ∧ (p.i : Int) < sizS L c.b := by
  unfold stepP at h
  split at h
  · split at h
    · cases h
    · rename_i o ho
      split at h
      · rename_i hc
        cases h
        have := (hR _ _ ho hc.1).1
        exact ⟨by simp only []; omega, rfl, hc.2.2.2⟩
      · cases h
  · cases h
/-- The capability that a step comes to. -/
def capN (L : List Sn) (p : Nx) : Cp := (getR L p.n p.i).getD zC
def pathP (L : List Sn) (O : List Ob) (a : Nat) : Nat → Cp → Nat → List Nx
  | 0, _, _ => []
  | k + 1, c, rest => if rest = 0 then [] else match stepP L O c a rest with | none => [] | some p => p :: pathP L O a k (capN L p) p.l
theorem pathP_stop {L : List Sn} {O : List Ob} {a k : Nat} {c : Cp} {rest : Nat} (h : rest = 0 ∨ stepP L O c a rest = none) : pathP L O a k c rest = [] := by
  cases k with
  | zero => rfl
  | succ k =>
    unfold pathP
    rcases h with h | h
    · rw [if_pos h]
    · rw [h]
      split <;> rfl
theorem pathP_go {L : List Sn} {O : List Ob} {a k : Nat} {c : Cp} {rest : Nat} {p : Nx} (hk : rest ≤ k) (h0 : rest ≠ 0) (h : stepP L O c a rest = some p) (hR : Rad O) : ∃ k', p.l ≤ k' ∧ pathP L O a k c rest = p :: pathP L O a k' (capN L p) p.l := by
  cases k with
  | zero => omega
  | succ k =>
    refine ⟨k, by have := (stepP_lt hR h).1; omega, ?_⟩
    rw [pathP, if_neg h0, h]
theorem pathP_len {L : List Sn} {O : List Ob} {a : Nat} (hR : Rad O) : ∀ (k : Nat) (c : Cp) (rest : Nat), (pathP L O a k c rest).length ≤ rest := by
  intro k
  induction k with
  | zero => intro c rest; exact Nat.zero_le _
  | succ k ih =>
    intro c rest
    unfold pathP
    split
    · exact Nat.zero_le _
    · cases h : stepP L O c a rest with
      | none => exact Nat.zero_le _
      | some p =>
        have := ih (capN L p) p.l
        have := (stepP_lt hR h).1
        simp only [List.length_cons]
        omega
/-- Behind so many steps: the capability at hand, the bits that are left, and what is to come. -/
structure AtS (L : List Sn) (O : List Ob) (a : Nat) (P pre : List Nx) (c : Cp) (rest : Nat) : Prop where
  k : ∃ k, rest ≤ k ∧ P = pre ++ pathP L O a k c rest
/-- Only the last one leaves no bits. -/
theorem last_of {L : List Sn} {O : List Ob} {a : Nat} : ∀ (k : Nat) (c : Cp) (rest : Nat) (pre post : List Nx) (p : Nx), pathP L O a k c rest = pre ++ p :: post → p.l = 0 → post = [] := by
  intro k
  induction k with
  | zero => intro c rest pre post p h _; unfold pathP at h; cases pre <;> cases h
  | succ k ih =>
    intro c rest pre post p h h0
    unfold pathP at h
    split at h
    · cases pre <;> cases h
    · cases hs : stepP L O c a rest with
      | none => rw [hs] at h; cases pre <;> cases h
      | some q =>
        rw [hs] at h
        simp only [] at h
        cases pre with
        | nil =>
          cases h
          rw [pathP_stop (.inl h0)]
        | cons y pre =>
          rw [List.cons_append] at h
          exact ih _ _ pre post p (List.cons.inj h).2 h0
/-- What Resolve answers. -/
def resP (P : List Nx) : Option Nx := match P.getLast? with | some p => if p.l = 0 then some p else none | none => none
end LkS
end
/- chapter 16: slots and arena beside their own answers. -/
section
set_option linter.unusedVariables false
set_option linter.unusedSimpArgs false

open Go.ChangeShapes Go.WideShapes Go.ChangeAt Go.RowKit Go.Shelf

namespace LkS
open TabS (Cp Sn zC mayC sizS getR Two Pr FootP foot_ltP foot_ltR foot_loP foot_loR SameS AddRel addSR setN setM rowsS hasS)
open TabA (TabAt)
/-- The arena's blocks, and its own answer's. -/
def Ft (b ab rb : Nat) (v u : Value) (k : Nat) : Prop := k = b ∨ k = ab ∨ k = rb ∨ v.ownBlock = some k ∨ u.ownBlock = some k
theorem lt_same {w w' : World} {k : Nat} (hk : k < w.heap.size) (h : w'.heap[k]? = w.heap[k]?) : k < w'.heap.size := by
  rw [Array.getElem?_eq_getElem hk] at h
  exact (Array.getElem?_eq_some_iff.1 h).1
theorem PT.kept {W w w' : World} {b ab base rb rbase F : Nat} {cnt : List Int} {v : Value} {L : List Ob} {u : Value} {M : List Ob} {G : List Int} (h : PT W w b ab base rb rbase F cnt v L u M G) (hk : ∀ k, Ft b ab rb v u k → w'.heap[k]? = w.heap[k]?) (hb : Below W.heap.size W w') : ∃ base' rbase', PT W w' b ab base' rb rbase' F cnt v L u M G := by
  have e1 := hk b (.inl rfl)
  have e2 := hk ab (.inr (.inl rfl))
  have e3 := hk rb (.inr (.inr (.inl rfl)))
  have hv : ∀ g, v.ownBlock = some g → w'.heap[g]? = w.heap[g]? := fun g e => hk g (.inr (.inr (.inr (.inl e))))
  have hu : ∀ g, u.ownBlock = some g → w'.heap[g]? = w.heap[g]? := fun g e => hk g (.inr (.inr (.inr (.inr e))))
  have l1 := lt_same h.ar.bl e1
  have l2 := lt_same h.ar.al e2
  have l3 := lt_same (Nat.lt_of_lt_of_le h.rf.lt h.rf.bs) e3
  have q1 := h.ar.tab.ne
  have q2 := h.ar.abl
  have q3 := h.rf.lt
  refine ⟨max b ab + 1, rb + 1, ⟨⟨(World.cell?_of_block e1).trans h.ar.c0, e2.trans h.ar.ad, h.ar.fl, h.ar.f1, ⟨(World.cell?_of_block e1).trans h.ar.tab.cell, (World.frozen?_of_block e1).trans h.ar.tab.froz, TabS.row_of_block (own_weak h.ar.tab.row (by omega)) hv, by omega, by omega, h.ar.tab.wide, h.ar.tab.asc, h.ar.tab.le⟩, by omega, h.ar.ne, h.ar.cn, h.ar.good⟩, ⟨e3.trans h.rf.blk, h.rf.gl, TabS.row_of_block (own_weak h.rf.row (by omega)) hu, by omega, by omega, h.rf.cn⟩, h.n1, h.n2, h.n3, h.n4, h.n5, h.n6, h.l1, h.l2, h.l3, hb⟩⟩
theorem Two.other {W w w' : World} {b base : Nat} {tv : Value} {L : List Sn} {rb rbase : Nat} {v : Value} {M : List Sn} {S T : Nat → Prop} (h : Two W w b base tv L rb rbase v M S) (o1 : w'.os = w.os) (o2 : w'.tape = w.tape) (o3 : w'.output = w.output) (hs : w.heap.size ≤ w'.heap.size) (hb : ∀ k, k < w.heap.size → ¬ S k → w'.heap[k]? = w.heap[k]?) (hlo : ∀ k, S k → W.heap.size ≤ k) (hT : ∀ k, T k → k < w'.heap.size ∧ (S k ∨ w.heap.size ≤ k)) : Two W w' b base tv L rb rbase v M T := by
  refine ⟨h.pk.of hs (fun k q => hb k (foot_ltP h.pk q) (fun s => (h.bs k s).2.1 q)), h.rf.of hs (fun k q => hb k (foot_ltR h.rf q) (fun s => (h.bs k s).2.2 q)), h.lo, h.lr, ⟨o1.trans h.bl.os, o2.trans h.bl.tape, o3.trans h.bl.output, Nat.le_trans h.bl.size hs, fun k hk => (hb k (Nat.lt_of_lt_of_le hk h.bl.size) (fun s => by have := hlo k s; omega)).trans (h.bl.block k hk)⟩, h.ap, fun k hk => ?_⟩
  obtain ⟨h1, h2⟩ := hT k hk
  refine ⟨h1, fun p => ?_, fun p => ?_⟩
  · rcases h2 with s | s
    · exact (h.bs k s).2.1 p
    · have := foot_ltP h.pk p; omega
  · rcases h2 with s | s
    · exact (h.bs k s).2.2 p
    · have := foot_ltR h.rf p; omega
/-- Slots and arena, each beside its own answer. -/
def Rm (W w : World) (sb srb b rb : Nat) (L M : List Sn) (cnt : List Int) (O O2 : List Ob) (G : List Int) : Prop := ∃ ab base rbase v u, PT W w b ab base rb rbase 16 cnt v O u O2 G ∧ Pr W w sb srb (Ft b ab rb v u) L M
theorem Rm.below {W w : World} {sb srb b rb : Nat} {L M : List Sn} {cnt : List Int} {O O2 : List Ob} {G : List Int} (h : Rm W w sb srb b rb L M cnt O O2 G) : Below W.heap.size W w := h.choose_spec.choose_spec.choose_spec.choose_spec.choose_spec.2.below
theorem Rm.call {W w w' : World} {sb srb b rb : Nat} {L M : List Sn} {cnt : List Int} {O O2 : List Ob} {G : List Int} (h : Rm W w sb srb b rb L M cnt O O2 G) (hb : Below w.heap.size w w') : Rm W w' sb srb b rb L M cnt O O2 G := by
  obtain ⟨ab, base, rbase, v, u, hP, hS⟩ := h
  exact ⟨ab, base, rbase, v, u, hP.call hb, hS.call hb⟩
theorem Rm.slots {W w w' : World} {sb srb b rb : Nat} {L' M' : List Sn} {cnt : List Int} {O O2 : List Ob} {G : List Int} {ab base rbase : Nat} {v u : Value} (hP : PT W w b ab base rb rbase 16 cnt v O u O2 G) (hS : Pr W w' sb srb (Ft b ab rb v u) L' M') (hk : TabS.SameK (Ft b ab rb v u) w w') : Rm W w' sb srb b rb L' M' cnt O O2 G := by
  obtain ⟨base', rbase', hP'⟩ := PT.kept hP hk hS.below
  exact ⟨ab, base', rbase', v, u, hP', hS⟩
theorem Rm.lo {W w : World} {b ab base rb rbase F : Nat} {cnt : List Int} {v : Value} {L : List Ob} {u : Value} {M : List Ob} {G : List Int} (h : PT W w b ab base rb rbase F cnt v L u M G) : ∀ k, Ft b ab rb v u k → W.heap.size ≤ k := by
  have := h.l1
  have := h.l2
  have := h.l3
  rintro k (rfl | rfl | rfl | e | e)
  · assumption
  · assumption
  · assumption
  · have := (h.ar.tab.own e).1; have := h.ar.tab.ne; omega
  · have := (h.rf.row.lt k e).1; have := h.rf.lt; omega
theorem Rm.ar {W w w' : World} {sb srb b rb : Nat} {L M : List Sn} {cnt cnt' : List Int} {O O' O2 : List Ob} {G : List Int} {ab base rbase : Nat} {v v' u : Value} (hP : PT W w b ab base rb rbase 16 cnt v O u O2 G) (hS : Pr W w sb srb (Ft b ab rb v u) L M) (hA : ArAt w' b ab base 16 cnt' v' O') (hO : OnlyA w w' b ab v v') : Rm W w' sb srb b rb L M cnt' O' O2 G := by
  have hP' := hP.arena hA hO
  obtain ⟨b0, tv, rb0, v0, hT⟩ := hS
  refine ⟨ab, base, rbase, v', u, hP', b0, tv, rb0, v0, Two.other hT hO.os hO.tape hO.output hO.size (fun k hk hn => hO.block k hk (fun e => hn (.inl e)) (fun e => hn (.inr (.inl e))) (fun e => hn (.inr (.inr (.inr (.inl e)))))) (Rm.lo hP) (fun k hk => ?_)⟩
  rcases hk with rfl | rfl | rfl | e | e
  · exact ⟨hA.bl, .inl (.inl rfl)⟩
  · exact ⟨hA.al, .inl (.inr (.inl rfl))⟩
  · exact ⟨Nat.lt_of_lt_of_le hP'.rf.lt hP'.rf.bs, .inl (.inr (.inr (.inl rfl)))⟩
  · refine ⟨(hA.tab.own e).2, ?_⟩
    rcases hO.foot with q | ⟨g, q, hg⟩
    · exact .inl (.inr (.inr (.inr (.inl (q ▸ e)))))
    · rw [q] at e; cases e; exact .inr hg
  · exact ⟨(hP'.rf.row.lt k e).2, .inl (.inr (.inr (.inr (.inr e))))⟩
theorem Rm.own {W w w' : World} {sb srb b rb : Nat} {L M : List Sn} {cnt : List Int} {O O2 O2' : List Ob} {G G' : List Int} {ab base rbase : Nat} {v u u' : Value} (hP : PT W w b ab base rb rbase 16 cnt v O u O2 G) (hS : Pr W w sb srb (Ft b ab rb v u) L M) (hR : RefA w' rb rbase 16 u' O2' G') (hO : OnlyR w w' rb u u') : Rm W w' sb srb b rb L M cnt O O2' G' := by
  have hP' := hP.own hR hO
  obtain ⟨b0, tv, rb0, v0, hT⟩ := hS
  refine ⟨ab, base, rbase, v, u', hP', b0, tv, rb0, v0, Two.other hT hO.os hO.tape hO.output hO.size (fun k hk hn => hO.block k hk (fun e => hn (.inr (.inr (.inl e)))) (fun e => hn (.inr (.inr (.inr (.inr e)))))) (Rm.lo hP) (fun k hk => ?_)⟩
  rcases hk with rfl | rfl | rfl | e | e
  · exact ⟨hP'.ar.bl, .inl (.inl rfl)⟩
  · exact ⟨hP'.ar.al, .inl (.inr (.inl rfl))⟩
  · exact ⟨Nat.lt_of_lt_of_le hP'.rf.lt hP'.rf.bs, .inl (.inr (.inr (.inl rfl)))⟩
  · exact ⟨(hP'.ar.tab.own e).2, .inl (.inr (.inr (.inr (.inl e))))⟩
  · refine ⟨(hP'.rf.row.lt k e).2, ?_⟩
    by_cases hk : k < w.heap.size
    · exact .inl (.inr (.inr (.inr (.inr (hO.foot k hk e)))))
    · exact .inr (by omega)
/-- The acts: the arena's Add, its own answer's; the slots' Add and Set. -/
theorem Rm.addA {W w : World} {sb srb b rb : Nat} {L M : List Sn} {cnt : List Int} {O O2 : List Ob} {G : List Int} (h : Rm W w sb srb b rb L M cnt O O2 G) (hl : O.length < 1000000) (kd sz fi : Int) (wf : -9223372036854775808 ≤ fi ∧ fi ≤ 9223372036854775807) :
    Calls Tryd.prog 21 #[.pointer (some ⟨b, 0, none⟩), .int .i64 kd, .int .i64 sz, .int .i64 fi] w fun e w' => e = .returned (.tuple #[.int .i64 (addR 16 cnt O kd sz fi).1, .int .i64 (addR 16 cnt O kd sz fi).2]) ∧ Rm W w' sb srb b rb L M (addC 16 cnt O kd sz fi) (addL 16 cnt O kd sz fi) O2 G := by
  obtain ⟨ab, base, rbase, v, u, hP, hS⟩ := h
  exact (add_any w b ab base 16 cnt v O kd sz fi hP.ar wf hl).mono fun e w' ⟨he, v', hA, hO⟩ => ⟨he, Rm.ar hP hS hA hO⟩
theorem Rm.addB {W w : World} {sb srb b rb : Nat} {L M : List Sn} {cnt : List Int} {O O2 : List Ob} {G : List Int} (h : Rm W w sb srb b rb L M cnt O O2 G) (hl : O2.length < 1000000) (hasc : Asc (rowsO O2)) (kd sz fi : Int) (hfr : nextA (G.take 16) fi ≠ 0 → ∀ y ∈ O2, y.id ≠ nextA (G.take 16) fi) :
    Calls Tryd.prog 22 #[.pointer (some ⟨rb, 0, none⟩), .int .i64 kd, .int .i64 sz, .int .i64 fi] w fun e w' => e = .returned (.tuple #[.int .i64 (addR 16 (G.take 16) O2 kd sz fi).1, .int .i64 (addR 16 (G.take 16) O2 kd sz fi).2]) ∧ ∃ G', G'.take 16 = addC 16 (G.take 16) O2 kd sz fi ∧ Rm W w' sb srb b rb L M cnt O (addL 16 (G.take 16) O2 kd sz fi) G' := by
  obtain ⟨ab, base, rbase, v, u, hP, hS⟩ := h
  exact (radd_any w rb rbase 16 u O2 G kd sz fi hP.rf (by decide) hl hasc hfr).mono fun e w' ⟨he, u', G', hR, hG', hO⟩ => ⟨he, G', hG', Rm.own hP hS hR hO⟩
theorem Rm.addP {W w : World} {sb srb b rb : Nat} {L M : List Sn} {cnt : List Int} {O O2 : List Ob} {G : List Int} (h : Rm W w sb srb b rb L M cnt O O2 G) (hl : L.length < 1000000) (id n : Int) :
    Calls Tryd.prog 23 #[.pointer (some ⟨sb, 0, none⟩), .int .i64 id, .int .i64 n] w fun e w' => e = .returned (.int .i64 (addSR L id n)) ∧ ∃ L', AddRel L id n L' ∧ Rm W w' sb srb b rb L' M cnt O O2 G := by
  obtain ⟨ab, base, rbase, v, u, hP, hS⟩ := h
  exact (hS.addP hl id n).mono fun e w' ⟨he, L', hr, hS', hk⟩ => ⟨he, L', hr, Rm.slots hP hS' hk⟩
theorem Rm.addQ {W w : World} {sb srb b rb : Nat} {L M : List Sn} {cnt : List Int} {O O2 : List Ob} {G : List Int} (h : Rm W w sb srb b rb L M cnt O O2 G) (hA : Asc (rowsS M)) (hl : M.length < 1000000) (id n : Int) :
    Calls Tryd.prog 24 #[.pointer (some ⟨srb, 0, none⟩), .int .i64 id, .int .i64 n] w fun e w' => e = .returned (.int .i64 (addSR M id n)) ∧ ∃ M', AddRel M id n M' ∧ Rm W w' sb srb b rb L M' cnt O O2 G := by
  obtain ⟨ab, base, rbase, v, u, hP, hS⟩ := h
  exact (hS.addR hA hl id n).mono fun e w' ⟨he, L', hr, hS', hk⟩ => ⟨he, L', hr, Rm.slots hP hS' hk⟩
theorem Rm.setP {W w : World} {sb srb b rb : Nat} {L M : List Sn} {cnt : List Int} {O O2 : List Ob} {G : List Int} (h : Rm W w sb srb b rb L M cnt O O2 G) (hT0 : CX.TabG W) (id ix : Int) (c : Cp) (he : c.e ≤ 9223372036854775807) :
    Calls Tryd.prog 25 #[.pointer (some ⟨sb, 0, none⟩), .agg #[.int .i64 id, .int .i64 ix], c.V] w fun e w' => e = .returned (.int .i64 (setN L id ix c)) ∧ Rm W w' sb srb b rb (setM L id ix c) M cnt O O2 G := by
  obtain ⟨ab, base, rbase, v, u, hP, hS⟩ := h
  exact (hS.setP (hT0.call hS.below) id ix c he).mono fun e w' ⟨he, hS', hk⟩ => ⟨he, Rm.slots hP hS' hk⟩
theorem Rm.setQ {W w : World} {sb srb b rb : Nat} {L M : List Sn} {cnt : List Int} {O O2 : List Ob} {G : List Int} (h : Rm W w sb srb b rb L M cnt O O2 G) (hA : Asc (rowsS M)) (hl : M.length < 1000000) (id ix : Int) (c : Cp) :
    Calls Tryd.prog 26 #[.pointer (some ⟨srb, 0, none⟩), .agg #[.int .i64 id, .int .i64 ix], c.V] w fun e w' => e = .returned (.int .i64 (setN M id ix c)) ∧ Rm W w' sb srb b rb L (setM M id ix c) cnt O O2 G := by
  obtain ⟨ab, base, rbase, v, u, hP, hS⟩ := h
  exact (hS.rset hA hl id ix c).mono fun e w' ⟨he, hS', hk⟩ => ⟨he, Rm.slots hP hS' hk⟩
end LkS
end
/- Package word: Field, Ones (the older stock over Base). -/
section
set_option linter.unusedVariables false
set_option linter.unusedSimpArgs false
open Go.ChangeShapes Go.WideShapes Go.ChangeAt Go.RowKit

def insideB (a n : Int) : Bool := decide (0 ≤ a ∧ a < 64 ∧ 1 ≤ n ∧ n ≤ 64 - a)
theorem insideB_true {a n : Int} (h : insideB a n = true) : 0 ≤ a ∧ a < 64 ∧ 1 ≤ n ∧ n ≤ 64 - a := by
  unfold insideB at h; exact of_decide_eq_true h
theorem insideB_mk {a n : Int} (h : 0 ≤ a ∧ a < 64 ∧ 1 ≤ n ∧ n ≤ 64 - a) : insideB a n = true := by
  unfold insideB; exact decide_eq_true h
theorem insideB_no {a n : Int} (h : ¬ (0 ≤ a ∧ a < 64 ∧ 1 ≤ n ∧ n ≤ 64 - a)) : insideB a n = false := by
  unfold insideB; exact decide_eq_false h
/-- ones n -/
def onesN (n : Int) : Int := if n ≤ 0 then 0 else if 64 ≤ n then 18446744073709551615 else 2 ^ n.toNat - 1
theorem wrap_pow (k : Nat) (h : k < 64) : IntKind.u64.wrap (IntKind.u64.wrap (2 ^ k) - 1) = 2 ^ k - 1 := by
  have h1 : (2 : Int) ^ k < 18446744073709551616 := by
    have : (2 : Nat) ^ k < 2 ^ 64 := Nat.pow_lt_pow_right (by omega) h
    have e : ((2 ^ k : Nat) : Int) = (2 : Int) ^ k := by simp
    omega
  have h2 : (1 : Int) ≤ 2 ^ k := by
    have : 1 ≤ (2 : Nat) ^ k := Nat.one_le_two_pow
    have e : ((2 ^ k : Nat) : Int) = (2 : Int) ^ k := by simp
    omega
  rw [IntWalk.u64_in (2 ^ k) (by omega), IntWalk.u64_in _ (by omega)]
theorem ones_any (n : Int) (w : World) :
    Calls Tryd.prog 71 #[.int .i64 n] w fun e w' => e = .returned (.int .u64 (onesN n)) ∧ w = w' := by
  go_enter Tryd.func71, Tryd.ntmps71
  go_wp2
  all_goals go_ret
  all_goals refine ⟨ret_int ?_, rfl⟩
  · unfold onesN; rw [if_pos ‹_›]
  · unfold onesN; rw [if_neg (by omega), if_pos ‹_›]
  · unfold onesN; rw [if_neg (by omega), if_neg (by omega)]; exact wrap_pow _ (by omega)
/-- The n bits from a on. -/
def fieldN (v a n : Int) : Int := v / 2 ^ a.toNat % 2 ^ n.toNat
theorem ones_toNat (n : Int) (h1 : 1 ≤ n) (h2 : n ≤ 64) : onesN n = ((2 ^ n.toNat - 1 : Nat) : Int) := by
  have hp : 1 ≤ (2 : Nat) ^ n.toNat := Nat.one_le_two_pow
  have e : ((2 ^ n.toNat : Nat) : Int) = (2 : Int) ^ n.toNat := by simp
  unfold onesN
  rw [if_neg (by omega)]
  by_cases h : 64 ≤ n
  · obtain rfl : n = 64 := by omega
    simp
  · rw [if_neg h]; omega
theorem and_ones (x : Nat) (n : Int) (hx : x < 18446744073709551616) (h1 : 1 ≤ n) (h2 : n ≤ 64) : bits BinOp.and IntKind.u64 (x : Int) (onesN n) = ((x % 2 ^ n.toNat : Nat) : Int) := by
  have hlt : 2 ^ n.toNat - 1 < 18446744073709551616 := by
    have : (2 : Nat) ^ n.toNat ≤ 2 ^ 64 := Nat.pow_le_pow_right (by decide) (by omega)
    have e : (2 : Nat) ^ 64 = 18446744073709551616 := by decide
    have hp : 1 ≤ (2 : Nat) ^ n.toNat := Nat.one_le_two_pow
    omega
  rw [ones_toNat n h1 h2, u64_and_nat x _ hx hlt, Nat.and_two_pow_sub_one_eq_mod]
theorem field_bits (v a n : Int) (hv : 0 ≤ v) (hv' : v ≤ 18446744073709551615) (h1 : 1 ≤ n) (h2 : n ≤ 64) : bits BinOp.and IntKind.u64 (v / 2 ^ a.toNat) (onesN n) = fieldN v a n := by
  obtain ⟨x, rfl⟩ := Int.eq_ofNat_of_zero_le hv
  have e : (x : Int) / 2 ^ a.toNat = ((x / 2 ^ a.toNat : Nat) : Int) := by simp
  have hlt : x / 2 ^ a.toNat < 18446744073709551616 := Nat.lt_of_le_of_lt (Nat.div_le_self _ _) (by omega)
  unfold fieldN
  rw [e, and_ones _ _ hlt h1 h2]
  simp
theorem setCell_drewN (w : World) (k : Nat) (a : Addr) (v : Value) : (w.drewN k).setCell a v = (w.setCell a v).drewN k := rfl
theorem alloc_drewN (w : World) (k : Nat) (o : Obj) : (w.drewN k).alloc o = (w.alloc o).drewN k := rfl
theorem below_n (w : World) (k : Nat) : Below w.heap.size w (w.drewN k) := below_drewN (Below.refl _ _) _
end
/- package lookup: check, step. -/
section
set_option linter.unusedVariables false
set_option linter.unusedSimpArgs false
open Go.ChangeShapes Go.WideShapes Go.ChangeAt Go.RowKit Go.Shelf

namespace LkS
open TabS (Cp Sn zC mayC sizS getR Two Pr SlotsAt)
/-- What the reading calls lean on: slots, arena, the table of bits; all of them lie below. -/
structure Sees (w : World) (sb b : Nat) (L : List Sn) (O : List Ob) : Prop where
  sl : ∃ base tv, SlotsAt w sb base tv L
  ar : ∃ ab base F cnt v, ArAt w b ab base F cnt v O
  tg : CX.TabG w
theorem Sees.call {w w' : World} {sb b : Nat} {L : List Sn} {O : List Ob} (h : Sees w sb b L O) (hb : Below w.heap.size w w') : Sees w' sb b L O := by
  obtain ⟨⟨base, tv, h1⟩, ⟨ab, base', F, cnt, v, h2⟩, h3⟩ := h
  exact ⟨⟨base, tv, h1.call hb⟩, ⟨ab, base', F, cnt, v, h2.call hb⟩, h3.call hb⟩
theorem Sees.size {w : World} {sb b : Nat} {L : List Sn} {O : List Ob} (h : Sees w sb b L O) (id : Int) :
    Calls Tryd.prog 72 #[.pointer (some ⟨sb, 0, none⟩), .int .i64 id] w fun e w' => e = .returned (.int .i64 (sizS L id)) ∧ Below w.heap.size w w' := by
  obtain ⟨base, tv, hT⟩ := h.sl
  unfold TabS.sizS
  cases hh : TabS.hasS L id with
  | false => exact TabS.ssize_no w sb base tv L id hT hh
  | true =>
    obtain ⟨x, hx, hid⟩ := (TabS.hasS_at hT).1 hh
    rw [if_pos rfl, hx]
    exact TabS.ssize_yes w sb base tv L id x hT hx hid
theorem Sees.get {w : World} {sb b : Nat} {L : List Sn} {O : List Ob} (h : Sees w sb b L O) (id ix : Int) :
    Calls Tryd.prog 49 #[.pointer (some ⟨sb, 0, none⟩), .agg #[.int .i64 id, .int .i64 ix]] w fun e w' => e = .returned (.tuple #[((getR L id ix).getD zC).V, .int .i64 (TabS.getN (getR L id ix))]) ∧ Below w.heap.size w w' := by
  obtain ⟨base, tv, hT⟩ := h.sl
  rcases TabS.slot_or hT id ix with hn | ⟨x, i, hx, hid, rfl, hi⟩
  · rw [TabS.getR_no hT hn]
    exact TabS.sget_no w sb base tv L id ix hT hn
  · rw [TabS.getR_yes ((TabS.hasS_at hT).2 ⟨x, hx, hid⟩) hx, List.getElem?_eq_getElem hi]
    exact TabS.sget_yes w sb base tv L id i x _ hT hx hid (List.getElem?_eq_getElem hi)
theorem Sees.obj {w : World} {sb b : Nat} {L : List Sn} {O : List Ob} (h : Sees w sb b L O) (id : Int) :
    Calls Tryd.prog 70 #[.pointer (some ⟨b, 0, none⟩), .int .i64 id] w fun e w' => e = .returned (.tuple #[obD (getO O id), .bool (getO O id).isSome]) ∧ Below w.heap.size w w' := by
  obtain ⟨ab, base, F, cnt, v, hA⟩ := h.ar
  exact aget_any w b ab base F cnt v O id hA
theorem Sees.may {w : World} {sb b : Nat} {L : List Sn} {O : List Ob} (h : Sees w sb b L O) (c : Cp) (he : c.e ≤ 9223372036854775807) :
    Calls Tryd.prog 45 #[c.V] w fun e w' => e = .returned (.bool (mayC c)) ∧ Below w.heap.size w w' := CX.capMay c.a c.b c.c c.d c.e c.f c.g c.h w h.tg he
/-- check, of both there. -/
def chkN (a : Nat) (d : Int) : Int := if d < 1 ∨ 12 < d then 3 else if a < 2 ^ d.toNat then 0 else 3
theorem check_any (w : World) (sb b : Nat) (a : Nat) (d : Int) (hT : CX.TabG w) (ha : a < 2 ^ 64) :
    Calls Tryd.prog 27 #[.pointer (some ⟨sb, 0, none⟩), .pointer (some ⟨b, 0, none⟩), .int .u64 a, .int .i64 d] w fun e w' => e = .returned (.int .i64 (chkN a d)) ∧ Below w.heap.size w w' := by
  unfold chkN
  by_cases h : d < 1 ∨ 12 < d
  · rw [if_pos h]
    rcases h with h | h
    · go_enter Tryd.func27, Tryd.ntmps27
      go_wp2
      go_ret
      exact ⟨rfl, Below.refl _ _⟩
    · have h2 : ¬ d < 1 := by omega
      go_enter Tryd.func27, Tryd.ntmps27
      go_wp2
      go_ret
      exact ⟨rfl, Below.refl _ _⟩
  · rw [if_neg h]
    have h1 : ¬ d < 1 := fun e => h (.inl e)
    have h2 : ¬ d > 12 := fun e => h (.inr e)
    have HF := Lib.hid (CX.fits_any a d w ha hT.1 hT.2)
    by_cases hf : a < 2 ^ d.toNat
    · have hb : CX.fitsB a d = true := decide_eq_true hf
      rw [hb] at HF
      rw [if_pos hf]
      clear h hf
      go_enter Tryd.func27, Tryd.ntmps27
      go_wp2_with (go_at_call 46; (with_reducible refine HF.out.mono ?_); rintro e w1 ⟨rfl, hb1⟩)
      go_ret
      exact ⟨rfl, hb1⟩
    · have hb : CX.fitsB a d = false := decide_eq_false hf
      rw [hb] at HF
      rw [if_neg hf]
      clear h hf
      go_enter Tryd.func27, Tryd.ntmps27
      go_wp2_with (go_at_call 46; (with_reducible refine HF.out.mono ?_); rintro e w1 ⟨rfl, hb1⟩)
      go_ret
      exact ⟨rfl, hb1⟩
theorem check_none (w : World) (p q : Option Addr) (a : Nat) (d : Int) (h : p = none ∨ q = none) :
    Calls Tryd.prog 27 #[.pointer p, .pointer q, .int .u64 a, .int .i64 d] w fun e w' => e = .returned (.int .i64 1) ∧ w = w' := by
  by_cases hp : p = none
  · subst hp
    go_enter Tryd.func27, Tryd.ntmps27
    go_wp2
    go_ret
    exact ⟨rfl, rfl⟩
  · obtain rfl : q = none := h.resolve_left hp
    obtain ⟨⟨pb, po, pc⟩, rfl⟩ := Option.ne_none_iff_exists'.1 hp
    go_enter Tryd.func27, Tryd.ntmps27
    go_wp2
    go_ret
    exact ⟨rfl, rfl⟩
end LkS
end
/- package lookup: step. -/
section
set_option linter.unusedVariables false
set_option linter.unusedSimpArgs false
open Go.ChangeShapes Go.WideShapes Go.ChangeAt Go.RowKit Go.Shelf

namespace LkS
open TabS (Cp Sn zC mayC sizS getR Two Pr SlotsAt)
abbrev stepV : Option Nx → Value
  | none => .tuple #[.agg #[.int .i64 0, .int .i64 0], .int .i64 0, .bool false]
  | some p => .tuple #[.agg #[.int .i64 p.n, .int .i64 (p.i : Int)], .int .i64 (p.l : Int), .bool true]
structure St0 (w1 : World) (B : Nat) (c : Cp) : Prop where
  cb : w1.heap[B]? = some (.cells c.L.toArray 25 (0, 0))
  rb : w1.heap[B + 1]? = some (.cells #[.int .i64 0, .int .i64 0] 34 (0, 0))
theorem St0.call {w w' : World} {B : Nat} {c : Cp} (h : St0 w B c) (hb : Below w.heap.size w w') : St0 w' B c :=
  ⟨(hb.block _ (Array.getElem?_eq_some_iff.1 h.cb).1).trans h.cb, (hb.block _ (Array.getElem?_eq_some_iff.1 h.rb).1).trans h.rb⟩
theorem cap_cells {w : World} {k : Nat} {c : Cp} (h : w.heap[k]? = some (.cells c.L.toArray 25 (0, 0))) : w.cell? ⟨k, 0, none⟩ = some (.int .i64 c.a) ∧ w.cell? ⟨k, 1, none⟩ = some (.int .i64 c.b) ∧ w.cell? ⟨k, 2, none⟩ = some (.int .i64 c.c) ∧ w.cell? ⟨k, 3, none⟩ = some (.int .u64 c.d) ∧ w.cell? ⟨k, 4, none⟩ = some (.int .i64 c.e) ∧ w.cell? ⟨k, 5, none⟩ = some (.int .i64 c.f) ∧ w.cell? ⟨k, 6, none⟩ = some (.int .i64 c.g) ∧ w.cell? ⟨k, 7, none⟩ = some (.int .i64 c.h) :=
  ⟨cell_cur (cur := c.L) h 0, cell_cur (cur := c.L) h 1, cell_cur (cur := c.L) h 2, cell_cur (cur := c.L) h 3, cell_cur (cur := c.L) h 4, cell_cur (cur := c.L) h 5, cell_cur (cur := c.L) h 6, cell_cur (cur := c.L) h 7⟩
theorem slot_cells {w : World} {k : Nat} {x y : Int} (h : w.heap[k]? = some (.cells #[.int .i64 x, .int .i64 y] 34 (0, 0))) : w.cell? ⟨k, 0, none⟩ = some (.int .i64 x) ∧ w.cell? ⟨k, 1, none⟩ = some (.int .i64 y) ∧ w.frozen? ⟨k, 0, none⟩ = false ∧ w.frozen? ⟨k, 1, none⟩ = false :=
  ⟨cell_cur (cur := [.int .i64 x, .int .i64 y]) h 0, cell_cur (cur := [.int .i64 x, .int .i64 y]) h 1, by simp [World.frozen?, h], by simp [World.frozen?, h]⟩
theorem may_node {c : Cp} (hm : mayC c = true) (h2 : c.a = 2) : (0 ≤ c.f ∧ c.f ≤ 12) ∧ 0 ≤ c.e ∧ c.e < 4096 ∧ c.e < (2 ^ c.f.toNat : Nat) ∧ c.c = 0 ∧ c.d = 0 ∧ c.g = 0 ∧ c.h = 0 := by
  unfold TabS.mayC CX.capB at hm
  rw [if_neg (by omega), if_neg (by omega), if_pos h2] at hm
  simp only [Bool.and_eq_true, CX.guardB, decide_eq_true_eq] at hm
  obtain ⟨⟨_, h1, h3, h4, h5⟩, h6, h7, h8, h9⟩ := hm
  have : (2 : Nat) ^ c.f.toNat ≤ 2 ^ 12 := Nat.pow_le_pow_right (by decide) (by omega)
  exact ⟨⟨h1, h3⟩, h4, by omega, h5, h6, h7, h8, h9⟩
/-- The n highest of so many bits, as the code reckons them. -/
theorem take_bits {a : Nat} (ha : a < 18446744073709551616) (l n : Nat) (hl : n ≤ l) (hn : n ≤ 63) (k : Nat) (hk : k = l - n) : bits BinOp.and IntKind.u64 ((a : Int) / 2 ^ k) (onesN (n : Int)) = ((takeN a l n : Nat) : Int) := by
  subst hk
  have e : (a : Int) / 2 ^ (l - n) = ((a / 2 ^ (l - n) : Nat) : Int) := by simp
  have hlt : a / 2 ^ (l - n) < 18446744073709551616 := Nat.lt_of_le_of_lt (Nat.div_le_self _ _) ha
  rw [e]
  unfold takeN
  rcases Nat.eq_zero_or_pos n with rfl | h0
  · simp [onesN, bits, Nat.mod_one]
    rfl
  · rw [and_ones _ _ hlt (by omega) (by omega)]
    simp
theorem done2 {w w2 : World} {B : Nat} {u v : Value} (hB : B = w.heap.size) (h : Below w.heap.size w w2) : Below w.heap.size w ((w2.setCell ⟨B + 1, 0, none⟩ u).setCell ⟨B + 1, 1, none⟩ v) := by
  subst hB
  exact (h.setCell (p := ⟨w.heap.size + 1, 0, none⟩) (by simp) _).setCell (p := ⟨w.heap.size + 1, 1, none⟩) (by simp) _
set_option maxRecDepth 100000 in
set_option maxHeartbeats 2000000 in
theorem step_any (w : World) (sb b : Nat) (L : List Sn) (O : List Ob) (c : Cp) (a rest : Nat) (h : Sees w sb b L O) (hR : Rad O) (he : c.e ≤ 9223372036854775807) (ha : a < 2 ^ 64) (hr : rest ≤ 12) :
    Calls Tryd.prog 48 #[.pointer (some ⟨sb, 0, none⟩), .pointer (some ⟨b, 0, none⟩), c.V, .int .u64 a, .int .i64 rest] w fun e w' => e = .returned (stepV (stepP L O c a rest)) ∧ Below w.heap.size w w' := by
  obtain ⟨ca, cb, cc, cd, ce, cf, cg, ch⟩ := c
  simp only [] at he
  obtain ⟨w1, hw1⟩ : ∃ y, y = (w.alloc (.cells #[.int .i64 ca, .int .i64 cb, .int .i64 cc, .int .u64 cd, .int .i64 ce, .int .i64 cf, .int .i64 cg, .int .i64 ch] 25)).alloc (.cells #[.int .i64 0, .int .i64 0] 34) := ⟨_, rfl⟩
  have hb1 : Below w.heap.size w w1 := hw1 ▸ bal (bal (Below.refl _ _) _) _
  have hs1 : w1.heap.size = w.heap.size + 2 := by rw [hw1]; simp
  have S0 := Lib.hid h
  have S1 := Lib.hid (h.call hb1)
  have hst : St0 w1 w.heap.size (⟨ca, cb, cc, cd, ce, cf, cg, ch⟩ : Cp) := by
    rw [hw1]
    have hk : Below (w.alloc (.cells #[.int .i64 ca, .int .i64 cb, .int .i64 cc, .int .u64 cd, .int .i64 ce, .int .i64 cf, .int .i64 cg, .int .i64 ch] 25)).heap.size (w.alloc (.cells #[.int .i64 ca, .int .i64 cb, .int .i64 cc, .int .u64 cd, .int .i64 ce, .int .i64 cf, .int .i64 cg, .int .i64 ch] 25)) ((w.alloc (.cells #[.int .i64 ca, .int .i64 cb, .int .i64 cc, .int .u64 cd, .int .i64 ce, .int .i64 cf, .int .i64 cg, .int .i64 ch] 25)).alloc (.cells #[.int .i64 0, .int .i64 0] 34)) := bal (Below.refl _ _) _
    exact ⟨(hk.block w.heap.size (by simp)).trans (heap_alloc_new w _), by have := heap_alloc_new (w.alloc (.cells #[.int .i64 ca, .int .i64 cb, .int .i64 cc, .int .u64 cd, .int .i64 ce, .int .i64 cf, .int .i64 cg, .int .i64 ch] 25)) (.cells #[.int .i64 0, .int .i64 0] 34); rw [World.size_alloc] at this; exact this⟩
  have T1 := Lib.hid hst
  have HMAY := Lib.hid (fun (v : World) (hv : Sees v sb b L O) => hv.may (⟨ca, cb, cc, cd, ce, cf, cg, ch⟩ : Cp) he)
  have HB1 := Lib.hid hb1
  have HW := Lib.hid hw1
  have HA : Hid (a < 18446744073709551616) := Lib.hid ha
  obtain ⟨B, hB⟩ : ∃ B, B = w.heap.size := ⟨_, rfl⟩
  rw [← hB] at T1 hs1
  have HS1 := Lib.hid hs1
  have HBB := Lib.hid hB
  clear h hst hb1 hw1 he ha hs1 hB
  cases hm : mayC (⟨ca, cb, cc, cd, ce, cf, cg, ch⟩ : Cp) with
  | false =>
    have e0 : stepP L O (⟨ca, cb, cc, cd, ce, cf, cg, ch⟩ : Cp) a rest = none := by unfold stepP; rw [if_neg (by rw [hm]; simp)]
    rw [e0]
    have HM := Lib.hid (HMAY.out w1 S1.out)
    rw [hm] at HM
    obtain ⟨x0, x1, x2, x3, x4, x5, x6, x7⟩ := cap_cells T1.out.cb
    obtain ⟨r0, r1, rf0, rf1⟩ := slot_cells T1.out.rb
    clear hm
    go_enter Tryd.func48, Tryd.ntmps48
    go_upto_region 1 with fail
    rw [← HW.out, ← HBB.out]
    go_wp2_with (go_at_call 45; (with_reducible refine HM.out.mono ?_); rintro e w2 ⟨rfl, hb2⟩; have T2 := Lib.hid (T1.out.call hb2); have HB2 := Lib.hid (HB1.out.trans (hb2.mono HB1.out.size)); clear x0 x1 x2 x3 x4 x5 x6 x7 r0 r1 rf0 rf1 hb2; obtain ⟨x0, x1, x2, x3, x4, x5, x6, x7⟩ := cap_cells T2.out.cb; obtain ⟨r0, r1, rf0, rf1⟩ := slot_cells T2.out.rb)
    exact bodyPost_ret (v := stepV none) (by simp [results, Tryd.results48, go_sem, r0, r1, rf0, rf1]) rfl ⟨rfl, done2 HBB.out HB2.out⟩
  | true =>
    by_cases hk : ca = 2
    · obtain ⟨⟨hf0, hf1⟩, hg0, hg1, hg2, hz1, hz2, hz3, hz4⟩ := may_node hm hk
      have HM := Lib.hid (HMAY.out w1 S1.out)
      rw [hm] at HM
      simp only [] at hf0 hf1 hg0 hg1 hg2 hz1 hz2 hz3 hz4
      subst hk hz1 hz2 hz3 hz4
      have hgo : ∃ oo : Option Ob, oo = getO O cb := ⟨_, rfl⟩
      obtain ⟨oo, hoo⟩ := hgo
      obtain ⟨no, hno⟩ : ∃ y : Ob, y = oo.getD ⟨0, 0, 0, 0, 0, 0, 0, 0, 0⟩ := ⟨_, rfl⟩
      obtain ⟨ok, hok⟩ : ∃ y : Bool, y = oo.isSome := ⟨_, rfl⟩
      have HGO : Hid (∀ v, Sees v sb b L O → Calls Tryd.prog 70 #[.pointer (some ⟨b, 0, none⟩), .int .i64 cb] v fun e w' => e = .returned (.tuple #[obV no, .bool ok]) ∧ Below v.heap.size v w') := Lib.hid (fun v hv => by rw [hno, hok, hoo]; exact hv.obj cb)
      have HOO := Lib.hid hoo
      have HNO := Lib.hid hno
      have HOK := Lib.hid hok
      have HMM := Lib.hid hm
      clear hm hoo hno hok
      obtain ⟨x0, x1, x2, x3, x4, x5, x6, x7⟩ := cap_cells T1.out.cb
      obtain ⟨r0, r1, rf0, rf1⟩ := slot_cells T1.out.rb
      go_enter Tryd.func48, Tryd.ntmps48
      go_upto_region 1 with fail
      rw [← HW.out, ← HBB.out]
      go_upto_region 4 with (first
        | (go_at_call 45; (with_reducible refine HM.out.mono ?_); rintro e w2 ⟨rfl, hb2⟩; have S2 := Lib.hid (S1.out.call hb2); have T2 := Lib.hid (T1.out.call hb2); have HB2 := Lib.hid (HB1.out.trans (hb2.mono HB1.out.size)); clear x0 x1 x2 x3 x4 x5 x6 x7 r0 r1 rf0 rf1 hb2; obtain ⟨x0, x1, x2, x3, x4, x5, x6, x7⟩ := cap_cells T2.out.cb; obtain ⟨r0, r1, rf0, rf1⟩ := slot_cells T2.out.rb)
        | (go_at_call 70; (with_reducible refine (HGO.out _ S2.out).mono ?_); rintro e w3 ⟨rfl, hb3⟩; have S3 := Lib.hid (S2.out.call hb3); have T3 := Lib.hid (T2.out.call hb3); have HB3 := Lib.hid (HB2.out.trans (hb3.mono HB2.out.size)); clear hb3))
      obtain ⟨nid, nkd, nsz, nfi, nfr, nma, nse, npg, nlv⟩ := no
      obtain ⟨w4, hw4⟩ : ∃ y, y = w3.alloc (.cells #[.int .i64 nid, .int .i64 nkd, .int .i64 nsz, .int .i64 nfi, .int .i64 nfr, .int .i64 nma, .int .i64 nse, .int .i64 npg, .int .i64 nlv] 84) := ⟨_, rfl⟩
      rw [← hw4]
      have hb4 : Below w3.heap.size w3 w4 := hw4 ▸ bal (Below.refl _ _) _
      have hnb : w4.heap[w3.heap.size]? = some (.cells #[.int .i64 nid, .int .i64 nkd, .int .i64 nsz, .int .i64 nfi, .int .i64 nfr, .int .i64 nma, .int .i64 nse, .int .i64 npg, .int .i64 nlv] 84 (0, 0)) := by rw [hw4]; exact heap_alloc_new w3 _
      have S4 := Lib.hid (S3.out.call hb4)
      have T4 := Lib.hid (T3.out.call hb4)
      have HB4 := Lib.hid (HB3.out.trans (hb4.mono HB3.out.size))
      have HN4 := Lib.hid hnb
      have n1 : w4.cell? ⟨w3.heap.size, 1, none⟩ = some (.int .i64 nkd) := cell_cur (cur := [.int .i64 nid, .int .i64 nkd, .int .i64 nsz, .int .i64 nfi, .int .i64 nfr, .int .i64 nma, .int .i64 nse, .int .i64 npg, .int .i64 nlv]) hnb 1
      have n2 : w4.cell? ⟨w3.heap.size, 2, none⟩ = some (.int .i64 nsz) := cell_cur (cur := [.int .i64 nid, .int .i64 nkd, .int .i64 nsz, .int .i64 nfi, .int .i64 nfr, .int .i64 nma, .int .i64 nse, .int .i64 npg, .int .i64 nlv]) hnb 2
      generalize w3.heap.size = nB at *
      clear hw4 hb4 hnb x0 x1 x2 x3 x4 x5 x6 x7 r0 r1 rf0 rf1 S2 S3 T2 T3 HB2 HB3 HGO HM HMAY
      obtain ⟨x0, x1, x2, x3, x4, x5, x6, x7⟩ := cap_cells T4.out.cb
      obtain ⟨r0, r1, rf0, rf1⟩ := slot_cells T4.out.rb
      simp only [] at x0 x1 x2 x3 x4 x5 x6 x7
      have hrI : (rest : Int) ≤ 12 := by omega
      cases hq : oo with
      | none =>
        have e0 : stepP L O ⟨2, cb, 0, 0, ce, cf, 0, 0⟩ a rest = none := by
          unfold stepP
          rw [if_pos ⟨HMM.out, rfl⟩, ← HOO.out, hq]
        have hok := HOK.out
        rw [hq] at hok
        simp only [Option.isSome_none] at hok
        subst hok
        have E0 := Lib.hid e0
        clear hq e0
        go_wp2
        exact bodyPost_ret (v := stepV none) (by simp [results, Tryd.results48, go_sem, r0, r1, rf0, rf1]) rfl ⟨by rw [E0.out], done2 HBB.out HB4.out⟩
      | some o =>
        have hok := HOK.out
        rw [hq] at hok
        simp only [Option.isSome_some] at hok
        subst hok
        have hno := HNO.out
        rw [hq] at hno
        simp only [Option.getD_some] at hno
        subst hno
        have hgo : getO O cb = some ⟨nid, nkd, nsz, nfi, nfr, nma, nse, npg, nlv⟩ := by rw [← HOO.out, hq]
        have HGO := Lib.hid hgo
        clear hq hgo
        by_cases hkd : nkd = 2
        · subst hkd
          obtain ⟨z1, z2⟩ := hR cb _ HGO.out rfl
          simp only [] at z1 z2
          obtain ⟨z, rfl⟩ : ∃ z : Nat, nsz = z := ⟨nsz.toNat, by omega⟩
          obtain ⟨f, rfl⟩ : ∃ f : Nat, cf = f := ⟨cf.toNat, by omega⟩
          have hst : stepP L O ⟨2, cb, 0, 0, ce, (f : Int), 0, 0⟩ a rest = if f + z ≤ rest ∧ takeN a rest f = ce.toNat ∧ (takeN a (rest - f) z : Int) < sizS L cb then some ⟨cb, takeN a (rest - f) z, rest - f - z⟩ else none := by
            unfold stepP
            rw [if_pos ⟨HMM.out, rfl⟩, HGO.out]
            simp
          have HST := Lib.hid hst
          clear hst
          by_cases hl : f + z ≤ rest
          · obtain ⟨l, rfl⟩ : ∃ l, rest = f + z + l := ⟨rest - (f + z), by omega⟩
            have t1 := Lib.hid (take_bits (a := a) HA.out (f + z + l) f (by omega) (by omega) (l + z) (by omega))
            have t2 := Lib.hid (take_bits (a := a) HA.out (z + l) z (by omega) (by omega) l (by omega))
            have HL := Lib.hid hl
            clear hl
            go_upto_region 7 with fail
            rw [show (f : Int) + z + l - f - z = l by omega]
            go_quiet ((go_at_call 71; exact Calls.quiet_of_same (same_q (ones_any _ _))))
            rw [t1.out]
            obtain ⟨w5, hw5⟩ : ∃ y, y = w4.drewN nq := ⟨_, rfl⟩
            have hb5 : Below w4.heap.size w4 w5 := hw5 ▸ below_drewN (Below.refl _ _) nq
            have S5 := Lib.hid (S4.out.call hb5)
            have T5 := Lib.hid (T4.out.call hb5)
            have HB5 := Lib.hid (HB4.out.trans (hb5.mono HB4.out.size))
            have m2 := (hb5.cell (p := ⟨nB, 2, none⟩) (Array.getElem?_eq_some_iff.1 HN4.out).1).trans n2
            have hnl : nB < w5.heap.size := Nat.lt_of_lt_of_le (Array.getElem?_eq_some_iff.1 HN4.out).1 hb5.size
            rw [← hw5]
            clear hw5 hb5 n1 n2 x0 x1 x2 x3 x4 x5 x6 x7 r0 r1 rf0 rf1 S4 T4 HB4 HN4
            obtain ⟨x0, x1, x2, x3, x4, x5, x6, x7⟩ := cap_cells T5.out.cb
            simp only [] at x0 x1 x2 x3 x4 x5 x6 x7
            generalize takeN a (f + z + l) f = gd at *
            go_upto_region 8 with fail
            have keepS : ∀ o, (w5.alloc o).cell? ⟨B, 1, none⟩ = some (.int .i64 cb) ∧ (w5.alloc o).cell? ⟨nB, 2, none⟩ = some (.int .i64 (z : Int)) := fun o => by
              have hb := bal (Below.refl w5.heap.size w5) o
              exact ⟨(hb.cell (p := ⟨B, 1, none⟩) (Array.getElem?_eq_some_iff.1 T5.out.cb).1).trans x1, (hb.cell (p := ⟨nB, 2, none⟩) hnl).trans m2⟩
            have KS := Lib.hid keepS
            clear keepS
            go_region_held3 (fun w' => w'.cell? ⟨B, 1, none⟩ = some (.int .i64 cb) ∧ w'.cell? ⟨nB, 2, none⟩ = some (.int .i64 (z : Int)))
              (first | exact ⟨x1, m2⟩ | exact KS.out _)
              (first | (go_at_call 71; (with_reducible refine (ones_any _ _).mono ?_); rintro e w' ⟨rfl, rfl⟩))
            all_goals
              go_upto_region 9 with fail
              rw [t2.out]
              have hix : takeN a (z + l) z < 16 := Nat.lt_of_lt_of_le (Nat.mod_lt _ (Nat.two_pow_pos z)) (Nat.pow_le_pow_right (by decide) (show z ≤ 4 by omega))
              rw [show f + z + l - f = z + l by omega, show z + l - z = l by omega] at HST
              generalize takeN a (z + l) z = ix at *
              rw [show IntKind.i64.wrap (ix : Int) = (ix : Int) from IntWalk.i64_in _ (by omega)]
              obtain ⟨w6, hw6⟩ : ∃ y, y = (w5.alloc (.cells #[.int .i64 cb, .int .i64 (ix : Int)] 34)).drew := ⟨_, rfl⟩
              have hb6 : Below w5.heap.size w5 w6 := hw6 ▸ (bal (Below.refl _ _) _).drew
              have S6 := Lib.hid (S5.out.call hb6)
              have T6 := Lib.hid (T5.out.call hb6)
              have HB6 := Lib.hid (HB5.out.trans (hb6.mono HB5.out.size))
              have HK6 : Hid (w6.heap[w5.heap.size]? = some (.cells #[.int .i64 cb, .int .i64 (ix : Int)] 34 (0, 0))) := Lib.hid (by rw [hw6]; exact heap_alloc_new w5 _)
              rw [← hw6]
              generalize w5.heap.size = sB at *
              clear hw6 hb6 x0 x1 x2 x3 x4 x5 x6 x7 m2 S5 T5 HB5 KS t1 t2
              obtain ⟨-, x1, -, -, x4, -, -, -⟩ := cap_cells T6.out.cb
              obtain ⟨-, k1, -, -⟩ := slot_cells HK6.out
              simp only [] at x1 x4
              have hwe : IntKind.u64.wrap ce = ce := IntWalk.u64_in _ (by omega)
              by_cases hge : (gd : Int) = ce
              · subst hge
                have S6d := Lib.hid (S6.out.call (show Below w6.heap.size w6 w6.drew from (Below.refl _ _).drew))
                have T6d := Lib.hid (T6.out.call (show Below w6.heap.size w6 w6.drew from (Below.refl _ _).drew))
                have HSZ := Lib.hid (S6d.out.size cb)
                have hneq : (!((gd : Int) == (gd : Int))) = false := by simp
                go_region_held3 (fun w' => w'.cell? ⟨B, 4, none⟩ = some (.int .i64 (gd : Int)) ∧ w'.cell? ⟨B, 1, none⟩ = some (.int .i64 cb) ∧ w'.cell? ⟨sB, 1, none⟩ = some (.int .i64 (ix : Int)))
                  (first | exact ⟨x4, x1, k1⟩ | exact K7.out)
                  (first | (go_at_call 72; (with_reducible refine HSZ.out.mono ?_); rintro e w7 ⟨rfl, hb7⟩; have S7 := Lib.hid (S6d.out.call hb7); have T7 := Lib.hid (T6d.out.call hb7); have HK7 := Lib.hid ((hb7.block sB (Array.getElem?_eq_some_iff.1 HK6.out).1).trans HK6.out); have K7 := Lib.hid (show w7.cell? ⟨B, 4, none⟩ = some (.int .i64 (gd : Int)) ∧ w7.cell? ⟨B, 1, none⟩ = some (.int .i64 cb) ∧ w7.cell? ⟨sB, 1, none⟩ = some (.int .i64 (ix : Int)) from ⟨(cap_cells T7.out.cb).2.2.2.2.1, (cap_cells T7.out.cb).2.1, (slot_cells HK7.out).2.1⟩); have HB7 := Lib.hid (HB6.out.drew.trans (hb7.mono HB6.out.size)); clear hb7))
                all_goals
                  have HST' : Hid (stepP L O ⟨2, cb, 0, 0, (gd : Int), (f : Int), 0, 0⟩ a (f + z + l) = if (ix : Int) < sizS L cb then some ⟨cb, ix, l⟩ else none) := Lib.hid (by
                    rw [HST.out]
                    by_cases q : (ix : Int) < sizS L cb
                    · rw [if_pos q, if_pos ⟨HL.out, by omega, q⟩]
                    · rw [if_neg q, if_neg (fun e => q e.2.2)])
                  obtain ⟨r0, r1, rf0, rf1⟩ := slot_cells T7.out.rb
                  obtain ⟨k0, k1', -, -⟩ := slot_cells HK7.out
                  clear x1 x4 k1 hneq hwe HSZ HST
                  generalize sizS L cb = sz at *
                  by_cases hsz : (ix : Int) < sz
                  · have E1 := HST'.out
                    rw [if_pos hsz] at E1
                    have E := Lib.hid E1
                    have hsz' : ¬ sz ≤ (ix : Int) := by omega
                    clear E1
                    go_wp2
                    exact bodyPost_ret (v := stepV (some ⟨cb, ix, l⟩)) (by simp [results, Tryd.results48, go_sem, r0, r1, rf0, rf1]) rfl ⟨by rw [E.out], done2 HBB.out HB7.out⟩
                  · have E1 := HST'.out
                    rw [if_neg hsz] at E1
                    have E := Lib.hid E1
                    have hsz' : sz ≤ (ix : Int) := by omega
                    clear E1
                    go_wp2
                    exact bodyPost_ret (v := stepV none) (by simp [results, Tryd.results48, go_sem, r0, r1, rf0, rf1]) rfl ⟨by rw [E.out], done2 HBB.out HB7.out⟩
              · have E0 : Hid (stepP L O ⟨2, cb, 0, 0, ce, (f : Int), 0, 0⟩ a (f + z + l) = none) := Lib.hid (by rw [HST.out, if_neg (fun e => hge (by rw [e.2.1]; omega))])
                have q1 : ((gd : Int) == ce) = false := beq_eq_false_iff_ne.2 hge
                have q2 : decide ((gd : Int) = ce) = false := decide_eq_false hge
                have q3 : ((gd : Int) != ce) = true := by simp [hge]
                have q4 : (!decide ((gd : Int) = ce)) = true := by simp [hge]
                go_quiet (fail)
                obtain ⟨w8, hw8⟩ : ∃ y, y = w6.drewN nq := ⟨_, rfl⟩
                have hb8 : Below w6.heap.size w6 w8 := hw8 ▸ below_drewN (Below.refl _ _) nq
                have T8 := Lib.hid (T6.out.call hb8)
                have HB8 := Lib.hid (HB6.out.trans (hb8.mono HB6.out.size))
                rw [← hw8]
                clear hw8 hb8 x1 x4 k1 q1 q2 q3 q4 hge hwe
                obtain ⟨r0, r1, rf0, rf1⟩ := slot_cells T8.out.rb
                go_wp2
                exact bodyPost_ret (v := stepV none) (by simp [results, Tryd.results48, go_sem, r0, r1, rf0, rf1]) rfl ⟨by rw [E0.out], done2 HBB.out HB8.out⟩
          · have E0 : Hid (stepP L O ⟨2, cb, 0, 0, ce, (f : Int), 0, 0⟩ a rest = none) := Lib.hid (by rw [HST.out, if_neg (fun e => hl e.1)])
            have hlI : (rest : Int) - f - z < 0 := by omega
            clear hl
            go_wp2
            exact bodyPost_ret (v := stepV none) (by simp [results, Tryd.results48, go_sem, r0, r1, rf0, rf1]) rfl ⟨by rw [E0.out], done2 HBB.out HB4.out⟩
        · have e0 : stepP L O ⟨2, cb, 0, 0, ce, cf, 0, 0⟩ a rest = none := by
            unfold stepP
            rw [if_pos ⟨HMM.out, rfl⟩, HGO.out]
            simp only []
            rw [if_neg (fun e => hkd e.1)]
          have E0 := Lib.hid e0
          clear e0
          go_wp2
          exact bodyPost_ret (v := stepV none) (by simp [results, Tryd.results48, go_sem, r0, r1, rf0, rf1]) rfl ⟨by rw [E0.out], done2 HBB.out HB4.out⟩
    · have e0 : stepP L O (⟨ca, cb, cc, cd, ce, cf, cg, ch⟩ : Cp) a rest = none := by unfold stepP; rw [if_neg (fun e => hk e.2)]
      rw [e0]
      have HM := Lib.hid (HMAY.out w1 S1.out)
      rw [hm] at HM
      obtain ⟨x0, x1, x2, x3, x4, x5, x6, x7⟩ := cap_cells T1.out.cb
      obtain ⟨r0, r1, rf0, rf1⟩ := slot_cells T1.out.rb
      clear hm
      go_enter Tryd.func48, Tryd.ntmps48
      go_upto_region 1 with fail
      rw [← HW.out, ← HBB.out]
      go_wp2_with (go_at_call 45; (with_reducible refine HM.out.mono ?_); rintro e w2 ⟨rfl, hb2⟩; have T2 := Lib.hid (T1.out.call hb2); have HB2 := Lib.hid (HB1.out.trans (hb2.mono HB1.out.size)); clear x0 x1 x2 x3 x4 x5 x6 x7 r0 r1 rf0 rf1 hb2; obtain ⟨x0, x1, x2, x3, x4, x5, x6, x7⟩ := cap_cells T2.out.cb; obtain ⟨r0, r1, rf0, rf1⟩ := slot_cells T2.out.rb)
      exact bodyPost_ret (v := stepV none) (by simp [results, Tryd.results48, go_sem, r0, r1, rf0, rf1]) rfl ⟨rfl, done2 HBB.out HB2.out⟩
end LkS
end
end Go.Proofs.YtnjdljjmengjbaaDoor
