import Derived.Test.YtchjfeafkmpmbaaGreatDoorPkas
import Derived.Maps.AppendAt
namespace Go.Proofs.YtchjfeafkmpmbaaGreatDoor
set_option linter.unusedVariables false
set_option linter.unusedSimpArgs false
set_option maxRecDepth 100000
set_option maxHeartbeats 8000000
open Lib (hid)
section
open Go.ChangeShapes Go.WideShapes Go.ChangeAt Go.RowKit Go.Shelf
theorem swap_set0 {l : List Nod} {o i p j : Int} (h1 : idx l o i = none) (h2 : idx l p j = none) : swapA l o i p j = l := by
 unfold swapA
 apply List.ext_getElem?
 intro q
 rw [List.getElem?_map]
 cases hy : l[q]? with
 | none => rfl
 | some y =>
  show some (sw o i p j y) = some y
  unfold sw
  rw [if_neg (fun e => idx_none h1 hy e), if_neg (fun e => idx_none h2 hy e)]
theorem swap_set2 {l : List Nod} (hO : Once l) {k r : Nat} {x y : Nod} {o i p j : Int} (hx : l[k]? = some x) (he : x.o = o ∧ x.i = i) (hy : l[r]? = some y) (hf : y.o = p ∧ y.i = j) :
  ∃ z, (l.set k ⟨p, j, x.d⟩)[r]? = some z ∧ (l.set k ⟨p, j, x.d⟩).set r ⟨o, i, z.d⟩ = swapA l o i p j := by
 have hk := (lgs hx).1
 have hr := (lgs hy).1
 obtain ⟨z, hz, hzd⟩ : ∃ z, (l.set k ⟨p, j, x.d⟩)[r]? = some z ∧ z.d = y.d := by
  rw [List.getElem?_set]
  by_cases h : k = r
  ·subst h
   rw [hx] at hy
   cases hy
   rw [if_pos rfl, if_pos hk]
   exact ⟨_, rfl, rfl⟩
  ·rw [if_neg h]
   exact ⟨y, hy, rfl⟩
 refine ⟨z, hz, ?_⟩
 unfold swapA
 apply List.ext_getElem?
 intro q
 rw [List.getElem?_set, List.getElem?_map]
 by_cases h1 : r = q
 ·subst h1
  rw [if_pos rfl, if_pos (by rw [List.length_set]; exact hr), hy, hzd]
  show _ = some (sw o i p j y)
  unfold sw
  by_cases h2 : y.o = o ∧ y.i = i
  ·rw [if_pos h2]
   obtain ⟨a, b⟩ := h2
   obtain ⟨c, d⟩ := hf
   rw [← a, ← b, c, d]
  ·rw [if_neg h2, if_pos hf]
 ·rw [if_neg h1, List.getElem?_set]
  by_cases h2 : k = q
  ·subst h2
   rw [if_pos rfl, if_pos hk, hx]
   show _ = some (sw o i p j x)
   unfold sw
   rw [if_pos he]
  ·rw [if_neg h2]
   cases hu : l[q]? with
   | none => rfl
   | some u =>
    show _ = some (sw o i p j u)
    unfold sw
    rw [if_neg (fun e => h2 (hO _ _ _ _ hx hu (by omega) (by omega))), if_neg (fun e => h1 (hO _ _ _ _ hy hu (by omega) (by omega)))]
theorem bx_all {W : World} {s : Nat} {o i : Int} (h : Bx W s o i) : W.cell? ⟨s, 0, none⟩ = some (.int .i64 o) ∧ W.cell? ⟨s, 1, none⟩ = some (.int .i64 i) ∧ s < W.heap.size := ⟨h.c0, h.c1, h.lt⟩
theorem row_ne_bx {W : World} {rb g n c s : Nat} {l : List Nod} {o i : Int} (h : RefT W rb (.slice (some ⟨g, 0, none⟩) n c) l) (hb : Bx W s o i) : s ≠ g := by
 rintro rfl
 rcases h.row.2 with ⟨q, _⟩ | ⟨g', cap, cur, q, _, q2, _⟩
 ·cases q
 ·cases q
  have := hb.blk.symm.trans q2
  unfold slO at this
  injection this with e
  injection e with e1 e2 e3
  exact absurd e2 (by decide)
theorem nil_form {W : World} {base : Nat} {e : TypeId} {s : Nat} {v : Value} {n : Nat} {xs : List Value} (h : W.ownsRow base e s v (0 + n) xs) : ∃ a c, v = .slice a n c := by
 rcases h.2 with ⟨rfl, h⟩ | ⟨g, cap, cur, rfl, hg, _⟩
 ·obtain rfl : n = 0 := by omega
  exact ⟨_, _, rfl⟩
 ·rw [Nat.zero_add]
  exact ⟨_, _, rfl⟩
theorem rswap_0n (w : World) (rb : Nat) (o i p j : Int) (h : RefT w rb (.slice none 0 0) []) :
  Calls Tryz.prog 92 #[.pointer (some ⟨rb, 0, none⟩), slV o i, slV p j] w fun e w' => e = .returned (.tuple #[]) ∧ (∃ u, RefT w' rb u (swapA [] o i p j)) ∧ OnlyR rb w w' := by
 have hal : Below w.heap.size w ((w.alloc (slO o i)).alloc (slO p j)) := bal (bal (Below.refl _ _) _) _
 have HA := hid hal
 have HR := hid h
 have HBX := hid (bx2 w o i p j)
 have hrl := (ags h.blk).1
 have HAT := hid (show atI [] o i = -1 by rfl)
 have HAT2 := hid (show atI [] p j = -1 by rfl)
 clear h hal
 go_enter Tryz.func92, Tryz.ntmps92
 go_upto_region 1 with (fail)
 obtain ⟨wA, hwA⟩ : ∃ x, x = (w.alloc (slO o i)).alloc (slO p j) := ⟨_, rfl⟩
 rw [show (w.alloc (.cells #[.int .i64 o, .int .i64 i] 30)).alloc (.cells #[.int .i64 p, .int .i64 j] 30) = wA from hwA.symm]
 have HAA : Hid (Below w.heap.size w wA) := hid (hwA ▸ HA.out)
 have HBA : Hid (Bx wA w.heap.size o i ∧ Bx wA (w.heap.size + 1) p j) := hid (hwA ▸ HBX.out)
 have HRD := hid ((HR.out.call HAA.out).call (Below.refl _ _).drew)
 obtain ⟨a0, a1, al⟩ := bx_all HBA.out.1
 obtain ⟨b0, b1, bl⟩ := bx_all HBA.out.2
 clear hwA HA HBX
 go_region_held3 (fun w' => w'.cell? ⟨w.heap.size, 0, none⟩ = some (.int .i64 o) ∧ w'.cell? ⟨w.heap.size, 1, none⟩ = some (.int .i64 i) ∧ w'.cell? ⟨w.heap.size + 1, 0, none⟩ = some (.int .i64 p) ∧ w'.cell? ⟨w.heap.size + 1, 1, none⟩ = some (.int .i64 j))
  (first | exact ⟨e0, e1, f0, f1⟩ | exact ⟨c0, c1, d0, d1⟩ | exact ⟨a0, a1, b0, b1⟩)
  (first
   | (go_at_call 95; with_reducible refine (rat_any _ rb _ [] p j HR2.out).mono ?_; rw [HAT2.out]; rintro e w3 ⟨rfl, hb3⟩; have HB3 := hid (HB2.out.trans (hb3.mono HB2.out.size)); obtain ⟨e0, e1, el⟩ := bx_all (HBX2.out.1.call hb3); obtain ⟨f0, f1, fl⟩ := bx_all (HBX2.out.2.call hb3); clear hb3)
   | (go_at_call 95; with_reducible refine (rat_any _ rb _ [] o i HRD.out).mono ?_; rw [HAT.out]; rintro e w2 ⟨rfl, hb2⟩; have HR2 := hid (HRD.out.call hb2); have HB2 := hid (HAA.out.drew.trans (hb2.mono HAA.out.drew.size)); have HBX2 := hid (And.intro ((HBA.out.1.call (Below.refl _ _).drew).call hb2) ((HBA.out.2.call (Below.refl _ _).drew).call hb2)); obtain ⟨c0, c1, cl⟩ := bx_all ((HBA.out.1.call (Below.refl _ _).drew).call hb2); obtain ⟨d0, d1, dl⟩ := bx_all ((HBA.out.2.call (Below.refl _ _).drew).call hb2); clear hb2))
 all_goals
  obtain ⟨r0, rz⟩ := cell_box (HR.out.call HB3.out).blk
  clear a0 a1 b0 b1
  (try clear c0 c1 d0 d1)
  (try clear e0 e1 f0 f1)
  have HST := hid (HR.out.store (l' := []) (u := .slice none 0 0) HB3.out (World.ownsRow_nil _ _ _ _) (by simp) (by simp))
  go_wp2
  go_end0
  exact ⟨rfl, ⟨_, HST.out.1⟩, HST.out.2⟩
theorem rswap_0s (w : World) (rb : Nat) (g c : Nat) (o i p j : Int) (h : RefT w rb (.slice (some ⟨g, 0, none⟩) 0 c) []) :
  Calls Tryz.prog 92 #[.pointer (some ⟨rb, 0, none⟩), slV o i, slV p j] w fun e w' => e = .returned (.tuple #[]) ∧ (∃ u, RefT w' rb u (swapA [] o i p j)) ∧ OnlyR rb w w' := by
 have hal : Below w.heap.size w ((w.alloc (slO o i)).alloc (slO p j)) := bal (bal (Below.refl _ _) _) _
 have HA := hid hal
 have HR := hid h
 have HBX := hid (bx2 w o i p j)
 have hrl := (ags h.blk).1
 have HAT := hid (show atI [] o i = -1 by rfl)
 have HAT2 := hid (show atI [] p j = -1 by rfl)
 obtain ⟨i0, hi0, hz0, hz1, hz2⟩ := info_parts infoNd
 have HI0 := hid hi0
 clear hi0
 clear h hal
 go_enter Tryz.func92, Tryz.ntmps92
 go_upto_region 1 with (fail)
 obtain ⟨wA, hwA⟩ : ∃ x, x = (w.alloc (slO o i)).alloc (slO p j) := ⟨_, rfl⟩
 rw [show (w.alloc (.cells #[.int .i64 o, .int .i64 i] 30)).alloc (.cells #[.int .i64 p, .int .i64 j] 30) = wA from hwA.symm]
 have HAA : Hid (Below w.heap.size w wA) := hid (hwA ▸ HA.out)
 have HBA : Hid (Bx wA w.heap.size o i ∧ Bx wA (w.heap.size + 1) p j) := hid (hwA ▸ HBX.out)
 have HRD := hid ((HR.out.call HAA.out).call (Below.refl _ _).drew)
 obtain ⟨a0, a1, al⟩ := bx_all HBA.out.1
 obtain ⟨b0, b1, bl⟩ := bx_all HBA.out.2
 clear hwA HA HBX
 go_region_held3 (fun w' => w'.cell? ⟨w.heap.size, 0, none⟩ = some (.int .i64 o) ∧ w'.cell? ⟨w.heap.size, 1, none⟩ = some (.int .i64 i) ∧ w'.cell? ⟨w.heap.size + 1, 0, none⟩ = some (.int .i64 p) ∧ w'.cell? ⟨w.heap.size + 1, 1, none⟩ = some (.int .i64 j))
  (first | exact ⟨e0, e1, f0, f1⟩ | exact ⟨c0, c1, d0, d1⟩ | exact ⟨a0, a1, b0, b1⟩)
  (first
   | (go_at_call 95; with_reducible refine (rat_any _ rb _ [] p j HR2.out).mono ?_; rw [HAT2.out]; rintro e w3 ⟨rfl, hb3⟩; have HB3 := hid (HB2.out.trans (hb3.mono HB2.out.size)); obtain ⟨e0, e1, el⟩ := bx_all (HBX2.out.1.call hb3); obtain ⟨f0, f1, fl⟩ := bx_all (HBX2.out.2.call hb3); clear hb3)
   | (go_at_call 95; with_reducible refine (rat_any _ rb _ [] o i HRD.out).mono ?_; rw [HAT.out]; rintro e w2 ⟨rfl, hb2⟩; have HR2 := hid (HRD.out.call hb2); have HB2 := hid (HAA.out.drew.trans (hb2.mono HAA.out.drew.size)); have HBX2 := hid (And.intro ((HBA.out.1.call (Below.refl _ _).drew).call hb2) ((HBA.out.2.call (Below.refl _ _).drew).call hb2)); obtain ⟨c0, c1, cl⟩ := bx_all ((HBA.out.1.call (Below.refl _ _).drew).call hb2); obtain ⟨d0, d1, dl⟩ := bx_all ((HBA.out.2.call (Below.refl _ _).drew).call hb2); clear hb2))
 all_goals
  obtain ⟨r0, rz⟩ := cell_box (HR.out.call HB3.out).blk
  clear a0 a1 b0 b1
  (try clear c0 c1 d0 d1)
  (try clear e0 e1 f0 f1)
  have HCB := hid (row_news (HR.out.call HB3.out))
  go_wp2_with (at_builtin; refine wpList_append_own _ rfl _ _ 41 rfl w.heap.size 44 i0 (.agg #[.int .i64 0, .int .i64 0, .int .i64 0]) 3 24 Tryz.underlying41 HI0.out hz0 hz1 hz2 rfl (by decide) (.slice none 0 0) 0 [] rfl (World.ownsRow_nil _ _ _ _) ⟨g, 0, none⟩ 0 c (nodsC []) rfl rfl HCB.out nods_one (by unfold maxLen; omega) (by omega) HB3.out.size ?_; intro u' w4 hown hgrow _; have HST := hid (rcopied HR.out HB3.out hown hgrow); obtain ⟨a3, c3, hu⟩ : ∃ a c, u' = .slice a 0 c := nil_form hown; subst hu; obtain ⟨m0, mz⟩ := cell_box ((hgrow.block _ (Nat.lt_of_lt_of_le hrl HB3.out.size) (by simp [Value.ownBlock])).trans (HR.out.call HB3.out).blk); clear hown hgrow)
  go_end0
  exact ⟨rfl, ⟨_, HST.out.1⟩, HST.out.2⟩
theorem rswap_nn (w : World) (rb : Nat) (v : Value) (l : List Nod) (o i p j : Int) (h : RefT w rb v l) (hO : Once l) (h0 : 0 < l.length) (hk : idx l o i = none) (hq : idx l p j = none) :
  Calls Tryz.prog 92 #[.pointer (some ⟨rb, 0, none⟩), slV o i, slV p j] w fun e w' => e = .returned (.tuple #[]) ∧ (∃ u, RefT w' rb u (swapA l o i p j)) ∧ OnlyR rb w w' := by
 have hal : Below w.heap.size w ((w.alloc (slO o i)).alloc (slO p j)) := bal (bal (Below.refl _ _) _) _
 have HA := hid hal
 have HR := hid h
 have HBX := hid (bx2 w o i p j)
 have hle := h.le
 have hrl := (ags h.blk).1
 have HAT := hid (show atI l o i = -1 by unfold atI; rw [hk])
 have HAT2 := hid (show atI l p j = -1 by unfold atI; rw [hq])
 obtain ⟨i0, hi0, hz0, hz1, hz2⟩ := info_parts infoNd
 have HI0 := hid hi0
 obtain ⟨g, c, rfl, hg, hgr, hc⟩ := h.getg h0
 have HLN := hid (nodsC_len l)
 have HSW := hid (swap_set0 hk hq)
 clear h hal hk hq hc hi0
 go_enter Tryz.func92, Tryz.ntmps92
 go_upto_region 1 with (fail)
 obtain ⟨wA, hwA⟩ : ∃ x, x = (w.alloc (slO o i)).alloc (slO p j) := ⟨_, rfl⟩
 rw [show (w.alloc (.cells #[.int .i64 o, .int .i64 i] 30)).alloc (.cells #[.int .i64 p, .int .i64 j] 30) = wA from hwA.symm]
 have HAA : Hid (Below w.heap.size w wA) := hid (hwA ▸ HA.out)
 have HBA : Hid (Bx wA w.heap.size o i ∧ Bx wA (w.heap.size + 1) p j) := hid (hwA ▸ HBX.out)
 have HRD := hid ((HR.out.call HAA.out).call (Below.refl _ _).drew)
 obtain ⟨a0, a1, al⟩ := bx_all HBA.out.1
 obtain ⟨b0, b1, bl⟩ := bx_all HBA.out.2
 clear hwA HA HBX
 go_region_held3 (fun w' => w'.cell? ⟨w.heap.size, 0, none⟩ = some (.int .i64 o) ∧ w'.cell? ⟨w.heap.size, 1, none⟩ = some (.int .i64 i) ∧ w'.cell? ⟨w.heap.size + 1, 0, none⟩ = some (.int .i64 p) ∧ w'.cell? ⟨w.heap.size + 1, 1, none⟩ = some (.int .i64 j))
  (first | exact ⟨e0, e1, f0, f1⟩ | exact ⟨c0, c1, d0, d1⟩ | exact ⟨a0, a1, b0, b1⟩)
  (first
   | (go_at_call 95; with_reducible refine (rat_any _ rb _ l p j HR2.out).mono ?_; rw [HAT2.out]; rintro e w3 ⟨rfl, hb3⟩; have HB3 := hid (HB2.out.trans (hb3.mono HB2.out.size)); obtain ⟨e0, e1, el⟩ := bx_all (HBX2.out.1.call hb3); obtain ⟨f0, f1, fl⟩ := bx_all (HBX2.out.2.call hb3); have HBX3 := hid (And.intro (HBX2.out.1.call hb3) (HBX2.out.2.call hb3)); clear hb3)
   | (go_at_call 95; with_reducible refine (rat_any _ rb _ l o i HRD.out).mono ?_; rw [HAT.out]; rintro e w2 ⟨rfl, hb2⟩; have HR2 := hid (HRD.out.call hb2); have HB2 := hid (HAA.out.drew.trans (hb2.mono HAA.out.drew.size)); have HBX2 := hid (And.intro ((HBA.out.1.call (Below.refl _ _).drew).call hb2) ((HBA.out.2.call (Below.refl _ _).drew).call hb2)); obtain ⟨c0, c1, cl⟩ := bx_all ((HBA.out.1.call (Below.refl _ _).drew).call hb2); obtain ⟨d0, d1, dl⟩ := bx_all ((HBA.out.2.call (Below.refl _ _).drew).call hb2); clear hb2))
 all_goals
  obtain ⟨r0, rz⟩ := cell_box (HR.out.call HB3.out).blk
  have HCB := hid (row_news (HR.out.call HB3.out))
  clear a0 a1 b0 b1
  (try clear c0 c1 d0 d1)
  (try clear e0 e1 f0 f1)
  go_wp2_with (at_builtin; refine wpList_append_own _ rfl _ _ 41 rfl w.heap.size 44 i0 (.agg #[.int .i64 0, .int .i64 0, .int .i64 0]) 3 24 Tryz.underlying41 HI0.out hz0 hz1 hz2 rfl (by decide) (.slice none 0 0) 0 [] rfl (World.ownsRow_nil _ _ _ _) ⟨g, 0, none⟩ l.length c (nodsC l) rfl HLN.out HCB.out nods_one (by unfold maxLen; omega) (by omega) HB3.out.size ?_; intro u' w4 hown hgrow _; obtain ⟨g3, c3, rfl, hg3⟩ := row_form3 hown (by omega); have HOW := hid hown; have HGR := hid hgrow; obtain ⟨m0, mz⟩ := cell_box ((hgrow.block _ (Nat.lt_of_lt_of_le hrl HB3.out.size) (by simp [Value.ownBlock])).trans (HR.out.call HB3.out).blk); clear hown hgrow)
  have hcp := rcopied HR.out HB3.out HOW.out HGR.out
  rw [Nat.zero_add] at hcp
  (try rw [Nat.zero_add])
  go_end0
  rw [HSW.out]
  exact ⟨rfl, ⟨_, hcp.1⟩, hcp.2⟩
theorem rswap_sn (w : World) (rb : Nat) (v : Value) (l : List Nod) (o i p j : Int) (h : RefT w rb v l) (hO : Once l) (h0 : 0 < l.length) {k : Nat} {x : Nod} (hk : idx l o i = some k) (hx : l[k]? = some x) (hxs : x.o = o ∧ x.i = i) (hq : idx l p j = none) :
  Calls Tryz.prog 92 #[.pointer (some ⟨rb, 0, none⟩), slV o i, slV p j] w fun e w' => e = .returned (.tuple #[]) ∧ (∃ u, RefT w' rb u (swapA l o i p j)) ∧ OnlyR rb w w' := by
 have hal : Below w.heap.size w ((w.alloc (slO o i)).alloc (slO p j)) := bal (bal (Below.refl _ _) _) _
 have HA := hid hal
 have HR := hid h
 have HBX := hid (bx2 w o i p j)
 have hle := h.le
 have hrl := (ags h.blk).1
 have HAT := hid (show atI l o i = (k : Int) by unfold atI; rw [hk])
 have HAT2 := hid (show atI l p j = -1 by unfold atI; rw [hq])
 obtain ⟨i0, hi0, hz0, hz1, hz2⟩ := info_parts infoNd
 have HI0 := hid hi0
 obtain ⟨g, c, rfl, hg, hgr, hc⟩ := h.getg h0
 have HLN := hid (nodsC_len l)
 have HSW := hid (swap_set1 hO hx hxs hq)
 have hkl := (lgs hx).1
 have HKL := hid (show k < l.length from hkl)
 have HX := hid hx
 have hk1 : (0 : Int) ≤ k := by omega
 clear h hal hk hq hc hi0 hx hkl
 go_enter Tryz.func92, Tryz.ntmps92
 go_upto_region 1 with (fail)
 obtain ⟨wA, hwA⟩ : ∃ x, x = (w.alloc (slO o i)).alloc (slO p j) := ⟨_, rfl⟩
 rw [show (w.alloc (.cells #[.int .i64 o, .int .i64 i] 30)).alloc (.cells #[.int .i64 p, .int .i64 j] 30) = wA from hwA.symm]
 have HAA : Hid (Below w.heap.size w wA) := hid (hwA ▸ HA.out)
 have HBA : Hid (Bx wA w.heap.size o i ∧ Bx wA (w.heap.size + 1) p j) := hid (hwA ▸ HBX.out)
 have HRD := hid ((HR.out.call HAA.out).call (Below.refl _ _).drew)
 obtain ⟨a0, a1, al⟩ := bx_all HBA.out.1
 obtain ⟨b0, b1, bl⟩ := bx_all HBA.out.2
 clear hwA HA HBX
 go_region_held3 (fun w' => w'.cell? ⟨w.heap.size, 0, none⟩ = some (.int .i64 o) ∧ w'.cell? ⟨w.heap.size, 1, none⟩ = some (.int .i64 i) ∧ w'.cell? ⟨w.heap.size + 1, 0, none⟩ = some (.int .i64 p) ∧ w'.cell? ⟨w.heap.size + 1, 1, none⟩ = some (.int .i64 j))
  (first | exact ⟨e0, e1, f0, f1⟩ | exact ⟨c0, c1, d0, d1⟩ | exact ⟨a0, a1, b0, b1⟩)
  (first
   | (go_at_call 95; with_reducible refine (rat_any _ rb _ l p j HR2.out).mono ?_; rw [HAT2.out]; rintro e w3 ⟨rfl, hb3⟩; have HB3 := hid (HB2.out.trans (hb3.mono HB2.out.size)); obtain ⟨e0, e1, el⟩ := bx_all (HBX2.out.1.call hb3); obtain ⟨f0, f1, fl⟩ := bx_all (HBX2.out.2.call hb3); have HBX3 := hid (And.intro (HBX2.out.1.call hb3) (HBX2.out.2.call hb3)); clear hb3)
   | (go_at_call 95; with_reducible refine (rat_any _ rb _ l o i HRD.out).mono ?_; rw [HAT.out]; rintro e w2 ⟨rfl, hb2⟩; have HR2 := hid (HRD.out.call hb2); have HB2 := hid (HAA.out.drew.trans (hb2.mono HAA.out.drew.size)); have HBX2 := hid (And.intro ((HBA.out.1.call (Below.refl _ _).drew).call hb2) ((HBA.out.2.call (Below.refl _ _).drew).call hb2)); obtain ⟨c0, c1, cl⟩ := bx_all ((HBA.out.1.call (Below.refl _ _).drew).call hb2); obtain ⟨d0, d1, dl⟩ := bx_all ((HBA.out.2.call (Below.refl _ _).drew).call hb2); clear hb2))
 all_goals
  obtain ⟨r0, rz⟩ := cell_box (HR.out.call HB3.out).blk
  have HCB := hid (row_news (HR.out.call HB3.out))
  clear a0 a1 b0 b1
  (try clear c0 c1 d0 d1)
  (try clear e0 e1 f0 f1)
  go_wp2_with (at_builtin; refine wpList_append_own _ rfl _ _ 41 rfl w.heap.size 44 i0 (.agg #[.int .i64 0, .int .i64 0, .int .i64 0]) 3 24 Tryz.underlying41 HI0.out hz0 hz1 hz2 rfl (by decide) (.slice none 0 0) 0 [] rfl (World.ownsRow_nil _ _ _ _) ⟨g, 0, none⟩ l.length c (nodsC l) rfl HLN.out HCB.out nods_one (by unfold maxLen; omega) (by omega) HB3.out.size ?_; intro u' w4 hown hgrow _; obtain ⟨g3, c3, rfl, hg3⟩ := row_form3 hown (by omega); have HOW := hid hown; have HGR := hid hgrow; obtain ⟨m0, mz⟩ := cell_box ((hgrow.block _ (Nat.lt_of_lt_of_le hrl HB3.out.size) (by simp [Value.ownBlock])).trans (HR.out.call HB3.out).blk); clear hown hgrow)
  have hcp := rcopied HR.out HB3.out HOW.out HGR.out
  rw [Nat.zero_add] at hcp
  have HBX4 := hid (And.intro (bx_copied (rb := rb) (u := .slice (some ⟨g3, 0, none⟩) l.length c3) HBX3.out.1 HGR.out (by omega)) (bx_copied (rb := rb) (u := .slice (some ⟨g3, 0, none⟩) l.length c3) HBX3.out.2 HGR.out (by omega)))
  obtain ⟨w5, hw5⟩ : ∃ x, x = w4.setCell ⟨rb, 0, none⟩ (.slice (some ⟨g3, 0, none⟩) l.length c3) := ⟨_, rfl⟩
  (try rw [Nat.zero_add])
  rw [← hw5] at hcp HBX4 ⊢
  have HCP := hid hcp
  clear hw5 hcp m0 mz r0 rz
  obtain ⟨n0, nz⟩ := cell_box HCP.out.1.blk
  obtain ⟨q0, q1, qz, ql, qn⟩ := rslot_cells HCP.out.1 HX.out
  obtain ⟨s0, s1, sl⟩ := bx_all HBX4.out.2
  have hen : rb ≠ g3 := fun q => qn q.symm
  have HST := hid (rset p j HCP.out.1 HX.out HCP.out.2 hg3)
  have hkl2 := HKL.out
  have hkl3 : (k : Int) < l.length := by omega
  go_wp2
  go_region
  all_goals
   go_wp2
   go_end0
   rw [← HSW.out]
   exact ⟨rfl, ⟨_, HST.out.1.call (Below.refl _ _).drew⟩, HST.out.2.trans (OnlyR.of_below (Below.refl _ _).drew)⟩
theorem rswap_ns (w : World) (rb : Nat) (v : Value) (l : List Nod) (o i p j : Int) (h : RefT w rb v l) (hO : Once l) (h0 : 0 < l.length) (hk : idx l o i = none) {r : Nat} {y : Nod} (hq : idx l p j = some r) (hy : l[r]? = some y) (hys : y.o = p ∧ y.i = j) :
  Calls Tryz.prog 92 #[.pointer (some ⟨rb, 0, none⟩), slV o i, slV p j] w fun e w' => e = .returned (.tuple #[]) ∧ (∃ u, RefT w' rb u (swapA l o i p j)) ∧ OnlyR rb w w' := by
 have hal : Below w.heap.size w ((w.alloc (slO o i)).alloc (slO p j)) := bal (bal (Below.refl _ _) _) _
 have HA := hid hal
 have HR := hid h
 have HBX := hid (bx2 w o i p j)
 have hle := h.le
 have hrl := (ags h.blk).1
 have HAT := hid (show atI l o i = -1 by unfold atI; rw [hk])
 have HAT2 := hid (show atI l p j = (r : Int) by unfold atI; rw [hq])
 obtain ⟨i0, hi0, hz0, hz1, hz2⟩ := info_parts infoNd
 have HI0 := hid hi0
 obtain ⟨g, c, rfl, hg, hgr, hc⟩ := h.getg h0
 have HLN := hid (nodsC_len l)
 have HSW := hid (swap_set1 hO hy hys hk)
 rw [swapA_comm l o i p j] at HSW
 have hrr := (lgs hy).1
 have HRL := hid (show r < l.length from hrr)
 have HY := hid hy
 have hr1 : (0 : Int) ≤ r := by omega
 clear h hal hk hq hc hi0 hy hrr
 go_enter Tryz.func92, Tryz.ntmps92
 go_upto_region 1 with (fail)
 obtain ⟨wA, hwA⟩ : ∃ x, x = (w.alloc (slO o i)).alloc (slO p j) := ⟨_, rfl⟩
 rw [show (w.alloc (.cells #[.int .i64 o, .int .i64 i] 30)).alloc (.cells #[.int .i64 p, .int .i64 j] 30) = wA from hwA.symm]
 have HAA : Hid (Below w.heap.size w wA) := hid (hwA ▸ HA.out)
 have HBA : Hid (Bx wA w.heap.size o i ∧ Bx wA (w.heap.size + 1) p j) := hid (hwA ▸ HBX.out)
 have HRD := hid ((HR.out.call HAA.out).call (Below.refl _ _).drew)
 obtain ⟨a0, a1, al⟩ := bx_all HBA.out.1
 obtain ⟨b0, b1, bl⟩ := bx_all HBA.out.2
 clear hwA HA HBX
 go_region_held3 (fun w' => w'.cell? ⟨w.heap.size, 0, none⟩ = some (.int .i64 o) ∧ w'.cell? ⟨w.heap.size, 1, none⟩ = some (.int .i64 i) ∧ w'.cell? ⟨w.heap.size + 1, 0, none⟩ = some (.int .i64 p) ∧ w'.cell? ⟨w.heap.size + 1, 1, none⟩ = some (.int .i64 j))
  (first | exact ⟨e0, e1, f0, f1⟩ | exact ⟨c0, c1, d0, d1⟩ | exact ⟨a0, a1, b0, b1⟩)
  (first
   | (go_at_call 95; with_reducible refine (rat_any _ rb _ l p j HR2.out).mono ?_; rw [HAT2.out]; rintro e w3 ⟨rfl, hb3⟩; have HB3 := hid (HB2.out.trans (hb3.mono HB2.out.size)); obtain ⟨e0, e1, el⟩ := bx_all (HBX2.out.1.call hb3); obtain ⟨f0, f1, fl⟩ := bx_all (HBX2.out.2.call hb3); have HBX3 := hid (And.intro (HBX2.out.1.call hb3) (HBX2.out.2.call hb3)); clear hb3)
   | (go_at_call 95; with_reducible refine (rat_any _ rb _ l o i HRD.out).mono ?_; rw [HAT.out]; rintro e w2 ⟨rfl, hb2⟩; have HR2 := hid (HRD.out.call hb2); have HB2 := hid (HAA.out.drew.trans (hb2.mono HAA.out.drew.size)); have HBX2 := hid (And.intro ((HBA.out.1.call (Below.refl _ _).drew).call hb2) ((HBA.out.2.call (Below.refl _ _).drew).call hb2)); obtain ⟨c0, c1, cl⟩ := bx_all ((HBA.out.1.call (Below.refl _ _).drew).call hb2); obtain ⟨d0, d1, dl⟩ := bx_all ((HBA.out.2.call (Below.refl _ _).drew).call hb2); clear hb2))
 all_goals
  obtain ⟨r0, rz⟩ := cell_box (HR.out.call HB3.out).blk
  have HCB := hid (row_news (HR.out.call HB3.out))
  clear a0 a1 b0 b1
  (try clear c0 c1 d0 d1)
  (try clear e0 e1 f0 f1)
  go_wp2_with (at_builtin; refine wpList_append_own _ rfl _ _ 41 rfl w.heap.size 44 i0 (.agg #[.int .i64 0, .int .i64 0, .int .i64 0]) 3 24 Tryz.underlying41 HI0.out hz0 hz1 hz2 rfl (by decide) (.slice none 0 0) 0 [] rfl (World.ownsRow_nil _ _ _ _) ⟨g, 0, none⟩ l.length c (nodsC l) rfl HLN.out HCB.out nods_one (by unfold maxLen; omega) (by omega) HB3.out.size ?_; intro u' w4 hown hgrow _; obtain ⟨g3, c3, rfl, hg3⟩ := row_form3 hown (by omega); have HOW := hid hown; have HGR := hid hgrow; obtain ⟨m0, mz⟩ := cell_box ((hgrow.block _ (Nat.lt_of_lt_of_le hrl HB3.out.size) (by simp [Value.ownBlock])).trans (HR.out.call HB3.out).blk); clear hown hgrow)
  have hcp := rcopied HR.out HB3.out HOW.out HGR.out
  rw [Nat.zero_add] at hcp
  have HBX4 := hid (And.intro (bx_copied (rb := rb) (u := .slice (some ⟨g3, 0, none⟩) l.length c3) HBX3.out.1 HGR.out (by omega)) (bx_copied (rb := rb) (u := .slice (some ⟨g3, 0, none⟩) l.length c3) HBX3.out.2 HGR.out (by omega)))
  obtain ⟨w5, hw5⟩ : ∃ x, x = w4.setCell ⟨rb, 0, none⟩ (.slice (some ⟨g3, 0, none⟩) l.length c3) := ⟨_, rfl⟩
  (try rw [Nat.zero_add])
  rw [← hw5] at hcp HBX4 ⊢
  have HCP := hid hcp
  clear hw5 hcp m0 mz r0 rz
  obtain ⟨n0, nz⟩ := cell_box HCP.out.1.blk
  obtain ⟨q0, q1, qz, ql, qn⟩ := rslot_cells HCP.out.1 HY.out
  obtain ⟨s0, s1, sl⟩ := bx_all HBX4.out.1
  have hen : rb ≠ g3 := fun q => qn q.symm
  have HST := hid (rset o i HCP.out.1 HY.out HCP.out.2 hg3)
  have hrl2 := HRL.out
  have hrl3 : (r : Int) < l.length := by omega
  go_wp2
  go_region
  all_goals
   go_wp2
   go_end0
   rw [← HSW.out]
   exact ⟨rfl, ⟨_, HST.out.1.call (Below.refl _ _).drew⟩, HST.out.2.trans (OnlyR.of_below (Below.refl _ _).drew)⟩
theorem rswap_ss (w : World) (rb : Nat) (v : Value) (l : List Nod) (o i p j : Int) (h : RefT w rb v l) (hO : Once l) (h0 : 0 < l.length) {k : Nat} {x : Nod} (hk : idx l o i = some k) (hx : l[k]? = some x) (hxs : x.o = o ∧ x.i = i) {r : Nat} {y : Nod} (hq : idx l p j = some r) (hy : l[r]? = some y) (hys : y.o = p ∧ y.i = j) :
  Calls Tryz.prog 92 #[.pointer (some ⟨rb, 0, none⟩), slV o i, slV p j] w fun e w' => e = .returned (.tuple #[]) ∧ (∃ u, RefT w' rb u (swapA l o i p j)) ∧ OnlyR rb w w' := by
 have hal : Below w.heap.size w ((w.alloc (slO o i)).alloc (slO p j)) := bal (bal (Below.refl _ _) _) _
 have HA := hid hal
 have HR := hid h
 have HBX := hid (bx2 w o i p j)
 have hle := h.le
 have hrl := (ags h.blk).1
 have HAT := hid (show atI l o i = (k : Int) by unfold atI; rw [hk])
 have HAT2 := hid (show atI l p j = (r : Int) by unfold atI; rw [hq])
 obtain ⟨i0, hi0, hz0, hz1, hz2⟩ := info_parts infoNd
 have HI0 := hid hi0
 obtain ⟨g, c, rfl, hg, hgr, hc⟩ := h.getg h0
 have HLN := hid (nodsC_len l)
 obtain ⟨z, hz, hzz⟩ := swap_set2 hO hx hxs hy hys
 have HSW := hid hzz
 have HZ := hid hz
 clear hz hzz
 have hkl := (lgs hx).1
 have HKL := hid (show k < l.length from hkl)
 have HX := hid hx
 have hk1 : (0 : Int) ≤ k := by omega
 have hrr := (lgs hy).1
 have HRL := hid (show r < l.length from hrr)
 have HY := hid hy
 have hr1 : (0 : Int) ≤ r := by omega
 clear h hal hk hq hc hi0 hx hkl hy hrr
 go_enter Tryz.func92, Tryz.ntmps92
 go_upto_region 1 with (fail)
 obtain ⟨wA, hwA⟩ : ∃ x, x = (w.alloc (slO o i)).alloc (slO p j) := ⟨_, rfl⟩
 rw [show (w.alloc (.cells #[.int .i64 o, .int .i64 i] 30)).alloc (.cells #[.int .i64 p, .int .i64 j] 30) = wA from hwA.symm]
 have HAA : Hid (Below w.heap.size w wA) := hid (hwA ▸ HA.out)
 have HBA : Hid (Bx wA w.heap.size o i ∧ Bx wA (w.heap.size + 1) p j) := hid (hwA ▸ HBX.out)
 have HRD := hid ((HR.out.call HAA.out).call (Below.refl _ _).drew)
 obtain ⟨a0, a1, al⟩ := bx_all HBA.out.1
 obtain ⟨b0, b1, bl⟩ := bx_all HBA.out.2
 clear hwA HA HBX
 go_region_held3 (fun w' => w'.cell? ⟨w.heap.size, 0, none⟩ = some (.int .i64 o) ∧ w'.cell? ⟨w.heap.size, 1, none⟩ = some (.int .i64 i) ∧ w'.cell? ⟨w.heap.size + 1, 0, none⟩ = some (.int .i64 p) ∧ w'.cell? ⟨w.heap.size + 1, 1, none⟩ = some (.int .i64 j))
  (first | exact ⟨e0, e1, f0, f1⟩ | exact ⟨c0, c1, d0, d1⟩ | exact ⟨a0, a1, b0, b1⟩)
  (first
   | (go_at_call 95; with_reducible refine (rat_any _ rb _ l p j HR2.out).mono ?_; rw [HAT2.out]; rintro e w3 ⟨rfl, hb3⟩; have HB3 := hid (HB2.out.trans (hb3.mono HB2.out.size)); obtain ⟨e0, e1, el⟩ := bx_all (HBX2.out.1.call hb3); obtain ⟨f0, f1, fl⟩ := bx_all (HBX2.out.2.call hb3); have HBX3 := hid (And.intro (HBX2.out.1.call hb3) (HBX2.out.2.call hb3)); clear hb3)
   | (go_at_call 95; with_reducible refine (rat_any _ rb _ l o i HRD.out).mono ?_; rw [HAT.out]; rintro e w2 ⟨rfl, hb2⟩; have HR2 := hid (HRD.out.call hb2); have HB2 := hid (HAA.out.drew.trans (hb2.mono HAA.out.drew.size)); have HBX2 := hid (And.intro ((HBA.out.1.call (Below.refl _ _).drew).call hb2) ((HBA.out.2.call (Below.refl _ _).drew).call hb2)); obtain ⟨c0, c1, cl⟩ := bx_all ((HBA.out.1.call (Below.refl _ _).drew).call hb2); obtain ⟨d0, d1, dl⟩ := bx_all ((HBA.out.2.call (Below.refl _ _).drew).call hb2); clear hb2))
 all_goals
  obtain ⟨r0, rz⟩ := cell_box (HR.out.call HB3.out).blk
  have HCB := hid (row_news (HR.out.call HB3.out))
  clear a0 a1 b0 b1
  (try clear c0 c1 d0 d1)
  (try clear e0 e1 f0 f1)
  go_wp2_with (at_builtin; refine wpList_append_own _ rfl _ _ 41 rfl w.heap.size 44 i0 (.agg #[.int .i64 0, .int .i64 0, .int .i64 0]) 3 24 Tryz.underlying41 HI0.out hz0 hz1 hz2 rfl (by decide) (.slice none 0 0) 0 [] rfl (World.ownsRow_nil _ _ _ _) ⟨g, 0, none⟩ l.length c (nodsC l) rfl HLN.out HCB.out nods_one (by unfold maxLen; omega) (by omega) HB3.out.size ?_; intro u' w4 hown hgrow _; obtain ⟨g3, c3, rfl, hg3⟩ := row_form3 hown (by omega); have HOW := hid hown; have HGR := hid hgrow; obtain ⟨m0, mz⟩ := cell_box ((hgrow.block _ (Nat.lt_of_lt_of_le hrl HB3.out.size) (by simp [Value.ownBlock])).trans (HR.out.call HB3.out).blk); clear hown hgrow)
  have hcp := rcopied HR.out HB3.out HOW.out HGR.out
  rw [Nat.zero_add] at hcp
  have HBX4 := hid (And.intro (bx_copied (rb := rb) (u := .slice (some ⟨g3, 0, none⟩) l.length c3) HBX3.out.1 HGR.out (by omega)) (bx_copied (rb := rb) (u := .slice (some ⟨g3, 0, none⟩) l.length c3) HBX3.out.2 HGR.out (by omega)))
  obtain ⟨w5, hw5⟩ : ∃ x, x = w4.setCell ⟨rb, 0, none⟩ (.slice (some ⟨g3, 0, none⟩) l.length c3) := ⟨_, rfl⟩
  (try rw [Nat.zero_add])
  rw [← hw5] at hcp HBX4 ⊢
  have HCP := hid hcp
  clear hw5 hcp m0 mz r0 rz
  obtain ⟨n0, nz⟩ := cell_box HCP.out.1.blk
  obtain ⟨q0, q1, qz, ql, qn⟩ := rslot_cells HCP.out.1 HX.out
  obtain ⟨s0, s1, sl⟩ := bx_all HBX4.out.2
  have hen : rb ≠ g3 := fun q => qn q.symm
  have HST := hid (rset p j HCP.out.1 HX.out HCP.out.2 hg3)
  have hkl2 := HKL.out
  have hkl3 : (k : Int) < l.length := by omega
  go_wp2
  go_region
  all_goals
   go_wp2
   have hlen : (l.set k ⟨p, j, x.d⟩).length = l.length := List.length_set
   have HBX5 := hid ((bx_same (bx_same HBX4.out.1 (Go.heap_setCell_other w5 ⟨g3, k * 3, none⟩ _ (.int .i64 p) (row_ne_bx HCP.out.1 HBX4.out.1)) (by simp)) (Go.heap_setCell_other _ ⟨g3, k * 3 + 1, none⟩ _ (.int .i64 j) (row_ne_bx HCP.out.1 HBX4.out.1)) (by simp)).call (Below.refl _ _).drew)
   have HS5 := hid (And.intro (HST.out.1.call (Below.refl _ _).drew) (HST.out.2.trans (OnlyR.of_below (Below.refl _ _).drew)))
   obtain ⟨w6, hw6⟩ : ∃ q, q = ((w5.setCell ⟨g3, k * 3, none⟩ (.int .i64 p)).setCell ⟨g3, k * 3 + 1, none⟩ (.int .i64 j)).drew := ⟨_, rfl⟩
   rw [← hw6] at HS5 HBX5
   rw [← hw6]
   obtain ⟨l2, hl2⟩ : ∃ q, q = l.set k ⟨p, j, x.d⟩ := ⟨_, rfl⟩
   rw [← hl2] at HS5 hlen HZ HSW
   clear hw6 hl2 HST n0 q0 q1 s0 s1 qz
   rw [← hlen] at HS5
   obtain ⟨n0, nz⟩ := cell_box HS5.out.1.blk
   obtain ⟨q0, q1, qz, ql2, qn2⟩ := rslot_cells HS5.out.1 HZ.out
   obtain ⟨s0, s1, sl2_TrSd⟩ := bx_all HBX5.out
   have HST2 := hid (rset o i HS5.out.1 HZ.out HS5.out.2 hg3)
   rw [hlen] at n0
   have hrl2 := HRL.out
   have hrl3 : (r : Int) < l.length := by omega
   clear hlen
   go_region
   all_goals
    go_wp2
    go_end0
    rw [← HSW.out]
    exact ⟨rfl, ⟨_, HST2.out.1.call (Below.refl _ _).drew⟩, HST2.out.2.trans (OnlyR.of_below (Below.refl _ _).drew)⟩
theorem rswap_any (w : World) (rb : Nat) (v : Value) (l : List Nod) (o i p j : Int) (h : RefT w rb v l) (hO : Once l) :
  Calls Tryz.prog 92 #[.pointer (some ⟨rb, 0, none⟩), slV o i, slV p j] w fun e w' => e = .returned (.tuple #[]) ∧ (∃ u, RefT w' rb u (swapA l o i p j)) ∧ OnlyR rb w w' := by
 rcases l with _ | ⟨a, l⟩
 ·rcases h.row.2 with ⟨rfl, _⟩ | ⟨g, cap, cur, rfl, _⟩
  ·exact rswap_0n w rb o i p j h
  ·exact rswap_0s w rb g cap o i p j h
 ·have h0 : 0 < (a :: l).length := by simp
  cases hk : idx (a :: l) o i with
  | none =>
   cases hq : idx (a :: l) p j with
   | none => exact rswap_nn w rb v _ o i p j h hO h0 hk hq
   | some r =>
    obtain ⟨y, hy, hys⟩ := idx_some hq
    exact rswap_ns w rb v _ o i p j h hO h0 hk hq hy hys
  | some k =>
   obtain ⟨x, hx, hxs⟩ := idx_some hk
   cases hq : idx (a :: l) p j with
   | none => exact rswap_sn w rb v _ o i p j h hO h0 hk hx hxs hq
   | some r =>
    obtain ⟨y, hy, hys⟩ := idx_some hq
    exact rswap_ss w rb v _ o i p j h hO h0 hk hx hxs hq hy hys
theorem copy_nil (W : World) : (Builtin.append_ #[41, 41] 41 #[.slice none 0 0, .slice none 0 0]).run Tryz.prog W = .ok (.slice none 0 0) W := by
 simp [go_sem]
theorem copy_run {w W : World} {rb : Nat} {v : Value} {l : List Nod} (h : RefT W rb v l) (hz : w.heap.size ≤ W.heap.size) :
  ∃ u w2, (Builtin.append_ #[41, 41] 41 #[.slice none 0 0, v]).run Tryz.prog W = .ok u w2 ∧ w2.ownsRow w.heap.size 44 3 u l.length (nodsC l) ∧ W.grownBy w2 none := by
 obtain ⟨i0, hi0, hz0, hz1, hz2⟩ := info_parts infoNd
 have hle := h.le
 rcases h.row.2 with ⟨rfl, h0⟩ | ⟨g, cap, cur, rfl, _⟩
 ·obtain rfl : l = [] := List.length_eq_zero_iff.1 h0
  exact ⟨_, _, copy_nil W, World.ownsRow_nil _ _ _ _, ⟨rfl, rfl, rfl, Nat.le_refl _, fun _ _ _ => rfl⟩⟩
 ·obtain ⟨u, w2, h1, h2, h3, _⟩ := run_append_own_at (P := Tryz.prog) (w := W) w.heap.size 41 41 44 i0 (.agg #[.int .i64 0, .int .i64 0, .int .i64 0]) 3 24 Tryz.underlying41 hi0 hz0 hz1 hz2 rfl (by decide) (.slice none 0 0) 0 [] (World.ownsRow_nil _ _ _ _) ⟨g, 0, none⟩ l.length cap (nodsC l) (nodsC_len l) (row_news h) nods_one (by unfold maxLen; omega) (by omega) hz
  rw [Nat.zero_add, List.nil_append] at h2
  exact ⟨u, w2, h1, h2, h3⟩
theorem one_run {w W : World} {u : Value} {l : List Nod} (s : Nat) (x : Nod) (h : W.ownsRow w.heap.size 44 3 u l.length (nodsC l)) (hs : W.heap[s]? = some (.cells #[.int .i64 x.o, .int .i64 x.i, .int .i64 x.d] 44)) (hl : l.length ≤ 1000) (hz : w.heap.size ≤ W.heap.size) :
  ∃ g c w2, (Builtin.append_ #[41, 41] 41 #[u, .slice (some ⟨s, 0, none⟩) 1 1]).run Tryz.prog W = .ok (.slice (some ⟨g, 0, none⟩) (l.length + 1) c) w2 ∧ w2.ownsRow w.heap.size 44 3 (.slice (some ⟨g, 0, none⟩) (l.length + 1) c) (l ++ [x]).length (nodsC (l ++ [x])) ∧ W.grownBy w2 u.ownBlock := by
 obtain ⟨i0, hi0, hz0, hz1, hz2⟩ := info_parts infoNd
 obtain ⟨u', w2, h1, h2, h3, _⟩ := run_append_own_at (P := Tryz.prog) (w := W) w.heap.size 41 41 44 i0 (.agg #[.int .i64 0, .int .i64 0, .int .i64 0]) 3 24 Tryz.underlying41 hi0 hz0 hz1 hz2 rfl (by decide) u l.length (nodsC l) h ⟨s, 0, none⟩ 1 1 (nodC x) rfl (by
   intro j v hj
   have e : ((⟨s, 0, none⟩ : Addr).add j) = ⟨s, j, none⟩ := by unfold Addr.add; split <;> simp_all
   rw [e]
   unfold World.cell?
   simp only [hs]
   simpa using hj) (by simp [Value.oneCell']) (by unfold maxLen; omega) (by omega) hz
 rw [← nodsC_snoc] at h2
 obtain ⟨g, c, rfl, _⟩ := row_form3 h2 (by omega)
 exact ⟨g, c, w2, h1, by rw [List.length_append]; exact h2, h3⟩
theorem insertIdx_end {α : Type} (x : α) : ∀ l : List α, l.insertIdx l.length x = l ++ [x]
 | [] => rfl
 | a :: l => by
  rw [List.length_cons, List.insertIdx_succ_cons, insertIdx_end x l]; rfl
theorem bx_grown {W w3 : World} {s : Nat} {o i : Int} {r : Option Nat} (h : Bx W s o i) (hg : W.grownBy w3 r) (hr : r ≠ some s) : Bx w3 s o i :=
 bx_same h (hg.block _ h.lt (fun e => hr e.symm)) hg.size
attribute [-go_sem] Builtin.append_
theorem rroot_any (w : World) (rb : Nat) (v : Value) (l : List Nod) (o i : Int) (h : RefT w rb v l) (hlen : l.length < 1000) :
  Calls Tryz.prog 83 #[.pointer (some ⟨rb, 0, none⟩), slV o i] w fun e w' => e = .returned (.int .i64 (rootA l o i).2) ∧ (∃ u, RefT w' rb u (rootA l o i).1) ∧ OnlyR rb w w' := by
 have hal : Below w.heap.size w (w.alloc (slO o i)) := bal (Below.refl _ _) _
 have HA := hid hal
 have HR := hid h
 have HBX := hid (Bx.fresh w o i)
 unfold rootA
 cases hk : idx l o i with
 | some k =>
  have hat : atI l o i = (k : Int) := by unfold atI; rw [hk]
  have HAT := hid hat
  simp only [Option.isSome_some, if_true]
  have hk0 : (0 : Int) ≤ k := by omega
  clear h hal hk hat
  go_enter Tryz.func83, Tryz.ntmps83
  go_wp2_with (go_at_call 95; with_reducible refine (rat_any _ rb v l o i (HR.out.call HA.out)).mono ?_; rw [HAT.out]; rintro e w1 ⟨rfl, hb1⟩; have HB1 := hid (HA.out.trans (hb1.mono HA.out.size)); clear hb1)
  go_ret
  exact ⟨rfl, ⟨_, HR.out.call HB1.out⟩, .of_below HB1.out⟩
 | none =>
  have hat : atI l o i = -1 := by unfold atI; rw [hk]
  have HAT := hid hat
  simp only [Option.isSome_none, Bool.false_eq_true, if_false]
  rw [insertIdx_end]
  have hrl := (ags h.blk).1
  obtain ⟨a, c, hv⟩ := h.form
  subst hv
  clear h hal hk hat
  go_enter Tryz.func83, Tryz.ntmps83
  go_upto_region 3 with (go_at_call 95; with_reducible refine (rat_any _ rb _ l o i (HR.out.call HA.out)).mono ?_; rw [HAT.out]; rintro e w1 ⟨rfl, hb1⟩; have HB1 := hid (HA.out.trans (hb1.mono HA.out.size)); have HBX1 := hid (HBX.out.call hb1); clear hb1)
  have HB1D := hid HB1.out.drew
  have hdep : ∀ x ∈ l ++ [(⟨o, i, 0⟩ : Nod)], -1000 ≤ x.d ∧ x.d ≤ 1000 := by
   intro x hx
   rcases List.mem_append.1 hx with q | q
   ·exact HR.out.dep x q
   ·simp at q; subst q; simp
  obtain ⟨u, w2, hrun1, hown1, hg1⟩ := copy_run (w := w) (HR.out.call HB1D.out) HB1D.out.size
  have hb2 : Below w.heap.size w w2 := HB1D.out.grown hg1 HB1D.out.size (fun k e => by cases e)
  have hbx2 := bx_grown (HBX1.out.call (Below.refl _ _).drew) hg1 (by simp)
  obtain ⟨g, cc, w3, hrun2, hown2, hg2⟩ := one_run (w := w) w2.heap.size ⟨o, i, 0⟩ (hown1.alloc _) (World.alloc_heap_new w2 _) (by omega) (by simp; exact Nat.le_trans hb2.size (Nat.le_succ _))
  have hb3 : Below w.heap.size w w3 := (bal hb2 _).grown hg2 (by simp; exact Nat.le_trans hb2.size (Nat.le_succ _)) (fun k e => (hown1.lt k e).1)
  have HST := hid (HR.out.store hb3 hown2 (by simp; omega) hdep)
  have hbA : Below w.heap.size w (w1.alloc (.cells #[.int .i64 o, .int .i64 i, .int .i64 0] 44)).drew := (bal HB1.out _).drew
  obtain ⟨u', w2', hrun1', hown1', hg1'⟩ := copy_run (w := w) (HR.out.call hbA) hbA.size
  have hb2' : Below w.heap.size w w2' := hbA.grown hg1' hbA.size (fun k e => by cases e)
  have hnew' : w2'.heap[w1.heap.size]? = some (.cells #[.int .i64 o, .int .i64 i, .int .i64 0] 44) := (hg1'.block _ (by simp) (by simp)).trans (World.alloc_heap_new w1 _)
  obtain ⟨g', cc', w3', hrun2', hown2', hg2'⟩ := one_run (w := w) w1.heap.size ⟨o, i, 0⟩ hown1' hnew' (by omega) hb2'.size
  have hb3' : Below w.heap.size w w3' := hb2'.grown hg2' hb2'.size (fun k e => (hown1'.lt k e).1)
  have HST' := hid (HR.out.store hb3' hown2' (by simp; omega) hdep)
  obtain ⟨r0, rz⟩ := cell_box (HR.out.call HB1.out).blk
  obtain ⟨m0, mz⟩ := cell_box (HR.out.call hb3).blk
  obtain ⟨n0, nz⟩ := cell_box (HR.out.call hb3').blk
  have hrl1 : rb < w1.heap.size := Nat.lt_of_lt_of_le hrl HB1.out.size
  obtain ⟨b0, b1, bl⟩ := bx_all HBX1.out
  obtain ⟨d0, d1, dl⟩ := bx_all hbx2
  clear hbA hown1' hg1' hb2' hnew' hown2' hg2' hb3' hdep
  clear hown1 hg1 hb2 hbx2 hown2 hg2 hb3
  go_region
  all_goals
   go_wp2
   go_ret
   first
   | exact ⟨rfl, ⟨_, HST.out.1⟩, HST.out.2⟩
   | exact ⟨rfl, ⟨_, HST'.out.1⟩, HST'.out.2⟩
end
end Go.Proofs.YtchjfeafkmpmbaaGreatDoor
