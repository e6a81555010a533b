/- chapter 17's own answer: Swap. -/
import Derived.Test.YtebgmphbkjpfcaaTrSg
namespace Go.Proofs.Ytebgmphbkjpfcaa
set_option linter.unusedVariables false
set_option linter.unusedSimpArgs false
open Go.ChangeShapes Go.WideShapes Go.ChangeAt Go.RowKit Go.Shelf

theorem swap_set0 {l : List Nod} {o i p j : Int} (h1 : idx l o i = none) (h2 : idx l p j = none) : swapA l o i p j = l := by
  unfold swapA
  apply List.ext_getElem?
  intro q
  rw [List.getElem?_map]
  cases hy : l[q]? with
  | none => rfl
  | some y =>
    show some (sw o i p j y) = some y
    unfold sw
    rw [if_neg (fun e => idx_none h1 hy e), if_neg (fun e => idx_none h2 hy e)]
theorem swap_set2 {l : List Nod} (hO : Once l) {k r : Nat} {x y : Nod} {o i p j : Int} (hx : l[k]? = some x) (he : x.o = o ∧ x.i = i) (hy : l[r]? = some y) (hf : y.o = p ∧ y.i = j) :
    ∃ z, (l.set k ⟨p, j, x.d⟩)[r]? = some z ∧ (l.set k ⟨p, j, x.d⟩).set r ⟨o, i, z.d⟩ = swapA l o i p j := by
  have hk := (List.getElem?_eq_some_iff.1 hx).1
  have hr := (List.getElem?_eq_some_iff.1 hy).1
  obtain ⟨z, hz, hzd⟩ : ∃ z, (l.set k ⟨p, j, x.d⟩)[r]? = some z ∧ z.d = y.d := by
    rw [List.getElem?_set]
    by_cases h : k = r
    · subst h
      rw [hx] at hy
      cases hy
      rw [if_pos rfl, if_pos hk]
      exact ⟨_, rfl, rfl⟩
    · rw [if_neg h]
      exact ⟨y, hy, rfl⟩
  refine ⟨z, hz, ?_⟩
  unfold swapA
  apply List.ext_getElem?
  intro q
  rw [List.getElem?_set, List.getElem?_map]
  by_cases h1 : r = q
  · subst h1
    rw [if_pos rfl, if_pos (by rw [List.length_set]; exact hr), hy, hzd]
    show _ = some (sw o i p j y)
    unfold sw
    by_cases h2 : y.o = o ∧ y.i = i
    · rw [if_pos h2]
      obtain ⟨a, b⟩ := h2
      obtain ⟨c, d⟩ := hf
      rw [← a, ← b, c, d]
    · rw [if_neg h2, if_pos hf]
  · rw [if_neg h1, List.getElem?_set]
    by_cases h2 : k = q
    · subst h2
      rw [if_pos rfl, if_pos hk, hx]
      show _ = some (sw o i p j x)
      unfold sw
      rw [if_pos he]
    · rw [if_neg h2]
      cases hu : l[q]? with
      | none => rfl
      | some u =>
        show _ = some (sw o i p j u)
        unfold sw
        rw [if_neg (fun e => h2 (hO _ _ _ _ hx hu (by omega) (by omega))), if_neg (fun e => h1 (hO _ _ _ _ hy hu (by omega) (by omega)))]
theorem bx_all {W : World} {s : Nat} {o i : Int} (h : Bx W s o i) : W.cell? ⟨s, 0, none⟩ = some (.int .i64 o) ∧ W.cell? ⟨s, 1, none⟩ = some (.int .i64 i) ∧ s < W.heap.size := ⟨h.c0, h.c1, h.lt⟩
theorem row_ne_bx {W : World} {rb g n c s : Nat} {l : List Nod} {o i : Int} (h : RefT W rb (.slice (some ⟨g, 0, none⟩) n c) l) (hb : Bx W s o i) : s ≠ g := by
  rintro rfl
  rcases h.row.2 with ⟨q, _⟩ | ⟨g', cap, cur, q, _, q2, _⟩
  · cases q
  · cases q
    have := hb.blk.symm.trans q2
    unfold slO at this
    injection this with e
    injection e with e1 e2 e3
    exact absurd e2 (by decide)
theorem nil_form {W : World} {base : Nat} {e : TypeId} {s : Nat} {v : Value} {n : Nat} {xs : List Value} (h : W.ownsRow base e s v (0 + n) xs) : ∃ a c, v = .slice a n c := by
  rcases h.2 with ⟨rfl, h⟩ | ⟨g, cap, cur, rfl, hg, _⟩
  · obtain rfl : n = 0 := by omega
    exact ⟨_, _, rfl⟩
  · rw [Nat.zero_add]
    exact ⟨_, _, rfl⟩
set_option maxRecDepth 100000 in
set_option maxHeartbeats 1000000 in
theorem rswap_0n (w : World) (rb : Nat) (o i p j : Int) (h : RefT w rb (.slice none 0 0) []) :
    Calls Try.prog 38 #[.pointer (some ⟨rb, 0, none⟩), slV o i, slV p j] w fun e w' => e = .returned (.tuple #[]) ∧ (∃ u, RefT w' rb u (swapA [] o i p j)) ∧ OnlyR rb w w' := by
  have hal : Below w.heap.size w ((w.alloc (slO o i)).alloc (slO p j)) := bal (bal (Below.refl _ _) _) _
  have HA := Lib.hid hal
  have HR := Lib.hid h
  have HBX := Lib.hid (bx2 w o i p j)
  have hrl := (Array.getElem?_eq_some_iff.1 h.blk).1
  have HAT := Lib.hid (show atI [] o i = -1 by rfl)
  have HAT2 := Lib.hid (show atI [] p j = -1 by rfl)
  clear h hal
  go_enter Try.func38, Try.ntmps38
  go_upto_region 1 with (fail)
  obtain ⟨wA, hwA⟩ : ∃ x, x = (w.alloc (slO o i)).alloc (slO p j) := ⟨_, rfl⟩
  rw [show (w.alloc (.cells #[.int .i64 o, .int .i64 i] 31)).alloc (.cells #[.int .i64 p, .int .i64 j] 31) = wA from hwA.symm]
  have HAA : Hid (Below w.heap.size w wA) := Lib.hid (hwA ▸ HA.out)
  have HBA : Hid (Bx wA w.heap.size o i ∧ Bx wA (w.heap.size + 1) p j) := Lib.hid (hwA ▸ HBX.out)
  have HRD := Lib.hid ((HR.out.call HAA.out).call (Below.refl _ _).drew)
  obtain ⟨a0, a1, al⟩ := bx_all HBA.out.1
  obtain ⟨b0, b1, bl⟩ := bx_all HBA.out.2
  clear hwA HA HBX
  go_region_held3 (fun w' => w'.cell? ⟨w.heap.size, 0, none⟩ = some (.int .i64 o) ∧ w'.cell? ⟨w.heap.size, 1, none⟩ = some (.int .i64 i) ∧ w'.cell? ⟨w.heap.size + 1, 0, none⟩ = some (.int .i64 p) ∧ w'.cell? ⟨w.heap.size + 1, 1, none⟩ = some (.int .i64 j))
    (first | exact ⟨e0, e1, f0, f1⟩ | exact ⟨c0, c1, d0, d1⟩ | exact ⟨a0, a1, b0, b1⟩)
    (first
      | (go_at_call 18; with_reducible refine (rat_any _ rb _ [] p j HR2.out).mono ?_; rw [HAT2.out]; rintro e w3 ⟨rfl, hb3⟩; have HB3 := Lib.hid (HB2.out.trans (hb3.mono HB2.out.size)); obtain ⟨e0, e1, el⟩ := bx_all (HBX2.out.1.call hb3); obtain ⟨f0, f1, fl⟩ := bx_all (HBX2.out.2.call hb3); clear hb3)
      | (go_at_call 18; with_reducible refine (rat_any _ rb _ [] o i HRD.out).mono ?_; rw [HAT.out]; rintro e w2 ⟨rfl, hb2⟩; have HR2 := Lib.hid (HRD.out.call hb2); have HB2 := Lib.hid (HAA.out.drew.trans (hb2.mono HAA.out.drew.size)); have HBX2 := Lib.hid (And.intro ((HBA.out.1.call (Below.refl _ _).drew).call hb2) ((HBA.out.2.call (Below.refl _ _).drew).call hb2)); obtain ⟨c0, c1, cl⟩ := bx_all ((HBA.out.1.call (Below.refl _ _).drew).call hb2); obtain ⟨d0, d1, dl⟩ := bx_all ((HBA.out.2.call (Below.refl _ _).drew).call hb2); clear hb2))
  all_goals
    obtain ⟨r0, rz⟩ := cell_box (HR.out.call HB3.out).blk
    clear a0 a1 b0 b1
    (try clear c0 c1 d0 d1)
    (try clear e0 e1 f0 f1)
    have HST := Lib.hid (HR.out.store (l' := []) (u := .slice none 0 0) HB3.out (World.ownsRow_nil _ _ _ _) (by simp) (by simp))
    go_wp2
    go_end0
    exact ⟨rfl, ⟨_, HST.out.1⟩, HST.out.2⟩
set_option maxRecDepth 100000 in
set_option maxHeartbeats 1000000 in
theorem rswap_0s (w : World) (rb : Nat) (g c : Nat) (o i p j : Int) (h : RefT w rb (.slice (some ⟨g, 0, none⟩) 0 c) []) :
    Calls Try.prog 38 #[.pointer (some ⟨rb, 0, none⟩), slV o i, slV p j] w fun e w' => e = .returned (.tuple #[]) ∧ (∃ u, RefT w' rb u (swapA [] o i p j)) ∧ OnlyR rb w w' := by
  have hal : Below w.heap.size w ((w.alloc (slO o i)).alloc (slO p j)) := bal (bal (Below.refl _ _) _) _
  have HA := Lib.hid hal
  have HR := Lib.hid h
  have HBX := Lib.hid (bx2 w o i p j)
  have hrl := (Array.getElem?_eq_some_iff.1 h.blk).1
  have HAT := Lib.hid (show atI [] o i = -1 by rfl)
  have HAT2 := Lib.hid (show atI [] p j = -1 by rfl)
  obtain ⟨i0, hi0, hz0, hz1, hz2⟩ := info_parts infoNd
  have HI0 := Lib.hid hi0
  clear hi0
  clear h hal
  go_enter Try.func38, Try.ntmps38
  go_upto_region 1 with (fail)
  obtain ⟨wA, hwA⟩ : ∃ x, x = (w.alloc (slO o i)).alloc (slO p j) := ⟨_, rfl⟩
  rw [show (w.alloc (.cells #[.int .i64 o, .int .i64 i] 31)).alloc (.cells #[.int .i64 p, .int .i64 j] 31) = wA from hwA.symm]
  have HAA : Hid (Below w.heap.size w wA) := Lib.hid (hwA ▸ HA.out)
  have HBA : Hid (Bx wA w.heap.size o i ∧ Bx wA (w.heap.size + 1) p j) := Lib.hid (hwA ▸ HBX.out)
  have HRD := Lib.hid ((HR.out.call HAA.out).call (Below.refl _ _).drew)
  obtain ⟨a0, a1, al⟩ := bx_all HBA.out.1
  obtain ⟨b0, b1, bl⟩ := bx_all HBA.out.2
  clear hwA HA HBX
  go_region_held3 (fun w' => w'.cell? ⟨w.heap.size, 0, none⟩ = some (.int .i64 o) ∧ w'.cell? ⟨w.heap.size, 1, none⟩ = some (.int .i64 i) ∧ w'.cell? ⟨w.heap.size + 1, 0, none⟩ = some (.int .i64 p) ∧ w'.cell? ⟨w.heap.size + 1, 1, none⟩ = some (.int .i64 j))
    (first | exact ⟨e0, e1, f0, f1⟩ | exact ⟨c0, c1, d0, d1⟩ | exact ⟨a0, a1, b0, b1⟩)
    (first
      | (go_at_call 18; with_reducible refine (rat_any _ rb _ [] p j HR2.out).mono ?_; rw [HAT2.out]; rintro e w3 ⟨rfl, hb3⟩; have HB3 := Lib.hid (HB2.out.trans (hb3.mono HB2.out.size)); obtain ⟨e0, e1, el⟩ := bx_all (HBX2.out.1.call hb3); obtain ⟨f0, f1, fl⟩ := bx_all (HBX2.out.2.call hb3); clear hb3)
      | (go_at_call 18; with_reducible refine (rat_any _ rb _ [] o i HRD.out).mono ?_; rw [HAT.out]; rintro e w2 ⟨rfl, hb2⟩; have HR2 := Lib.hid (HRD.out.call hb2); have HB2 := Lib.hid (HAA.out.drew.trans (hb2.mono HAA.out.drew.size)); have HBX2 := Lib.hid (And.intro ((HBA.out.1.call (Below.refl _ _).drew).call hb2) ((HBA.out.2.call (Below.refl _ _).drew).call hb2)); obtain ⟨c0, c1, cl⟩ := bx_all ((HBA.out.1.call (Below.refl _ _).drew).call hb2); obtain ⟨d0, d1, dl⟩ := bx_all ((HBA.out.2.call (Below.refl _ _).drew).call hb2); clear hb2))
  all_goals
    obtain ⟨r0, rz⟩ := cell_box (HR.out.call HB3.out).blk
    clear a0 a1 b0 b1
    (try clear c0 c1 d0 d1)
    (try clear e0 e1 f0 f1)
    have HCB := Lib.hid (row_news (HR.out.call HB3.out))
    go_wp2_with (at_builtin; refine wpList_append_own _ rfl _ _ 27 rfl w.heap.size 49 i0 (.agg #[.int .i64 0, .int .i64 0, .int .i64 0]) 3 24 Try.underlying27 HI0.out hz0 hz1 hz2 rfl (by decide) (.slice none 0 0) 0 [] rfl (World.ownsRow_nil _ _ _ _) ⟨g, 0, none⟩ 0 c (nodsC []) rfl rfl HCB.out nods_one (by unfold maxLen; omega) (by omega) HB3.out.size ?_; intro u' w4 hown hgrow _; have HST := Lib.hid (rcopied HR.out HB3.out hown hgrow); obtain ⟨a3, c3, hu⟩ : ∃ a c, u' = .slice a 0 c := nil_form hown; subst hu; obtain ⟨m0, mz⟩ := cell_box ((hgrow.block _ (Nat.lt_of_lt_of_le hrl HB3.out.size) (by simp [Value.ownBlock])).trans (HR.out.call HB3.out).blk); clear hown hgrow)
    go_end0
    exact ⟨rfl, ⟨_, HST.out.1⟩, HST.out.2⟩
set_option maxRecDepth 100000 in
set_option maxHeartbeats 1000000 in
theorem rswap_nn (w : World) (rb : Nat) (v : Value) (l : List Nod) (o i p j : Int) (h : RefT w rb v l) (hO : Once l) (h0 : 0 < l.length) (hk : idx l o i = none) (hq : idx l p j = none) :
    Calls Try.prog 38 #[.pointer (some ⟨rb, 0, none⟩), slV o i, slV p j] w fun e w' => e = .returned (.tuple #[]) ∧ (∃ u, RefT w' rb u (swapA l o i p j)) ∧ OnlyR rb w w' := by
  have hal : Below w.heap.size w ((w.alloc (slO o i)).alloc (slO p j)) := bal (bal (Below.refl _ _) _) _
  have HA := Lib.hid hal
  have HR := Lib.hid h
  have HBX := Lib.hid (bx2 w o i p j)
  have hle := h.le
  have hrl := (Array.getElem?_eq_some_iff.1 h.blk).1
  have HAT := Lib.hid (show atI l o i = -1 by unfold atI; rw [hk])
  have HAT2 := Lib.hid (show atI l p j = -1 by unfold atI; rw [hq])
  obtain ⟨i0, hi0, hz0, hz1, hz2⟩ := info_parts infoNd
  have HI0 := Lib.hid hi0
  obtain ⟨g, c, rfl, hg, hgr, hc⟩ := h.getg h0
  have HLN := Lib.hid (nodsC_len l)
  have HSW := Lib.hid (swap_set0 hk hq)
  clear h hal hk hq hc hi0
  go_enter Try.func38, Try.ntmps38
  go_upto_region 1 with (fail)
  obtain ⟨wA, hwA⟩ : ∃ x, x = (w.alloc (slO o i)).alloc (slO p j) := ⟨_, rfl⟩
  rw [show (w.alloc (.cells #[.int .i64 o, .int .i64 i] 31)).alloc (.cells #[.int .i64 p, .int .i64 j] 31) = wA from hwA.symm]
  have HAA : Hid (Below w.heap.size w wA) := Lib.hid (hwA ▸ HA.out)
  have HBA : Hid (Bx wA w.heap.size o i ∧ Bx wA (w.heap.size + 1) p j) := Lib.hid (hwA ▸ HBX.out)
  have HRD := Lib.hid ((HR.out.call HAA.out).call (Below.refl _ _).drew)
  obtain ⟨a0, a1, al⟩ := bx_all HBA.out.1
  obtain ⟨b0, b1, bl⟩ := bx_all HBA.out.2
  clear hwA HA HBX
  go_region_held3 (fun w' => w'.cell? ⟨w.heap.size, 0, none⟩ = some (.int .i64 o) ∧ w'.cell? ⟨w.heap.size, 1, none⟩ = some (.int .i64 i) ∧ w'.cell? ⟨w.heap.size + 1, 0, none⟩ = some (.int .i64 p) ∧ w'.cell? ⟨w.heap.size + 1, 1, none⟩ = some (.int .i64 j))
    (first | exact ⟨e0, e1, f0, f1⟩ | exact ⟨c0, c1, d0, d1⟩ | exact ⟨a0, a1, b0, b1⟩)
    (first
      | (go_at_call 18; with_reducible refine (rat_any _ rb _ l p j HR2.out).mono ?_; rw [HAT2.out]; rintro e w3 ⟨rfl, hb3⟩; have HB3 := Lib.hid (HB2.out.trans (hb3.mono HB2.out.size)); obtain ⟨e0, e1, el⟩ := bx_all (HBX2.out.1.call hb3); obtain ⟨f0, f1, fl⟩ := bx_all (HBX2.out.2.call hb3); have HBX3 := Lib.hid (And.intro (HBX2.out.1.call hb3) (HBX2.out.2.call hb3)); clear hb3)
      | (go_at_call 18; with_reducible refine (rat_any _ rb _ l o i HRD.out).mono ?_; rw [HAT.out]; rintro e w2 ⟨rfl, hb2⟩; have HR2 := Lib.hid (HRD.out.call hb2); have HB2 := Lib.hid (HAA.out.drew.trans (hb2.mono HAA.out.drew.size)); have HBX2 := Lib.hid (And.intro ((HBA.out.1.call (Below.refl _ _).drew).call hb2) ((HBA.out.2.call (Below.refl _ _).drew).call hb2)); obtain ⟨c0, c1, cl⟩ := bx_all ((HBA.out.1.call (Below.refl _ _).drew).call hb2); obtain ⟨d0, d1, dl⟩ := bx_all ((HBA.out.2.call (Below.refl _ _).drew).call hb2); clear hb2))
  all_goals
    obtain ⟨r0, rz⟩ := cell_box (HR.out.call HB3.out).blk
    have HCB := Lib.hid (row_news (HR.out.call HB3.out))
    clear a0 a1 b0 b1
    (try clear c0 c1 d0 d1)
    (try clear e0 e1 f0 f1)
    go_wp2_with (at_builtin; refine wpList_append_own _ rfl _ _ 27 rfl w.heap.size 49 i0 (.agg #[.int .i64 0, .int .i64 0, .int .i64 0]) 3 24 Try.underlying27 HI0.out hz0 hz1 hz2 rfl (by decide) (.slice none 0 0) 0 [] rfl (World.ownsRow_nil _ _ _ _) ⟨g, 0, none⟩ l.length c (nodsC l) rfl HLN.out HCB.out nods_one (by unfold maxLen; omega) (by omega) HB3.out.size ?_; intro u' w4 hown hgrow _; obtain ⟨g3, c3, rfl, hg3⟩ := row_form3 hown (by omega); have HOW := Lib.hid hown; have HGR := Lib.hid hgrow; obtain ⟨m0, mz⟩ := cell_box ((hgrow.block _ (Nat.lt_of_lt_of_le hrl HB3.out.size) (by simp [Value.ownBlock])).trans (HR.out.call HB3.out).blk); clear hown hgrow)
    have hcp := rcopied HR.out HB3.out HOW.out HGR.out
    rw [Nat.zero_add] at hcp
    (try rw [Nat.zero_add])
    go_end0
    rw [HSW.out]
    exact ⟨rfl, ⟨_, hcp.1⟩, hcp.2⟩
set_option maxRecDepth 100000 in
set_option maxHeartbeats 1000000 in
theorem rswap_sn (w : World) (rb : Nat) (v : Value) (l : List Nod) (o i p j : Int) (h : RefT w rb v l) (hO : Once l) (h0 : 0 < l.length) {k : Nat} {x : Nod} (hk : idx l o i = some k) (hx : l[k]? = some x) (hxs : x.o = o ∧ x.i = i) (hq : idx l p j = none) :
    Calls Try.prog 38 #[.pointer (some ⟨rb, 0, none⟩), slV o i, slV p j] w fun e w' => e = .returned (.tuple #[]) ∧ (∃ u, RefT w' rb u (swapA l o i p j)) ∧ OnlyR rb w w' := by
  have hal : Below w.heap.size w ((w.alloc (slO o i)).alloc (slO p j)) := bal (bal (Below.refl _ _) _) _
  have HA := Lib.hid hal
  have HR := Lib.hid h
  have HBX := Lib.hid (bx2 w o i p j)
  have hle := h.le
  have hrl := (Array.getElem?_eq_some_iff.1 h.blk).1
  have HAT := Lib.hid (show atI l o i = (k : Int) by unfold atI; rw [hk])
  have HAT2 := Lib.hid (show atI l p j = -1 by unfold atI; rw [hq])
  obtain ⟨i0, hi0, hz0, hz1, hz2⟩ := info_parts infoNd
  have HI0 := Lib.hid hi0
  obtain ⟨g, c, rfl, hg, hgr, hc⟩ := h.getg h0
  have HLN := Lib.hid (nodsC_len l)
  have HSW := Lib.hid (swap_set1 hO hx hxs hq)
  have hkl := (List.getElem?_eq_some_iff.1 hx).1
  have HKL := Lib.hid (show k < l.length from hkl)
  have HX := Lib.hid hx
  have hk1 : (0 : Int) ≤ k := by omega
  clear h hal hk hq hc hi0 hx hkl
  go_enter Try.func38, Try.ntmps38
  go_upto_region 1 with (fail)
  obtain ⟨wA, hwA⟩ : ∃ x, x = (w.alloc (slO o i)).alloc (slO p j) := ⟨_, rfl⟩
  rw [show (w.alloc (.cells #[.int .i64 o, .int .i64 i] 31)).alloc (.cells #[.int .i64 p, .int .i64 j] 31) = wA from hwA.symm]
  have HAA : Hid (Below w.heap.size w wA) := Lib.hid (hwA ▸ HA.out)
  have HBA : Hid (Bx wA w.heap.size o i ∧ Bx wA (w.heap.size + 1) p j) := Lib.hid (hwA ▸ HBX.out)
  have HRD := Lib.hid ((HR.out.call HAA.out).call (Below.refl _ _).drew)
  obtain ⟨a0, a1, al⟩ := bx_all HBA.out.1
  obtain ⟨b0, b1, bl⟩ := bx_all HBA.out.2
  clear hwA HA HBX
  go_region_held3 (fun w' => w'.cell? ⟨w.heap.size, 0, none⟩ = some (.int .i64 o) ∧ w'.cell? ⟨w.heap.size, 1, none⟩ = some (.int .i64 i) ∧ w'.cell? ⟨w.heap.size + 1, 0, none⟩ = some (.int .i64 p) ∧ w'.cell? ⟨w.heap.size + 1, 1, none⟩ = some (.int .i64 j))
    (first | exact ⟨e0, e1, f0, f1⟩ | exact ⟨c0, c1, d0, d1⟩ | exact ⟨a0, a1, b0, b1⟩)
    (first
      | (go_at_call 18; with_reducible refine (rat_any _ rb _ l p j HR2.out).mono ?_; rw [HAT2.out]; rintro e w3 ⟨rfl, hb3⟩; have HB3 := Lib.hid (HB2.out.trans (hb3.mono HB2.out.size)); obtain ⟨e0, e1, el⟩ := bx_all (HBX2.out.1.call hb3); obtain ⟨f0, f1, fl⟩ := bx_all (HBX2.out.2.call hb3); have HBX3 := Lib.hid (And.intro (HBX2.out.1.call hb3) (HBX2.out.2.call hb3)); clear hb3)
      | (go_at_call 18; with_reducible refine (rat_any _ rb _ l o i HRD.out).mono ?_; rw [HAT.out]; rintro e w2 ⟨rfl, hb2⟩; have HR2 := Lib.hid (HRD.out.call hb2); have HB2 := Lib.hid (HAA.out.drew.trans (hb2.mono HAA.out.drew.size)); have HBX2 := Lib.hid (And.intro ((HBA.out.1.call (Below.refl _ _).drew).call hb2) ((HBA.out.2.call (Below.refl _ _).drew).call hb2)); obtain ⟨c0, c1, cl⟩ := bx_all ((HBA.out.1.call (Below.refl _ _).drew).call hb2); obtain ⟨d0, d1, dl⟩ := bx_all ((HBA.out.2.call (Below.refl _ _).drew).call hb2); clear hb2))
  all_goals
    obtain ⟨r0, rz⟩ := cell_box (HR.out.call HB3.out).blk
    have HCB := Lib.hid (row_news (HR.out.call HB3.out))
    clear a0 a1 b0 b1
    (try clear c0 c1 d0 d1)
    (try clear e0 e1 f0 f1)
    go_wp2_with (at_builtin; refine wpList_append_own _ rfl _ _ 27 rfl w.heap.size 49 i0 (.agg #[.int .i64 0, .int .i64 0, .int .i64 0]) 3 24 Try.underlying27 HI0.out hz0 hz1 hz2 rfl (by decide) (.slice none 0 0) 0 [] rfl (World.ownsRow_nil _ _ _ _) ⟨g, 0, none⟩ l.length c (nodsC l) rfl HLN.out HCB.out nods_one (by unfold maxLen; omega) (by omega) HB3.out.size ?_; intro u' w4 hown hgrow _; obtain ⟨g3, c3, rfl, hg3⟩ := row_form3 hown (by omega); have HOW := Lib.hid hown; have HGR := Lib.hid hgrow; obtain ⟨m0, mz⟩ := cell_box ((hgrow.block _ (Nat.lt_of_lt_of_le hrl HB3.out.size) (by simp [Value.ownBlock])).trans (HR.out.call HB3.out).blk); clear hown hgrow)
    have hcp := rcopied HR.out HB3.out HOW.out HGR.out
    rw [Nat.zero_add] at hcp
    have HBX4 := Lib.hid (And.intro (bx_copied (rb := rb) (u := .slice (some ⟨g3, 0, none⟩) l.length c3) HBX3.out.1 HGR.out (by omega)) (bx_copied (rb := rb) (u := .slice (some ⟨g3, 0, none⟩) l.length c3) HBX3.out.2 HGR.out (by omega)))
    obtain ⟨w5, hw5⟩ : ∃ x, x = w4.setCell ⟨rb, 0, none⟩ (.slice (some ⟨g3, 0, none⟩) l.length c3) := ⟨_, rfl⟩
    (try rw [Nat.zero_add])
    rw [← hw5] at hcp HBX4 ⊢
    have HCP := Lib.hid hcp
    clear hw5 hcp m0 mz r0 rz
    obtain ⟨n0, nz⟩ := cell_box HCP.out.1.blk
    obtain ⟨q0, q1, qz, ql, qn⟩ := rslot_cells HCP.out.1 HX.out
    obtain ⟨s0, s1, sl⟩ := bx_all HBX4.out.2
    have hen : rb ≠ g3 := fun q => qn q.symm
    have HST := Lib.hid (rset p j HCP.out.1 HX.out HCP.out.2 hg3)
    have hkl2 := HKL.out
    have hkl3 : (k : Int) < l.length := by omega
    go_wp2
    go_region
    all_goals
      go_wp2
      go_end0
      rw [← HSW.out]
      exact ⟨rfl, ⟨_, HST.out.1.call (Below.refl _ _).drew⟩, HST.out.2.trans (OnlyR.of_below (Below.refl _ _).drew)⟩
set_option maxRecDepth 100000 in
set_option maxHeartbeats 1000000 in
theorem rswap_ns (w : World) (rb : Nat) (v : Value) (l : List Nod) (o i p j : Int) (h : RefT w rb v l) (hO : Once l) (h0 : 0 < l.length) (hk : idx l o i = none) {r : Nat} {y : Nod} (hq : idx l p j = some r) (hy : l[r]? = some y) (hys : y.o = p ∧ y.i = j) :
    Calls Try.prog 38 #[.pointer (some ⟨rb, 0, none⟩), slV o i, slV p j] w fun e w' => e = .returned (.tuple #[]) ∧ (∃ u, RefT w' rb u (swapA l o i p j)) ∧ OnlyR rb w w' := by
  have hal : Below w.heap.size w ((w.alloc (slO o i)).alloc (slO p j)) := bal (bal (Below.refl _ _) _) _
  have HA := Lib.hid hal
  have HR := Lib.hid h
  have HBX := Lib.hid (bx2 w o i p j)
  have hle := h.le
  have hrl := (Array.getElem?_eq_some_iff.1 h.blk).1
  have HAT := Lib.hid (show atI l o i = -1 by unfold atI; rw [hk])
  have HAT2 := Lib.hid (show atI l p j = (r : Int) by unfold atI; rw [hq])
  obtain ⟨i0, hi0, hz0, hz1, hz2⟩ := info_parts infoNd
  have HI0 := Lib.hid hi0
  obtain ⟨g, c, rfl, hg, hgr, hc⟩ := h.getg h0
  have HLN := Lib.hid (nodsC_len l)
  have HSW := Lib.hid (swap_set1 hO hy hys hk)
  rw [swapA_comm l o i p j] at HSW
  have hrr := (List.getElem?_eq_some_iff.1 hy).1
  have HRL := Lib.hid (show r < l.length from hrr)
  have HY := Lib.hid hy
  have hr1 : (0 : Int) ≤ r := by omega
  clear h hal hk hq hc hi0 hy hrr
  go_enter Try.func38, Try.ntmps38
  go_upto_region 1 with (fail)
  obtain ⟨wA, hwA⟩ : ∃ x, x = (w.alloc (slO o i)).alloc (slO p j) := ⟨_, rfl⟩
  rw [show (w.alloc (.cells #[.int .i64 o, .int .i64 i] 31)).alloc (.cells #[.int .i64 p, .int .i64 j] 31) = wA from hwA.symm]
  have HAA : Hid (Below w.heap.size w wA) := Lib.hid (hwA ▸ HA.out)
  have HBA : Hid (Bx wA w.heap.size o i ∧ Bx wA (w.heap.size + 1) p j) := Lib.hid (hwA ▸ HBX.out)
  have HRD := Lib.hid ((HR.out.call HAA.out).call (Below.refl _ _).drew)
  obtain ⟨a0, a1, al⟩ := bx_all HBA.out.1
  obtain ⟨b0, b1, bl⟩ := bx_all HBA.out.2
  clear hwA HA HBX
  go_region_held3 (fun w' => w'.cell? ⟨w.heap.size, 0, none⟩ = some (.int .i64 o) ∧ w'.cell? ⟨w.heap.size, 1, none⟩ = some (.int .i64 i) ∧ w'.cell? ⟨w.heap.size + 1, 0, none⟩ = some (.int .i64 p) ∧ w'.cell? ⟨w.heap.size + 1, 1, none⟩ = some (.int .i64 j))
    (first | exact ⟨e0, e1, f0, f1⟩ | exact ⟨c0, c1, d0, d1⟩ | exact ⟨a0, a1, b0, b1⟩)
    (first
      | (go_at_call 18; with_reducible refine (rat_any _ rb _ l p j HR2.out).mono ?_; rw [HAT2.out]; rintro e w3 ⟨rfl, hb3⟩; have HB3 := Lib.hid (HB2.out.trans (hb3.mono HB2.out.size)); obtain ⟨e0, e1, el⟩ := bx_all (HBX2.out.1.call hb3); obtain ⟨f0, f1, fl⟩ := bx_all (HBX2.out.2.call hb3); have HBX3 := Lib.hid (And.intro (HBX2.out.1.call hb3) (HBX2.out.2.call hb3)); clear hb3)
      | (go_at_call 18; with_reducible refine (rat_any _ rb _ l o i HRD.out).mono ?_; rw [HAT.out]; rintro e w2 ⟨rfl, hb2⟩; have HR2 := Lib.hid (HRD.out.call hb2); have HB2 := Lib.hid (HAA.out.drew.trans (hb2.mono HAA.out.drew.size)); have HBX2 := Lib.hid (And.intro ((HBA.out.1.call (Below.refl _ _).drew).call hb2) ((HBA.out.2.call (Below.refl _ _).drew).call hb2)); obtain ⟨c0, c1, cl⟩ := bx_all ((HBA.out.1.call (Below.refl _ _).drew).call hb2); obtain ⟨d0, d1, dl⟩ := bx_all ((HBA.out.2.call (Below.refl _ _).drew).call hb2); clear hb2))
  all_goals
    obtain ⟨r0, rz⟩ := cell_box (HR.out.call HB3.out).blk
    have HCB := Lib.hid (row_news (HR.out.call HB3.out))
    clear a0 a1 b0 b1
    (try clear c0 c1 d0 d1)
    (try clear e0 e1 f0 f1)
    go_wp2_with (at_builtin; refine wpList_append_own _ rfl _ _ 27 rfl w.heap.size 49 i0 (.agg #[.int .i64 0, .int .i64 0, .int .i64 0]) 3 24 Try.underlying27 HI0.out hz0 hz1 hz2 rfl (by decide) (.slice none 0 0) 0 [] rfl (World.ownsRow_nil _ _ _ _) ⟨g, 0, none⟩ l.length c (nodsC l) rfl HLN.out HCB.out nods_one (by unfold maxLen; omega) (by omega) HB3.out.size ?_; intro u' w4 hown hgrow _; obtain ⟨g3, c3, rfl, hg3⟩ := row_form3 hown (by omega); have HOW := Lib.hid hown; have HGR := Lib.hid hgrow; obtain ⟨m0, mz⟩ := cell_box ((hgrow.block _ (Nat.lt_of_lt_of_le hrl HB3.out.size) (by simp [Value.ownBlock])).trans (HR.out.call HB3.out).blk); clear hown hgrow)
    have hcp := rcopied HR.out HB3.out HOW.out HGR.out
    rw [Nat.zero_add] at hcp
    have HBX4 := Lib.hid (And.intro (bx_copied (rb := rb) (u := .slice (some ⟨g3, 0, none⟩) l.length c3) HBX3.out.1 HGR.out (by omega)) (bx_copied (rb := rb) (u := .slice (some ⟨g3, 0, none⟩) l.length c3) HBX3.out.2 HGR.out (by omega)))
    obtain ⟨w5, hw5⟩ : ∃ x, x = w4.setCell ⟨rb, 0, none⟩ (.slice (some ⟨g3, 0, none⟩) l.length c3) := ⟨_, rfl⟩
    (try rw [Nat.zero_add])
    rw [← hw5] at hcp HBX4 ⊢
    have HCP := Lib.hid hcp
    clear hw5 hcp m0 mz r0 rz
    obtain ⟨n0, nz⟩ := cell_box HCP.out.1.blk
    obtain ⟨q0, q1, qz, ql, qn⟩ := rslot_cells HCP.out.1 HY.out
    obtain ⟨s0, s1, sl⟩ := bx_all HBX4.out.1
    have hen : rb ≠ g3 := fun q => qn q.symm
    have HST := Lib.hid (rset o i HCP.out.1 HY.out HCP.out.2 hg3)
    have hrl2 := HRL.out
    have hrl3 : (r : Int) < l.length := by omega
    go_wp2
    go_region
    all_goals
      go_wp2
      go_end0
      rw [← HSW.out]
      exact ⟨rfl, ⟨_, HST.out.1.call (Below.refl _ _).drew⟩, HST.out.2.trans (OnlyR.of_below (Below.refl _ _).drew)⟩
set_option maxRecDepth 100000 in
set_option maxHeartbeats 1000000 in
theorem rswap_ss (w : World) (rb : Nat) (v : Value) (l : List Nod) (o i p j : Int) (h : RefT w rb v l) (hO : Once l) (h0 : 0 < l.length) {k : Nat} {x : Nod} (hk : idx l o i = some k) (hx : l[k]? = some x) (hxs : x.o = o ∧ x.i = i) {r : Nat} {y : Nod} (hq : idx l p j = some r) (hy : l[r]? = some y) (hys : y.o = p ∧ y.i = j) :
    Calls Try.prog 38 #[.pointer (some ⟨rb, 0, none⟩), slV o i, slV p j] w fun e w' => e = .returned (.tuple #[]) ∧ (∃ u, RefT w' rb u (swapA l o i p j)) ∧ OnlyR rb w w' := by
  have hal : Below w.heap.size w ((w.alloc (slO o i)).alloc (slO p j)) := bal (bal (Below.refl _ _) _) _
  have HA := Lib.hid hal
  have HR := Lib.hid h
  have HBX := Lib.hid (bx2 w o i p j)
  have hle := h.le
  have hrl := (Array.getElem?_eq_some_iff.1 h.blk).1
  have HAT := Lib.hid (show atI l o i = (k : Int) by unfold atI; rw [hk])
  have HAT2 := Lib.hid (show atI l p j = (r : Int) by unfold atI; rw [hq])
  obtain ⟨i0, hi0, hz0, hz1, hz2⟩ := info_parts infoNd
  have HI0 := Lib.hid hi0
  obtain ⟨g, c, rfl, hg, hgr, hc⟩ := h.getg h0
  have HLN := Lib.hid (nodsC_len l)
  obtain ⟨z, hz, hzz⟩ := swap_set2 hO hx hxs hy hys
  have HSW := Lib.hid hzz
  have HZ := Lib.hid hz
  clear hz hzz
  have hkl := (List.getElem?_eq_some_iff.1 hx).1
  have HKL := Lib.hid (show k < l.length from hkl)
  have HX := Lib.hid hx
  have hk1 : (0 : Int) ≤ k := by omega
  have hrr := (List.getElem?_eq_some_iff.1 hy).1
  have HRL := Lib.hid (show r < l.length from hrr)
  have HY := Lib.hid hy
  have hr1 : (0 : Int) ≤ r := by omega
  clear h hal hk hq hc hi0 hx hkl hy hrr
  go_enter Try.func38, Try.ntmps38
  go_upto_region 1 with (fail)
  obtain ⟨wA, hwA⟩ : ∃ x, x = (w.alloc (slO o i)).alloc (slO p j) := ⟨_, rfl⟩
  rw [show (w.alloc (.cells #[.int .i64 o, .int .i64 i] 31)).alloc (.cells #[.int .i64 p, .int .i64 j] 31) = wA from hwA.symm]
  have HAA : Hid (Below w.heap.size w wA) := Lib.hid (hwA ▸ HA.out)
  have HBA : Hid (Bx wA w.heap.size o i ∧ Bx wA (w.heap.size + 1) p j) := Lib.hid (hwA ▸ HBX.out)
  have HRD := Lib.hid ((HR.out.call HAA.out).call (Below.refl _ _).drew)
  obtain ⟨a0, a1, al⟩ := bx_all HBA.out.1
  obtain ⟨b0, b1, bl⟩ := bx_all HBA.out.2
  clear hwA HA HBX
  go_region_held3 (fun w' => w'.cell? ⟨w.heap.size, 0, none⟩ = some (.int .i64 o) ∧ w'.cell? ⟨w.heap.size, 1, none⟩ = some (.int .i64 i) ∧ w'.cell? ⟨w.heap.size + 1, 0, none⟩ = some (.int .i64 p) ∧ w'.cell? ⟨w.heap.size + 1, 1, none⟩ = some (.int .i64 j))
    (first | exact ⟨e0, e1, f0, f1⟩ | exact ⟨c0, c1, d0, d1⟩ | exact ⟨a0, a1, b0, b1⟩)
    (first
      | (go_at_call 18; with_reducible refine (rat_any _ rb _ l p j HR2.out).mono ?_; rw [HAT2.out]; rintro e w3 ⟨rfl, hb3⟩; have HB3 := Lib.hid (HB2.out.trans (hb3.mono HB2.out.size)); obtain ⟨e0, e1, el⟩ := bx_all (HBX2.out.1.call hb3); obtain ⟨f0, f1, fl⟩ := bx_all (HBX2.out.2.call hb3); have HBX3 := Lib.hid (And.intro (HBX2.out.1.call hb3) (HBX2.out.2.call hb3)); clear hb3)
      | (go_at_call 18; with_reducible refine (rat_any _ rb _ l o i HRD.out).mono ?_; rw [HAT.out]; rintro e w2 ⟨rfl, hb2⟩; have HR2 := Lib.hid (HRD.out.call hb2); have HB2 := Lib.hid (HAA.out.drew.trans (hb2.mono HAA.out.drew.size)); have HBX2 := Lib.hid (And.intro ((HBA.out.1.call (Below.refl _ _).drew).call hb2) ((HBA.out.2.call (Below.refl _ _).drew).call hb2)); obtain ⟨c0, c1, cl⟩ := bx_all ((HBA.out.1.call (Below.refl _ _).drew).call hb2); obtain ⟨d0, d1, dl⟩ := bx_all ((HBA.out.2.call (Below.refl _ _).drew).call hb2); clear hb2))
  all_goals
    obtain ⟨r0, rz⟩ := cell_box (HR.out.call HB3.out).blk
    have HCB := Lib.hid (row_news (HR.out.call HB3.out))
    clear a0 a1 b0 b1
    (try clear c0 c1 d0 d1)
    (try clear e0 e1 f0 f1)
    go_wp2_with (at_builtin; refine wpList_append_own _ rfl _ _ 27 rfl w.heap.size 49 i0 (.agg #[.int .i64 0, .int .i64 0, .int .i64 0]) 3 24 Try.underlying27 HI0.out hz0 hz1 hz2 rfl (by decide) (.slice none 0 0) 0 [] rfl (World.ownsRow_nil _ _ _ _) ⟨g, 0, none⟩ l.length c (nodsC l) rfl HLN.out HCB.out nods_one (by unfold maxLen; omega) (by omega) HB3.out.size ?_; intro u' w4 hown hgrow _; obtain ⟨g3, c3, rfl, hg3⟩ := row_form3 hown (by omega); have HOW := Lib.hid hown; have HGR := Lib.hid hgrow; obtain ⟨m0, mz⟩ := cell_box ((hgrow.block _ (Nat.lt_of_lt_of_le hrl HB3.out.size) (by simp [Value.ownBlock])).trans (HR.out.call HB3.out).blk); clear hown hgrow)
    have hcp := rcopied HR.out HB3.out HOW.out HGR.out
    rw [Nat.zero_add] at hcp
    have HBX4 := Lib.hid (And.intro (bx_copied (rb := rb) (u := .slice (some ⟨g3, 0, none⟩) l.length c3) HBX3.out.1 HGR.out (by omega)) (bx_copied (rb := rb) (u := .slice (some ⟨g3, 0, none⟩) l.length c3) HBX3.out.2 HGR.out (by omega)))
    obtain ⟨w5, hw5⟩ : ∃ x, x = w4.setCell ⟨rb, 0, none⟩ (.slice (some ⟨g3, 0, none⟩) l.length c3) := ⟨_, rfl⟩
    (try rw [Nat.zero_add])
    rw [← hw5] at hcp HBX4 ⊢
    have HCP := Lib.hid hcp
    clear hw5 hcp m0 mz r0 rz
    obtain ⟨n0, nz⟩ := cell_box HCP.out.1.blk
    obtain ⟨q0, q1, qz, ql, qn⟩ := rslot_cells HCP.out.1 HX.out
    obtain ⟨s0, s1, sl⟩ := bx_all HBX4.out.2
    have hen : rb ≠ g3 := fun q => qn q.symm
    have HST := Lib.hid (rset p j HCP.out.1 HX.out HCP.out.2 hg3)
    have hkl2 := HKL.out
    have hkl3 : (k : Int) < l.length := by omega
    go_wp2
    go_region
    all_goals
      go_wp2
      have hlen : (l.set k ⟨p, j, x.d⟩).length = l.length := List.length_set
      have HBX5 := Lib.hid ((bx_same (bx_same HBX4.out.1 (Go.heap_setCell_other w5 ⟨g3, k * 3, none⟩ _ (.int .i64 p) (row_ne_bx HCP.out.1 HBX4.out.1)) (by simp)) (Go.heap_setCell_other _ ⟨g3, k * 3 + 1, none⟩ _ (.int .i64 j) (row_ne_bx HCP.out.1 HBX4.out.1)) (by simp)).call (Below.refl _ _).drew)
      have HS5 := Lib.hid (And.intro (HST.out.1.call (Below.refl _ _).drew) (HST.out.2.trans (OnlyR.of_below (Below.refl _ _).drew)))
      obtain ⟨w6, hw6⟩ : ∃ q, q = ((w5.setCell ⟨g3, k * 3, none⟩ (.int .i64 p)).setCell ⟨g3, k * 3 + 1, none⟩ (.int .i64 j)).drew := ⟨_, rfl⟩
      rw [← hw6] at HS5 HBX5
      rw [← hw6]
      obtain ⟨l2, hl2⟩ : ∃ q, q = l.set k ⟨p, j, x.d⟩ := ⟨_, rfl⟩
      rw [← hl2] at HS5 hlen HZ HSW
      clear hw6 hl2 HST n0 q0 q1 s0 s1 qz
      rw [← hlen] at HS5
      obtain ⟨n0, nz⟩ := cell_box HS5.out.1.blk
      obtain ⟨q0, q1, qz, ql2, qn2⟩ := rslot_cells HS5.out.1 HZ.out
      obtain ⟨s0, s1, sl2⟩ := bx_all HBX5.out
      have HST2 := Lib.hid (rset o i HS5.out.1 HZ.out HS5.out.2 hg3)
      rw [hlen] at n0
      have hrl2 := HRL.out
      have hrl3 : (r : Int) < l.length := by omega
      clear hlen
      go_region
      all_goals
        go_wp2
        go_end0
        rw [← HSW.out]
        exact ⟨rfl, ⟨_, HST2.out.1.call (Below.refl _ _).drew⟩, HST2.out.2.trans (OnlyR.of_below (Below.refl _ _).drew)⟩
theorem rswap_any (w : World) (rb : Nat) (v : Value) (l : List Nod) (o i p j : Int) (h : RefT w rb v l) (hO : Once l) :
    Calls Try.prog 38 #[.pointer (some ⟨rb, 0, none⟩), slV o i, slV p j] w fun e w' => e = .returned (.tuple #[]) ∧ (∃ u, RefT w' rb u (swapA l o i p j)) ∧ OnlyR rb w w' := by
  rcases l with _ | ⟨a, l⟩
  · rcases h.row.2 with ⟨rfl, _⟩ | ⟨g, cap, cur, rfl, _⟩
    · exact rswap_0n w rb o i p j h
    · exact rswap_0s w rb g cap o i p j h
  · have h0 : 0 < (a :: l).length := by simp
    cases hk : idx (a :: l) o i with
    | none =>
      cases hq : idx (a :: l) p j with
      | none => exact rswap_nn w rb v _ o i p j h hO h0 hk hq
      | some r =>
        obtain ⟨y, hy, hys⟩ := idx_some hq
        exact rswap_ns w rb v _ o i p j h hO h0 hk hq hy hys
    | some k =>
      obtain ⟨x, hx, hxs⟩ := idx_some hk
      cases hq : idx (a :: l) p j with
      | none => exact rswap_sn w rb v _ o i p j h hO h0 hk hx hxs hq
      | some r =>
        obtain ⟨y, hy, hys⟩ := idx_some hq
        exact rswap_ss w rb v _ o i p j h hO h0 hk hx hxs hq hy hys
end Go.Proofs.Ytebgmphbkjpfcaa
