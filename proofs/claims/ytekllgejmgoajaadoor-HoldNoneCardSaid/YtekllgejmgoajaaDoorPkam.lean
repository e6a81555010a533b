import Derived.Test.YtekllgejmgoajaaDoorPkal
namespace Go.Proofs.YtekllgejmgoajaaDoor
set_option linter.unusedVariables false
set_option linter.unusedSimpArgs false
set_option maxRecDepth 100000
set_option maxHeartbeats 8000000
open Lib (hid)
section
open Go.ChangeShapes Go.WideShapes Go.ChangeAt Go.RowKit Go.Shelf
namespace TabS
def NoSlot (L : List Sn) (id ix : Int) : Prop := hasS L id = false ∨ ∃ x, L[posS L id]? = some x ∧ x.id = id ∧ (ix < 0 ∨ (x.l.length : Int) ≤ ix)
theorem sat_no (w : World) (b base : Nat) (tv : Value) (L : List Sn) (id ix : Int) (h : SlotsAt w b base tv L) (hn : NoSlot L id ix) :
  Calls Tryd.prog 44 #[.pointer (some ⟨b, 0, none⟩), .agg #[.int .i64 id, .int .i64 ix]] w fun e w' => e = .returned (.tuple #[.pointer none, .int .i64 3]) ∧ Below w.heap.size w w' := by
 rcases hn with hh | ⟨x, hx, hid, hi | hi⟩
 ·exact sat_none w b base tv L id ix h hh
 ·exact sat_low w b base tv L id ix x h hx hid hi
 ·exact sat_high w b base tv L id ix x h hx hid hi
theorem slot_or {w : World} {b base : Nat} {tv : Value} {L : List Sn} (h : SlotsAt w b base tv L) (id ix : Int) : NoSlot L id ix ∨ ∃ (x : Sn) (i : Nat), L[posS L id]? = some x ∧ x.id = id ∧ ix = i ∧ i < x.l.length := by
 cases hh : hasS L id with
 | false => exact .inl (.inl hh)
 | true =>
  obtain ⟨x, hx, hid⟩ := (hasS_at h).1 hh
  by_cases h1 : ix < 0 ∨ (x.l.length : Int) ≤ ix
  ·exact .inl (.inr ⟨x, hx, hid, h1⟩)
  ·exact .inr ⟨x, ix.toNat, hx, hid, by omega, by omega⟩
theorem sget_no (w : World) (b base : Nat) (tv : Value) (L : List Sn) (id ix : Int) (h : SlotsAt w b base tv L) (hn : NoSlot L id ix) :
  Calls Tryd.prog 21 #[.pointer (some ⟨b, 0, none⟩), .agg #[.int .i64 id, .int .i64 ix]] w fun e w' => e = .returned (.tuple #[zC.V, .int .i64 3]) ∧ Below w.heap.size w w' := by
 have H := Lib.hid h
 have HN := Lib.hid hn
 clear h hn
 go_enter Tryd.func21, Tryd.ntmps21
 go_wp2_with (first
  | (go_at_call 44; refine (sat_no _ b base tv L id ix (H.out.call (bal (bal (Below.refl _ _) _) _)) HN.out).mono ?_; rintro e w1 ⟨rfl, hb1⟩; obtain ⟨hc1, hf1⟩ := bcell hb1; have hz1 := hb1.size; have hz2 : w.heap.size + 1 < w1.heap.size := (by simp at hz1; omega)))
 exact bodyPost_ret (v := .tuple #[zC.V, .int .i64 3]) (by simp [results, Tryd.results21, go_sem, hc1, hf1, hz2, zC]) rfl ⟨rfl, bs' (bs' (bs' (bs' (bs' (bs' (bs' (bs' (bgo (bal (bal (Below.refl _ _) _) _) hb1) _ _ _) _ _ _) _ _ _) _ _ _) _ _ _) _ _ _) _ _ _) _ _ _⟩
theorem sget_yes (w : World) (b base : Nat) (tv : Value) (L : List Sn) (id : Int) (i : Nat) (x : Sn) (c : Cp) (h : SlotsAt w b base tv L) (hx : L[posS L id]? = some x) (hid : x.id = id) (hc : x.l[i]? = some c) :
  Calls Tryd.prog 21 #[.pointer (some ⟨b, 0, none⟩), .agg #[.int .i64 id, .int .i64 i]] w fun e w' => e = .returned (.tuple #[c.V, .int .i64 0]) ∧ Below w.heap.size w w' := by
 have H := Lib.hid h
 have hi := (lgs hc).1
 have HX := Lib.hid hx
 have HI := Lib.hid hid
 have HL := Lib.hid hi
 have hg : x.g < w.heap.size := h.glt (List.mem_of_getElem? hx)
 have HC := Lib.hid (fun (w' : World) (hb : Below w.heap.size w w') (j : Nat) (u : Value) (hu : c.L[j]? = some u) => (h.call hb).cell (List.mem_of_getElem? hx) hc hu)
 have hat : ∀ v, Below w.heap.size w v → Calls Tryd.prog 44 #[.pointer (some ⟨b, 0, none⟩), .agg #[.int .i64 id, .int .i64 i]] v fun e w' => e = .returned (.tuple #[.pointer (some ⟨x.g, i * 8, none⟩), .int .i64 0]) ∧ Below v.heap.size v w' := fun v hv => sat_yes v b base tv L id i x (h.call hv) hx hid hi
 have HA := Lib.hid hat
 clear h hx hid hc hi hat
 obtain ⟨gx, hgx⟩ : ∃ y, y = x.g := ⟨_, rfl⟩
 rw [← hgx] at HC HA hg
 clear hgx
 go_enter Tryd.func21, Tryd.ntmps21
 go_wp2_with (first
  | (go_at_call 44; refine (HA.out _ (bal (bal (Below.refl _ _) _) _)).mono ?_; rintro e w1 ⟨rfl, hb1⟩; have HB1 := Lib.hid (bgo (bal (bal (Below.refl w.heap.size w) _) _) hb1); obtain ⟨hc1, hf1⟩ := bcell hb1; have hz1 := hb1.size; have hz2 : w.heap.size + 1 < w1.heap.size := (by simp at hz1; omega); have k0 := HC.out w1 HB1.out 0 _ rfl; have k1 := HC.out w1 HB1.out 1 _ rfl; have k2 := HC.out w1 HB1.out 2 _ rfl; have k3 := HC.out w1 HB1.out 3 _ rfl; have k4 := HC.out w1 HB1.out 4 _ rfl; have k5 := HC.out w1 HB1.out 5 _ rfl; have k6 := HC.out w1 HB1.out 6 _ rfl; have k7 := HC.out w1 HB1.out 7 _ rfl; rw [Nat.add_zero] at k0))
 exact bodyPost_ret (v := .tuple #[c.V, .int .i64 0]) (by simp [results, Tryd.results21, go_sem, hc1, hf1, hz2]) rfl ⟨rfl, bs' (bs' (bs' (bs' (bs' (bs' (bs' (bs' (bgo (bal (bal (Below.refl _ _) _) _) hb1) _ _ _) _ _ _) _ _ _) _ _ _) _ _ _) _ _ _) _ _ _) _ _ _⟩
def putS (L : List Sn) (k : Nat) (x : Sn) (i : Nat) (c : Cp) : List Sn := L.set k ⟨x.id, x.g, x.l.set i c⟩
theorem rowsS_put {L : List Sn} {k : Nat} {x : Sn} (hk : L[k]? = some x) (i : Nat) (c : Cp) : rowsS (putS L k x i c) = rowsS L := by
 unfold rowsS putS
 apply List.ext_getElem?
 intro j
 rw [List.getElem?_map, List.getElem?_map, List.getElem?_set]
 have := (lgs hk).1
 by_cases e : k = j
 ·subst e
  rw [if_pos rfl, if_pos this, hk]
  simp [rowS, Sn.v]
 ·rw [if_neg e]
theorem mem_putS {L : List Sn} {k : Nat} {x : Sn} {i : Nat} {c : Cp} {y : Sn} (hp : L.Pairwise fun x y => x.g ≠ y.g) (hk : L[k]? = some x) (hy : y ∈ putS L k x i c) : y = ⟨x.id, x.g, x.l.set i c⟩ ∨ (y ∈ L ∧ y.g ≠ x.g) := by
 obtain ⟨j, hj⟩ := List.getElem?_of_mem hy
 unfold putS at hj
 rw [List.getElem?_set] at hj
 by_cases e : k = j
 ·subst e
  rw [if_pos rfl] at hj
  split at hj
  ·cases hj; exact .inl rfl
  ·cases hj
 ·rw [if_neg e] at hj
  refine .inr ⟨List.mem_of_getElem? hj, ?_⟩
  obtain ⟨hjl, rfl⟩ := lgs hj
  obtain ⟨hkl, rfl⟩ := lgs hk
  rcases Nat.lt_or_gt_of_ne e with q | q
  ·exact Ne.symm (List.pairwise_iff_getElem.1 hp k j hkl hjl q)
  ·exact List.pairwise_iff_getElem.1 hp j k hjl hkl q
theorem pair_putS {L : List Sn} {k : Nat} {x : Sn} {i : Nat} {c : Cp} (hp : L.Pairwise fun x y => x.g ≠ y.g) (hk : L[k]? = some x) : (putS L k x i c).Pairwise fun x y => x.g ≠ y.g := by
 have e : (putS L k x i c).map Sn.g = L.map Sn.g := by
  unfold putS
  apply List.ext_getElem?
  intro j
  rw [List.getElem?_map, List.getElem?_map, List.getElem?_set]
  have := (lgs hk).1
  by_cases e : k = j
  ·subst e
   rw [if_pos rfl, if_pos this, hk]
   rfl
  ·rw [if_neg e]
 have h1 : (L.map Sn.g).Pairwise (· ≠ ·) := List.pairwise_map.2 hp
 rw [← e] at h1
 exact List.pairwise_map.1 h1
theorem SlotsAt.put {w : World} {b base : Nat} {tv : Value} {L : List Sn} (h : SlotsAt w b base tv L) {k : Nat} {x : Sn} (hk : L[k]? = some x) {i : Nat} (hi : i < x.l.length) (c : Cp) :
  SlotsAt (setL w x.g (i * 8) c.L) b base tv (putS L k x i c) ∧ SOnly w (setL w x.g (i * 8) c.L) b tv tv L (putS L k x i c) := by
 have hx := List.mem_of_getElem? hk
 have eo := fun j (hj : j ≠ x.g) => setL_other hj c.L w (i * 8)
 obtain ⟨s1, s2, s3, s4⟩ := setL_rest (m := x.g) c.L w (i * 8)
 have em : (setL w x.g (i * 8) c.L).heap[x.g]? = some (.cells (flatC (x.l.set i c)).toArray 26 (0, 0)) := by
  rw [setL_same c.L w (i * 8) _ (h.blk x hx).1, putL_eq _ _ _ (by rw [flatC_len]; simp [Cp.L]; omega), flatC_set c hi]
  rfl
 have hbx : b ≠ x.g := Ne.symm (h.gne hx)
 refine ⟨⟨?_, fun y hy => ?_, pair_putS h.ap hk, fun y hy => ?_, fun y hy => ?_⟩, ⟨s1, s2, s3, Nat.le_of_eq s4.symm, fun j _ _ _ hL => eo j (fun e => hL x hx e.symm), fun j _ e => ?_⟩⟩
 ·rw [rowsS_put hk]
  exact h.tab.of (Nat.le_of_eq s4.symm) (World.cell?_of_block (eo b hbx)) (World.frozen?_of_block (eo b hbx)) (fun g hg => eo g (fun e => h.nt x hx (e ▸ hg)))
 ·rcases mem_putS h.ap hk hy with rfl | ⟨q1, q2⟩
  ·exact ⟨em, (h.blk x hx).2⟩
  ·exact ⟨(eo y.g q2).trans (h.blk y q1).1, (h.blk y q1).2⟩
 ·rcases mem_putS h.ap hk hy with rfl | ⟨q1, q2⟩
  ·exact h.nt x hx
  ·exact h.nt y q1
 ·rcases mem_putS h.ap hk hy with rfl | ⟨q1, q2⟩
  ·simpa using h.bd x hx
  ·exact h.bd y q1
 ·rcases e with e | ⟨y, hy, e⟩
  ·exact .inl e
  ·rcases mem_putS h.ap hk hy with rfl | ⟨q1, q2⟩
   ·exact .inr ⟨x, hx, e⟩
   ·exact .inr ⟨y, q1, e⟩
def mayC (c : Cp) : Bool := CX.capB c.a c.b c.c c.d c.e c.f c.g c.h
theorem sset_no (w : World) (b base : Nat) (tv : Value) (L : List Sn) (id ix : Int) (c : Cp) (h : SlotsAt w b base tv L) (hn : NoSlot L id ix) :
  Calls Tryd.prog 23 #[.pointer (some ⟨b, 0, none⟩), .agg #[.int .i64 id, .int .i64 ix], c.V] w fun e w' => e = .returned (.int .i64 3) ∧ Below w.heap.size w w' := by
 have H := Lib.hid h
 have HN := Lib.hid hn
 clear h hn
 go_enter Tryd.func23, Tryd.ntmps23
 go_wp2_with (first
  | (go_at_call 44; refine (sat_no _ b base tv L id ix (H.out.call (bal (bal (Below.refl _ _) _) _)) HN.out).mono ?_; rintro e w1 ⟨rfl, hb1⟩; obtain ⟨hc1, hf1⟩ := bcell hb1))
 go_ret
 exact ⟨rfl, bgo (bal (bal (Below.refl _ _) _) _) hb1⟩
theorem sset_form (w : World) (b base : Nat) (tv : Value) (L : List Sn) (id : Int) (i : Nat) (x : Sn) (c : Cp) (h : SlotsAt w b base tv L) (hT : CX.TabG w) (he : c.e ≤ 9223372036854775807) (hx : L[posS L id]? = some x) (hid : x.id = id) (hi : i < x.l.length) (hm : mayC c = false) :
  Calls Tryd.prog 23 #[.pointer (some ⟨b, 0, none⟩), .agg #[.int .i64 id, .int .i64 i], c.V] w fun e w' => e = .returned (.int .i64 5) ∧ Below w.heap.size w w' := by
 have hat : ∀ v, Below w.heap.size w v → Calls Tryd.prog 44 #[.pointer (some ⟨b, 0, none⟩), .agg #[.int .i64 id, .int .i64 i]] v fun e w' => e = .returned (.tuple #[.pointer (some ⟨x.g, i * 8, none⟩), .int .i64 0]) ∧ Below v.heap.size v w' := fun v hv => sat_yes v b base tv L id i x (h.call hv) hx hid hi
 have HA := Lib.hid hat
 have hmay : ∀ v, Below w.heap.size w v → Calls Tryd.prog 45 #[c.V] v fun e w' => e = .returned (.bool false) ∧ Below v.heap.size v w' := fun v hv => hm ▸ CX.capMay c.a c.b c.c c.d c.e c.f c.g c.h v (hT.call hv) he
 have HM := Lib.hid hmay
 clear h hx hid hi hat hmay hT he hm
 go_enter Tryd.func23, Tryd.ntmps23
 go_wp2_with (first
  | (go_at_call 44; refine (HA.out _ (bal (bal (Below.refl _ _) _) _)).mono ?_; rintro e w1 ⟨rfl, hb1⟩; have HB1 := Lib.hid (bgo (bal (bal (Below.refl w.heap.size w) _) _) hb1); obtain ⟨hc1, hf1⟩ := bcell hb1; have hz1 := hb1.size; have hz2 : w.heap.size + 1 < w1.heap.size := (by simp at hz1; omega))
  | (go_at_call 45; refine (HM.out _ HB1.out).mono ?_; rintro e w2 ⟨rfl, hb2⟩))
 go_ret
 exact ⟨rfl, bgo HB1.out hb2⟩
theorem setL_C (w : World) (m k : Nat) (c : Cp) : setL w m k c.L = (((((((w.setCell ⟨m, k, none⟩ (.int .i64 c.a)).setCell ⟨m, k + 1, none⟩ (.int .i64 c.b)).setCell ⟨m, k + 2, none⟩ (.int .i64 c.c)).setCell ⟨m, k + 3, none⟩ (.int .u64 c.d)).setCell ⟨m, k + 4, none⟩ (.int .i64 c.e)).setCell ⟨m, k + 5, none⟩ (.int .i64 c.f)).setCell ⟨m, k + 6, none⟩ (.int .i64 c.g)).setCell ⟨m, k + 7, none⟩ (.int .i64 c.h) := rfl
theorem sset_yes (w : World) (b base : Nat) (tv : Value) (L : List Sn) (id : Int) (i : Nat) (x : Sn) (c : Cp) (h : SlotsAt w b base tv L) (hT : CX.TabG w) (he : c.e ≤ 9223372036854775807) (hx : L[posS L id]? = some x) (hid : x.id = id) (hi : i < x.l.length) (hm : mayC c = true) :
  Calls Tryd.prog 23 #[.pointer (some ⟨b, 0, none⟩), .agg #[.int .i64 id, .int .i64 i], c.V] w fun e w' => e = .returned (.int .i64 0) ∧ SlotsAt w' b base tv (putS L (posS L id) x i c) ∧ SOnly w w' b tv tv L (putS L (posS L id) x i c) := by
 have hat : ∀ v, Below w.heap.size w v → Calls Tryd.prog 44 #[.pointer (some ⟨b, 0, none⟩), .agg #[.int .i64 id, .int .i64 i]] v fun e w' => e = .returned (.tuple #[.pointer (some ⟨x.g, i * 8, none⟩), .int .i64 0]) ∧ Below v.heap.size v w' := fun v hv => sat_yes v b base tv L id i x (h.call hv) hx hid hi
 have HA := Lib.hid hat
 have hmay : ∀ v, Below w.heap.size w v → Calls Tryd.prog 45 #[c.V] v fun e w' => e = .returned (.bool true) ∧ Below v.heap.size v w' := fun v hv => hm ▸ CX.capMay c.a c.b c.c c.d c.e c.f c.g c.h v (hT.call hv) he
 have HM := Lib.hid hmay
 have hmem := List.mem_of_getElem? hx
 have hg : x.g < w.heap.size := h.glt hmem
 obtain ⟨c0, hc0⟩ : ∃ c0, x.l[i]? = some c0 := ⟨_, List.getElem?_eq_getElem hi⟩
 have HC := Lib.hid (fun (w' : World) (hb : Below w.heap.size w w') (j : Nat) (u : Value) (hu : c0.L[j]? = some u) => (h.call hb).cell hmem hc0 hu)
 have HZ := Lib.hid (fun (w' : World) (hb : Below w.heap.size w w') (j : Nat) => (h.call hb).free hmem j)
 have hfin : ∀ w', Below w.heap.size w w' → SlotsAt (setL w' x.g (i * 8) c.L) b base tv (putS L (posS L id) x i c) ∧ SOnly w (setL w' x.g (i * 8) c.L) b tv tv L (putS L (posS L id) x i c) := by
  intro w' hb
  obtain ⟨q1, q2⟩ := (h.call hb).put hx hi c
  exact ⟨q1, q2.os.trans hb.os, q2.tape.trans hb.tape, q2.output.trans hb.output, Nat.le_trans hb.size q2.size, fun k hk p1 p2 p3 => (q2.block k (Nat.lt_of_lt_of_le hk hb.size) p1 p2 p3).trans (hb.block k hk), fun k hk e => q2.foot k (Nat.lt_of_lt_of_le hk hb.size) e⟩
 have HF := Lib.hid hfin
 clear h hx hid hi hat hmay hT he hm hc0 hmem hfin
 obtain ⟨gx, hgx⟩ : ∃ y, y = x.g := ⟨_, rfl⟩
 rw [← hgx] at HC HA hg HZ HF
 clear hgx
 go_enter Tryd.func23, Tryd.ntmps23
 go_wp2_with (first
  | (go_at_call 44; refine (HA.out _ (bal (bal (Below.refl _ _) _) _)).mono ?_; rintro e w1 ⟨rfl, hb1⟩; have HB1 := Lib.hid (bgo (bal (bal (Below.refl w.heap.size w) _) _) hb1); obtain ⟨hc1, hf1⟩ := bcell hb1; have hz1 := hb1.size; have hz2 : w.heap.size + 1 < w1.heap.size := (by simp at hz1; omega))
  | (go_at_call 45; refine (HM.out _ HB1.out).mono ?_; rintro e w2 ⟨rfl, hb2⟩; have HB2 := Lib.hid (bgo HB1.out hb2); obtain ⟨hc2, hf2⟩ := bcell hb2; have hz3 := hb2.size; have hz4 : gx < w2.heap.size := (Nat.lt_of_lt_of_le hg HB2.out.size); have k0 := HC.out w2 HB2.out 0 _ rfl; have k1 := HC.out w2 HB2.out 1 _ rfl; have k2 := HC.out w2 HB2.out 2 _ rfl; have k3 := HC.out w2 HB2.out 3 _ rfl; have k4 := HC.out w2 HB2.out 4 _ rfl; have k5 := HC.out w2 HB2.out 5 _ rfl; have k6 := HC.out w2 HB2.out 6 _ rfl; have k7 := HC.out w2 HB2.out 7 _ rfl; rw [Nat.add_zero] at k0; have f0 := HZ.out w2 HB2.out (i * 8); have f1 := HZ.out w2 HB2.out (i * 8 + 1); have f2 := HZ.out w2 HB2.out (i * 8 + 2); have f3 := HZ.out w2 HB2.out (i * 8 + 3); have f4 := HZ.out w2 HB2.out (i * 8 + 4); have f5 := HZ.out w2 HB2.out (i * 8 + 5); have f6 := HZ.out w2 HB2.out (i * 8 + 6); have f7 := HZ.out w2 HB2.out (i * 8 + 7)))
 go_ret
 have hs := HF.out w2 HB2.out
 rw [setL_C] at hs
 exact ⟨rfl, hs⟩
end TabS
end
end Go.Proofs.YtekllgejmgoajaaDoor
