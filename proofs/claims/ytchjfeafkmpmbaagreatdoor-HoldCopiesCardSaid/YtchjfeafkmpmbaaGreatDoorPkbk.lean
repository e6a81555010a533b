import Derived.Test.YtchjfeafkmpmbaaGreatDoorPkbj
namespace Go.Proofs.YtchjfeafkmpmbaaGreatDoor
set_option linter.unusedVariables false
set_option linter.unusedSimpArgs false
set_option maxRecDepth 100000
set_option maxHeartbeats 8000000
open Lib (hid)
section
open Go.ChangeShapes Go.WideShapes Go.ChangeAt Go.RowKit Go.Shelf
namespace HdS
open TabS (Cp Sn zC mayC sizS getR getN Two Pr FootP foot_ltP foot_ltR SameS AddRel addSR setN setM rowsS hasS dropSR dropSL heldA hdsC)
variable {W w w' : World} {s : Sh} {hb rhb n n' t : Nat} {L M L' M' : List Sn} {l l2 l' l2' : List Nod} {S T : Nat → Prop}
theorem ac15 {w : World} {k : Nat} {d o i p j ca cb cx cd ce cf cg ch m : Int} {u : Nat} (h : w.heap[k]? = some (.cells #[.int .i64 d, .int .i64 o, .int .i64 i, .int .i64 p, .int .i64 j, .int .i64 ca, .int .i64 cb, .int .i64 cx, .int .u64 cd, .int .i64 ce, .int .i64 cf, .int .i64 cg, .int .i64 ch, .int .i64 m, .int .u64 u] 35 (0, 0))) (hr : w.cell? ⟨rhb, 0, none⟩ = some (.pointer (some ⟨s.srb, 0, none⟩))) : w.cell? ⟨k, 1, none⟩ = some (.int .i64 o) ∧ w.cell? ⟨k, 2, none⟩ = some (.int .i64 i) ∧ w.cell? ⟨k, 3, none⟩ = some (.int .i64 p) ∧ w.cell? ⟨k, 4, none⟩ = some (.int .i64 j) ∧ w.cell? ⟨k, 5, none⟩ = some (.int .i64 ca) ∧ w.cell? ⟨k, 6, none⟩ = some (.int .i64 cb) ∧ w.cell? ⟨k, 7, none⟩ = some (.int .i64 cx) ∧ w.cell? ⟨k, 8, none⟩ = some (.int .u64 cd) ∧ w.cell? ⟨k, 9, none⟩ = some (.int .i64 ce) ∧ w.cell? ⟨k, 10, none⟩ = some (.int .i64 cf) ∧ w.cell? ⟨k, 11, none⟩ = some (.int .i64 cg) ∧ w.cell? ⟨k, 12, none⟩ = some (.int .i64 ch) ∧ w.cell? ⟨k, 13, none⟩ = some (.int .i64 m) ∧ w.cell? ⟨k, 14, none⟩ = some (.int .u64 u) ∧ w.cell? ⟨rhb, 0, none⟩ = some (.pointer (some ⟨s.srb, 0, none⟩)) :=
 ⟨cell_cur (cur := [.int .i64 d, .int .i64 o, .int .i64 i, .int .i64 p, .int .i64 j, .int .i64 ca, .int .i64 cb, .int .i64 cx, .int .u64 cd, .int .i64 ce, .int .i64 cf, .int .i64 cg, .int .i64 ch, .int .i64 m, .int .u64 u]) h 1, cell_cur (cur := [.int .i64 d, .int .i64 o, .int .i64 i, .int .i64 p, .int .i64 j, .int .i64 ca, .int .i64 cb, .int .i64 cx, .int .u64 cd, .int .i64 ce, .int .i64 cf, .int .i64 cg, .int .i64 ch, .int .i64 m, .int .u64 u]) h 2, cell_cur (cur := [.int .i64 d, .int .i64 o, .int .i64 i, .int .i64 p, .int .i64 j, .int .i64 ca, .int .i64 cb, .int .i64 cx, .int .u64 cd, .int .i64 ce, .int .i64 cf, .int .i64 cg, .int .i64 ch, .int .i64 m, .int .u64 u]) h 3, cell_cur (cur := [.int .i64 d, .int .i64 o, .int .i64 i, .int .i64 p, .int .i64 j, .int .i64 ca, .int .i64 cb, .int .i64 cx, .int .u64 cd, .int .i64 ce, .int .i64 cf, .int .i64 cg, .int .i64 ch, .int .i64 m, .int .u64 u]) h 4, cell_cur (cur := [.int .i64 d, .int .i64 o, .int .i64 i, .int .i64 p, .int .i64 j, .int .i64 ca, .int .i64 cb, .int .i64 cx, .int .u64 cd, .int .i64 ce, .int .i64 cf, .int .i64 cg, .int .i64 ch, .int .i64 m, .int .u64 u]) h 5, cell_cur (cur := [.int .i64 d, .int .i64 o, .int .i64 i, .int .i64 p, .int .i64 j, .int .i64 ca, .int .i64 cb, .int .i64 cx, .int .u64 cd, .int .i64 ce, .int .i64 cf, .int .i64 cg, .int .i64 ch, .int .i64 m, .int .u64 u]) h 6, cell_cur (cur := [.int .i64 d, .int .i64 o, .int .i64 i, .int .i64 p, .int .i64 j, .int .i64 ca, .int .i64 cb, .int .i64 cx, .int .u64 cd, .int .i64 ce, .int .i64 cf, .int .i64 cg, .int .i64 ch, .int .i64 m, .int .u64 u]) h 7, cell_cur (cur := [.int .i64 d, .int .i64 o, .int .i64 i, .int .i64 p, .int .i64 j, .int .i64 ca, .int .i64 cb, .int .i64 cx, .int .u64 cd, .int .i64 ce, .int .i64 cf, .int .i64 cg, .int .i64 ch, .int .i64 m, .int .u64 u]) h 8, cell_cur (cur := [.int .i64 d, .int .i64 o, .int .i64 i, .int .i64 p, .int .i64 j, .int .i64 ca, .int .i64 cb, .int .i64 cx, .int .u64 cd, .int .i64 ce, .int .i64 cf, .int .i64 cg, .int .i64 ch, .int .i64 m, .int .u64 u]) h 9, cell_cur (cur := [.int .i64 d, .int .i64 o, .int .i64 i, .int .i64 p, .int .i64 j, .int .i64 ca, .int .i64 cb, .int .i64 cx, .int .u64 cd, .int .i64 ce, .int .i64 cf, .int .i64 cg, .int .i64 ch, .int .i64 m, .int .u64 u]) h 10, cell_cur (cur := [.int .i64 d, .int .i64 o, .int .i64 i, .int .i64 p, .int .i64 j, .int .i64 ca, .int .i64 cb, .int .i64 cx, .int .u64 cd, .int .i64 ce, .int .i64 cf, .int .i64 cg, .int .i64 ch, .int .i64 m, .int .u64 u]) h 11, cell_cur (cur := [.int .i64 d, .int .i64 o, .int .i64 i, .int .i64 p, .int .i64 j, .int .i64 ca, .int .i64 cb, .int .i64 cx, .int .u64 cd, .int .i64 ce, .int .i64 cf, .int .i64 cg, .int .i64 ch, .int .i64 m, .int .u64 u]) h 12, cell_cur (cur := [.int .i64 d, .int .i64 o, .int .i64 i, .int .i64 p, .int .i64 j, .int .i64 ca, .int .i64 cb, .int .i64 cx, .int .u64 cd, .int .i64 ce, .int .i64 cf, .int .i64 cg, .int .i64 ch, .int .i64 m, .int .u64 u]) h 13, cell_cur (cur := [.int .i64 d, .int .i64 o, .int .i64 i, .int .i64 p, .int .i64 j, .int .i64 ca, .int .i64 cb, .int .i64 cx, .int .u64 cd, .int .i64 ce, .int .i64 cf, .int .i64 cg, .int .i64 ch, .int .i64 m, .int .u64 u]) h 14, hr⟩
theorem act2 {w : World} {k : Nat} {d o i p j ca cb cx cd ce cf cg ch m : Int} {u : Nat} (h : w.heap[k]? = some (.cells #[.int .i64 d, .int .i64 o, .int .i64 i, .int .i64 p, .int .i64 j, .int .i64 ca, .int .i64 cb, .int .i64 cx, .int .u64 cd, .int .i64 ce, .int .i64 cf, .int .i64 cg, .int .i64 ch, .int .i64 m, .int .u64 u] 35 (0, 0))) : w.cell? ⟨k, 1, none⟩ = some (.int .i64 o) ∧ w.cell? ⟨k, 2, none⟩ = some (.int .i64 i) :=
 ⟨cell_cur (cur := [.int .i64 d, .int .i64 o, .int .i64 i, .int .i64 p, .int .i64 j, .int .i64 ca, .int .i64 cb, .int .i64 cx, .int .u64 cd, .int .i64 ce, .int .i64 cf, .int .i64 cg, .int .i64 ch, .int .i64 m, .int .u64 u]) h 1, cell_cur (cur := [.int .i64 d, .int .i64 o, .int .i64 i, .int .i64 p, .int .i64 j, .int .i64 ca, .int .i64 cb, .int .i64 cx, .int .u64 cd, .int .i64 ce, .int .i64 cf, .int .i64 cg, .int .i64 ch, .int .i64 m, .int .u64 u]) h 2⟩
theorem act_clear (hT0 : CX.TabG W) (ht : t ≤ 110) (h : HSt W s hb rhb t T w) (o i : Int) (ho : InS o) (hi : InS i) : ∃ (c : Cp) (k : Int), Calls Tryz.prog 27 #[.pointer (some ⟨hb, 0, none⟩), slV o i] w fun e w' => e = .returned (.tuple #[c.V, .int .i64 k]) ∧ SameK T w w' ∧ rhb < w'.heap.size ∧ ∀ w1, Below w'.heap.size w' w1 → Calls Tryz.prog 44 #[.pointer (some ⟨rhb, 0, none⟩), slV o i] w1 fun e w'' => e = .returned (.tuple #[c.V, .int .i64 k]) ∧ HSt W s hb rhb (t + 1) (fun k => T k ∨ New w' w1 k) w'' ∧ SameK (fun k => T k ∨ New w' w1 k) w1 w'' := by
 obtain ⟨L, M, l, h1, hI, hs, hlen⟩ := h
 have hML : M.length = L.length := hs.len.symm
 have hA := hs.asc h1.asc
 by_cases hon : fullN L o i = 0
 ·refine ⟨gt L o i, 0, (hclear_yes h1 hT0 o i ho hi (by omega) hon).mono ?_⟩
  rintro e w1 ⟨rfl, g1, k1⟩
  obtain ⟨hI', hz⟩ := hI.clear hon g1.once
  rw [hz]
  refine ⟨rfl, k1, g1.rc.2.2, fun w1' hb1 => ?_⟩
  have g1' := g1.fresh hb1
  refine (rclear_yes g1' hA (by omega) o i hI.dep (by rw [full_same hs]; exact hon)).mono ?_
  rintro e w2 ⟨rfl, g2, k2⟩
  exact ⟨by rw [gt_same hs], ⟨_, _, _, g2.mono (by omega), hI', (TabS.set_same hs o i zC).2, by rw [TabS.set_len]; omega⟩, k2⟩
 ·refine ⟨zC, fullN L o i, (hclear_no h1 o i hon).mono ?_⟩
  rintro e w1 ⟨rfl, b1⟩
  have g1 := h1.call b1
  refine ⟨rfl, h1.same b1, g1.rc.2.2, fun w1' hb1 => ?_⟩
  have g1' := g1.fresh hb1
  refine (rclear_no g1' hA (by omega) o i (by rw [full_same hs]; exact hon)).mono ?_
  rintro e w2 ⟨rfl, b2⟩
  refine ⟨?_, ⟨L, M, l, (g1'.call b2).mono (by omega), hI, hs, by omega⟩, fun k q => b2.block k (g1'.lt q)⟩
  have : rclC M o i = zC := by
   unfold rclC
   rw [gn_same hs, gt_same hs]
   by_cases q : gn L o i = 0
   ·rw [if_neg (fun e => e q)]
    by_cases qa : (gt L o i).a = 0
    ·exact zero_of (hI.may o i) qa
    ·exact absurd (full_iff.2 qa) hon
   ·rw [if_pos q]
  rw [this, full_same hs]
theorem done_0 (hT0 : CX.TabG W) (ht : t ≤ 110) (h : HSt W s hb rhb t S w) (o i p j ca cb cx cd ce cf cg ch m : Int) (u : Nat) (ho : InS o) (hi : InS i) (hp : InS p) (hj : InS j) (he : ce ≤ 9223372036854775807) (hu : u < 2 ^ 64) :
  Calls Tryz.prog 10 #[.pointer (some ⟨hb, 0, none⟩), .pointer (some ⟨rhb, 0, none⟩), .agg #[.int .i64 0, .int .i64 o, .int .i64 i, .int .i64 p, .int .i64 j, .int .i64 ca, .int .i64 cb, .int .i64 cx, .int .u64 cd, .int .i64 ce, .int .i64 cf, .int .i64 cg, .int .i64 ch, .int .i64 m, .int .u64 u]] w fun e w' => e = .returned (.bool true) ∧ HSt W s hb rhb (t + 1) S w' ∧ SameK S w w' := by
 obtain ⟨wA, hwA⟩ : ∃ y, y = w.alloc (.cells #[.int .i64 0, .int .i64 o, .int .i64 i, .int .i64 p, .int .i64 j, .int .i64 ca, .int .i64 cb, .int .i64 cx, .int .u64 cd, .int .i64 ce, .int .i64 cf, .int .i64 cg, .int .i64 ch, .int .i64 m, .int .u64 u] 35) := ⟨_, rfl⟩
 have hb1 : Below w.heap.size w wA := hwA ▸ bal (Below.refl _ _) _
 have hx1 : wA.heap[w.heap.size]? = some (.cells #[.int .i64 0, .int .i64 o, .int .i64 i, .int .i64 p, .int .i64 j, .int .i64 ca, .int .i64 cb, .int .i64 cx, .int .u64 cd, .int .i64 ce, .int .i64 cf, .int .i64 cg, .int .i64 ch, .int .i64 m, .int .u64 u] 35 (0, 0)) := by rw [hwA]; exact heap_alloc_new w _
 have hf := (h.fresh hb1)
 have hfd := hf.call (show Below wA.heap.size wA wA.drew from (Below.refl _ _).drew)
 obtain ⟨k, hk⟩ := act_root hT0 ht hfd o i ⟨ca, cb, cx, cd, ce, cf, cg, ch⟩ ho hi he
 have HT1 := hid hk
 have HX1 := hid hx1
 have HN : Hid (New w wA w.heap.size) := hid ⟨Nat.le_refl _, (ags hx1).1⟩
 have HA := hid (ac15 (s := s) (rhb := rhb) hx1 hf.rc.1)
 have HAd : Hid (wA.drew.cell? ⟨w.heap.size, 1, none⟩ = some (.int .i64 o) ∧ wA.drew.cell? ⟨w.heap.size, 2, none⟩ = some (.int .i64 i) ∧ wA.drew.cell? ⟨w.heap.size, 3, none⟩ = some (.int .i64 p) ∧ wA.drew.cell? ⟨w.heap.size, 4, none⟩ = some (.int .i64 j) ∧ wA.drew.cell? ⟨w.heap.size, 5, none⟩ = some (.int .i64 ca) ∧ wA.drew.cell? ⟨w.heap.size, 6, none⟩ = some (.int .i64 cb) ∧ wA.drew.cell? ⟨w.heap.size, 7, none⟩ = some (.int .i64 cx) ∧ wA.drew.cell? ⟨w.heap.size, 8, none⟩ = some (.int .u64 cd) ∧ wA.drew.cell? ⟨w.heap.size, 9, none⟩ = some (.int .i64 ce) ∧ wA.drew.cell? ⟨w.heap.size, 10, none⟩ = some (.int .i64 cf) ∧ wA.drew.cell? ⟨w.heap.size, 11, none⟩ = some (.int .i64 cg) ∧ wA.drew.cell? ⟨w.heap.size, 12, none⟩ = some (.int .i64 ch) ∧ wA.drew.cell? ⟨w.heap.size, 13, none⟩ = some (.int .i64 m) ∧ wA.drew.cell? ⟨w.heap.size, 14, none⟩ = some (.int .u64 u) ∧ wA.drew.cell? ⟨rhb, 0, none⟩ = some (.pointer (some ⟨s.srb, 0, none⟩))) := hid HA.out
 have HS0 : Hid (SameK S w wA) := hid (fun k q => hb1.block k (h.lt q))
 have HW := hid hwA
 clear hk hx1 hf hfd hwA hb1 h hT0 ho hi hp hj he hu ht
 go_enter Tryz.func10, Tryz.ntmps10
 go_upto_region 3 with fail
 rw [show w.alloc (.cells #[.int .i64 0, .int .i64 o, .int .i64 i, .int .i64 p, .int .i64 j, .int .i64 ca, .int .i64 cb, .int .i64 cx, .int .u64 cd, .int .i64 ce, .int .i64 cf, .int .i64 cg, .int .i64 ch, .int .i64 m, .int .u64 u] 35) = wA from HW.out.symm]
 go_region_held3 (fun w' => w'.cell? ⟨w.heap.size, 1, none⟩ = some (.int .i64 o) ∧ w'.cell? ⟨w.heap.size, 2, none⟩ = some (.int .i64 i) ∧ w'.cell? ⟨w.heap.size, 3, none⟩ = some (.int .i64 p) ∧ w'.cell? ⟨w.heap.size, 4, none⟩ = some (.int .i64 j) ∧ w'.cell? ⟨w.heap.size, 5, none⟩ = some (.int .i64 ca) ∧ w'.cell? ⟨w.heap.size, 6, none⟩ = some (.int .i64 cb) ∧ w'.cell? ⟨w.heap.size, 7, none⟩ = some (.int .i64 cx) ∧ w'.cell? ⟨w.heap.size, 8, none⟩ = some (.int .u64 cd) ∧ w'.cell? ⟨w.heap.size, 9, none⟩ = some (.int .i64 ce) ∧ w'.cell? ⟨w.heap.size, 10, none⟩ = some (.int .i64 cf) ∧ w'.cell? ⟨w.heap.size, 11, none⟩ = some (.int .i64 cg) ∧ w'.cell? ⟨w.heap.size, 12, none⟩ = some (.int .i64 ch) ∧ w'.cell? ⟨w.heap.size, 13, none⟩ = some (.int .i64 m) ∧ w'.cell? ⟨w.heap.size, 14, none⟩ = some (.int .u64 u) ∧ w'.cell? ⟨rhb, 0, none⟩ = some (.pointer (some ⟨s.srb, 0, none⟩)))
  (first | (with_reducible exact HA.out) | (with_reducible exact HAd.out) | (with_reducible exact HA2.out) | (with_reducible exact HA4.out))
  (first
   | (go_at_call 33; (with_reducible refine (TabS.num_s _ _).mono ?_); rintro e w3 ⟨rfl, rfl⟩)
   | (go_at_call 34; (with_reducible refine HT2.out.mono ?_); rintro e w4 ⟨rfl, h4, hk4⟩; have H4 := hid h4; have HK4 := hid hk4; have HA4 := hid (ac15 (s := s) (rhb := rhb) ((hk4 _ (.inr HN.out)).trans HX2.out) h4.rc.1); clear h4 hk4)
   | (go_at_call 30; (with_reducible refine HT1.out.mono ?_); rintro e w2 ⟨rfl, hk2, hr2, h2⟩; have HT2 := hid h2; have HK2 := hid hk2; have HX2 := hid ((hk2 _ (.inr HN.out)).trans HX1.out); have HA2 := hid (ac15 (s := s) (rhb := rhb) HX2.out hr2.1); clear h2 hk2 hr2))
 all_goals
  go_wp2
  go_ret
  exact ⟨rfl, H4.out.weak (fun k q => .inl q), fun k q => (HK4.out k (.inl q)).trans ((HK2.out k (.inl q)).trans (HS0.out k q))⟩
theorem done_1 (hT0 : CX.TabG W) (ht : t ≤ 110) (h : HSt W s hb rhb t S w) (o i p j ca cb cx cd ce cf cg ch m : Int) (u : Nat) (ho : InS o) (hi : InS i) (hp : InS p) (hj : InS j) (he : ce ≤ 9223372036854775807) (hu : u < 2 ^ 64) :
  Calls Tryz.prog 10 #[.pointer (some ⟨hb, 0, none⟩), .pointer (some ⟨rhb, 0, none⟩), .agg #[.int .i64 1, .int .i64 o, .int .i64 i, .int .i64 p, .int .i64 j, .int .i64 ca, .int .i64 cb, .int .i64 cx, .int .u64 cd, .int .i64 ce, .int .i64 cf, .int .i64 cg, .int .i64 ch, .int .i64 m, .int .u64 u]] w fun e w' => e = .returned (.bool true) ∧ HSt W s hb rhb (t + 1) S w' ∧ SameK S w w' := by
 obtain ⟨wA, hwA⟩ : ∃ y, y = w.alloc (.cells #[.int .i64 1, .int .i64 o, .int .i64 i, .int .i64 p, .int .i64 j, .int .i64 ca, .int .i64 cb, .int .i64 cx, .int .u64 cd, .int .i64 ce, .int .i64 cf, .int .i64 cg, .int .i64 ch, .int .i64 m, .int .u64 u] 35) := ⟨_, rfl⟩
 have hb1 : Below w.heap.size w wA := hwA ▸ bal (Below.refl _ _) _
 have hx1 : wA.heap[w.heap.size]? = some (.cells #[.int .i64 1, .int .i64 o, .int .i64 i, .int .i64 p, .int .i64 j, .int .i64 ca, .int .i64 cb, .int .i64 cx, .int .u64 cd, .int .i64 ce, .int .i64 cf, .int .i64 cg, .int .i64 ch, .int .i64 m, .int .u64 u] 35 (0, 0)) := by rw [hwA]; exact heap_alloc_new w _
 have hf := (h.fresh hb1)
 have hfd := hf.call (show Below wA.heap.size wA wA.drew from (Below.refl _ _).drew)
 obtain ⟨k, hk⟩ := act_child hT0 ht hfd o i p j ⟨ca, cb, cx, cd, ce, cf, cg, ch⟩ ho hi hp hj he
 have HT1 := hid hk
 have HX1 := hid hx1
 have HN : Hid (New w wA w.heap.size) := hid ⟨Nat.le_refl _, (ags hx1).1⟩
 have HA := hid (ac15 (s := s) (rhb := rhb) hx1 hf.rc.1)
 have HAd : Hid (wA.drew.cell? ⟨w.heap.size, 1, none⟩ = some (.int .i64 o) ∧ wA.drew.cell? ⟨w.heap.size, 2, none⟩ = some (.int .i64 i) ∧ wA.drew.cell? ⟨w.heap.size, 3, none⟩ = some (.int .i64 p) ∧ wA.drew.cell? ⟨w.heap.size, 4, none⟩ = some (.int .i64 j) ∧ wA.drew.cell? ⟨w.heap.size, 5, none⟩ = some (.int .i64 ca) ∧ wA.drew.cell? ⟨w.heap.size, 6, none⟩ = some (.int .i64 cb) ∧ wA.drew.cell? ⟨w.heap.size, 7, none⟩ = some (.int .i64 cx) ∧ wA.drew.cell? ⟨w.heap.size, 8, none⟩ = some (.int .u64 cd) ∧ wA.drew.cell? ⟨w.heap.size, 9, none⟩ = some (.int .i64 ce) ∧ wA.drew.cell? ⟨w.heap.size, 10, none⟩ = some (.int .i64 cf) ∧ wA.drew.cell? ⟨w.heap.size, 11, none⟩ = some (.int .i64 cg) ∧ wA.drew.cell? ⟨w.heap.size, 12, none⟩ = some (.int .i64 ch) ∧ wA.drew.cell? ⟨w.heap.size, 13, none⟩ = some (.int .i64 m) ∧ wA.drew.cell? ⟨w.heap.size, 14, none⟩ = some (.int .u64 u) ∧ wA.drew.cell? ⟨rhb, 0, none⟩ = some (.pointer (some ⟨s.srb, 0, none⟩))) := hid HA.out
 have HS0 : Hid (SameK S w wA) := hid (fun k q => hb1.block k (h.lt q))
 have HW := hid hwA
 clear hk hx1 hf hfd hwA hb1 h hT0 ho hi hp hj he hu ht
 go_enter Tryz.func10, Tryz.ntmps10
 go_upto_region 5 with fail
 rw [show w.alloc (.cells #[.int .i64 1, .int .i64 o, .int .i64 i, .int .i64 p, .int .i64 j, .int .i64 ca, .int .i64 cb, .int .i64 cx, .int .u64 cd, .int .i64 ce, .int .i64 cf, .int .i64 cg, .int .i64 ch, .int .i64 m, .int .u64 u] 35) = wA from HW.out.symm]
 go_region_held3 (fun w' => w'.cell? ⟨w.heap.size, 1, none⟩ = some (.int .i64 o) ∧ w'.cell? ⟨w.heap.size, 2, none⟩ = some (.int .i64 i) ∧ w'.cell? ⟨w.heap.size, 3, none⟩ = some (.int .i64 p) ∧ w'.cell? ⟨w.heap.size, 4, none⟩ = some (.int .i64 j) ∧ w'.cell? ⟨w.heap.size, 5, none⟩ = some (.int .i64 ca) ∧ w'.cell? ⟨w.heap.size, 6, none⟩ = some (.int .i64 cb) ∧ w'.cell? ⟨w.heap.size, 7, none⟩ = some (.int .i64 cx) ∧ w'.cell? ⟨w.heap.size, 8, none⟩ = some (.int .u64 cd) ∧ w'.cell? ⟨w.heap.size, 9, none⟩ = some (.int .i64 ce) ∧ w'.cell? ⟨w.heap.size, 10, none⟩ = some (.int .i64 cf) ∧ w'.cell? ⟨w.heap.size, 11, none⟩ = some (.int .i64 cg) ∧ w'.cell? ⟨w.heap.size, 12, none⟩ = some (.int .i64 ch) ∧ w'.cell? ⟨w.heap.size, 13, none⟩ = some (.int .i64 m) ∧ w'.cell? ⟨w.heap.size, 14, none⟩ = some (.int .u64 u) ∧ w'.cell? ⟨rhb, 0, none⟩ = some (.pointer (some ⟨s.srb, 0, none⟩)))
  (first | (with_reducible exact HA.out) | (with_reducible exact HAd.out) | (with_reducible exact HA2.out) | (with_reducible exact HA4.out))
  (first
   | (go_at_call 33; (with_reducible refine (TabS.num_s _ _).mono ?_); rintro e w3 ⟨rfl, rfl⟩)
   | (go_at_call 36; (with_reducible refine HT2.out.mono ?_); rintro e w4 ⟨rfl, h4, hk4⟩; have H4 := hid h4; have HK4 := hid hk4; have HA4 := hid (ac15 (s := s) (rhb := rhb) ((hk4 _ (.inr HN.out)).trans HX2.out) h4.rc.1); clear h4 hk4)
   | (go_at_call 35; (with_reducible refine HT1.out.mono ?_); rintro e w2 ⟨rfl, hk2, hr2, h2⟩; have HT2 := hid h2; have HK2 := hid hk2; have HX2 := hid ((hk2 _ (.inr HN.out)).trans HX1.out); have HA2 := hid (ac15 (s := s) (rhb := rhb) HX2.out hr2.1); clear h2 hk2 hr2))
 all_goals
  go_wp2
  go_ret
  exact ⟨rfl, H4.out.weak (fun k q => .inl q), fun k q => (HK4.out k (.inl q)).trans ((HK2.out k (.inl q)).trans (HS0.out k q))⟩
theorem done_2 (hT0 : CX.TabG W) (ht : t ≤ 110) (h : HSt W s hb rhb t S w) (o i p j ca cb cx cd ce cf cg ch m : Int) (u : Nat) (ho : InS o) (hi : InS i) (hp : InS p) (hj : InS j) (he : ce ≤ 9223372036854775807) (hu : u < 2 ^ 64) :
  Calls Tryz.prog 10 #[.pointer (some ⟨hb, 0, none⟩), .pointer (some ⟨rhb, 0, none⟩), .agg #[.int .i64 2, .int .i64 o, .int .i64 i, .int .i64 p, .int .i64 j, .int .i64 ca, .int .i64 cb, .int .i64 cx, .int .u64 cd, .int .i64 ce, .int .i64 cf, .int .i64 cg, .int .i64 ch, .int .i64 m, .int .u64 u]] w fun e w' => e = .returned (.bool true) ∧ HSt W s hb rhb (t + 1) S w' ∧ SameK S w w' := by
 obtain ⟨wA, hwA⟩ : ∃ y, y = w.alloc (.cells #[.int .i64 2, .int .i64 o, .int .i64 i, .int .i64 p, .int .i64 j, .int .i64 ca, .int .i64 cb, .int .i64 cx, .int .u64 cd, .int .i64 ce, .int .i64 cf, .int .i64 cg, .int .i64 ch, .int .i64 m, .int .u64 u] 35) := ⟨_, rfl⟩
 have hb1 : Below w.heap.size w wA := hwA ▸ bal (Below.refl _ _) _
 have hx1 : wA.heap[w.heap.size]? = some (.cells #[.int .i64 2, .int .i64 o, .int .i64 i, .int .i64 p, .int .i64 j, .int .i64 ca, .int .i64 cb, .int .i64 cx, .int .u64 cd, .int .i64 ce, .int .i64 cf, .int .i64 cg, .int .i64 ch, .int .i64 m, .int .u64 u] 35 (0, 0)) := by rw [hwA]; exact heap_alloc_new w _
 have hf := (h.fresh hb1)
 have hfd := hf.call (show Below wA.heap.size wA wA.drew from (Below.refl _ _).drew)
 obtain ⟨k, hk⟩ := act_set hT0 ht hfd o i ⟨ca, cb, cx, cd, ce, cf, cg, ch⟩ ho hi he
 have HT1 := hid hk
 have HX1 := hid hx1
 have HN : Hid (New w wA w.heap.size) := hid ⟨Nat.le_refl _, (ags hx1).1⟩
 have HA := hid (ac15 (s := s) (rhb := rhb) hx1 hf.rc.1)
 have HAd : Hid (wA.drew.cell? ⟨w.heap.size, 1, none⟩ = some (.int .i64 o) ∧ wA.drew.cell? ⟨w.heap.size, 2, none⟩ = some (.int .i64 i) ∧ wA.drew.cell? ⟨w.heap.size, 3, none⟩ = some (.int .i64 p) ∧ wA.drew.cell? ⟨w.heap.size, 4, none⟩ = some (.int .i64 j) ∧ wA.drew.cell? ⟨w.heap.size, 5, none⟩ = some (.int .i64 ca) ∧ wA.drew.cell? ⟨w.heap.size, 6, none⟩ = some (.int .i64 cb) ∧ wA.drew.cell? ⟨w.heap.size, 7, none⟩ = some (.int .i64 cx) ∧ wA.drew.cell? ⟨w.heap.size, 8, none⟩ = some (.int .u64 cd) ∧ wA.drew.cell? ⟨w.heap.size, 9, none⟩ = some (.int .i64 ce) ∧ wA.drew.cell? ⟨w.heap.size, 10, none⟩ = some (.int .i64 cf) ∧ wA.drew.cell? ⟨w.heap.size, 11, none⟩ = some (.int .i64 cg) ∧ wA.drew.cell? ⟨w.heap.size, 12, none⟩ = some (.int .i64 ch) ∧ wA.drew.cell? ⟨w.heap.size, 13, none⟩ = some (.int .i64 m) ∧ wA.drew.cell? ⟨w.heap.size, 14, none⟩ = some (.int .u64 u) ∧ wA.drew.cell? ⟨rhb, 0, none⟩ = some (.pointer (some ⟨s.srb, 0, none⟩))) := hid HA.out
 have HS0 : Hid (SameK S w wA) := hid (fun k q => hb1.block k (h.lt q))
 have HW := hid hwA
 clear hk hx1 hf hfd hwA hb1 h hT0 ho hi hp hj he hu ht
 go_enter Tryz.func10, Tryz.ntmps10
 go_upto_region 7 with fail
 rw [show w.alloc (.cells #[.int .i64 2, .int .i64 o, .int .i64 i, .int .i64 p, .int .i64 j, .int .i64 ca, .int .i64 cb, .int .i64 cx, .int .u64 cd, .int .i64 ce, .int .i64 cf, .int .i64 cg, .int .i64 ch, .int .i64 m, .int .u64 u] 35) = wA from HW.out.symm]
 go_region_held3 (fun w' => w'.cell? ⟨w.heap.size, 1, none⟩ = some (.int .i64 o) ∧ w'.cell? ⟨w.heap.size, 2, none⟩ = some (.int .i64 i) ∧ w'.cell? ⟨w.heap.size, 3, none⟩ = some (.int .i64 p) ∧ w'.cell? ⟨w.heap.size, 4, none⟩ = some (.int .i64 j) ∧ w'.cell? ⟨w.heap.size, 5, none⟩ = some (.int .i64 ca) ∧ w'.cell? ⟨w.heap.size, 6, none⟩ = some (.int .i64 cb) ∧ w'.cell? ⟨w.heap.size, 7, none⟩ = some (.int .i64 cx) ∧ w'.cell? ⟨w.heap.size, 8, none⟩ = some (.int .u64 cd) ∧ w'.cell? ⟨w.heap.size, 9, none⟩ = some (.int .i64 ce) ∧ w'.cell? ⟨w.heap.size, 10, none⟩ = some (.int .i64 cf) ∧ w'.cell? ⟨w.heap.size, 11, none⟩ = some (.int .i64 cg) ∧ w'.cell? ⟨w.heap.size, 12, none⟩ = some (.int .i64 ch) ∧ w'.cell? ⟨w.heap.size, 13, none⟩ = some (.int .i64 m) ∧ w'.cell? ⟨w.heap.size, 14, none⟩ = some (.int .u64 u) ∧ w'.cell? ⟨rhb, 0, none⟩ = some (.pointer (some ⟨s.srb, 0, none⟩)))
  (first | (with_reducible exact HA.out) | (with_reducible exact HAd.out) | (with_reducible exact HA2.out) | (with_reducible exact HA4.out))
  (first
   | (go_at_call 33; (with_reducible refine (TabS.num_s _ _).mono ?_); rintro e w3 ⟨rfl, rfl⟩)
   | (go_at_call 38; (with_reducible refine HT2.out.mono ?_); rintro e w4 ⟨rfl, h4, hk4⟩; have H4 := hid h4; have HK4 := hid hk4; have HA4 := hid (ac15 (s := s) (rhb := rhb) ((hk4 _ (.inr HN.out)).trans HX2.out) h4.rc.1); clear h4 hk4)
   | (go_at_call 37; (with_reducible refine HT1.out.mono ?_); rintro e w2 ⟨rfl, hk2, hr2, h2⟩; have HT2 := hid h2; have HK2 := hid hk2; have HX2 := hid ((hk2 _ (.inr HN.out)).trans HX1.out); have HA2 := hid (ac15 (s := s) (rhb := rhb) HX2.out hr2.1); clear h2 hk2 hr2))
 all_goals
  go_wp2
  go_ret
  exact ⟨rfl, H4.out.weak (fun k q => .inl q), fun k q => (HK4.out k (.inl q)).trans ((HK2.out k (.inl q)).trans (HS0.out k q))⟩
theorem done_3 (hT0 : CX.TabG W) (ht : t ≤ 110) (h : HSt W s hb rhb t S w) (o i p j ca cb cx cd ce cf cg ch m : Int) (u : Nat) (ho : InS o) (hi : InS i) (hp : InS p) (hj : InS j) (he : ce ≤ 9223372036854775807) (hu : u < 2 ^ 64) :
  Calls Tryz.prog 10 #[.pointer (some ⟨hb, 0, none⟩), .pointer (some ⟨rhb, 0, none⟩), .agg #[.int .i64 3, .int .i64 o, .int .i64 i, .int .i64 p, .int .i64 j, .int .i64 ca, .int .i64 cb, .int .i64 cx, .int .u64 cd, .int .i64 ce, .int .i64 cf, .int .i64 cg, .int .i64 ch, .int .i64 m, .int .u64 u]] w fun e w' => e = .returned (.bool true) ∧ HSt W s hb rhb (t + 1) S w' ∧ SameK S w w' := by
 obtain ⟨wA, hwA⟩ : ∃ y, y = w.alloc (.cells #[.int .i64 3, .int .i64 o, .int .i64 i, .int .i64 p, .int .i64 j, .int .i64 ca, .int .i64 cb, .int .i64 cx, .int .u64 cd, .int .i64 ce, .int .i64 cf, .int .i64 cg, .int .i64 ch, .int .i64 m, .int .u64 u] 35) := ⟨_, rfl⟩
 have hb1 : Below w.heap.size w wA := hwA ▸ bal (Below.refl _ _) _
 have hx1 : wA.heap[w.heap.size]? = some (.cells #[.int .i64 3, .int .i64 o, .int .i64 i, .int .i64 p, .int .i64 j, .int .i64 ca, .int .i64 cb, .int .i64 cx, .int .u64 cd, .int .i64 ce, .int .i64 cf, .int .i64 cg, .int .i64 ch, .int .i64 m, .int .u64 u] 35 (0, 0)) := by rw [hwA]; exact heap_alloc_new w _
 have hf := (h.fresh hb1)
 have hfd := hf.call (show Below wA.heap.size wA wA.drew from (Below.refl _ _).drew)
 obtain ⟨k, hk⟩ := act_copy hT0 ht hfd o i p j m ho hi hp hj
 have HT1 := hid hk
 have HX1 := hid hx1
 have HN : Hid (New w wA w.heap.size) := hid ⟨Nat.le_refl _, (ags hx1).1⟩
 have HA := hid (ac15 (s := s) (rhb := rhb) hx1 hf.rc.1)
 have HAd : Hid (wA.drew.cell? ⟨w.heap.size, 1, none⟩ = some (.int .i64 o) ∧ wA.drew.cell? ⟨w.heap.size, 2, none⟩ = some (.int .i64 i) ∧ wA.drew.cell? ⟨w.heap.size, 3, none⟩ = some (.int .i64 p) ∧ wA.drew.cell? ⟨w.heap.size, 4, none⟩ = some (.int .i64 j) ∧ wA.drew.cell? ⟨w.heap.size, 5, none⟩ = some (.int .i64 ca) ∧ wA.drew.cell? ⟨w.heap.size, 6, none⟩ = some (.int .i64 cb) ∧ wA.drew.cell? ⟨w.heap.size, 7, none⟩ = some (.int .i64 cx) ∧ wA.drew.cell? ⟨w.heap.size, 8, none⟩ = some (.int .u64 cd) ∧ wA.drew.cell? ⟨w.heap.size, 9, none⟩ = some (.int .i64 ce) ∧ wA.drew.cell? ⟨w.heap.size, 10, none⟩ = some (.int .i64 cf) ∧ wA.drew.cell? ⟨w.heap.size, 11, none⟩ = some (.int .i64 cg) ∧ wA.drew.cell? ⟨w.heap.size, 12, none⟩ = some (.int .i64 ch) ∧ wA.drew.cell? ⟨w.heap.size, 13, none⟩ = some (.int .i64 m) ∧ wA.drew.cell? ⟨w.heap.size, 14, none⟩ = some (.int .u64 u) ∧ wA.drew.cell? ⟨rhb, 0, none⟩ = some (.pointer (some ⟨s.srb, 0, none⟩))) := hid HA.out
 have HS0 : Hid (SameK S w wA) := hid (fun k q => hb1.block k (h.lt q))
 have HW := hid hwA
 clear hk hx1 hf hfd hwA hb1 h hT0 ho hi hp hj he hu ht
 go_enter Tryz.func10, Tryz.ntmps10
 go_upto_region 9 with fail
 rw [show w.alloc (.cells #[.int .i64 3, .int .i64 o, .int .i64 i, .int .i64 p, .int .i64 j, .int .i64 ca, .int .i64 cb, .int .i64 cx, .int .u64 cd, .int .i64 ce, .int .i64 cf, .int .i64 cg, .int .i64 ch, .int .i64 m, .int .u64 u] 35) = wA from HW.out.symm]
 go_region_held3 (fun w' => w'.cell? ⟨w.heap.size, 1, none⟩ = some (.int .i64 o) ∧ w'.cell? ⟨w.heap.size, 2, none⟩ = some (.int .i64 i) ∧ w'.cell? ⟨w.heap.size, 3, none⟩ = some (.int .i64 p) ∧ w'.cell? ⟨w.heap.size, 4, none⟩ = some (.int .i64 j) ∧ w'.cell? ⟨w.heap.size, 5, none⟩ = some (.int .i64 ca) ∧ w'.cell? ⟨w.heap.size, 6, none⟩ = some (.int .i64 cb) ∧ w'.cell? ⟨w.heap.size, 7, none⟩ = some (.int .i64 cx) ∧ w'.cell? ⟨w.heap.size, 8, none⟩ = some (.int .u64 cd) ∧ w'.cell? ⟨w.heap.size, 9, none⟩ = some (.int .i64 ce) ∧ w'.cell? ⟨w.heap.size, 10, none⟩ = some (.int .i64 cf) ∧ w'.cell? ⟨w.heap.size, 11, none⟩ = some (.int .i64 cg) ∧ w'.cell? ⟨w.heap.size, 12, none⟩ = some (.int .i64 ch) ∧ w'.cell? ⟨w.heap.size, 13, none⟩ = some (.int .i64 m) ∧ w'.cell? ⟨w.heap.size, 14, none⟩ = some (.int .u64 u) ∧ w'.cell? ⟨rhb, 0, none⟩ = some (.pointer (some ⟨s.srb, 0, none⟩)))
  (first | (with_reducible exact HA.out) | (with_reducible exact HAd.out) | (with_reducible exact HA2.out) | (with_reducible exact HA4.out))
  (first
   | (go_at_call 33; (with_reducible refine (TabS.num_s _ _).mono ?_); rintro e w3 ⟨rfl, rfl⟩)
   | (go_at_call 39; (with_reducible refine HT2.out.mono ?_); rintro e w4 ⟨rfl, h4, hk4⟩; have H4 := hid h4; have HK4 := hid hk4; have HA4 := hid (ac15 (s := s) (rhb := rhb) ((hk4 _ (.inr HN.out)).trans HX2.out) h4.rc.1); clear h4 hk4)
   | (go_at_call 16; (with_reducible refine HT1.out.mono ?_); rintro e w2 ⟨rfl, hk2, hr2, h2⟩; have HT2 := hid h2; have HK2 := hid hk2; have HX2 := hid ((hk2 _ (.inr HN.out)).trans HX1.out); have HA2 := hid (ac15 (s := s) (rhb := rhb) HX2.out hr2.1); clear h2 hk2 hr2))
 all_goals
  go_wp2
  go_ret
  exact ⟨rfl, H4.out.weak (fun k q => .inl q), fun k q => (HK4.out k (.inl q)).trans ((HK2.out k (.inl q)).trans (HS0.out k q))⟩
theorem done_4 (hT0 : CX.TabG W) (ht : t ≤ 110) (h : HSt W s hb rhb t S w) (o i p j ca cb cx cd ce cf cg ch m : Int) (u : Nat) (ho : InS o) (hi : InS i) (hp : InS p) (hj : InS j) (he : ce ≤ 9223372036854775807) (hu : u < 2 ^ 64) :
  Calls Tryz.prog 10 #[.pointer (some ⟨hb, 0, none⟩), .pointer (some ⟨rhb, 0, none⟩), .agg #[.int .i64 4, .int .i64 o, .int .i64 i, .int .i64 p, .int .i64 j, .int .i64 ca, .int .i64 cb, .int .i64 cx, .int .u64 cd, .int .i64 ce, .int .i64 cf, .int .i64 cg, .int .i64 ch, .int .i64 m, .int .u64 u]] w fun e w' => e = .returned (.bool true) ∧ HSt W s hb rhb (t + 1) S w' ∧ SameK S w w' := by
 obtain ⟨wA, hwA⟩ : ∃ y, y = w.alloc (.cells #[.int .i64 4, .int .i64 o, .int .i64 i, .int .i64 p, .int .i64 j, .int .i64 ca, .int .i64 cb, .int .i64 cx, .int .u64 cd, .int .i64 ce, .int .i64 cf, .int .i64 cg, .int .i64 ch, .int .i64 m, .int .u64 u] 35) := ⟨_, rfl⟩
 have hb1 : Below w.heap.size w wA := hwA ▸ bal (Below.refl _ _) _
 have hx1 : wA.heap[w.heap.size]? = some (.cells #[.int .i64 4, .int .i64 o, .int .i64 i, .int .i64 p, .int .i64 j, .int .i64 ca, .int .i64 cb, .int .i64 cx, .int .u64 cd, .int .i64 ce, .int .i64 cf, .int .i64 cg, .int .i64 ch, .int .i64 m, .int .u64 u] 35 (0, 0)) := by rw [hwA]; exact heap_alloc_new w _
 have hf := (h.fresh hb1)
 have hfd := hf.call (show Below wA.heap.size wA wA.drew from (Below.refl _ _).drew)
 obtain ⟨k, hk⟩ := act_mint hT0 ht hfd o i p j m u hu ho hi hp hj
 have HT1 := hid hk
 have HX1 := hid hx1
 have HN : Hid (New w wA w.heap.size) := hid ⟨Nat.le_refl _, (ags hx1).1⟩
 have HA := hid (ac15 (s := s) (rhb := rhb) hx1 hf.rc.1)
 have HAd : Hid (wA.drew.cell? ⟨w.heap.size, 1, none⟩ = some (.int .i64 o) ∧ wA.drew.cell? ⟨w.heap.size, 2, none⟩ = some (.int .i64 i) ∧ wA.drew.cell? ⟨w.heap.size, 3, none⟩ = some (.int .i64 p) ∧ wA.drew.cell? ⟨w.heap.size, 4, none⟩ = some (.int .i64 j) ∧ wA.drew.cell? ⟨w.heap.size, 5, none⟩ = some (.int .i64 ca) ∧ wA.drew.cell? ⟨w.heap.size, 6, none⟩ = some (.int .i64 cb) ∧ wA.drew.cell? ⟨w.heap.size, 7, none⟩ = some (.int .i64 cx) ∧ wA.drew.cell? ⟨w.heap.size, 8, none⟩ = some (.int .u64 cd) ∧ wA.drew.cell? ⟨w.heap.size, 9, none⟩ = some (.int .i64 ce) ∧ wA.drew.cell? ⟨w.heap.size, 10, none⟩ = some (.int .i64 cf) ∧ wA.drew.cell? ⟨w.heap.size, 11, none⟩ = some (.int .i64 cg) ∧ wA.drew.cell? ⟨w.heap.size, 12, none⟩ = some (.int .i64 ch) ∧ wA.drew.cell? ⟨w.heap.size, 13, none⟩ = some (.int .i64 m) ∧ wA.drew.cell? ⟨w.heap.size, 14, none⟩ = some (.int .u64 u) ∧ wA.drew.cell? ⟨rhb, 0, none⟩ = some (.pointer (some ⟨s.srb, 0, none⟩))) := hid HA.out
 have HS0 : Hid (SameK S w wA) := hid (fun k q => hb1.block k (h.lt q))
 have HW := hid hwA
 clear hk hx1 hf hfd hwA hb1 h hT0 ho hi hp hj he hu ht
 go_enter Tryz.func10, Tryz.ntmps10
 go_upto_region 11 with fail
 rw [show w.alloc (.cells #[.int .i64 4, .int .i64 o, .int .i64 i, .int .i64 p, .int .i64 j, .int .i64 ca, .int .i64 cb, .int .i64 cx, .int .u64 cd, .int .i64 ce, .int .i64 cf, .int .i64 cg, .int .i64 ch, .int .i64 m, .int .u64 u] 35) = wA from HW.out.symm]
 go_region_held3 (fun w' => w'.cell? ⟨w.heap.size, 1, none⟩ = some (.int .i64 o) ∧ w'.cell? ⟨w.heap.size, 2, none⟩ = some (.int .i64 i) ∧ w'.cell? ⟨w.heap.size, 3, none⟩ = some (.int .i64 p) ∧ w'.cell? ⟨w.heap.size, 4, none⟩ = some (.int .i64 j) ∧ w'.cell? ⟨w.heap.size, 5, none⟩ = some (.int .i64 ca) ∧ w'.cell? ⟨w.heap.size, 6, none⟩ = some (.int .i64 cb) ∧ w'.cell? ⟨w.heap.size, 7, none⟩ = some (.int .i64 cx) ∧ w'.cell? ⟨w.heap.size, 8, none⟩ = some (.int .u64 cd) ∧ w'.cell? ⟨w.heap.size, 9, none⟩ = some (.int .i64 ce) ∧ w'.cell? ⟨w.heap.size, 10, none⟩ = some (.int .i64 cf) ∧ w'.cell? ⟨w.heap.size, 11, none⟩ = some (.int .i64 cg) ∧ w'.cell? ⟨w.heap.size, 12, none⟩ = some (.int .i64 ch) ∧ w'.cell? ⟨w.heap.size, 13, none⟩ = some (.int .i64 m) ∧ w'.cell? ⟨w.heap.size, 14, none⟩ = some (.int .u64 u) ∧ w'.cell? ⟨rhb, 0, none⟩ = some (.pointer (some ⟨s.srb, 0, none⟩)))
  (first | (with_reducible exact HA.out) | (with_reducible exact HAd.out) | (with_reducible exact HA2.out) | (with_reducible exact HA4.out))
  (first
   | (go_at_call 33; (with_reducible refine (TabS.num_s _ _).mono ?_); rintro e w3 ⟨rfl, rfl⟩)
   | (go_at_call 40; (with_reducible refine HT2.out.mono ?_); rintro e w4 ⟨rfl, h4, hk4⟩; have H4 := hid h4; have HK4 := hid hk4; have HA4 := hid (ac15 (s := s) (rhb := rhb) ((hk4 _ (.inr HN.out)).trans HX2.out) h4.rc.1); clear h4 hk4)
   | (go_at_call 17; (with_reducible refine HT1.out.mono ?_); rintro e w2 ⟨rfl, hk2, hr2, h2⟩; have HT2 := hid h2; have HK2 := hid hk2; have HX2 := hid ((hk2 _ (.inr HN.out)).trans HX1.out); have HA2 := hid (ac15 (s := s) (rhb := rhb) HX2.out hr2.1); clear h2 hk2 hr2))
 all_goals
  go_wp2
  go_ret
  exact ⟨rfl, H4.out.weak (fun k q => .inl q), fun k q => (HK4.out k (.inl q)).trans ((HK2.out k (.inl q)).trans (HS0.out k q))⟩
theorem done_5 (hT0 : CX.TabG W) (ht : t ≤ 110) (h : HSt W s hb rhb t S w) (o i p j ca cb cx cd ce cf cg ch m : Int) (u : Nat) (ho : InS o) (hi : InS i) (hp : InS p) (hj : InS j) (he : ce ≤ 9223372036854775807) (hu : u < 2 ^ 64) :
  Calls Tryz.prog 10 #[.pointer (some ⟨hb, 0, none⟩), .pointer (some ⟨rhb, 0, none⟩), .agg #[.int .i64 5, .int .i64 o, .int .i64 i, .int .i64 p, .int .i64 j, .int .i64 ca, .int .i64 cb, .int .i64 cx, .int .u64 cd, .int .i64 ce, .int .i64 cf, .int .i64 cg, .int .i64 ch, .int .i64 m, .int .u64 u]] w fun e w' => e = .returned (.bool true) ∧ HSt W s hb rhb (t + 1) S w' ∧ SameK S w w' := by
 obtain ⟨wA, hwA⟩ : ∃ y, y = w.alloc (.cells #[.int .i64 5, .int .i64 o, .int .i64 i, .int .i64 p, .int .i64 j, .int .i64 ca, .int .i64 cb, .int .i64 cx, .int .u64 cd, .int .i64 ce, .int .i64 cf, .int .i64 cg, .int .i64 ch, .int .i64 m, .int .u64 u] 35) := ⟨_, rfl⟩
 have hb1 : Below w.heap.size w wA := hwA ▸ bal (Below.refl _ _) _
 have hx1 : wA.heap[w.heap.size]? = some (.cells #[.int .i64 5, .int .i64 o, .int .i64 i, .int .i64 p, .int .i64 j, .int .i64 ca, .int .i64 cb, .int .i64 cx, .int .u64 cd, .int .i64 ce, .int .i64 cf, .int .i64 cg, .int .i64 ch, .int .i64 m, .int .u64 u] 35 (0, 0)) := by rw [hwA]; exact heap_alloc_new w _
 have hf := (h.fresh hb1)
 have hfd := hf.call (show Below wA.heap.size wA wA.drew from (Below.refl _ _).drew)
 obtain ⟨k, hk⟩ := act_move hT0 ht hfd o i p j ho hi hp hj
 have HT1 := hid hk
 have HX1 := hid hx1
 have HN : Hid (New w wA w.heap.size) := hid ⟨Nat.le_refl _, (ags hx1).1⟩
 have HA := hid (ac15 (s := s) (rhb := rhb) hx1 hf.rc.1)
 have HAd : Hid (wA.drew.cell? ⟨w.heap.size, 1, none⟩ = some (.int .i64 o) ∧ wA.drew.cell? ⟨w.heap.size, 2, none⟩ = some (.int .i64 i) ∧ wA.drew.cell? ⟨w.heap.size, 3, none⟩ = some (.int .i64 p) ∧ wA.drew.cell? ⟨w.heap.size, 4, none⟩ = some (.int .i64 j) ∧ wA.drew.cell? ⟨w.heap.size, 5, none⟩ = some (.int .i64 ca) ∧ wA.drew.cell? ⟨w.heap.size, 6, none⟩ = some (.int .i64 cb) ∧ wA.drew.cell? ⟨w.heap.size, 7, none⟩ = some (.int .i64 cx) ∧ wA.drew.cell? ⟨w.heap.size, 8, none⟩ = some (.int .u64 cd) ∧ wA.drew.cell? ⟨w.heap.size, 9, none⟩ = some (.int .i64 ce) ∧ wA.drew.cell? ⟨w.heap.size, 10, none⟩ = some (.int .i64 cf) ∧ wA.drew.cell? ⟨w.heap.size, 11, none⟩ = some (.int .i64 cg) ∧ wA.drew.cell? ⟨w.heap.size, 12, none⟩ = some (.int .i64 ch) ∧ wA.drew.cell? ⟨w.heap.size, 13, none⟩ = some (.int .i64 m) ∧ wA.drew.cell? ⟨w.heap.size, 14, none⟩ = some (.int .u64 u) ∧ wA.drew.cell? ⟨rhb, 0, none⟩ = some (.pointer (some ⟨s.srb, 0, none⟩))) := hid HA.out
 have HS0 : Hid (SameK S w wA) := hid (fun k q => hb1.block k (h.lt q))
 have HW := hid hwA
 clear hk hx1 hf hfd hwA hb1 h hT0 ho hi hp hj he hu ht
 go_enter Tryz.func10, Tryz.ntmps10
 go_upto_region 13 with fail
 rw [show w.alloc (.cells #[.int .i64 5, .int .i64 o, .int .i64 i, .int .i64 p, .int .i64 j, .int .i64 ca, .int .i64 cb, .int .i64 cx, .int .u64 cd, .int .i64 ce, .int .i64 cf, .int .i64 cg, .int .i64 ch, .int .i64 m, .int .u64 u] 35) = wA from HW.out.symm]
 go_region_held3 (fun w' => w'.cell? ⟨w.heap.size, 1, none⟩ = some (.int .i64 o) ∧ w'.cell? ⟨w.heap.size, 2, none⟩ = some (.int .i64 i) ∧ w'.cell? ⟨w.heap.size, 3, none⟩ = some (.int .i64 p) ∧ w'.cell? ⟨w.heap.size, 4, none⟩ = some (.int .i64 j) ∧ w'.cell? ⟨w.heap.size, 5, none⟩ = some (.int .i64 ca) ∧ w'.cell? ⟨w.heap.size, 6, none⟩ = some (.int .i64 cb) ∧ w'.cell? ⟨w.heap.size, 7, none⟩ = some (.int .i64 cx) ∧ w'.cell? ⟨w.heap.size, 8, none⟩ = some (.int .u64 cd) ∧ w'.cell? ⟨w.heap.size, 9, none⟩ = some (.int .i64 ce) ∧ w'.cell? ⟨w.heap.size, 10, none⟩ = some (.int .i64 cf) ∧ w'.cell? ⟨w.heap.size, 11, none⟩ = some (.int .i64 cg) ∧ w'.cell? ⟨w.heap.size, 12, none⟩ = some (.int .i64 ch) ∧ w'.cell? ⟨w.heap.size, 13, none⟩ = some (.int .i64 m) ∧ w'.cell? ⟨w.heap.size, 14, none⟩ = some (.int .u64 u) ∧ w'.cell? ⟨rhb, 0, none⟩ = some (.pointer (some ⟨s.srb, 0, none⟩)))
  (first | (with_reducible exact HA.out) | (with_reducible exact HAd.out) | (with_reducible exact HA2.out) | (with_reducible exact HA4.out))
  (first
   | (go_at_call 33; (with_reducible refine (TabS.num_s _ _).mono ?_); rintro e w3 ⟨rfl, rfl⟩)
   | (go_at_call 41; (with_reducible refine HT2.out.mono ?_); rintro e w4 ⟨rfl, h4, hk4⟩; have H4 := hid h4; have HK4 := hid hk4; have HA4 := hid (ac15 (s := s) (rhb := rhb) ((hk4 _ (.inr HN.out)).trans HX2.out) h4.rc.1); clear h4 hk4)
   | (go_at_call 24; (with_reducible refine HT1.out.mono ?_); rintro e w2 ⟨rfl, hk2, hr2, h2⟩; have HT2 := hid h2; have HK2 := hid hk2; have HX2 := hid ((hk2 _ (.inr HN.out)).trans HX1.out); have HA2 := hid (ac15 (s := s) (rhb := rhb) HX2.out hr2.1); clear h2 hk2 hr2))
 all_goals
  go_wp2
  go_ret
  exact ⟨rfl, H4.out.weak (fun k q => .inl q), fun k q => (HK4.out k (.inl q)).trans ((HK2.out k (.inl q)).trans (HS0.out k q))⟩
theorem done_6 (hT0 : CX.TabG W) (ht : t ≤ 110) (h : HSt W s hb rhb t S w) (o i p j ca cb cx cd ce cf cg ch m : Int) (u : Nat) (ho : InS o) (hi : InS i) (hp : InS p) (hj : InS j) (he : ce ≤ 9223372036854775807) (hu : u < 2 ^ 64) :
  Calls Tryz.prog 10 #[.pointer (some ⟨hb, 0, none⟩), .pointer (some ⟨rhb, 0, none⟩), .agg #[.int .i64 6, .int .i64 o, .int .i64 i, .int .i64 p, .int .i64 j, .int .i64 ca, .int .i64 cb, .int .i64 cx, .int .u64 cd, .int .i64 ce, .int .i64 cf, .int .i64 cg, .int .i64 ch, .int .i64 m, .int .u64 u]] w fun e w' => e = .returned (.bool true) ∧ HSt W s hb rhb (t + 1) S w' ∧ SameK S w w' := by
 obtain ⟨wA, hwA⟩ : ∃ y, y = w.alloc (.cells #[.int .i64 6, .int .i64 o, .int .i64 i, .int .i64 p, .int .i64 j, .int .i64 ca, .int .i64 cb, .int .i64 cx, .int .u64 cd, .int .i64 ce, .int .i64 cf, .int .i64 cg, .int .i64 ch, .int .i64 m, .int .u64 u] 35) := ⟨_, rfl⟩
 have hb1 : Below w.heap.size w wA := hwA ▸ bal (Below.refl _ _) _
 have hx1 : wA.heap[w.heap.size]? = some (.cells #[.int .i64 6, .int .i64 o, .int .i64 i, .int .i64 p, .int .i64 j, .int .i64 ca, .int .i64 cb, .int .i64 cx, .int .u64 cd, .int .i64 ce, .int .i64 cf, .int .i64 cg, .int .i64 ch, .int .i64 m, .int .u64 u] 35 (0, 0)) := by rw [hwA]; exact heap_alloc_new w _
 have hf := (h.fresh hb1)
 have hfd := hf.call (show Below wA.heap.size wA wA.drew from (Below.refl _ _).drew)
 obtain ⟨k, hk⟩ := act_swap hT0 ht hfd o i p j ho hi hp hj
 have HT1 := hid hk
 have HX1 := hid hx1
 have HN : Hid (New w wA w.heap.size) := hid ⟨Nat.le_refl _, (ags hx1).1⟩
 have HA := hid (ac15 (s := s) (rhb := rhb) hx1 hf.rc.1)
 have HAd : Hid (wA.drew.cell? ⟨w.heap.size, 1, none⟩ = some (.int .i64 o) ∧ wA.drew.cell? ⟨w.heap.size, 2, none⟩ = some (.int .i64 i) ∧ wA.drew.cell? ⟨w.heap.size, 3, none⟩ = some (.int .i64 p) ∧ wA.drew.cell? ⟨w.heap.size, 4, none⟩ = some (.int .i64 j) ∧ wA.drew.cell? ⟨w.heap.size, 5, none⟩ = some (.int .i64 ca) ∧ wA.drew.cell? ⟨w.heap.size, 6, none⟩ = some (.int .i64 cb) ∧ wA.drew.cell? ⟨w.heap.size, 7, none⟩ = some (.int .i64 cx) ∧ wA.drew.cell? ⟨w.heap.size, 8, none⟩ = some (.int .u64 cd) ∧ wA.drew.cell? ⟨w.heap.size, 9, none⟩ = some (.int .i64 ce) ∧ wA.drew.cell? ⟨w.heap.size, 10, none⟩ = some (.int .i64 cf) ∧ wA.drew.cell? ⟨w.heap.size, 11, none⟩ = some (.int .i64 cg) ∧ wA.drew.cell? ⟨w.heap.size, 12, none⟩ = some (.int .i64 ch) ∧ wA.drew.cell? ⟨w.heap.size, 13, none⟩ = some (.int .i64 m) ∧ wA.drew.cell? ⟨w.heap.size, 14, none⟩ = some (.int .u64 u) ∧ wA.drew.cell? ⟨rhb, 0, none⟩ = some (.pointer (some ⟨s.srb, 0, none⟩))) := hid HA.out
 have HS0 : Hid (SameK S w wA) := hid (fun k q => hb1.block k (h.lt q))
 have HW := hid hwA
 clear hk hx1 hf hfd hwA hb1 h hT0 ho hi hp hj he hu ht
 go_enter Tryz.func10, Tryz.ntmps10
 go_upto_region 15 with fail
 rw [show w.alloc (.cells #[.int .i64 6, .int .i64 o, .int .i64 i, .int .i64 p, .int .i64 j, .int .i64 ca, .int .i64 cb, .int .i64 cx, .int .u64 cd, .int .i64 ce, .int .i64 cf, .int .i64 cg, .int .i64 ch, .int .i64 m, .int .u64 u] 35) = wA from HW.out.symm]
 go_region_held3 (fun w' => w'.cell? ⟨w.heap.size, 1, none⟩ = some (.int .i64 o) ∧ w'.cell? ⟨w.heap.size, 2, none⟩ = some (.int .i64 i) ∧ w'.cell? ⟨w.heap.size, 3, none⟩ = some (.int .i64 p) ∧ w'.cell? ⟨w.heap.size, 4, none⟩ = some (.int .i64 j) ∧ w'.cell? ⟨w.heap.size, 5, none⟩ = some (.int .i64 ca) ∧ w'.cell? ⟨w.heap.size, 6, none⟩ = some (.int .i64 cb) ∧ w'.cell? ⟨w.heap.size, 7, none⟩ = some (.int .i64 cx) ∧ w'.cell? ⟨w.heap.size, 8, none⟩ = some (.int .u64 cd) ∧ w'.cell? ⟨w.heap.size, 9, none⟩ = some (.int .i64 ce) ∧ w'.cell? ⟨w.heap.size, 10, none⟩ = some (.int .i64 cf) ∧ w'.cell? ⟨w.heap.size, 11, none⟩ = some (.int .i64 cg) ∧ w'.cell? ⟨w.heap.size, 12, none⟩ = some (.int .i64 ch) ∧ w'.cell? ⟨w.heap.size, 13, none⟩ = some (.int .i64 m) ∧ w'.cell? ⟨w.heap.size, 14, none⟩ = some (.int .u64 u) ∧ w'.cell? ⟨rhb, 0, none⟩ = some (.pointer (some ⟨s.srb, 0, none⟩)))
  (first | (with_reducible exact HA.out) | (with_reducible exact HAd.out) | (with_reducible exact HA2.out) | (with_reducible exact HA4.out))
  (first
   | (go_at_call 33; (with_reducible refine (TabS.num_s _ _).mono ?_); rintro e w3 ⟨rfl, rfl⟩)
   | (go_at_call 43; (with_reducible refine HT2.out.mono ?_); rintro e w4 ⟨rfl, h4, hk4⟩; have H4 := hid h4; have HK4 := hid hk4; have HA4 := hid (ac15 (s := s) (rhb := rhb) ((hk4 _ (.inr HN.out)).trans HX2.out) h4.rc.1); clear h4 hk4)
   | (go_at_call 42; (with_reducible refine HT1.out.mono ?_); rintro e w2 ⟨rfl, hk2, hr2, h2⟩; have HT2 := hid h2; have HK2 := hid hk2; have HX2 := hid ((hk2 _ (.inr HN.out)).trans HX1.out); have HA2 := hid (ac15 (s := s) (rhb := rhb) HX2.out hr2.1); clear h2 hk2 hr2))
 all_goals
  go_wp2
  go_ret
  exact ⟨rfl, H4.out.weak (fun k q => .inl q), fun k q => (HK4.out k (.inl q)).trans ((HK2.out k (.inl q)).trans (HS0.out k q))⟩
theorem done_8 (hT0 : CX.TabG W) (ht : t ≤ 110) (h : HSt W s hb rhb t S w) (o i p j ca cb cx cd ce cf cg ch m : Int) (u : Nat) (ho : InS o) (hi : InS i) (hp : InS p) (hj : InS j) (he : ce ≤ 9223372036854775807) (hu : u < 2 ^ 64) :
  Calls Tryz.prog 10 #[.pointer (some ⟨hb, 0, none⟩), .pointer (some ⟨rhb, 0, none⟩), .agg #[.int .i64 8, .int .i64 o, .int .i64 i, .int .i64 p, .int .i64 j, .int .i64 ca, .int .i64 cb, .int .i64 cx, .int .u64 cd, .int .i64 ce, .int .i64 cf, .int .i64 cg, .int .i64 ch, .int .i64 m, .int .u64 u]] w fun e w' => e = .returned (.bool true) ∧ HSt W s hb rhb (t + 1) S w' ∧ SameK S w w' := by
 obtain ⟨wA, hwA⟩ : ∃ y, y = w.alloc (.cells #[.int .i64 8, .int .i64 o, .int .i64 i, .int .i64 p, .int .i64 j, .int .i64 ca, .int .i64 cb, .int .i64 cx, .int .u64 cd, .int .i64 ce, .int .i64 cf, .int .i64 cg, .int .i64 ch, .int .i64 m, .int .u64 u] 35) := ⟨_, rfl⟩
 have hb1 : Below w.heap.size w wA := hwA ▸ bal (Below.refl _ _) _
 have hx1 : wA.heap[w.heap.size]? = some (.cells #[.int .i64 8, .int .i64 o, .int .i64 i, .int .i64 p, .int .i64 j, .int .i64 ca, .int .i64 cb, .int .i64 cx, .int .u64 cd, .int .i64 ce, .int .i64 cf, .int .i64 cg, .int .i64 ch, .int .i64 m, .int .u64 u] 35 (0, 0)) := by rw [hwA]; exact heap_alloc_new w _
 have hf := (h.fresh hb1)
 have hfd := hf.call (show Below wA.heap.size wA wA.drew from (Below.refl _ _).drew)
 obtain ⟨k, hk⟩ := act_add ht hfd o m
 have HT1 := hid hk
 have HX1 := hid hx1
 have HN : Hid (New w wA w.heap.size) := hid ⟨Nat.le_refl _, (ags hx1).1⟩
 have HA := hid (ac15 (s := s) (rhb := rhb) hx1 hf.rc.1)
 have HAd : Hid (wA.drew.cell? ⟨w.heap.size, 1, none⟩ = some (.int .i64 o) ∧ wA.drew.cell? ⟨w.heap.size, 2, none⟩ = some (.int .i64 i) ∧ wA.drew.cell? ⟨w.heap.size, 3, none⟩ = some (.int .i64 p) ∧ wA.drew.cell? ⟨w.heap.size, 4, none⟩ = some (.int .i64 j) ∧ wA.drew.cell? ⟨w.heap.size, 5, none⟩ = some (.int .i64 ca) ∧ wA.drew.cell? ⟨w.heap.size, 6, none⟩ = some (.int .i64 cb) ∧ wA.drew.cell? ⟨w.heap.size, 7, none⟩ = some (.int .i64 cx) ∧ wA.drew.cell? ⟨w.heap.size, 8, none⟩ = some (.int .u64 cd) ∧ wA.drew.cell? ⟨w.heap.size, 9, none⟩ = some (.int .i64 ce) ∧ wA.drew.cell? ⟨w.heap.size, 10, none⟩ = some (.int .i64 cf) ∧ wA.drew.cell? ⟨w.heap.size, 11, none⟩ = some (.int .i64 cg) ∧ wA.drew.cell? ⟨w.heap.size, 12, none⟩ = some (.int .i64 ch) ∧ wA.drew.cell? ⟨w.heap.size, 13, none⟩ = some (.int .i64 m) ∧ wA.drew.cell? ⟨w.heap.size, 14, none⟩ = some (.int .u64 u) ∧ wA.drew.cell? ⟨rhb, 0, none⟩ = some (.pointer (some ⟨s.srb, 0, none⟩))) := hid HA.out
 have HS0 : Hid (SameK S w wA) := hid (fun k q => hb1.block k (h.lt q))
 have HW := hid hwA
 clear hk hx1 hf hfd hwA hb1 h hT0 ho hi hp hj he hu ht
 go_enter Tryz.func10, Tryz.ntmps10
 go_upto_region 21 with fail
 rw [show w.alloc (.cells #[.int .i64 8, .int .i64 o, .int .i64 i, .int .i64 p, .int .i64 j, .int .i64 ca, .int .i64 cb, .int .i64 cx, .int .u64 cd, .int .i64 ce, .int .i64 cf, .int .i64 cg, .int .i64 ch, .int .i64 m, .int .u64 u] 35) = wA from HW.out.symm]
 go_region_held3 (fun w' => w'.cell? ⟨w.heap.size, 1, none⟩ = some (.int .i64 o) ∧ w'.cell? ⟨w.heap.size, 2, none⟩ = some (.int .i64 i) ∧ w'.cell? ⟨w.heap.size, 3, none⟩ = some (.int .i64 p) ∧ w'.cell? ⟨w.heap.size, 4, none⟩ = some (.int .i64 j) ∧ w'.cell? ⟨w.heap.size, 5, none⟩ = some (.int .i64 ca) ∧ w'.cell? ⟨w.heap.size, 6, none⟩ = some (.int .i64 cb) ∧ w'.cell? ⟨w.heap.size, 7, none⟩ = some (.int .i64 cx) ∧ w'.cell? ⟨w.heap.size, 8, none⟩ = some (.int .u64 cd) ∧ w'.cell? ⟨w.heap.size, 9, none⟩ = some (.int .i64 ce) ∧ w'.cell? ⟨w.heap.size, 10, none⟩ = some (.int .i64 cf) ∧ w'.cell? ⟨w.heap.size, 11, none⟩ = some (.int .i64 cg) ∧ w'.cell? ⟨w.heap.size, 12, none⟩ = some (.int .i64 ch) ∧ w'.cell? ⟨w.heap.size, 13, none⟩ = some (.int .i64 m) ∧ w'.cell? ⟨w.heap.size, 14, none⟩ = some (.int .u64 u) ∧ w'.cell? ⟨rhb, 0, none⟩ = some (.pointer (some ⟨s.srb, 0, none⟩)))
  (first | (with_reducible exact HA.out) | (with_reducible exact HAd.out) | (with_reducible exact HA2.out) | (with_reducible exact HA4.out))
  (first
   | (go_at_call 33; (with_reducible refine (TabS.num_s _ _).mono ?_); rintro e w3 ⟨rfl, rfl⟩)
   | (go_at_call 32; (with_reducible refine HT2.out.mono ?_); rintro e w4 ⟨rfl, h4, hk4⟩; have H4 := hid h4; have HK4 := hid hk4; have HA4 := hid (ac15 (s := s) (rhb := rhb) ((hk4 _ (.inr HN.out)).trans HX2.out) h4.rc.1); clear h4 hk4)
   | (go_at_call 29; (with_reducible refine HT1.out.mono ?_); rintro e w2 ⟨rfl, hk2, hr2, h2⟩; have HT2 := hid h2; have HK2 := hid hk2; have HX2 := hid ((hk2 _ (.inr HN.out)).trans HX1.out); have HA2 := hid (ac15 (s := s) (rhb := rhb) HX2.out hr2.1); clear h2 hk2 hr2))
 all_goals
  go_wp2
  go_ret
  exact ⟨rfl, H4.out.weak (fun k q => .inl q), fun k q => (HK4.out k (.inl q)).trans ((HK2.out k (.inl q)).trans (HS0.out k q))⟩
theorem done_9 (hT0 : CX.TabG W) (ht : t ≤ 110) (h : HSt W s hb rhb t S w) (o i p j ca cb cx cd ce cf cg ch m : Int) (u : Nat) (ho : InS o) (hi : InS i) (hp : InS p) (hj : InS j) (he : ce ≤ 9223372036854775807) (hu : u < 2 ^ 64) :
  Calls Tryz.prog 10 #[.pointer (some ⟨hb, 0, none⟩), .pointer (some ⟨rhb, 0, none⟩), .agg #[.int .i64 9, .int .i64 o, .int .i64 i, .int .i64 p, .int .i64 j, .int .i64 ca, .int .i64 cb, .int .i64 cx, .int .u64 cd, .int .i64 ce, .int .i64 cf, .int .i64 cg, .int .i64 ch, .int .i64 m, .int .u64 u]] w fun e w' => e = .returned (.bool true) ∧ HSt W s hb rhb (t + 1) S w' ∧ SameK S w w' := by
 obtain ⟨wA, hwA⟩ : ∃ y, y = w.alloc (.cells #[.int .i64 9, .int .i64 o, .int .i64 i, .int .i64 p, .int .i64 j, .int .i64 ca, .int .i64 cb, .int .i64 cx, .int .u64 cd, .int .i64 ce, .int .i64 cf, .int .i64 cg, .int .i64 ch, .int .i64 m, .int .u64 u] 35) := ⟨_, rfl⟩
 have hb1 : Below w.heap.size w wA := hwA ▸ bal (Below.refl _ _) _
 have hx1 : wA.heap[w.heap.size]? = some (.cells #[.int .i64 9, .int .i64 o, .int .i64 i, .int .i64 p, .int .i64 j, .int .i64 ca, .int .i64 cb, .int .i64 cx, .int .u64 cd, .int .i64 ce, .int .i64 cf, .int .i64 cg, .int .i64 ch, .int .i64 m, .int .u64 u] 35 (0, 0)) := by rw [hwA]; exact heap_alloc_new w _
 have hf := (h.fresh hb1)
 have hfd := hf.call (show Below wA.heap.size wA wA.drew from (Below.refl _ _).drew)
 obtain ⟨k, hk⟩ := act_drop ht hfd o
 have HT1 := hid hk
 have HX1 := hid hx1
 have HN : Hid (New w wA w.heap.size) := hid ⟨Nat.le_refl _, (ags hx1).1⟩
 have HA := hid (ac15 (s := s) (rhb := rhb) hx1 hf.rc.1)
 have HAd : Hid (wA.drew.cell? ⟨w.heap.size, 1, none⟩ = some (.int .i64 o) ∧ wA.drew.cell? ⟨w.heap.size, 2, none⟩ = some (.int .i64 i) ∧ wA.drew.cell? ⟨w.heap.size, 3, none⟩ = some (.int .i64 p) ∧ wA.drew.cell? ⟨w.heap.size, 4, none⟩ = some (.int .i64 j) ∧ wA.drew.cell? ⟨w.heap.size, 5, none⟩ = some (.int .i64 ca) ∧ wA.drew.cell? ⟨w.heap.size, 6, none⟩ = some (.int .i64 cb) ∧ wA.drew.cell? ⟨w.heap.size, 7, none⟩ = some (.int .i64 cx) ∧ wA.drew.cell? ⟨w.heap.size, 8, none⟩ = some (.int .u64 cd) ∧ wA.drew.cell? ⟨w.heap.size, 9, none⟩ = some (.int .i64 ce) ∧ wA.drew.cell? ⟨w.heap.size, 10, none⟩ = some (.int .i64 cf) ∧ wA.drew.cell? ⟨w.heap.size, 11, none⟩ = some (.int .i64 cg) ∧ wA.drew.cell? ⟨w.heap.size, 12, none⟩ = some (.int .i64 ch) ∧ wA.drew.cell? ⟨w.heap.size, 13, none⟩ = some (.int .i64 m) ∧ wA.drew.cell? ⟨w.heap.size, 14, none⟩ = some (.int .u64 u) ∧ wA.drew.cell? ⟨rhb, 0, none⟩ = some (.pointer (some ⟨s.srb, 0, none⟩))) := hid HA.out
 have HS0 : Hid (SameK S w wA) := hid (fun k q => hb1.block k (h.lt q))
 have HW := hid hwA
 clear hk hx1 hf hfd hwA hb1 h hT0 ho hi hp hj he hu ht
 go_enter Tryz.func10, Tryz.ntmps10
 go_upto_region 23 with fail
 rw [show w.alloc (.cells #[.int .i64 9, .int .i64 o, .int .i64 i, .int .i64 p, .int .i64 j, .int .i64 ca, .int .i64 cb, .int .i64 cx, .int .u64 cd, .int .i64 ce, .int .i64 cf, .int .i64 cg, .int .i64 ch, .int .i64 m, .int .u64 u] 35) = wA from HW.out.symm]
 go_region_held3 (fun w' => w'.cell? ⟨w.heap.size, 1, none⟩ = some (.int .i64 o) ∧ w'.cell? ⟨w.heap.size, 2, none⟩ = some (.int .i64 i) ∧ w'.cell? ⟨w.heap.size, 3, none⟩ = some (.int .i64 p) ∧ w'.cell? ⟨w.heap.size, 4, none⟩ = some (.int .i64 j) ∧ w'.cell? ⟨w.heap.size, 5, none⟩ = some (.int .i64 ca) ∧ w'.cell? ⟨w.heap.size, 6, none⟩ = some (.int .i64 cb) ∧ w'.cell? ⟨w.heap.size, 7, none⟩ = some (.int .i64 cx) ∧ w'.cell? ⟨w.heap.size, 8, none⟩ = some (.int .u64 cd) ∧ w'.cell? ⟨w.heap.size, 9, none⟩ = some (.int .i64 ce) ∧ w'.cell? ⟨w.heap.size, 10, none⟩ = some (.int .i64 cf) ∧ w'.cell? ⟨w.heap.size, 11, none⟩ = some (.int .i64 cg) ∧ w'.cell? ⟨w.heap.size, 12, none⟩ = some (.int .i64 ch) ∧ w'.cell? ⟨w.heap.size, 13, none⟩ = some (.int .i64 m) ∧ w'.cell? ⟨w.heap.size, 14, none⟩ = some (.int .u64 u) ∧ w'.cell? ⟨rhb, 0, none⟩ = some (.pointer (some ⟨s.srb, 0, none⟩)))
  (first | (with_reducible exact HA.out) | (with_reducible exact HAd.out) | (with_reducible exact HA2.out) | (with_reducible exact HA4.out))
  (first
   | (go_at_call 33; (with_reducible refine (TabS.num_s _ _).mono ?_); rintro e w3 ⟨rfl, rfl⟩)
   | (go_at_call 46; (with_reducible refine HT2.out.mono ?_); rintro e w4 ⟨rfl, h4, hk4⟩; have H4 := hid h4; have HK4 := hid hk4; have HA4 := hid (ac15 (s := s) (rhb := rhb) ((hk4 _ (.inr HN.out)).trans HX2.out) h4.rc.1); clear h4 hk4)
   | (go_at_call 45; (with_reducible refine HT1.out.mono ?_); rintro e w2 ⟨rfl, hk2, hr2, h2⟩; have HT2 := hid h2; have HK2 := hid hk2; have HX2 := hid ((hk2 _ (.inr HN.out)).trans HX1.out); have HA2 := hid (ac15 (s := s) (rhb := rhb) HX2.out hr2.1); clear h2 hk2 hr2))
 all_goals
  go_wp2
  go_ret
  exact ⟨rfl, H4.out.weak (fun k q => .inl q), fun k q => (HK4.out k (.inl q)).trans ((HK2.out k (.inl q)).trans (HS0.out k q))⟩
end HdS
end
end Go.Proofs.YtchjfeafkmpmbaaGreatDoor
