import Derived.Test.YtnjdljjmengjbaaDoorPkb
import Derived.RegionTactic
import Derived.Deep.QuietTactic
import Derived.BigQuiet
import Derived.Lib.Hide
import Derived.Test.YtnjdljjmengjbaaDoorPka
import Derived.RangeFuncNested
import Derived.LoopIn
import Derived.Stop.RegionWithIn
import Derived.Deep.Slices
import Derived.OpenShut
import Derived.DataReads
import Derived.Test.YtnjdljjmengjbaaDoorRows
import Derived.Lib.LaidTab
import Derived.WalkKit
import Derived.OwnWalkIn
import Derived.TacticsInMore
import Derived.LoopNIn
import Derived.Laws.MakeOwn
import Derived.Maps.OwnIn
import Derived.Deep.CutRange
namespace Go.Proofs.YtnjdljjmengjbaaDoor
/- cap.May and chapter 13's own May at every capability; Alike. -/
section
namespace CX
set_option linter.unusedVariables false
open Go.ChangeShapes Go.WideShapes Go.ChangeAt Go.RowKit

theorem capMay (a b c d e f g h : Int) (W : World) (hT : TabG W) (e1 : e ≤ 9223372036854775807) : Calls Tryd.prog 45 #[capV a b c d e f g h] W fun x W' => x = .returned (.bool (capB a b c d e f g h)) ∧ Below W.heap.size W W' := by
  by_cases h0 : a = 0 ∨ a = 7
  · exact none_may a b c d e f g h W h0
  by_cases h1 : a = 1 ∨ a = 4 ∨ a = 5 ∨ a = 6 ∨ a = 9
  · exact plain_may a b c d e f g h W h1
  by_cases h2 : a = 2
  · subst h2; exact node_may b c d e f g h W hT e1
  by_cases h3 : a = 3
  · subst h3; exact frame_may b c d e f g h W
  by_cases h8 : a = 8
  · subst h8; exact end_may b c d e f g h W
  exact no_may a b c d e f g h W (by omega)
set_option maxRecDepth 100000 in
theorem refMay13_no (a b c d e f g h : Int) (W : World) (ha : a < 0 ∨ 9 < a) : Calls Tryd.prog 30 #[capV a b c d e f g h] W fun x W' => x = .returned (.bool (capB a b c d e f g h)) ∧ Below W.heap.size W W' := by
  have hk : capB a b c d e f g h = false := by
    unfold capB
    rw [if_neg (by omega), if_neg (by omega), if_neg (by omega), if_neg (by omega), if_neg (by omega)]
  rw [hk]
  have k0 : (a == 0) = false := beq_eq_false_iff_ne.2 (by omega)
  have k1 : (a == 1) = false := beq_eq_false_iff_ne.2 (by omega)
  have k2 : (a == 2) = false := beq_eq_false_iff_ne.2 (by omega)
  have k3 : (a == 3) = false := beq_eq_false_iff_ne.2 (by omega)
  have k4 : (a == 4) = false := beq_eq_false_iff_ne.2 (by omega)
  have k5 : (a == 5) = false := beq_eq_false_iff_ne.2 (by omega)
  have k6 : (a == 6) = false := beq_eq_false_iff_ne.2 (by omega)
  have k7 : (a == 7) = false := beq_eq_false_iff_ne.2 (by omega)
  have k8 : (a == 8) = false := beq_eq_false_iff_ne.2 (by omega)
  have k9 : (a == 9) = false := beq_eq_false_iff_ne.2 (by omega)
  clear hk ha
  go_enter Tryd.func30, Tryd.ntmps30
  go_wp2
  go_ret
  exact ⟨rfl, (by repeat (first | exact Below.refl _ _ | assumption | refine below_drewN ?_ _ | refine Below.drew ?_ | refine Below.setCell ?_ (by first | exact Nat.le_refl _ | (simp; done) | (simp; omega)) _ | refine bal ?_ _ | refine bgo ?_ (by assumption)))⟩
theorem refMay13 (a b c d e f g h : Int) (W : World) : Calls Tryd.prog 30 #[capV a b c d e f g h] W fun x W' => x = .returned (.bool (capB a b c d e f g h)) ∧ Below W.heap.size W W' := by
  by_cases h0 : a = 0 ∨ a = 7
  · exact refMay13_none a b c d e f g h W h0
  by_cases h1 : a = 1 ∨ a = 4 ∨ a = 5 ∨ a = 6 ∨ a = 9
  · exact refMay13_plain a b c d e f g h W h1
  by_cases h2 : a = 2
  · subst h2
    by_cases hk : objB b = true ∧ c = 0 ∧ d = 0 ∧ g = 0 ∧ h = 0 ∧ 0 ≤ f ∧ f ≤ 12 ∧ 0 ≤ e
    · obtain ⟨hb, rfl, rfl, rfl, rfl, f0, f1, he⟩ := hk
      obtain ⟨n, rfl⟩ := Int.eq_ofNat_of_zero_le f0
      exact refMay13_node1 b e n W hb (by omega) he
    · refine refMay13_node0 b c d e f g h W ?_
      cases hb : objB b
      · exact .inl rfl
      · simp only [hb, true_and] at hk ⊢
        simp only [reduceCtorEq, false_or]
        omega
  by_cases h3 : a = 3
  · subst h3; exact refMay13_frame b c d e f g h W
  by_cases h8 : a = 8
  · subst h8; exact refMay13_end b c d e f g h W
  exact refMay13_no a b c d e f g h W (by omega)
end CX
end
/- package slots, over a table of any number of nodes: Get, Set. -/
section
set_option linter.unusedVariables false
set_option linter.unusedSimpArgs false
open Go.ChangeShapes Go.WideShapes Go.ChangeAt Go.RowKit Go.Shelf

namespace TabS
/-- There is no such slot. -/
def NoSlot (L : List Sn) (id ix : Int) : Prop := hasS L id = false ∨ ∃ x, L[posS L id]? = some x ∧ x.id = id ∧ (ix < 0 ∨ (x.l.length : Int) ≤ ix)
theorem sat_no (w : World) (b base : Nat) (tv : Value) (L : List Sn) (id ix : Int) (h : SlotsAt w b base tv L) (hn : NoSlot L id ix) :
    Calls Tryd.prog 44 #[.pointer (some ⟨b, 0, none⟩), .agg #[.int .i64 id, .int .i64 ix]] w fun e w' => e = .returned (.tuple #[.pointer none, .int .i64 3]) ∧ Below w.heap.size w w' := by
  rcases hn with hh | ⟨x, hx, hid, hi | hi⟩
  · exact sat_none w b base tv L id ix h hh
  · exact sat_low w b base tv L id ix x h hx hid hi
  · exact sat_high w b base tv L id ix x h hx hid hi
/-- Is there such a slot, and which? -/
theorem slot_or {w : World} {b base : Nat} {tv : Value} {L : List Sn} (h : SlotsAt w b base tv L) (id ix : Int) : NoSlot L id ix ∨ ∃ (x : Sn) (i : Nat), L[posS L id]? = some x ∧ x.id = id ∧ ix = i ∧ i < x.l.length := by
  cases hh : hasS L id with
  | false => exact .inl (.inl hh)
  | true =>
    obtain ⟨x, hx, hid⟩ := (hasS_at h).1 hh
    by_cases h1 : ix < 0 ∨ (x.l.length : Int) ≤ ix
    · exact .inl (.inr ⟨x, hx, hid, h1⟩)
    · exact .inr ⟨x, ix.toNat, hx, hid, by omega, by omega⟩
set_option maxRecDepth 100000 in
set_option maxHeartbeats 1000000 in
theorem sget_no (w : World) (b base : Nat) (tv : Value) (L : List Sn) (id ix : Int) (h : SlotsAt w b base tv L) (hn : NoSlot L id ix) :
    Calls Tryd.prog 49 #[.pointer (some ⟨b, 0, none⟩), .agg #[.int .i64 id, .int .i64 ix]] w fun e w' => e = .returned (.tuple #[zC.V, .int .i64 3]) ∧ Below w.heap.size w w' := by
  have H := Lib.hid h
  have HN := Lib.hid hn
  clear h hn
  go_enter Tryd.func49, Tryd.ntmps49
  go_wp2_with (first
    | (go_at_call 44; refine (sat_no _ b base tv L id ix (H.out.call (bal (bal (Below.refl _ _) _) _)) HN.out).mono ?_; rintro e w1 ⟨rfl, hb1⟩; obtain ⟨hc1, hf1⟩ := bcell hb1; have hz1 := hb1.size; have hz2 : w.heap.size + 1 < w1.heap.size := (by simp at hz1; omega)))
  exact bodyPost_ret (v := .tuple #[zC.V, .int .i64 3]) (by simp [results, Tryd.results49, go_sem, hc1, hf1, hz2, zC]) rfl ⟨rfl, bs' (bs' (bs' (bs' (bs' (bs' (bs' (bs' (bgo (bal (bal (Below.refl _ _) _) _) hb1) _ _ _) _ _ _) _ _ _) _ _ _) _ _ _) _ _ _) _ _ _) _ _ _⟩
set_option maxRecDepth 100000 in
set_option maxHeartbeats 1000000 in
theorem sget_yes (w : World) (b base : Nat) (tv : Value) (L : List Sn) (id : Int) (i : Nat) (x : Sn) (c : Cp) (h : SlotsAt w b base tv L) (hx : L[posS L id]? = some x) (hid : x.id = id) (hc : x.l[i]? = some c) :
    Calls Tryd.prog 49 #[.pointer (some ⟨b, 0, none⟩), .agg #[.int .i64 id, .int .i64 i]] w fun e w' => e = .returned (.tuple #[c.V, .int .i64 0]) ∧ Below w.heap.size w w' := by
  have H := Lib.hid h
  have hi := (List.getElem?_eq_some_iff.1 hc).1
  have HX := Lib.hid hx
  have HI := Lib.hid hid
  have HL := Lib.hid hi
  have hg : x.g < w.heap.size := h.glt (List.mem_of_getElem? hx)
  have HC := Lib.hid (fun (w' : World) (hb : Below w.heap.size w w') (j : Nat) (u : Value) (hu : c.L[j]? = some u) => (h.call hb).cell (List.mem_of_getElem? hx) hc hu)
  have hat : ∀ v, Below w.heap.size w v → Calls Tryd.prog 44 #[.pointer (some ⟨b, 0, none⟩), .agg #[.int .i64 id, .int .i64 i]] v fun e w' => e = .returned (.tuple #[.pointer (some ⟨x.g, i * 8, none⟩), .int .i64 0]) ∧ Below v.heap.size v w' := fun v hv => sat_yes v b base tv L id i x (h.call hv) hx hid hi
  have HA := Lib.hid hat
  clear h hx hid hc hi hat
  obtain ⟨gx, hgx⟩ : ∃ y, y = x.g := ⟨_, rfl⟩
  rw [← hgx] at HC HA hg
  clear hgx
  go_enter Tryd.func49, Tryd.ntmps49
  go_wp2_with (first
    | (go_at_call 44; refine (HA.out _ (bal (bal (Below.refl _ _) _) _)).mono ?_; rintro e w1 ⟨rfl, hb1⟩; have HB1 := Lib.hid (bgo (bal (bal (Below.refl w.heap.size w) _) _) hb1); obtain ⟨hc1, hf1⟩ := bcell hb1; have hz1 := hb1.size; have hz2 : w.heap.size + 1 < w1.heap.size := (by simp at hz1; omega); have k0 := HC.out w1 HB1.out 0 _ rfl; have k1 := HC.out w1 HB1.out 1 _ rfl; have k2 := HC.out w1 HB1.out 2 _ rfl; have k3 := HC.out w1 HB1.out 3 _ rfl; have k4 := HC.out w1 HB1.out 4 _ rfl; have k5 := HC.out w1 HB1.out 5 _ rfl; have k6 := HC.out w1 HB1.out 6 _ rfl; have k7 := HC.out w1 HB1.out 7 _ rfl; rw [Nat.add_zero] at k0))
  exact bodyPost_ret (v := .tuple #[c.V, .int .i64 0]) (by simp [results, Tryd.results49, go_sem, hc1, hf1, hz2]) rfl ⟨rfl, bs' (bs' (bs' (bs' (bs' (bs' (bs' (bs' (bgo (bal (bal (Below.refl _ _) _) _) hb1) _ _ _) _ _ _) _ _ _) _ _ _) _ _ _) _ _ _) _ _ _) _ _ _⟩
/-- A slot given something. -/
def putS (L : List Sn) (k : Nat) (x : Sn) (i : Nat) (c : Cp) : List Sn := L.set k ⟨x.id, x.g, x.l.set i c⟩
theorem rowsS_put {L : List Sn} {k : Nat} {x : Sn} (hk : L[k]? = some x) (i : Nat) (c : Cp) : rowsS (putS L k x i c) = rowsS L := by
  unfold rowsS putS
  apply List.ext_getElem?
  intro j
  rw [List.getElem?_map, List.getElem?_map, List.getElem?_set]
  have := (List.getElem?_eq_some_iff.1 hk).1
  by_cases e : k = j
  · subst e
    rw [if_pos rfl, if_pos this, hk]
    simp [rowS, Sn.v]
  · rw [if_neg e]
theorem mem_putS {L : List Sn} {k : Nat} {x : Sn} {i : Nat} {c : Cp} {y : Sn} (hp : L.Pairwise fun x y => x.g ≠ y.g) (hk : L[k]? = some x) (hy : y ∈ putS L k x i c) : y = ⟨x.id, x.g, x.l.set i c⟩ ∨ (y ∈ L ∧ y.g ≠ x.g) := by
  obtain ⟨j, hj⟩ := List.getElem?_of_mem hy
  unfold putS at hj
  rw [List.getElem?_set] at hj
  by_cases e : k = j
  · subst e
    rw [if_pos rfl] at hj
    split at hj
    · cases hj; exact .inl rfl
    · cases hj
  · rw [if_neg e] at hj
    refine .inr ⟨List.mem_of_getElem? hj, ?_⟩
    obtain ⟨hjl, rfl⟩ := List.getElem?_eq_some_iff.1 hj
    obtain ⟨hkl, rfl⟩ := List.getElem?_eq_some_iff.1 hk
    rcases Nat.lt_or_gt_of_ne e with q | q
    · exact Ne.symm (List.pairwise_iff_getElem.1 hp k j hkl hjl q)
    · exact List.pairwise_iff_getElem.1 hp j k hjl hkl q
theorem pair_putS {L : List Sn} {k : Nat} {x : Sn} {i : Nat} {c : Cp} (hp : L.Pairwise fun x y => x.g ≠ y.g) (hk : L[k]? = some x) : (putS L k x i c).Pairwise fun x y => x.g ≠ y.g := by
  have e : (putS L k x i c).map Sn.g = L.map Sn.g := by
    unfold putS
    apply List.ext_getElem?
    intro j
    rw [List.getElem?_map, List.getElem?_map, List.getElem?_set]
    have := (List.getElem?_eq_some_iff.1 hk).1
    by_cases e : k = j
    · subst e
      rw [if_pos rfl, if_pos this, hk]
      rfl
    · rw [if_neg e]
  have h1 : (L.map Sn.g).Pairwise (· ≠ ·) := List.pairwise_map.2 hp
  rw [← e] at h1
  exact List.pairwise_map.1 h1
theorem SlotsAt.put {w : World} {b base : Nat} {tv : Value} {L : List Sn} (h : SlotsAt w b base tv L) {k : Nat} {x : Sn} (hk : L[k]? = some x) {i : Nat} (hi : i < x.l.length) (c : Cp) :
    SlotsAt (setL w x.g (i * 8) c.L) b base tv (putS L k x i c) ∧ SOnly w (setL w x.g (i * 8) c.L) b tv tv L (putS L k x i c) := by
  have hx := List.mem_of_getElem? hk
  have eo := fun j (hj : j ≠ x.g) => setL_other hj c.L w (i * 8)
  obtain ⟨s1, s2, s3, s4⟩ := setL_rest (m := x.g) c.L w (i * 8)
  have em : (setL w x.g (i * 8) c.L).heap[x.g]? = some (.cells (flatC (x.l.set i c)).toArray 25 (0, 0)) := by
    rw [setL_same c.L w (i * 8) _ (h.blk x hx).1, putL_eq _ _ _ (by rw [flatC_len]; simp [Cp.L]; omega), flatC_set c hi]
    rfl
  have hbx : b ≠ x.g := Ne.symm (h.gne hx)
  refine ⟨⟨?_, fun y hy => ?_, pair_putS h.ap hk, fun y hy => ?_, fun y hy => ?_⟩, ⟨s1, s2, s3, Nat.le_of_eq s4.symm, fun j _ _ _ hL => eo j (fun e => hL x hx e.symm), fun j _ e => ?_⟩⟩
  · rw [rowsS_put hk]
    exact h.tab.of (Nat.le_of_eq s4.symm) (World.cell?_of_block (eo b hbx)) (World.frozen?_of_block (eo b hbx)) (fun g hg => eo g (fun e => h.nt x hx (e ▸ hg)))
  · rcases mem_putS h.ap hk hy with rfl | ⟨q1, q2⟩
    · exact ⟨em, (h.blk x hx).2⟩
    · exact ⟨(eo y.g q2).trans (h.blk y q1).1, (h.blk y q1).2⟩
  · rcases mem_putS h.ap hk hy with rfl | ⟨q1, q2⟩
    · exact h.nt x hx
    · exact h.nt y q1
  · rcases mem_putS h.ap hk hy with rfl | ⟨q1, q2⟩
    · simpa using h.bd x hx
    · exact h.bd y q1
  · rcases e with e | ⟨y, hy, e⟩
    · exact .inl e
    · rcases mem_putS h.ap hk hy with rfl | ⟨q1, q2⟩
      · exact .inr ⟨x, hx, e⟩
      · exact .inr ⟨y, q1, e⟩
def mayC (c : Cp) : Bool := CX.capB c.a c.b c.c c.d c.e c.f c.g c.h
set_option maxRecDepth 100000 in
set_option maxHeartbeats 1000000 in
theorem sset_no (w : World) (b base : Nat) (tv : Value) (L : List Sn) (id ix : Int) (c : Cp) (h : SlotsAt w b base tv L) (hn : NoSlot L id ix) :
    Calls Tryd.prog 25 #[.pointer (some ⟨b, 0, none⟩), .agg #[.int .i64 id, .int .i64 ix], c.V] w fun e w' => e = .returned (.int .i64 3) ∧ Below w.heap.size w w' := by
  have H := Lib.hid h
  have HN := Lib.hid hn
  clear h hn
  go_enter Tryd.func25, Tryd.ntmps25
  go_wp2_with (first
    | (go_at_call 44; refine (sat_no _ b base tv L id ix (H.out.call (bal (bal (Below.refl _ _) _) _)) HN.out).mono ?_; rintro e w1 ⟨rfl, hb1⟩; obtain ⟨hc1, hf1⟩ := bcell hb1))
  go_ret
  exact ⟨rfl, bgo (bal (bal (Below.refl _ _) _) _) hb1⟩
set_option maxRecDepth 100000 in
set_option maxHeartbeats 1000000 in
theorem sset_form (w : World) (b base : Nat) (tv : Value) (L : List Sn) (id : Int) (i : Nat) (x : Sn) (c : Cp) (h : SlotsAt w b base tv L) (hT : CX.TabG w) (he : c.e ≤ 9223372036854775807) (hx : L[posS L id]? = some x) (hid : x.id = id) (hi : i < x.l.length) (hm : mayC c = false) :
    Calls Tryd.prog 25 #[.pointer (some ⟨b, 0, none⟩), .agg #[.int .i64 id, .int .i64 i], c.V] w fun e w' => e = .returned (.int .i64 5) ∧ Below w.heap.size w w' := by
  have hat : ∀ v, Below w.heap.size w v → Calls Tryd.prog 44 #[.pointer (some ⟨b, 0, none⟩), .agg #[.int .i64 id, .int .i64 i]] v fun e w' => e = .returned (.tuple #[.pointer (some ⟨x.g, i * 8, none⟩), .int .i64 0]) ∧ Below v.heap.size v w' := fun v hv => sat_yes v b base tv L id i x (h.call hv) hx hid hi
  have HA := Lib.hid hat
  have hmay : ∀ v, Below w.heap.size w v → Calls Tryd.prog 45 #[c.V] v fun e w' => e = .returned (.bool false) ∧ Below v.heap.size v w' := fun v hv => hm ▸ CX.capMay c.a c.b c.c c.d c.e c.f c.g c.h v (hT.call hv) he
  have HM := Lib.hid hmay
  clear h hx hid hi hat hmay hT he hm
  go_enter Tryd.func25, Tryd.ntmps25
  go_wp2_with (first
    | (go_at_call 44; refine (HA.out _ (bal (bal (Below.refl _ _) _) _)).mono ?_; rintro e w1 ⟨rfl, hb1⟩; have HB1 := Lib.hid (bgo (bal (bal (Below.refl w.heap.size w) _) _) hb1); obtain ⟨hc1, hf1⟩ := bcell hb1; have hz1 := hb1.size; have hz2 : w.heap.size + 1 < w1.heap.size := (by simp at hz1; omega))
    | (go_at_call 45; refine (HM.out _ HB1.out).mono ?_; rintro e w2 ⟨rfl, hb2⟩))
  go_ret
  exact ⟨rfl, bgo HB1.out hb2⟩
theorem setL_C (w : World) (m k : Nat) (c : Cp) : setL w m k c.L = (((((((w.setCell ⟨m, k, none⟩ (.int .i64 c.a)).setCell ⟨m, k + 1, none⟩ (.int .i64 c.b)).setCell ⟨m, k + 2, none⟩ (.int .i64 c.c)).setCell ⟨m, k + 3, none⟩ (.int .u64 c.d)).setCell ⟨m, k + 4, none⟩ (.int .i64 c.e)).setCell ⟨m, k + 5, none⟩ (.int .i64 c.f)).setCell ⟨m, k + 6, none⟩ (.int .i64 c.g)).setCell ⟨m, k + 7, none⟩ (.int .i64 c.h) := rfl
set_option maxRecDepth 100000 in
set_option maxHeartbeats 1000000 in
theorem sset_yes (w : World) (b base : Nat) (tv : Value) (L : List Sn) (id : Int) (i : Nat) (x : Sn) (c : Cp) (h : SlotsAt w b base tv L) (hT : CX.TabG w) (he : c.e ≤ 9223372036854775807) (hx : L[posS L id]? = some x) (hid : x.id = id) (hi : i < x.l.length) (hm : mayC c = true) :
    Calls Tryd.prog 25 #[.pointer (some ⟨b, 0, none⟩), .agg #[.int .i64 id, .int .i64 i], c.V] w fun e w' => e = .returned (.int .i64 0) ∧ SlotsAt w' b base tv (putS L (posS L id) x i c) ∧ SOnly w w' b tv tv L (putS L (posS L id) x i c) := by
  have hat : ∀ v, Below w.heap.size w v → Calls Tryd.prog 44 #[.pointer (some ⟨b, 0, none⟩), .agg #[.int .i64 id, .int .i64 i]] v fun e w' => e = .returned (.tuple #[.pointer (some ⟨x.g, i * 8, none⟩), .int .i64 0]) ∧ Below v.heap.size v w' := fun v hv => sat_yes v b base tv L id i x (h.call hv) hx hid hi
  have HA := Lib.hid hat
  have hmay : ∀ v, Below w.heap.size w v → Calls Tryd.prog 45 #[c.V] v fun e w' => e = .returned (.bool true) ∧ Below v.heap.size v w' := fun v hv => hm ▸ CX.capMay c.a c.b c.c c.d c.e c.f c.g c.h v (hT.call hv) he
  have HM := Lib.hid hmay
  have hmem := List.mem_of_getElem? hx
  have hg : x.g < w.heap.size := h.glt hmem
  obtain ⟨c0, hc0⟩ : ∃ c0, x.l[i]? = some c0 := ⟨_, List.getElem?_eq_getElem hi⟩
  have HC := Lib.hid (fun (w' : World) (hb : Below w.heap.size w w') (j : Nat) (u : Value) (hu : c0.L[j]? = some u) => (h.call hb).cell hmem hc0 hu)
  have HZ := Lib.hid (fun (w' : World) (hb : Below w.heap.size w w') (j : Nat) => (h.call hb).free hmem j)
  have hfin : ∀ w', Below w.heap.size w w' → SlotsAt (setL w' x.g (i * 8) c.L) b base tv (putS L (posS L id) x i c) ∧ SOnly w (setL w' x.g (i * 8) c.L) b tv tv L (putS L (posS L id) x i c) := by
    intro w' hb
    obtain ⟨q1, q2⟩ := (h.call hb).put hx hi c
    exact ⟨q1, q2.os.trans hb.os, q2.tape.trans hb.tape, q2.output.trans hb.output, Nat.le_trans hb.size q2.size, fun k hk p1 p2 p3 => (q2.block k (Nat.lt_of_lt_of_le hk hb.size) p1 p2 p3).trans (hb.block k hk), fun k hk e => q2.foot k (Nat.lt_of_lt_of_le hk hb.size) e⟩
  have HF := Lib.hid hfin
  clear h hx hid hi hat hmay hT he hm hc0 hmem hfin
  obtain ⟨gx, hgx⟩ : ∃ y, y = x.g := ⟨_, rfl⟩
  rw [← hgx] at HC HA hg HZ HF
  clear hgx
  go_enter Tryd.func25, Tryd.ntmps25
  go_wp2_with (first
    | (go_at_call 44; refine (HA.out _ (bal (bal (Below.refl _ _) _) _)).mono ?_; rintro e w1 ⟨rfl, hb1⟩; have HB1 := Lib.hid (bgo (bal (bal (Below.refl w.heap.size w) _) _) hb1); obtain ⟨hc1, hf1⟩ := bcell hb1; have hz1 := hb1.size; have hz2 : w.heap.size + 1 < w1.heap.size := (by simp at hz1; omega))
    | (go_at_call 45; refine (HM.out _ HB1.out).mono ?_; rintro e w2 ⟨rfl, hb2⟩; have HB2 := Lib.hid (bgo HB1.out hb2); obtain ⟨hc2, hf2⟩ := bcell hb2; have hz3 := hb2.size; have hz4 : gx < w2.heap.size := (Nat.lt_of_lt_of_le hg HB2.out.size); have k0 := HC.out w2 HB2.out 0 _ rfl; have k1 := HC.out w2 HB2.out 1 _ rfl; have k2 := HC.out w2 HB2.out 2 _ rfl; have k3 := HC.out w2 HB2.out 3 _ rfl; have k4 := HC.out w2 HB2.out 4 _ rfl; have k5 := HC.out w2 HB2.out 5 _ rfl; have k6 := HC.out w2 HB2.out 6 _ rfl; have k7 := HC.out w2 HB2.out 7 _ rfl; rw [Nat.add_zero] at k0; have f0 := HZ.out w2 HB2.out (i * 8); have f1 := HZ.out w2 HB2.out (i * 8 + 1); have f2 := HZ.out w2 HB2.out (i * 8 + 2); have f3 := HZ.out w2 HB2.out (i * 8 + 3); have f4 := HZ.out w2 HB2.out (i * 8 + 4); have f5 := HZ.out w2 HB2.out (i * 8 + 5); have f6 := HZ.out w2 HB2.out (i * 8 + 6); have f7 := HZ.out w2 HB2.out (i * 8 + 7)))
  go_ret
  have hs := HF.out w2 HB2.out
  rw [setL_C] at hs
  exact ⟨rfl, hs⟩
end TabS
end
/- A range over an iterator that may range over an iterator itself, and that may be left early: what is yielded is told by its place. -/
section
set_option linter.unusedVariables false
open Go.RowKit Go.Shelf
variable {P : Program} {F : Fence} {n : Nat}

/-- A row of elements of type E, that a round may turn. -/
def _root_.Go.Obj.rowOf (E : TypeId) : Obj → Bool
  | .cells _ t _ => t == E
  | _ => false
/-- What lies at or above B, rows of type E apart, is as it was. -/
def HiKept (E : TypeId) (B : Nat) (A A' : World) : Prop := A.heap.size ≤ A'.heap.size ∧ ∀ (k : Nat) (o : Obj), B ≤ k → A.heap[k]? = some o → o.rowOf E = false → A'.heap[k]? = some o
theorem HiKept.mono {E : TypeId} {B B' : Nat} {A A' : World} (h : HiKept E B A A') (hb : B ≤ B') : HiKept E B' A A' := ⟨h.1, fun k o hk => h.2 k o (by omega)⟩
theorem HiKept.refl (E : TypeId) (B : Nat) (A : World) : HiKept E B A A := ⟨Nat.le_refl _, fun _ _ _ h _ => h⟩
theorem HiKept.trans {E : TypeId} {B : Nat} {a b c : World} (h : HiKept E B a b) (k : HiKept E B b c) : HiKept E B a c := ⟨Nat.le_trans h.1 k.1, fun j o hj hl ho => k.2 j o hj (h.2 j o hj hl ho) ho⟩
theorem HiKept.below {E : TypeId} {B : Nat} {a b : World} (h : Below a.heap.size a b) : HiKept E B a b := ⟨h.size, fun k o _ hl _ => (h.block k (Array.getElem?_eq_some_iff.1 hl).1).trans hl⟩
theorem HiKept.drew {E : TypeId} {B : Nat} {a b : World} (h : HiKept E B a b) : HiKept E B a b.drew := h
/-- What an iterator of N things owes: it yields them in their order, the k-th as encs k; a round may leave. -/
def SeqPx (E : TypeId) (F : Fence) (n : Nat) (P : Program) (g : Nat) (lb : Array Value) (encs : Nat → Array Value) (I : Nat → World → Prop) (N B : Nat) : Prop :=
  ∀ (l : Nat) (J Jx : Nat → World → Prop) (W : World), B ≤ W.heap.size → OwnFrom W.heap.size J → OwnFrom W.heap.size Jx → (∀ k W1, J k W1 → I k W1) →
    (∀ k W1, k < N → J k W1 → YieldAt F (n - 1) P l (encs k) W1 fun e W' => (e = .returned (.bool true) ∧ J (k + 1) W' ∧ HiKept E W.heap.size W1 W') ∨ (e = .returned (.bool false) ∧ Jx k W' ∧ HiKept E W.heap.size W1 W')) →
    J 0 W → CallsIn F n P g (#[.func (.yield l) #[] #[]] ++ lb) W fun e W' => (∃ v, e = .returned v) ∧ (J N W' ∨ ∃ k, k < N ∧ Jx k W')
/-- How a round may be left. -/
def pxPost (E : TypeId) (I : Nat → World → Prop) (Ix : Code → Nat → World → Prop) (k B : Nat) (W : World) : Exit → Act → World → Prop
  | .normal, _, W' => HiKept E B W W' ∧ I (k + 1) W'
  | .ret, _, W' => HiKept E B W W' ∧ Ix .ret k W'
  | .exit id, _, W' => HiKept E B W W' ∧ Ix (.exit id) k W'
  | .goto t, _, W' => HiKept E B W W' ∧ Ix (.goto t) k W'
  | .panic _, _, _ => False
  | .outgrown, _, _ => False
theorem wpIn_range_px {g : Operand} {ps : Array Tmp} {assign body : Code} {Q : Exit → Act → World → Prop} {a : Act} {w : World}
    (hro : F.round = none) (h1 : 1 ≤ n) {gf : Nat} {lb : Array Value} (hg : a.eval g = .func (.func gf) #[] lb) (hFg : F.fn gf) (eg : ∀ args w, (callFunc gf args).run P w = .ok (.enter gf args) w)
    {encs : Nat → Array Value} {N : Nat} (E : TypeId) (I : Nat → World → Prop) (Ix : Code → Nat → World → Prop) (hseq : SeqPx E F (n - 1) P gf lb encs I N w.heap.size) (hps : ∀ x, (encs x).size = ps.size)
    (hI : OwnFrom w.heap.size I) (hIx : ∀ c, OwnFrom w.heap.size (Ix c)) (h0 : I 0 w) (a₁ : Nat → Act)
    (hassign : ∀ (l : Nat) (x : Nat) (W : World) (K : Act → World → Prop), K (a₁ x) W →
      assign.wpIn (F.inRound l) (n - 1 - 1) P (Exit.then K (fun _ _ _ => False)) { tmps := (ps.zip (encs x)).foldl (fun t (p, v) => t.setIfInBounds p v) a.tmps, defers := [] } W)
    (hbody : ∀ (l k : Nat) (W : World), k < N → I k W → body.wpIn (F.inRound l) (n - 1 - 1) P (pxPost E I Ix k w.heap.size W) (a₁ k) W)
    (hdone : ∀ (D : Nat) (W : World), w.heap.size ≤ D → I N W → W.heap[D]? = some (.deferred (some [])) → Q .normal { a with defers := { target := .collected D, args := #[] } :: a.defers } W)
    (hstop : ∀ (D : Nat) (c : Code) (k : Nat) (W : World), w.heap.size ≤ D → k < N → Ix c k W → W.heap[D]? = some (.deferred (some [])) → c.wpIn F n P Q { a with defers := { target := .collected D, args := #[] } :: a.defers } W) :
    (Code.rangeFunc g ps assign body).wpIn F n P Q a w := by
  refine wpIn_rangeFunc ?_
  intro fn hfn
  rw [hro]
  obtain ⟨rc, hrc⟩ : ∃ rc : LoopState → Option Code → Loop, rc = fun st pe => { state := st, pending := pe, fn, tmps := a.tmps, params := ps, assign, body, defers := w.heap.size } := ⟨_, rfl⟩
  have hent := run_enterLoop_outer (P := P) (w := w) fn a.tmps ps assign body
  obtain ⟨W1, hW1⟩ : ∃ W1, W1 = (w.alloc (.deferred (some []))).alloc (.loop (rc .ready none)) := ⟨_, rfl⟩
  have rec1 : W1.heap[w.heap.size + 1]? = some (.loop (rc .ready none)) := by
    have e := World.alloc_heap_new (w.alloc (.deferred (some []))) (.loop (rc .ready none))
    rw [World.size_alloc] at e
    rw [hW1]; exact e
  have def1 : W1.heap[w.heap.size]? = some (.deferred (some [])) := by
    rw [hW1, Below.heap_alloc _ _ _ (by simp)]
    exact World.alloc_heap_new w _
  have inv1 : I 0 W1 := by rw [hW1]; exact hI.alloc _ (hI.alloc _ h0)
  have siz1 : w.heap.size + 2 ≤ W1.heap.size := by rw [hW1]; simp
  refine ⟨w.heap.size + 1, [{ target := .collected w.heap.size, args := #[] }], W1, { target := .fn (.func gf) lb, args := #[.func (.yield (w.heap.size + 1)) #[] #[]] }, W1, gf, #[.func (.yield (w.heap.size + 1)) #[] #[]] ++ lb, W1, ?_, ?_, ?_, ?_, fun _ => h1, ?_⟩
  · rw [hW1, hrc]; exact hent
  · simp only [resolve, hg]
    simp [go_sem]
  · intro f' hf'
    simp [Target.leads] at hf'
    exact hf' ▸ hFg
  · simp [invoke, go_sem, eg]
  have keep : ∀ {A B : World} {row : Option Nat} {k : Nat} {o : Obj}, A.grownBy B row → (∀ r, row = some r → W1.heap.size ≤ r ∧ ∃ o : Obj, A.heap[r]? = some o ∧ o.isCells = false) → k < w.heap.size + 2 → A.heap[k]? = some o → B.heap[k]? = some o := by
    intro A B row k o hgr hr hk ho
    exact (hgr.block _ (Array.getElem?_eq_some_iff.1 ho).1 (fun e => by have := (hr _ e.symm).1; omega)).trans ho
  have hw : ∀ {A : World} {row : Option Nat}, (∀ r, row = some r → W1.heap.size ≤ r ∧ ∃ o : Obj, A.heap[r]? = some o ∧ o.isCells = false) → ∀ r, row = some r → w.heap.size ≤ r ∧ ∃ o : Obj, A.heap[r]? = some o ∧ o.isCells = false := by
    intro A row hr r e
    obtain ⟨hB, ho⟩ := hr r e
    exact ⟨by omega, ho⟩
  refine (hseq (w.heap.size + 1) (fun k W => I k W ∧ W.heap[w.heap.size + 1]? = some (.loop (rc .ready none)) ∧ W.heap[w.heap.size]? = some (.deferred (some [])))
    (fun k W => ∃ c, Ix c k W ∧ W.heap[w.heap.size + 1]? = some (.loop (rc .done (some c))) ∧ W.heap[w.heap.size]? = some (.deferred (some []))) W1 (by omega) ?_ ?_ (fun _ _ h => h.1) ?_ ⟨inv1, rec1, def1⟩).mono ?_
  · intro s A B row hs hgr hr
    exact ⟨hI s A B row hs.1 hgr (hw hr), keep hgr hr (by omega) hs.2.1, keep hgr hr (by omega) hs.2.2⟩
  · intro s A B row hs hgr hr
    obtain ⟨c, hc, h2, h3⟩ := hs
    exact ⟨c, hIx c s A B row hc hgr (hw hr), keep hgr hr (by omega) h2, keep hgr hr (by omega) h3⟩
  · -- a round
    rintro k W hkN ⟨hi, hl, hk⟩
    have hlt : w.heap.size + 1 < W.heap.size := (Array.getElem?_eq_some_iff.1 hl).1
    have hy := run_yield (P := P) (args := encs k) hl (by rw [hrc]; exact hps k)
    rw [hrc] at hy
    obtain ⟨U, hU⟩ : ∃ U, U = W.putObj (w.heap.size + 1) (.loop { rc .ready none with state := .busy }) := ⟨_, rfl⟩
    have recU : U.heap[w.heap.size + 1]? = some (.loop { rc .ready none with state := .busy }) := by rw [hU]; exact World.putObj_heap_same hlt
    have defU : U.heap[w.heap.size]? = some (.deferred (some [])) := by rw [hU]; exact (World.putObj_heap_other (by omega)).trans hk
    have invU : I k U := by rw [hU]; exact hI.putObj _ hi (by omega) hl rfl
    have h9 : U.heap.size = W.heap.size := by rw [hU]; simp [World.putObj]
    refine ⟨fn, _, assign, body, hy, roundIn_of_wpIn hfn (hassign _ k W _ ⟨_, run_beginRound hl (by rw [hrc]), ?_⟩)⟩
    rw [← hU]
    refine wpIn_mono (hbody _ k U hkN invU) ?_
    have fin : ∀ (jump : Option Code) (W3 : World), HiKept E w.heap.size U W3 →
        (Instr.endRound (w.heap.size + 1) jump).run P W3 = .ok (.bool jump.isNone) (W3.putObj (w.heap.size + 1) (.loop (rc (if jump.isNone then .ready else .done) jump))) ∧
        W3.heap[w.heap.size + 1]? = some (.loop { rc .ready none with state := .busy }) ∧
        (W3.putObj (w.heap.size + 1) (.loop (rc (if jump.isNone then .ready else .done) jump))).heap[w.heap.size + 1]? = some (.loop (rc (if jump.isNone then .ready else .done) jump)) ∧
        (W3.putObj (w.heap.size + 1) (.loop (rc (if jump.isNone then .ready else .done) jump))).heap[w.heap.size]? = some (.deferred (some [])) ∧
        HiKept E W1.heap.size W (W3.putObj (w.heap.size + 1) (.loop (rc (if jump.isNone then .ready else .done) jump))) := fun jump W3 hk3 => by
      have rec3 := hk3.2 _ _ (by omega) recU rfl
      have def3 := hk3.2 _ _ (by omega) defU rfl
      have hend := run_endRound (P := P) jump rec3
      have lt3 : w.heap.size + 1 < W3.heap.size := (Array.getElem?_eq_some_iff.1 rec3).1
      rw [hrc] at hend rec3
      refine ⟨by rw [hrc]; exact hend, by rw [hrc]; exact rec3, World.putObj_heap_same lt3, (World.putObj_heap_other (by omega)).trans def3, ?_, ?_⟩
      · have h8 := hk3.1
        simp only [World.putObj, Array.size_setIfInBounds]
        omega
      · intro j o hjB hjl ho
        have hU' : U.heap[j]? = some o := by rw [hU]; exact (World.putObj_heap_other (by omega)).trans hjl
        exact (World.putObj_heap_other (by omega)).trans (hk3.2 _ _ (by omega) hU' ho)
    rintro e a3 W3 hp
    cases e with
    | normal =>
      obtain ⟨hk3, hi3⟩ := hp
      obtain ⟨hr, hl3, hl4, hk4, hH⟩ := fin none W3 hk3
      exact ⟨_, _, hr, .inl ⟨rfl, ⟨hI.putObj _ hi3 (by omega) hl3 rfl, hl4, hk4⟩, hH⟩⟩
    | ret =>
      obtain ⟨hk3, hi3⟩ := hp
      obtain ⟨hr, hl3, hl4, hk4, hH⟩ := fin (some .ret) W3 hk3
      exact ⟨_, _, hr, .inr ⟨rfl, ⟨.ret, (hIx _).putObj _ hi3 (by omega) hl3 rfl, hl4, hk4⟩, hH⟩⟩
    | exit id =>
      obtain ⟨hk3, hi3⟩ := hp
      obtain ⟨hr, hl3, hl4, hk4, hH⟩ := fin (some (.exit id)) W3 hk3
      exact ⟨_, _, hr, .inr ⟨rfl, ⟨.exit id, (hIx _).putObj _ hi3 (by omega) hl3 rfl, hl4, hk4⟩, hH⟩⟩
    | goto t =>
      obtain ⟨hk3, hi3⟩ := hp
      obtain ⟨hr, hl3, hl4, hk4, hH⟩ := fin (some (.goto t)) W3 hk3
      exact ⟨_, _, hr, .inr ⟨rfl, ⟨.goto t, (hIx _).putObj _ hi3 (by omega) hl3 rfl, hl4, hk4⟩, hH⟩⟩
    | panic ch => exact hp.elim
    | outgrown => exact hp.elim
  · -- behind the iterator
    rintro e W2 ⟨⟨v, rfl⟩, ⟨hi, hl, hk⟩ | ⟨k, hkN, c, hi, hl, hk⟩⟩
    · have hend := run_endLoop (P := P) hl (by rw [hrc]; simp)
      rw [hrc] at hend
      exact ⟨none, _, hend, hdone _ _ (Nat.le_refl _) (hI.putObj _ hi (by omega) hl rfl) ((World.putObj_heap_other (by omega)).trans hk)⟩
    · have hend := run_endLoop (P := P) hl (by rw [hrc]; simp)
      rw [hrc] at hend
      exact ⟨some c, _, hend, hstop _ c k _ (Nat.le_refl _) hkN ((hIx c).putObj _ hi (by omega) hl rfl) ((World.putObj_heap_other (by omega)).trans hk)⟩
theorem round_any {l' m m' : Nat} {P : Program} {l : Nat} {f : FuncId} {tmps : Array Value} {assign body : Code} {w : World} {R : Ending → World → Prop} (h : RoundIn Fence.wide m P l f tmps assign body w R) : RoundIn (Fence.wide.inRound l') m' P l f tmps assign body w R := ⟨h.1, fun c cs _ => h.2 c cs (fun d h => by cases h)⟩
theorem two_ways {A B : World → Prop} {e : Ending} {W : World} (h : (e = .returned (.bool true) ∧ A W) ∨ (e = .returned (.bool false) ∧ B W)) : ∃ t, e = .returned (.bool t) ∧ (t = true → A W) ∧ (t = false → B W) := by
  rcases h with ⟨h1, h2⟩ | ⟨h1, h2⟩
  · exact ⟨true, h1, fun _ => h2, fun e => (by cases e)⟩
  · exact ⟨false, h1, fun e => (by cases e), fun _ => h2⟩
theorem cell_of_block {W W' : World} {b j : Nat} (h : W'.heap[b]? = W.heap[b]?) : W'.cell? ⟨b, j, none⟩ = W.cell? ⟨b, j, none⟩ := World.cell?_of_block h
theorem frozen_of_block {W W' : World} {b j : Nat} (h : W'.heap[b]? = W.heap[b]?) : W'.frozen? ⟨b, j, none⟩ = W.frozen? ⟨b, j, none⟩ := World.frozen?_of_block h
end
/- A range over an iterator whose variable is put in a box of its own, round by round. -/
section
set_option linter.unusedVariables false
open Go.RowKit Go.Shelf
variable {P : Program} {F : Fence} {n : Nat}

theorem wpIn_range_pa {g : Operand} {ps : Array Tmp} {assign body : Code} {Q : Exit → Act → World → Prop} {a : Act} {w : World}
    (hro : F.round = none) (h1 : 1 ≤ n) {gf : Nat} {lb : Array Value} (hg : a.eval g = .func (.func gf) #[] lb) (hFg : F.fn gf) (eg : ∀ args w, (callFunc gf args).run P w = .ok (.enter gf args) w)
    {encs : Nat → Array Value} {N : Nat} (E : TypeId) (I : Nat → World → Prop) (Ix : Code → Nat → World → Prop) (hseq : SeqPx E F (n - 1) P gf lb encs I N w.heap.size) (hps : ∀ x, (encs x).size = ps.size)
    (hI : OwnFrom w.heap.size I) (hIx : ∀ c, OwnFrom w.heap.size (Ix c)) (h0 : I 0 w) (ob : Nat → Obj) (hob : ∀ x, (ob x).isCells = true) (a₁ : Nat → Nat → Act)
    (hassign : ∀ (l : Nat) (x : Nat) (W : World) (K : Act → World → Prop), K (a₁ x W.heap.size) (W.alloc (ob x)) →
      assign.wpIn (F.inRound l) (n - 1 - 1) P (Exit.then K (fun _ _ _ => False)) { tmps := (ps.zip (encs x)).foldl (fun t (p, v) => t.setIfInBounds p v) a.tmps, defers := [] } W)
    (hbody : ∀ (l k s : Nat) (W : World), k < N → I k W → w.heap.size ≤ s → W.heap[s]? = some (ob k) → body.wpIn (F.inRound l) (n - 1 - 1) P (pxPost E I Ix k w.heap.size W) (a₁ k s) W)
    (hdone : ∀ (D : Nat) (W : World), w.heap.size ≤ D → I N W → W.heap[D]? = some (.deferred (some [])) → Q .normal { a with defers := { target := .collected D, args := #[] } :: a.defers } W)
    (hstop : ∀ (D : Nat) (c : Code) (k : Nat) (W : World), w.heap.size ≤ D → k < N → Ix c k W → W.heap[D]? = some (.deferred (some [])) → c.wpIn F n P Q { a with defers := { target := .collected D, args := #[] } :: a.defers } W) :
    (Code.rangeFunc g ps assign body).wpIn F n P Q a w := by
  refine wpIn_rangeFunc ?_
  intro fn hfn
  rw [hro]
  obtain ⟨rc, hrc⟩ : ∃ rc : LoopState → Option Code → Loop, rc = fun st pe => { state := st, pending := pe, fn, tmps := a.tmps, params := ps, assign, body, defers := w.heap.size } := ⟨_, rfl⟩
  have hent := run_enterLoop_outer (P := P) (w := w) fn a.tmps ps assign body
  obtain ⟨W1, hW1⟩ : ∃ W1, W1 = (w.alloc (.deferred (some []))).alloc (.loop (rc .ready none)) := ⟨_, rfl⟩
  have rec1 : W1.heap[w.heap.size + 1]? = some (.loop (rc .ready none)) := by
    have e := World.alloc_heap_new (w.alloc (.deferred (some []))) (.loop (rc .ready none))
    rw [World.size_alloc] at e
    rw [hW1]; exact e
  have def1 : W1.heap[w.heap.size]? = some (.deferred (some [])) := by
    rw [hW1, Below.heap_alloc _ _ _ (by simp)]
    exact World.alloc_heap_new w _
  have inv1 : I 0 W1 := by rw [hW1]; exact hI.alloc _ (hI.alloc _ h0)
  have siz1 : w.heap.size + 2 ≤ W1.heap.size := by rw [hW1]; simp
  refine ⟨w.heap.size + 1, [{ target := .collected w.heap.size, args := #[] }], W1, { target := .fn (.func gf) lb, args := #[.func (.yield (w.heap.size + 1)) #[] #[]] }, W1, gf, #[.func (.yield (w.heap.size + 1)) #[] #[]] ++ lb, W1, ?_, ?_, ?_, ?_, fun _ => h1, ?_⟩
  · rw [hW1, hrc]; exact hent
  · simp only [resolve, hg]
    simp [go_sem]
  · intro f' hf'
    simp [Target.leads] at hf'
    exact hf' ▸ hFg
  · simp [invoke, go_sem, eg]
  have keep : ∀ {A B : World} {row : Option Nat} {k : Nat} {o : Obj}, A.grownBy B row → (∀ r, row = some r → W1.heap.size ≤ r ∧ ∃ o : Obj, A.heap[r]? = some o ∧ o.isCells = false) → k < w.heap.size + 2 → A.heap[k]? = some o → B.heap[k]? = some o := by
    intro A B row k o hgr hr hk ho
    exact (hgr.block _ (Array.getElem?_eq_some_iff.1 ho).1 (fun e => by have := (hr _ e.symm).1; omega)).trans ho
  have hw : ∀ {A : World} {row : Option Nat}, (∀ r, row = some r → W1.heap.size ≤ r ∧ ∃ o : Obj, A.heap[r]? = some o ∧ o.isCells = false) → ∀ r, row = some r → w.heap.size ≤ r ∧ ∃ o : Obj, A.heap[r]? = some o ∧ o.isCells = false := by
    intro A row hr r e
    obtain ⟨hB, ho⟩ := hr r e
    exact ⟨by omega, ho⟩
  refine (hseq (w.heap.size + 1) (fun k W => I k W ∧ W.heap[w.heap.size + 1]? = some (.loop (rc .ready none)) ∧ W.heap[w.heap.size]? = some (.deferred (some [])))
    (fun k W => ∃ c, Ix c k W ∧ W.heap[w.heap.size + 1]? = some (.loop (rc .done (some c))) ∧ W.heap[w.heap.size]? = some (.deferred (some []))) W1 (by omega) ?_ ?_ (fun _ _ h => h.1) ?_ ⟨inv1, rec1, def1⟩).mono ?_
  · intro s A B row hs hgr hr
    exact ⟨hI s A B row hs.1 hgr (hw hr), keep hgr hr (by omega) hs.2.1, keep hgr hr (by omega) hs.2.2⟩
  · intro s A B row hs hgr hr
    obtain ⟨c, hc, h2, h3⟩ := hs
    exact ⟨c, hIx c s A B row hc hgr (hw hr), keep hgr hr (by omega) h2, keep hgr hr (by omega) h3⟩
  · -- a round
    rintro k W hkN ⟨hi, hl, hk⟩
    have hlt : w.heap.size + 1 < W.heap.size := (Array.getElem?_eq_some_iff.1 hl).1
    have hy := run_yield (P := P) (args := encs k) hl (by rw [hrc]; exact hps k)
    rw [hrc] at hy
    have hl' : (W.alloc (ob k)).heap[w.heap.size + 1]? = some (.loop (rc .ready none)) := (Below.heap_alloc _ _ _ (by omega)).trans hl
    have hk' : (W.alloc (ob k)).heap[w.heap.size]? = some (.deferred (some [])) := (Below.heap_alloc _ _ _ (by omega)).trans hk
    have hlt' : w.heap.size + 1 < (W.alloc (ob k)).heap.size := (Array.getElem?_eq_some_iff.1 hl').1
    obtain ⟨U, hU⟩ : ∃ U, U = (W.alloc (ob k)).putObj (w.heap.size + 1) (.loop { rc .ready none with state := .busy }) := ⟨_, rfl⟩
    have recU : U.heap[w.heap.size + 1]? = some (.loop { rc .ready none with state := .busy }) := by rw [hU]; exact World.putObj_heap_same hlt'
    have defU : U.heap[w.heap.size]? = some (.deferred (some [])) := by rw [hU]; exact (World.putObj_heap_other (by omega)).trans hk'
    have invU : I k U := by rw [hU]; exact hI.putObj _ (hI.alloc _ hi) (by omega) hl' rfl
    have boxU : U.heap[W.heap.size]? = some (ob k) := by rw [hU]; exact (World.putObj_heap_other (by omega)).trans (World.alloc_heap_new _ _)
    have h9 : U.heap.size = W.heap.size + 1 := by rw [hU]; simp [World.putObj]
    refine ⟨fn, _, assign, body, hy, roundIn_of_wpIn hfn (hassign _ k W _ ⟨_, run_beginRound hl' (by rw [hrc]), ?_⟩)⟩
    rw [← hU]
    refine wpIn_mono (hbody _ k W.heap.size U hkN invU (by omega) boxU) ?_
    have fin : ∀ (jump : Option Code) (W3 : World), HiKept E w.heap.size U W3 →
        (Instr.endRound (w.heap.size + 1) jump).run P W3 = .ok (.bool jump.isNone) (W3.putObj (w.heap.size + 1) (.loop (rc (if jump.isNone then .ready else .done) jump))) ∧
        W3.heap[w.heap.size + 1]? = some (.loop { rc .ready none with state := .busy }) ∧
        (W3.putObj (w.heap.size + 1) (.loop (rc (if jump.isNone then .ready else .done) jump))).heap[w.heap.size + 1]? = some (.loop (rc (if jump.isNone then .ready else .done) jump)) ∧
        (W3.putObj (w.heap.size + 1) (.loop (rc (if jump.isNone then .ready else .done) jump))).heap[w.heap.size]? = some (.deferred (some [])) ∧
        HiKept E W1.heap.size W (W3.putObj (w.heap.size + 1) (.loop (rc (if jump.isNone then .ready else .done) jump))) := fun jump W3 hk3 => by
      have rec3 := hk3.2 _ _ (by omega) recU rfl
      have def3 := hk3.2 _ _ (by omega) defU rfl
      have hend := run_endRound (P := P) jump rec3
      have lt3 : w.heap.size + 1 < W3.heap.size := (Array.getElem?_eq_some_iff.1 rec3).1
      rw [hrc] at hend rec3
      refine ⟨by rw [hrc]; exact hend, by rw [hrc]; exact rec3, World.putObj_heap_same lt3, (World.putObj_heap_other (by omega)).trans def3, ?_, ?_⟩
      · have h8 := hk3.1
        simp only [World.putObj, Array.size_setIfInBounds]
        omega
      · intro j o hjB hjl ho
        have hU' : U.heap[j]? = some o := by rw [hU]; exact (World.putObj_heap_other (by omega)).trans ((Below.heap_alloc _ _ _ (Array.getElem?_eq_some_iff.1 hjl).1).trans hjl)
        exact (World.putObj_heap_other (by omega)).trans (hk3.2 _ _ (by omega) hU' ho)
    rintro e a3 W3 hp
    cases e with
    | normal =>
      obtain ⟨hk3, hi3⟩ := hp
      obtain ⟨hr, hl3, hl4, hk4, hH⟩ := fin none W3 hk3
      exact ⟨_, _, hr, .inl ⟨rfl, ⟨hI.putObj _ hi3 (by omega) hl3 rfl, hl4, hk4⟩, hH⟩⟩
    | ret =>
      obtain ⟨hk3, hi3⟩ := hp
      obtain ⟨hr, hl3, hl4, hk4, hH⟩ := fin (some .ret) W3 hk3
      exact ⟨_, _, hr, .inr ⟨rfl, ⟨.ret, (hIx _).putObj _ hi3 (by omega) hl3 rfl, hl4, hk4⟩, hH⟩⟩
    | exit id =>
      obtain ⟨hk3, hi3⟩ := hp
      obtain ⟨hr, hl3, hl4, hk4, hH⟩ := fin (some (.exit id)) W3 hk3
      exact ⟨_, _, hr, .inr ⟨rfl, ⟨.exit id, (hIx _).putObj _ hi3 (by omega) hl3 rfl, hl4, hk4⟩, hH⟩⟩
    | goto t =>
      obtain ⟨hk3, hi3⟩ := hp
      obtain ⟨hr, hl3, hl4, hk4, hH⟩ := fin (some (.goto t)) W3 hk3
      exact ⟨_, _, hr, .inr ⟨rfl, ⟨.goto t, (hIx _).putObj _ hi3 (by omega) hl3 rfl, hl4, hk4⟩, hH⟩⟩
    | panic ch => exact hp.elim
    | outgrown => exact hp.elim
  · -- behind the iterator
    rintro e W2 ⟨⟨v, rfl⟩, ⟨hi, hl, hk⟩ | ⟨k, hkN, c, hi, hl, hk⟩⟩
    · have hend := run_endLoop (P := P) hl (by rw [hrc]; simp)
      rw [hrc] at hend
      exact ⟨none, _, hend, hdone _ _ (Nat.le_refl _) (hI.putObj _ hi (by omega) hl rfl) ((World.putObj_heap_other (by omega)).trans hk)⟩
    · have hend := run_endLoop (P := P) hl (by rw [hrc]; simp)
      rw [hrc] at hend
      exact ⟨some c, _, hend, hstop _ c k _ (Nat.le_refl _) hkN ((hIx c).putObj _ hi (by omega) hl rfl) ((World.putObj_heap_other (by omega)).trans hk)⟩
end
/- A range whose body is told of its own loop's record; a range within a round, whose variable is put in a box, round by round. -/
section
set_option linter.unusedVariables false
open Go.RowKit Go.Shelf
variable {P : Program} {F : Fence} {n : Nat}

theorem SeqPx.inRound {E : TypeId} {g : Nat} {lb : Array Value} {encs : Nat → Array Value} {I : Nat → World → Prop} {N B : Nat} (l : Nat) (h : SeqPx E F n P g lb encs I N B) : SeqPx E (F.inRound l) n P g lb encs I N B := h
theorem ownFrom_hiKept {β : Type} {E : TypeId} {B B' : Nat} {w₀ : World} (hB : w₀.heap.size ≤ B') : OwnFrom B' (fun (_ : β) W => HiKept E B w₀ W) :=
  fun _ X Y row hs hg hr => ⟨Nat.le_trans hs.1 hg.size, fun k o hk h0 ho => by
    have hX := hs.2 k o hk h0 ho
    refine (hg.block k (Array.getElem?_eq_some_iff.1 hX).1 (fun e => ?_)).trans hX
    have h1 := (hr k e.symm).1
    have h2 := (Array.getElem?_eq_some_iff.1 h0).1
    omega⟩
theorem wpIn_range_pxH {g : Operand} {ps : Array Tmp} {assign body : Code} {Q : Exit → Act → World → Prop} {a : Act} {w : World}
    (hro : F.round = none) (h1 : 1 ≤ n) {gf : Nat} {lb : Array Value} (hg : a.eval g = .func (.func gf) #[] lb) (hFg : F.fn gf) (eg : ∀ args w, (callFunc gf args).run P w = .ok (.enter gf args) w)
    {encs : Nat → Array Value} {N : Nat} (E : TypeId) (I : Nat → World → Prop) (Ix : Code → Nat → World → Prop) (hseq : SeqPx E F (n - 1) P gf lb encs I N w.heap.size) (hps : ∀ x, (encs x).size = ps.size)
    (hI : OwnFrom w.heap.size I) (hIx : ∀ c, OwnFrom w.heap.size (Ix c)) (h0 : I 0 w) (a₁ : Nat → Act)
    (hassign : ∀ (l : Nat) (x : Nat) (W : World) (K : Act → World → Prop), K (a₁ x) W →
      assign.wpIn (F.inRound l) (n - 1 - 1) P (Exit.then K (fun _ _ _ => False)) { tmps := (ps.zip (encs x)).foldl (fun t (p, v) => t.setIfInBounds p v) a.tmps, defers := [] } W)
    (hbody : ∀ (l k : Nat) (W : World), w.heap.size ≤ l → (∃ r, W.heap[l]? = some (.loop r)) → k < N → I k W → body.wpIn (F.inRound l) (n - 1 - 1) P (pxPost E I Ix k w.heap.size W) (a₁ k) W)
    (hdone : ∀ (D : Nat) (W : World), w.heap.size ≤ D → I N W → W.heap[D]? = some (.deferred (some [])) → Q .normal { a with defers := { target := .collected D, args := #[] } :: a.defers } W)
    (hstop : ∀ (D : Nat) (c : Code) (k : Nat) (W : World), w.heap.size ≤ D → k < N → Ix c k W → W.heap[D]? = some (.deferred (some [])) → c.wpIn F n P Q { a with defers := { target := .collected D, args := #[] } :: a.defers } W) :
    (Code.rangeFunc g ps assign body).wpIn F n P Q a w := by
  refine wpIn_rangeFunc ?_
  intro fn hfn
  rw [hro]
  obtain ⟨rc, hrc⟩ : ∃ rc : LoopState → Option Code → Loop, rc = fun st pe => { state := st, pending := pe, fn, tmps := a.tmps, params := ps, assign, body, defers := w.heap.size } := ⟨_, rfl⟩
  have hent := run_enterLoop_outer (P := P) (w := w) fn a.tmps ps assign body
  obtain ⟨W1, hW1⟩ : ∃ W1, W1 = (w.alloc (.deferred (some []))).alloc (.loop (rc .ready none)) := ⟨_, rfl⟩
  have rec1 : W1.heap[w.heap.size + 1]? = some (.loop (rc .ready none)) := by
    have e := World.alloc_heap_new (w.alloc (.deferred (some []))) (.loop (rc .ready none))
    rw [World.size_alloc] at e
    rw [hW1]; exact e
  have def1 : W1.heap[w.heap.size]? = some (.deferred (some [])) := by
    rw [hW1, Below.heap_alloc _ _ _ (by simp)]
    exact World.alloc_heap_new w _
  have inv1 : I 0 W1 := by rw [hW1]; exact hI.alloc _ (hI.alloc _ h0)
  have siz1 : w.heap.size + 2 ≤ W1.heap.size := by rw [hW1]; simp
  refine ⟨w.heap.size + 1, [{ target := .collected w.heap.size, args := #[] }], W1, { target := .fn (.func gf) lb, args := #[.func (.yield (w.heap.size + 1)) #[] #[]] }, W1, gf, #[.func (.yield (w.heap.size + 1)) #[] #[]] ++ lb, W1, ?_, ?_, ?_, ?_, fun _ => h1, ?_⟩
  · rw [hW1, hrc]; exact hent
  · simp only [resolve, hg]
    simp [go_sem]
  · intro f' hf'
    simp [Target.leads] at hf'
    exact hf' ▸ hFg
  · simp [invoke, go_sem, eg]
  have keep : ∀ {A B : World} {row : Option Nat} {k : Nat} {o : Obj}, A.grownBy B row → (∀ r, row = some r → W1.heap.size ≤ r ∧ ∃ o : Obj, A.heap[r]? = some o ∧ o.isCells = false) → k < w.heap.size + 2 → A.heap[k]? = some o → B.heap[k]? = some o := by
    intro A B row k o hgr hr hk ho
    exact (hgr.block _ (Array.getElem?_eq_some_iff.1 ho).1 (fun e => by have := (hr _ e.symm).1; omega)).trans ho
  have hw : ∀ {A : World} {row : Option Nat}, (∀ r, row = some r → W1.heap.size ≤ r ∧ ∃ o : Obj, A.heap[r]? = some o ∧ o.isCells = false) → ∀ r, row = some r → w.heap.size ≤ r ∧ ∃ o : Obj, A.heap[r]? = some o ∧ o.isCells = false := by
    intro A row hr r e
    obtain ⟨hB, ho⟩ := hr r e
    exact ⟨by omega, ho⟩
  refine (hseq (w.heap.size + 1) (fun k W => I k W ∧ W.heap[w.heap.size + 1]? = some (.loop (rc .ready none)) ∧ W.heap[w.heap.size]? = some (.deferred (some [])))
    (fun k W => ∃ c, Ix c k W ∧ W.heap[w.heap.size + 1]? = some (.loop (rc .done (some c))) ∧ W.heap[w.heap.size]? = some (.deferred (some []))) W1 (by omega) ?_ ?_ (fun _ _ h => h.1) ?_ ⟨inv1, rec1, def1⟩).mono ?_
  · intro s A B row hs hgr hr
    exact ⟨hI s A B row hs.1 hgr (hw hr), keep hgr hr (by omega) hs.2.1, keep hgr hr (by omega) hs.2.2⟩
  · intro s A B row hs hgr hr
    obtain ⟨c, hc, h2, h3⟩ := hs
    exact ⟨c, hIx c s A B row hc hgr (hw hr), keep hgr hr (by omega) h2, keep hgr hr (by omega) h3⟩
  · -- a round
    rintro k W hkN ⟨hi, hl, hk⟩
    have hlt : w.heap.size + 1 < W.heap.size := (Array.getElem?_eq_some_iff.1 hl).1
    have hy := run_yield (P := P) (args := encs k) hl (by rw [hrc]; exact hps k)
    rw [hrc] at hy
    obtain ⟨U, hU⟩ : ∃ U, U = W.putObj (w.heap.size + 1) (.loop { rc .ready none with state := .busy }) := ⟨_, rfl⟩
    have recU : U.heap[w.heap.size + 1]? = some (.loop { rc .ready none with state := .busy }) := by rw [hU]; exact World.putObj_heap_same hlt
    have defU : U.heap[w.heap.size]? = some (.deferred (some [])) := by rw [hU]; exact (World.putObj_heap_other (by omega)).trans hk
    have invU : I k U := by rw [hU]; exact hI.putObj _ hi (by omega) hl rfl
    have h9 : U.heap.size = W.heap.size := by rw [hU]; simp [World.putObj]
    refine ⟨fn, _, assign, body, hy, roundIn_of_wpIn hfn (hassign _ k W _ ⟨_, run_beginRound hl (by rw [hrc]), ?_⟩)⟩
    rw [← hU]
    refine wpIn_mono (hbody _ k U (by omega) ⟨_, recU⟩ hkN invU) ?_
    have fin : ∀ (jump : Option Code) (W3 : World), HiKept E w.heap.size U W3 →
        (Instr.endRound (w.heap.size + 1) jump).run P W3 = .ok (.bool jump.isNone) (W3.putObj (w.heap.size + 1) (.loop (rc (if jump.isNone then .ready else .done) jump))) ∧
        W3.heap[w.heap.size + 1]? = some (.loop { rc .ready none with state := .busy }) ∧
        (W3.putObj (w.heap.size + 1) (.loop (rc (if jump.isNone then .ready else .done) jump))).heap[w.heap.size + 1]? = some (.loop (rc (if jump.isNone then .ready else .done) jump)) ∧
        (W3.putObj (w.heap.size + 1) (.loop (rc (if jump.isNone then .ready else .done) jump))).heap[w.heap.size]? = some (.deferred (some [])) ∧
        HiKept E W1.heap.size W (W3.putObj (w.heap.size + 1) (.loop (rc (if jump.isNone then .ready else .done) jump))) := fun jump W3 hk3 => by
      have rec3 := hk3.2 _ _ (by omega) recU rfl
      have def3 := hk3.2 _ _ (by omega) defU rfl
      have hend := run_endRound (P := P) jump rec3
      have lt3 : w.heap.size + 1 < W3.heap.size := (Array.getElem?_eq_some_iff.1 rec3).1
      rw [hrc] at hend rec3
      refine ⟨by rw [hrc]; exact hend, by rw [hrc]; exact rec3, World.putObj_heap_same lt3, (World.putObj_heap_other (by omega)).trans def3, ?_, ?_⟩
      · have h8 := hk3.1
        simp only [World.putObj, Array.size_setIfInBounds]
        omega
      · intro j o hjB hjl ho
        have hU' : U.heap[j]? = some o := by rw [hU]; exact (World.putObj_heap_other (by omega)).trans hjl
        exact (World.putObj_heap_other (by omega)).trans (hk3.2 _ _ (by omega) hU' ho)
    rintro e a3 W3 hp
    cases e with
    | normal =>
      obtain ⟨hk3, hi3⟩ := hp
      obtain ⟨hr, hl3, hl4, hk4, hH⟩ := fin none W3 hk3
      exact ⟨_, _, hr, .inl ⟨rfl, ⟨hI.putObj _ hi3 (by omega) hl3 rfl, hl4, hk4⟩, hH⟩⟩
    | ret =>
      obtain ⟨hk3, hi3⟩ := hp
      obtain ⟨hr, hl3, hl4, hk4, hH⟩ := fin (some .ret) W3 hk3
      exact ⟨_, _, hr, .inr ⟨rfl, ⟨.ret, (hIx _).putObj _ hi3 (by omega) hl3 rfl, hl4, hk4⟩, hH⟩⟩
    | exit id =>
      obtain ⟨hk3, hi3⟩ := hp
      obtain ⟨hr, hl3, hl4, hk4, hH⟩ := fin (some (.exit id)) W3 hk3
      exact ⟨_, _, hr, .inr ⟨rfl, ⟨.exit id, (hIx _).putObj _ hi3 (by omega) hl3 rfl, hl4, hk4⟩, hH⟩⟩
    | goto t =>
      obtain ⟨hk3, hi3⟩ := hp
      obtain ⟨hr, hl3, hl4, hk4, hH⟩ := fin (some (.goto t)) W3 hk3
      exact ⟨_, _, hr, .inr ⟨rfl, ⟨.goto t, (hIx _).putObj _ hi3 (by omega) hl3 rfl, hl4, hk4⟩, hH⟩⟩
    | panic ch => exact hp.elim
    | outgrown => exact hp.elim
  · -- behind the iterator
    rintro e W2 ⟨⟨v, rfl⟩, ⟨hi, hl, hk⟩ | ⟨k, hkN, c, hi, hl, hk⟩⟩
    · have hend := run_endLoop (P := P) hl (by rw [hrc]; simp)
      rw [hrc] at hend
      exact ⟨none, _, hend, hdone _ _ (Nat.le_refl _) (hI.putObj _ hi (by omega) hl rfl) ((World.putObj_heap_other (by omega)).trans hk)⟩
    · have hend := run_endLoop (P := P) hl (by rw [hrc]; simp)
      rw [hrc] at hend
      exact ⟨some c, _, hend, hstop _ c k _ (Nat.le_refl _) hkN ((hIx c).putObj _ hi (by omega) hl rfl) ((World.putObj_heap_other (by omega)).trans hk)⟩
theorem wpIn_range_paN {g : Operand} {ps : Array Tmp} {assign body : Code} {Q : Exit → Act → World → Prop} {a : Act} {w : World}
    {l₀ : Nat} {r₀ : Loop} (hro : F.round = some l₀) (hl₀ : w.heap[l₀]? = some (.loop r₀)) (h1 : 1 ≤ n) {gf : Nat} {lb : Array Value} (hg : a.eval g = .func (.func gf) #[] lb) (hFg : F.fn gf) (eg : ∀ args w, (callFunc gf args).run P w = .ok (.enter gf args) w)
    {encs : Nat → Array Value} {N : Nat} (E : TypeId) (I : Nat → World → Prop) (Ix : Code → Nat → World → Prop) (hseq : SeqPx E F (n - 1) P gf lb encs I N w.heap.size) (hps : ∀ x, (encs x).size = ps.size)
    (hI : OwnFrom w.heap.size I) (hIx : ∀ c, OwnFrom w.heap.size (Ix c)) (h0 : I 0 w) (ob : Nat → Obj) (hob : ∀ x, (ob x).isCells = true) (a₁ : Nat → Nat → Act)
    (hassign : ∀ (l : Nat) (x : Nat) (W : World) (K : Act → World → Prop), K (a₁ x W.heap.size) (W.alloc (ob x)) →
      assign.wpIn (F.inRound l) (n - 1 - 1) P (Exit.then K (fun _ _ _ => False)) { tmps := (ps.zip (encs x)).foldl (fun t (p, v) => t.setIfInBounds p v) a.tmps, defers := [] } W)
    (hbody : ∀ (l k s : Nat) (W : World), k < N → I k W → w.heap.size ≤ s → W.heap[s]? = some (ob k) → body.wpIn (F.inRound l) (n - 1 - 1) P (pxPost E I Ix k w.heap.size W) (a₁ k s) W)
    (hdone : ∀ (W : World), I N W → Q .normal a W)
    (hstop : ∀ (c : Code) (k : Nat) (W : World), k < N → Ix c k W → c.wpIn F n P Q a W) :
    (Code.rangeFunc g ps assign body).wpIn F n P Q a w := by
  refine wpIn_rangeFunc ?_
  intro fn hfn
  rw [hro]
  obtain ⟨rc, hrc⟩ : ∃ rc : LoopState → Option Code → Loop, rc = fun st pe => { state := st, pending := pe, fn, tmps := a.tmps, params := ps, assign, body, defers := r₀.defers } := ⟨_, rfl⟩
  obtain ⟨W1, hW1⟩ : ∃ W1, W1 = w.alloc (.loop (rc .ready none)) := ⟨_, rfl⟩
  have rec1 : W1.heap[w.heap.size]? = some (.loop (rc .ready none)) := by rw [hW1]; exact World.alloc_heap_new w _
  have inv1 : I 0 W1 := by rw [hW1]; exact hI.alloc _ h0
  have siz1 : w.heap.size + 1 ≤ W1.heap.size := by rw [hW1]; simp
  refine ⟨w.heap.size, [], W1, { target := .fn (.func gf) lb, args := #[.func (.yield w.heap.size) #[] #[]] }, W1, gf, #[.func (.yield w.heap.size) #[] #[]] ++ lb, W1, ?_, ?_, ?_, ?_, fun _ => h1, ?_⟩
  · rw [hW1, hrc]; exact run_enterLoop_inner hl₀ _ _ _ _ _
  · simp only [resolve, hg]
    simp [go_sem]
  · intro f' hf'
    simp [Target.leads] at hf'
    exact hf' ▸ hFg
  · simp [invoke, go_sem, eg]
  have keep : ∀ {A B : World} {row : Option Nat} {k : Nat} {o : Obj}, A.grownBy B row → (∀ r, row = some r → W1.heap.size ≤ r ∧ ∃ o : Obj, A.heap[r]? = some o ∧ o.isCells = false) → k < w.heap.size + 1 → A.heap[k]? = some o → B.heap[k]? = some o := by
    intro A B row k o hgr hr hk ho
    exact (hgr.block _ (Array.getElem?_eq_some_iff.1 ho).1 (fun e => by have := (hr _ e.symm).1; omega)).trans ho
  have hw : ∀ {A : World} {row : Option Nat}, (∀ r, row = some r → W1.heap.size ≤ r ∧ ∃ o : Obj, A.heap[r]? = some o ∧ o.isCells = false) → ∀ r, row = some r → w.heap.size ≤ r ∧ ∃ o : Obj, A.heap[r]? = some o ∧ o.isCells = false := by
    intro A row hr r e
    obtain ⟨hB, ho⟩ := hr r e
    exact ⟨by omega, ho⟩
  refine (hseq (w.heap.size) (fun k W => I k W ∧ W.heap[w.heap.size]? = some (.loop (rc .ready none)))
    (fun k W => ∃ c, Ix c k W ∧ W.heap[w.heap.size]? = some (.loop (rc .done (some c)))) W1 (by omega) ?_ ?_ (fun _ _ h => h.1) ?_ ⟨inv1, rec1⟩).mono ?_
  · intro s A B row hs hgr hr
    exact ⟨hI s A B row hs.1 hgr (hw hr), keep hgr hr (by omega) hs.2⟩
  · intro s A B row hs hgr hr
    obtain ⟨c, hc, h2⟩ := hs
    exact ⟨c, hIx c s A B row hc hgr (hw hr), keep hgr hr (by omega) h2⟩
  · -- a round
    rintro k W hkN ⟨hi, hl⟩
    have hlt : w.heap.size < W.heap.size := (Array.getElem?_eq_some_iff.1 hl).1
    have hy := run_yield (P := P) (args := encs k) hl (by rw [hrc]; exact hps k)
    rw [hrc] at hy
    have hl' : (W.alloc (ob k)).heap[w.heap.size]? = some (.loop (rc .ready none)) := (Below.heap_alloc _ _ _ (by omega)).trans hl
    have hlt' : w.heap.size < (W.alloc (ob k)).heap.size := (Array.getElem?_eq_some_iff.1 hl').1
    obtain ⟨U, hU⟩ : ∃ U, U = (W.alloc (ob k)).putObj (w.heap.size) (.loop { rc .ready none with state := .busy }) := ⟨_, rfl⟩
    have recU : U.heap[w.heap.size]? = some (.loop { rc .ready none with state := .busy }) := by rw [hU]; exact World.putObj_heap_same hlt'
    have invU : I k U := by rw [hU]; exact hI.putObj _ (hI.alloc _ hi) (by omega) hl' rfl
    have boxU : U.heap[W.heap.size]? = some (ob k) := by rw [hU]; exact (World.putObj_heap_other (by omega)).trans (World.alloc_heap_new _ _)
    have h9 : U.heap.size = W.heap.size + 1 := by rw [hU]; simp [World.putObj]
    refine ⟨fn, _, assign, body, hy, roundIn_of_wpIn hfn (hassign _ k W _ ⟨_, run_beginRound hl' (by rw [hrc]), ?_⟩)⟩
    rw [← hU]
    refine wpIn_mono (hbody _ k W.heap.size U hkN invU (by omega) boxU) ?_
    have fin : ∀ (jump : Option Code) (W3 : World), HiKept E w.heap.size U W3 →
        (Instr.endRound (w.heap.size) jump).run P W3 = .ok (.bool jump.isNone) (W3.putObj (w.heap.size) (.loop (rc (if jump.isNone then .ready else .done) jump))) ∧
        W3.heap[w.heap.size]? = some (.loop { rc .ready none with state := .busy }) ∧
        (W3.putObj (w.heap.size) (.loop (rc (if jump.isNone then .ready else .done) jump))).heap[w.heap.size]? = some (.loop (rc (if jump.isNone then .ready else .done) jump)) ∧
        HiKept E W1.heap.size W (W3.putObj (w.heap.size) (.loop (rc (if jump.isNone then .ready else .done) jump))) := fun jump W3 hk3 => by
      have rec3 := hk3.2 _ _ (by omega) recU rfl
      have hend := run_endRound (P := P) jump rec3
      have lt3 : w.heap.size < W3.heap.size := (Array.getElem?_eq_some_iff.1 rec3).1
      rw [hrc] at hend rec3
      refine ⟨by rw [hrc]; exact hend, by rw [hrc]; exact rec3, World.putObj_heap_same lt3, ?_, ?_⟩
      · have h8 := hk3.1
        simp only [World.putObj, Array.size_setIfInBounds]
        omega
      · intro j o hjB hjl ho
        have hU' : U.heap[j]? = some o := by rw [hU]; exact (World.putObj_heap_other (by omega)).trans ((Below.heap_alloc _ _ _ (Array.getElem?_eq_some_iff.1 hjl).1).trans hjl)
        exact (World.putObj_heap_other (by omega)).trans (hk3.2 _ _ (by omega) hU' ho)
    rintro e a3 W3 hp
    cases e with
    | normal =>
      obtain ⟨hk3, hi3⟩ := hp
      obtain ⟨hr, hl3, hl4, hH⟩ := fin none W3 hk3
      exact ⟨_, _, hr, .inl ⟨rfl, ⟨hI.putObj _ hi3 (by omega) hl3 rfl, hl4⟩, hH⟩⟩
    | ret =>
      obtain ⟨hk3, hi3⟩ := hp
      obtain ⟨hr, hl3, hl4, hH⟩ := fin (some .ret) W3 hk3
      exact ⟨_, _, hr, .inr ⟨rfl, ⟨.ret, (hIx _).putObj _ hi3 (by omega) hl3 rfl, hl4⟩, hH⟩⟩
    | exit id =>
      obtain ⟨hk3, hi3⟩ := hp
      obtain ⟨hr, hl3, hl4, hH⟩ := fin (some (.exit id)) W3 hk3
      exact ⟨_, _, hr, .inr ⟨rfl, ⟨.exit id, (hIx _).putObj _ hi3 (by omega) hl3 rfl, hl4⟩, hH⟩⟩
    | goto t =>
      obtain ⟨hk3, hi3⟩ := hp
      obtain ⟨hr, hl3, hl4, hH⟩ := fin (some (.goto t)) W3 hk3
      exact ⟨_, _, hr, .inr ⟨rfl, ⟨.goto t, (hIx _).putObj _ hi3 (by omega) hl3 rfl, hl4⟩, hH⟩⟩
    | panic ch => exact hp.elim
    | outgrown => exact hp.elim
  · -- behind the iterator
    rintro e W2 ⟨⟨v, rfl⟩, ⟨hi, hl⟩ | ⟨k, hkN, c, hi, hl⟩⟩
    · have hend := run_endLoop (P := P) hl (by rw [hrc]; simp)
      rw [hrc] at hend
      exact ⟨none, _, hend, hdone _ (hI.putObj _ hi (by omega) hl rfl)⟩
    · have hend := run_endLoop (P := P) hl (by rw [hrc]; simp)
      rw [hrc] at hend
      exact ⟨some c, _, hend, hstop c k _ hkN ((hIx c).putObj _ hi (by omega) hl rfl)⟩
end
/- A table by whole numbers, of any number of rows: the iterator. -/
section
set_option linter.unusedVariables false
set_option linter.unusedSimpArgs false
open Go.ChangeShapes Go.WideShapes Go.ChangeAt Go.RowKit Go.Shelf
attribute [local go_sem] Oper.semAt_some

namespace TabS
/-- What the iterator reads. -/
def Reads (pb b o : Nat) (v : Value) (N : Nat) (keys : Nat → Int) (W : World) : Prop :=
  W.cell? ⟨pb, 0, none⟩ = some (.pointer (some ⟨b, o, none⟩)) ∧ W.cell? ⟨b, o, none⟩ = some v ∧ ∀ g, v.ownBlock = some g → ∀ k, k < N → W.cell? ⟨g, k * 2, none⟩ = some (.int .i64 (keys k))
def encT (v : Value) (keys : Nat → Int) (k : Nat) : Array Value := #[.int .i64 (keys k), .pointer (v.ownBlock.map fun g => ⟨g, k * 2 + 1, none⟩)]
end TabS
end
/- A slice of structs handed in: the cells of each element, each of its own kind, structs in structs too. Of no program of its own. -/
section
set_option linter.unusedVariables false
open Go.ChangeShapes Go.WideShapes Go.ChangeAt Go.RowKit Go.Deep

/-- The kind of a cell. -/
inductive FK where
  | i (k : IntKind)
  | b
def FK.ok : FK → Value → Prop
  | .i k, v => ∃ n, v = .int k n ∧ (Lit.int k n).wf = true
  | .b, v => ∃ x, v = .bool x
/-- The kind of the cell at an offset of a type. -/
def kindAt (P : Program) : Nat → TypeId → Nat → Option FK
  | 0, _, _ => none
  | d + 1, t, j => match P.underlying t with
    | some (.int k) => if j = 0 then some (.i k) else none
    | some .bool => if j = 0 then some .b else none
    | some (.struct fs) => fs.toList.findSome? fun f => if f.offset ≤ j && j < f.offset + P.cellsOf f.type then kindAt P d f.type (j - f.offset) else none
    | some (.array n e) => if j / P.cellsOf e < n && 0 < P.cellsOf e then kindAt P d e (j % P.cellsOf e) else none
    | _ => none
section
variable {H : Type} {enc : TypeId × Value → H} {P : Program} {w : World} {base : Nat} {spare : Nat → Bool} {held : Bool}
theorem kind_trod : ∀ (d fuel : Nat) (t : TypeId) (cs : List Value) (x : DataW H × List MemPlace) (j : Nat) (k : FK), DataW.trod enc P w base spare held fuel t cs = some x → kindAt P d t j = some k → ∃ v, cs[j]? = some v ∧ k.ok v
  | 0, _, _, _, _, _, _, _, h => by simp [kindAt] at h
  | d + 1, fuel, t, cs, x, j, k, hx, h => by
    unfold kindAt at h
    cases hu : P.underlying t with
    | none => simp [hu] at h
    | some u =>
      rw [hu] at h
      cases u with
      | int q =>
        simp only [Option.ite_none_right_eq_some, Option.some.injEq] at h
        obtain ⟨rfl, rfl⟩ := h
        obtain ⟨n, rfl, _, hw⟩ := DataW.trod_int hu hx
        exact ⟨_, rfl, n, rfl, hw⟩
      | bool =>
        simp only [Option.ite_none_right_eq_some, Option.some.injEq] at h
        obtain ⟨rfl, rfl⟩ := h
        obtain ⟨n, rfl, _⟩ := DataW.trod_bool hu hx
        exact ⟨_, rfl, n, rfl⟩
      | struct fs =>
        simp only at h
        obtain ⟨f, hf, hk⟩ := List.exists_of_findSome?_eq_some h
        obtain ⟨i, hi, hfi⟩ := List.mem_iff_getElem.1 hf
        split at hk
        · rename_i hc
          simp only [Bool.and_eq_true, decide_eq_true_eq] at hc
          obtain ⟨xs, n, _, _, hl, hlen, hg⟩ := DataW.trod_struct hu hx
          have hfs : fs[i]? = some f := by rw [← Array.getElem?_toList, List.getElem?_eq_getElem hi, hfi]
          have hgi := hg i f hfs
          have hil : i < xs.length := by rw [hlen]; simpa using hi
          rw [List.getElem?_eq_getElem hil] at hgi
          obtain ⟨v, hv, ok⟩ := kind_trod d n f.type _ _ _ _ hgi hk
          refine ⟨v, ?_, ok⟩
          rw [List.getElem?_take_of_lt (by omega), List.getElem?_drop] at hv
          rw [← hv]
          congr 1
          omega
        · cases hk
      | array n e =>
        simp only at h
        split at h
        · rename_i hc
          simp only [Bool.and_eq_true, decide_eq_true_eq] at hc
          obtain ⟨xs, m, _, _, hl, hlen, hg⟩ := DataW.trod_array hu hx
          have hgi := hg _ hc.1
          rw [List.getElem?_eq_getElem (by omega)] at hgi
          obtain ⟨v, hv, ok⟩ := kind_trod d m e _ _ _ _ hgi h
          refine ⟨v, ?_, ok⟩
          rw [List.getElem?_take_of_lt (Nat.mod_lt _ hc.2), List.getElem?_drop] at hv
          rw [← hv]
          congr 1
          exact (Nat.div_add_mod' j (P.cellsOf e)).symm
        · cases h
      | _ => simp at h
/-- What a cell holds, as a number and as a truth. -/
def intAt (w : World) (b o : Nat) : Int := match w.cell? ⟨b, o, none⟩ with
  | some (.int _ n) => n
  | _ => 0
def boolAt (w : World) (b o : Nat) : Bool := match w.cell? ⟨b, o, none⟩ with
  | some (.bool x) => x
  | _ => false
/-- The cell at a place is of that kind. -/
def KindIs (w : World) (b o : Nat) : FK → Prop
  | .i k => w.cell? ⟨b, o, none⟩ = some (.int k (intAt w b o)) ∧ (Lit.int k (intAt w b o)).wf = true
  | .b => w.cell? ⟨b, o, none⟩ = some (.bool (boolAt w b o))
theorem kindIs_of {b o : Nat} {v : Value} {k : FK} (h : w.cell? ⟨b, o, none⟩ = some v) (hk : k.ok v) : KindIs w b o k := by
  cases k with
  | i k =>
    obtain ⟨n, rfl, hw⟩ := hk
    have e : intAt w b o = n := by simp [intAt, h]
    exact ⟨by rw [e]; exact h, by rw [e]; exact hw⟩
  | b =>
    obtain ⟨x, rfl⟩ := hk
    show _ = _
    rw [h]
    simp [boolAt, h]
/-- A slice of things of C cells each, n of them: where they lie, and each cell's kind. -/
def RowsAt (P : Program) (w : World) (e : TypeId) (C : Nat) (p : Option Addr) (n : Nat) : Prop :=
  ∃ b off, (0 < n → p = some ⟨b, off, none⟩ ∧ b < w.heap.size) ∧ ∀ i, i < n → ∀ j k, kindAt P 9 e j = some k → KindIs w b (off + (i * C + j)) k
theorem open_rows {r : Reach} {b0 : Nat} {t e : TypeId} {C : Nat} {v : Value} {d : DataW H} {ps : List MemPlace} (ht : P.underlying t = some (.slice e)) (hC : P.cellsOf e = C) (h0 : (kindAt P 9 e 0).isSome = true) (h0C : 0 < C)
    (hval : Value.okWide P w r b0 t v) (hd : DataW.Trod enc P w base spare held t v d ps) :
    ∃ p n c, v = .slice p n c ∧ n ≤ c ∧ c ≤ maxLen ∧ RowsAt P w e C p n := by
  obtain ⟨p0, l0, c0, rfl⟩ := okWide_slice ht hval
  obtain ⟨fuel, hf⟩ := hd
  rcases open_slice ht hf with ⟨h1, _⟩ | ⟨a, len, cap, m, n, D, Pl, hcs, hb, hl, hm, hmm, hx, hi⟩
  · have : Value.slice p0 l0 c0 = .slice none 0 0 := by simpa [Value.cells] using h1
    cases this
    exact ⟨_, _, _, rfl, Nat.le_refl _, by unfold maxLen; omega, 0, 0, fun h => absurd h (by omega), fun i hi => absurd hi (by omega)⟩
  · have : Value.slice p0 l0 c0 = .slice (some a) len cap := by simpa [Value.cells] using hcs
    cases this
    refine ⟨_, _, _, rfl, hl, hm, a.block, a.off, fun hn => ?_, fun i hil j k hk => ?_⟩
    · obtain ⟨cs', hc, _⟩ := hi 0 (by rw [hmm]; split <;> omega)
      obtain ⟨_, hlen, hcell⟩ := World.cells?_some hc
      rw [hC] at hlen hcell
      have h1 := hcell 0 h0C
      rw [List.getElem?_eq_getElem (by omega)] at h1
      simp only [Nat.zero_mul, Addr.add, if_true] at h1
      have hs := World.cell?_spot h1
      have hb := World.block_lt_of_cell? _ _ h1
      obtain ⟨b, o, s⟩ := a
      simp only at hs
      subst hs
      exact ⟨rfl, hb⟩
    · obtain ⟨cs', hc, ht'⟩ := hi i (by rw [hmm]; split <;> omega)
      obtain ⟨u, hu, ok⟩ := kind_trod 9 _ _ _ _ _ _ ht' hk
      obtain ⟨_, hlen, hcell⟩ := World.cells?_some hc
      rw [hC] at hlen hcell
      have hCj : j < C := hlen ▸ (List.getElem?_eq_some_iff.1 hu).1
      have h1 := hcell j hCj
      rw [hu] at h1
      refine kindIs_of (v := u) ?_ ok
      have hs := World.cell?_spot h1
      rw [← h1]
      congr 1
      obtain ⟨b, o, s⟩ := a
      simp only [Addr.add] at hs ⊢
      by_cases g1 : i * C = 0
      · by_cases g2 : j = 0
        · subst g2
          simp only [g1, if_true] at hs ⊢
          subst hs
          rfl
        · simp [g1, g2]
      · by_cases g2 : j = 0
        · subst g2; simp [g1]
        · simp [g1, g2, Nat.add_assoc]
end
end
/- From the row's list of laid package-level variables to what the walks ask of the world. -/
section
set_option linter.unusedVariables false
open Go.RowKit

theorem listed_reads {P : Program} {w : World} : ∀ {l : List (String × DataW Unit)} {ps : List MemPlace}, DataW.LaidVars P w l ps → ∀ n d, (n, d) ∈ l →
    ∃ g t cs fuel p, P.globalNamed n = some g ∧ (P.globals[g]?).map (·.type) = some t ∧ w.var? P n = some cs ∧ DataW.trod (fun _ => ()) P w 0 (fun _ => true) false fuel t cs.toList = some (d, p)
  | [], _, _, _, _, hm => by cases hm
  | (_, _) :: _, _, ⟨g, t, cs, fuel, p, _, h1, h2, h3, h4, h5, _⟩, n, d, hm => by
    rcases List.mem_cons.1 hm with e | e
    · cases e
      exact ⟨g, t, cs, fuel, p, h1, h2, h3, h4⟩
    · exact listed_reads h5 n d e
theorem size_of_var {P : Program} {w : World} {n : String} {g : Nat} {cs : Array Value} (hg : P.globalNamed n = some g) (h : w.var? P n = some cs) : g < w.heap.size := by
  simp only [World.var?, hg, Option.bind_some] at h
  split at h
  · rename_i hh; exact (Array.getElem?_eq_some_iff.1 hh).1
  · cases h
def LaidV_laid_math_bits_deBruijn64tab (W : World) : Prop := TabAt W ∧ 0 < W.heap.size
theorem laidV_laid_math_bits_deBruijn64tab {l : List (String × DataW Unit)} {W : World} (hm : ("math/bits.deBruijn64tab", (Rows.laid_math_bits_deBruijn64tab : DataW Unit)) ∈ l) (h : laidMet Tryd.prog l W) : LaidV_laid_math_bits_deBruijn64tab W := by
  obtain ⟨_, hv, _⟩ := h
  obtain ⟨g, t, cs, fuel, p, hg, hty, hvar, hd⟩ := listed_reads hv _ _ hm
  have k1 : Tryd.prog.globalNamed "math/bits.deBruijn64tab" = some 0 := by kernel_rfl
  have k2 : (Tryd.prog.globals[0]?).map (·.type) = some 153 := by kernel_rfl
  obtain rfl := Option.some.inj (k1.symm.trans hg)
  obtain rfl := Option.some.inj (k2.symm.trans hty)
  have e : (Rows.laid_math_bits_deBruijn64tab : DataW Unit) = Lib.tabData .u8 (Lib.deBruijn64tab.map fun n : Nat => (n : Int)) := by kernel_rfl
  rw [e] at hd
  have hcs := Lib.cells_of_tab Tryd.underlying153 Tryd.underlying5 (by kernel_rfl) (by kernel_rfl) hd
  refine ⟨fun j hj => ?_, size_of_var hg hvar⟩
  have := World.var?_cell hg hvar j
  rw [this, ← Array.getElem?_toList, hcs]
  simp [List.getD, hj]
end

section
/- package slots, over a table of any number of nodes: the iterator over what a node holds. -/
section
set_option linter.unusedVariables false
set_option linter.unusedSimpArgs false
open Go.ChangeShapes Go.WideShapes Go.ChangeAt Go.RowKit Go.Shelf
attribute [local go_sem] Oper.semAt_some

namespace TabS
/-- A slot that holds something. -/
structure Hd where
  n : Int
  i : Nat
  c : Cp
abbrev Hd.V (x : Hd) : Value := .agg #[.int .i64 x.n, .int .i64 x.i, .int .i64 x.c.a, .int .i64 x.c.b, .int .i64 x.c.c, .int .u64 x.c.d, .int .i64 x.c.e, .int .i64 x.c.f, .int .i64 x.c.g, .int .i64 x.c.h]
def heldL (id : Int) : Nat → List Cp → List Hd
  | _, [] => []
  | o, c :: t => if c.a = 0 then heldL id (o + 1) t else ⟨id, o, c⟩ :: heldL id (o + 1) t
theorem heldL_append (id : Int) : ∀ (l m : List Cp) (o : Nat), heldL id o (l ++ m) = heldL id o l ++ heldL id (o + l.length) m
  | [], m, o => by simp [heldL]
  | c :: t, m, o => by
    have e : o + (c :: t).length = o + 1 + t.length := by simp; omega
    by_cases h : c.a = 0
    · simp only [List.cons_append, heldL, if_pos h, heldL_append id t m (o + 1), e]
    · simp only [List.cons_append, heldL, if_neg h, heldL_append id t m (o + 1), e]
/-- How many of the first k slots hold something. -/
def cntH (id : Int) (l : List Cp) (k : Nat) : Nat := (heldL id 0 (l.take k)).length
theorem cntH_zero (id : Int) (l : List Cp) : cntH id l 0 = 0 := rfl
theorem cntH_all (id : Int) (l : List Cp) : cntH id l l.length = (heldL id 0 l).length := by unfold cntH; rw [List.take_length]
theorem held_split {id : Int} {l : List Cp} {k : Nat} {c : Cp} (h : l[k]? = some c) : heldL id 0 l = heldL id 0 (l.take k) ++ heldL id k (c :: l.drop (k + 1)) := by
  obtain ⟨hk, hc⟩ := List.getElem?_eq_some_iff.1 h
  have e : l = l.take k ++ c :: l.drop (k + 1) := by
    conv => lhs; rw [← List.take_append_drop k l, List.drop_eq_getElem_cons hk, hc]
  conv => lhs; rw [e]
  rw [heldL_append, List.length_take, Nat.min_eq_left (by omega), Nat.zero_add]
theorem cntH_succ {id : Int} {l : List Cp} {k : Nat} {c : Cp} (h : l[k]? = some c) : cntH id l (k + 1) = if c.a = 0 then cntH id l k else cntH id l k + 1 := by
  unfold cntH
  rw [List.take_add_one, h, Option.toList_some, heldL_append]
  by_cases e : c.a = 0
  · simp [heldL, e]
  · simp [heldL, e]
theorem held_at {id : Int} {l : List Cp} {k : Nat} {c : Cp} (h : l[k]? = some c) (ha : c.a ≠ 0) : (heldL id 0 l)[cntH id l k]? = some ⟨id, k, c⟩ := by
  rw [held_split h, List.getElem?_append_right (by unfold cntH; omega)]
  unfold cntH
  simp [heldL, ha]
def hdAt (H : List Hd) (k : Nat) : Hd := H[k]?.getD ⟨0, 0, zC⟩
theorem hdAt_eq {H : List Hd} {k : Nat} {x : Hd} (h : H[k]? = some x) : hdAt H k = x := by unfold hdAt; rw [h]; rfl
end TabS
end
/- package slots, over a table of any number of nodes: the iterator over all that is held. -/
section
set_option linter.unusedVariables false
set_option linter.unusedSimpArgs false
open Go.ChangeShapes Go.WideShapes Go.ChangeAt Go.RowKit Go.Shelf
attribute [local go_sem] Oper.semAt_some

namespace TabS
def heldA (L : List Sn) : List Hd := L.flatMap fun x => heldL x.id 0 x.l
def offA (L : List Sn) (k : Nat) : Nat := (heldA (L.take k)).length
theorem offA_all (L : List Sn) : offA L L.length = (heldA L).length := by unfold offA; rw [List.take_length]
theorem heldA_append (L M : List Sn) : heldA (L ++ M) = heldA L ++ heldA M := by unfold heldA; rw [List.flatMap_append]
theorem offA_succ {L : List Sn} {k : Nat} {x : Sn} (h : L[k]? = some x) : offA L (k + 1) = offA L k + (heldL x.id 0 x.l).length := by
  unfold offA
  rw [List.take_add_one, h, Option.toList_some, heldA_append]
  simp [heldA]
theorem heldA_at {L : List Sn} {k : Nat} {x : Sn} (h : L[k]? = some x) {j : Nat} (hj : j < (heldL x.id 0 x.l).length) : (heldA L)[offA L k + j]? = (heldL x.id 0 x.l)[j]? := by
  obtain ⟨hk, hx⟩ := List.getElem?_eq_some_iff.1 h
  have e : L = L.take k ++ x :: L.drop (k + 1) := by
    conv => lhs; rw [← List.take_append_drop k L, List.drop_eq_getElem_cons hk, hx]
  have e2 : heldA L = heldA (L.take k) ++ (heldL x.id 0 x.l ++ heldA (L.drop (k + 1))) := by
    conv => lhs; rw [e, heldA_append]
    rfl
  rw [e2, List.getElem?_append_right (by unfold offA; omega), List.getElem?_append_left (by unfold offA; omega)]
  congr 1
  unfold offA
  omega
theorem hdAt_off {L : List Sn} {k : Nat} {x : Sn} (h : L[k]? = some x) {j : Nat} (hj : j < (heldL x.id 0 x.l).length) : hdAt (heldA L) (offA L k + j) = hdAt (heldL x.id 0 x.l) j := by
  unfold hdAt
  rw [heldA_at h hj]
def Hd.cells (x : Hd) : Array Value := #[.int .i64 x.n, .int .i64 x.i, .int .i64 x.c.a, .int .i64 x.c.b, .int .i64 x.c.c, .int .u64 x.c.d, .int .i64 x.c.e, .int .i64 x.c.f, .int .i64 x.c.g, .int .i64 x.c.h]
/-- What the iterator wants of the world. -/
structure EachI (eb b : Nat) (v : Value) (L : List Sn) (U : World) : Prop where
  box : U.cell? ⟨eb, 0, none⟩ = some (.pointer (some ⟨b, 0, none⟩))
  tab : U.cell? ⟨b, 0, none⟩ = some v
  row : ∀ g, v.ownBlock = some g → ∀ k x, L[k]? = some x → U.cell? ⟨g, k * 2, none⟩ = some (.int .i64 x.id) ∧ U.cell? ⟨g, k * 2 + 1, none⟩ = some x.v
  blk : ∀ x ∈ L, U.heap[x.g]? = some (.cells (flatC x.l).toArray 25 (0, 0)) ∧ x.l.length ≤ 16
abbrev keyS (L : List Sn) (k : Nat) : Int := (L[k]?.map Sn.id).getD 0
end TabS
end
/- package slots, over a table of any number of nodes: Used. -/
section
set_option linter.unusedVariables false
set_option linter.unusedSimpArgs false
open Go.ChangeShapes Go.WideShapes Go.ChangeAt Go.RowKit Go.Shelf
attribute [local go_sem] Oper.semAt_some

namespace TabS
def Hd.L (x : Hd) : List Value := [.int .i64 x.n, .int .i64 x.i, .int .i64 x.c.a, .int .i64 x.c.b, .int .i64 x.c.c, .int .u64 x.c.d, .int .i64 x.c.e, .int .i64 x.c.f, .int .i64 x.c.g, .int .i64 x.c.h]
theorem hd_one (x : Hd) : ∀ u ∈ x.L, u.oneCell' = true := by
  intro u hu
  simp [Hd.L] at hu
  rcases hu with rfl | rfl | rfl | rfl | rfl | rfl | rfl | rfl | rfl | rfl <;> rfl
def hdsC (L : List Hd) : List Value := L.flatMap Hd.L
abbrev zHd : Value := .agg #[.int .i64 0, .int .i64 0, .int .i64 0, .int .i64 0, .int .i64 0, .int .u64 0, .int .i64 0, .int .i64 0, .int .i64 0, .int .i64 0]
theorem heldL_len (id : Int) : ∀ (l : List Cp) (o : Nat), (heldL id o l).length ≤ l.length
  | [], _ => by simp [heldL]
  | c :: t, o => by
    have := heldL_len id t (o + 1)
    unfold heldL
    split <;> simp <;> omega
theorem heldA_len : ∀ (L : List Sn), (∀ x ∈ L, x.l.length ≤ 16) → (heldA L).length ≤ 16 * L.length
  | [], _ => by simp [heldA]
  | x :: t, h => by
    have h1 := heldA_len t (fun y hy => h y (List.mem_cons_of_mem _ hy))
    have h2 := heldL_len x.id x.l 0
    have h3 := h x (by simp)
    have e : heldA (x :: t) = heldL x.id 0 x.l ++ heldA t := rfl
    rw [e, List.length_append, List.length_cons]
    omega
theorem add_cellsT {w : World} {g : Nat} {cs : List Value} (h : ∀ j v, cs[j]? = some v → w.cell? ⟨g, j, none⟩ = some v) : ∀ j v, cs[j]? = some v → w.cell? ((⟨g, 0, none⟩ : Addr).add j) = some v := by
  intro j v hj
  rw [Addr.add_mid, Nat.zero_add]
  exact h j v hj
theorem own_kept {A C : World} {base : Nat} {e : TypeId} {s : Nat} {v : Value} {n : Nat} {xs : List Value} {row : Option Nat} (h : A.ownsRow base e s v n xs) (hg : A.grownBy C row) (hr : ∀ r, row = some r → ∃ o : Obj, A.heap[r]? = some o ∧ o.isCells = false) : C.ownsRow base e s v n xs := by
  have hlt := h.lt
  refine ⟨h.1, ?_⟩
  rcases h.2 with h2 | ⟨g, cap, cur, rfl, q1, q2, q3⟩
  · exact .inl h2
  · refine .inr ⟨g, cap, cur, rfl, q1, (hg.block g (hlt g rfl).2 (fun e => ?_)).trans q2, q3⟩
    obtain ⟨o, ho, hc⟩ := hr g e.symm
    rw [q2] at ho
    cases ho
    cases hc
attribute [-go_sem] loadVar
attribute [-go_sem] Builtin.append_
end TabS
end
/- chapter 15's acts; three nodes of four slots; package slots beside other blocks. -/
section
set_option linter.unusedVariables false
set_option linter.unusedSimpArgs false
open Go.ChangeShapes Go.WideShapes Go.ChangeAt Go.RowKit Go.Shelf

namespace TabS
structure ActC where
  d : Int
  n : Int
  s : Int
  i : Int
  c : Cp
def ActC.cells (x : ActC) : List Value := .int .i64 x.d :: .int .i64 x.n :: .int .i64 x.s :: .int .i64 x.i :: x.c.L
def InS (n : Int) : Prop := -9223372036854775808 ≤ n ∧ n ≤ 9223372036854775807
def ActC.Ok (x : ActC) : Prop := InS x.d ∧ InS x.n ∧ InS x.s ∧ InS x.i ∧ InS x.c.e
/-- The acts that a slice holds. -/
def ActsAt (w : World) (p : Option Addr) (n : Nat) (D : Nat → ActC) : Prop :=
  ∃ b off, (0 < n → p = some ⟨b, off, none⟩ ∧ b < w.heap.size) ∧ ∀ k, k < n → w.rangeAt b (off + k * 12) (D k).cells ∧ (D k).Ok
theorem wf_S {n : Int} (h : (Lit.int .i64 n).wf = true) : InS n := by
  have e1 : IntKind.i64.min = -9223372036854775808 := by decide
  have e2 : IntKind.i64.max = 9223372036854775807 := by decide
  simp only [Lit.wf, e1, e2, Bool.and_eq_true, decide_eq_true_eq] at h
  exact h
theorem range_nil (w : World) (b o : Nat) : w.rangeAt b o [] := fun j v h => by simp at h
theorem range_cons {w : World} {b o : Nat} {v : Value} {cs : List Value} (h : w.cell? ⟨b, o, none⟩ = some v) (k : w.rangeAt b (o + 1) cs) : w.rangeAt b o (v :: cs) := by
  intro j u hj
  cases j with
  | zero => simp at hj; subst hj; exact h
  | succ j =>
    rw [show o + (j + 1) = o + 1 + j by omega]
    exact k j u (by simpa using hj)
theorem ActsAt.below {w w' : World} {p : Option Addr} {n : Nat} {D : Nat → ActC} (h : ActsAt w p n D) (hb : Below w.heap.size w w') : ActsAt w' p n D := by
  obtain ⟨b, off, h1, h2⟩ := h
  refine ⟨b, off, fun hn => ⟨(h1 hn).1, Nat.lt_of_lt_of_le (h1 hn).2 hb.size⟩, fun k hk => ⟨fun j v hj => ?_, (h2 k hk).2⟩⟩
  have hl := (h1 (by omega)).2
  exact (hb.cell (p := ⟨b, _, none⟩) hl).trans ((h2 k hk).1 j v hj)
set_option maxHeartbeats 1000000 in
theorem eqCp (c : Cp) (w : World) : (binOp .eql 25 c.V c.V).run Tryd.prog w = .ok (.bool true) w := by
  unfold Cp.V
  go_simp
theorem neq_of_eqlS (t : TypeId) (xs ys : Array Value) (w : World) (b : Bool) (hg : Tryd.prog.eqGuardType 10000 t = false) (h : (binOp .eql t (.agg xs) (.agg ys)).run Tryd.prog w = .ok (.bool b) w) : (binOp .neq t (.agg xs) (.agg ys)).run Tryd.prog w = .ok (.bool (!b)) w := by
  rw [run_eql_struct] at h
  rw [run_neq_struct]
  cases hr : (Op.equalIn 10000 t (.agg xs) (.agg ys)).run Tryd.prog w with
  | ok r w1 =>
    rw [hr] at h
    simp only [Result.andThen_ok] at h ⊢
    cases h
    rfl
  | halt c w1 =>
    rw [hr] at h
    cases h
theorem neCp (c : Cp) (w : World) : (binOp .neq 25 c.V c.V).run Tryd.prog w = .ok (.bool false) w := neq_of_eqlS _ _ _ w true (by kernel_rfl) (eqCp c w)
theorem eqSl (a b a' b' : Int) (w : World) : (binOp .eql 34 (.agg #[.int .i64 a, .int .i64 b]) (.agg #[.int .i64 a', .int .i64 b'])).run Tryd.prog w = .ok (.bool (a == a' && b == b')) w := by
  go_simp
  repeat (split <;> simp_all)
theorem neSl (a b a' b' : Int) (w : World) : (binOp .neq 34 (.agg #[.int .i64 a, .int .i64 b]) (.agg #[.int .i64 a', .int .i64 b'])).run Tryd.prog w = .ok (.bool (!(a == a' && b == b'))) w := neq_of_eqlS _ _ _ w _ (by kernel_rfl) (eqSl a b a' b' w)
/-- What a slot holds. -/
def getC (L : List Sn) (q i : Nat) : Option Cp := L[q]?.bind fun x => x.l[i]?
theorem getC_put {L : List Sn} {p : Nat} {x : Sn} (hp : L[p]? = some x) {r : Nat} (hr : r < x.l.length) (c : Cp) (q i : Nat) : getC (putS L p x r c) q i = if q = p ∧ i = r then some c else getC L q i := by
  have hpl := (List.getElem?_eq_some_iff.1 hp).1
  unfold getC putS
  rw [List.getElem?_set]
  by_cases e : p = q
  · subst e
    rw [if_pos rfl, if_pos hpl, hp]
    simp only [Option.bind_some, true_and]
    rw [List.getElem?_set]
    by_cases e2 : r = i
    · subst e2
      rw [if_pos rfl, if_pos hr, if_pos rfl]
    · rw [if_neg e2, if_neg (fun h => e2 h.symm)]
  · rw [if_neg e, if_neg (fun h => e h.1.symm)]
theorem mem_heldL {id : Int} : ∀ {l : List Cp} {o : Nat} {h : Hd}, h ∈ heldL id o l → h.n = id ∧ ∃ j, h.i = o + j ∧ l[j]? = some h.c
  | [], o, h, hm => by simp [heldL] at hm
  | c :: t, o, h, hm => by
    unfold heldL at hm
    split at hm
    · obtain ⟨h1, j, h2, h3⟩ := mem_heldL hm
      exact ⟨h1, j + 1, by omega, by simpa using h3⟩
    · rcases List.mem_cons.1 hm with rfl | hm
      · exact ⟨rfl, 0, rfl, rfl⟩
      · obtain ⟨h1, j, h2, h3⟩ := mem_heldL hm
        exact ⟨h1, j + 1, by omega, by simpa using h3⟩
theorem mem_heldA {L : List Sn} {h : Hd} (hm : h ∈ heldA L) : ∃ q x, L[q]? = some x ∧ h.n = x.id ∧ getC L q h.i = some h.c := by
  unfold heldA at hm
  obtain ⟨x, hx, hh⟩ := List.mem_flatMap.1 hm
  obtain ⟨q, hq⟩ := List.getElem?_of_mem hx
  obtain ⟨h1, j, h2, h3⟩ := mem_heldL hh
  exact ⟨q, x, hq, h1, by unfold getC; rw [hq]; simp only [Option.bind_some]; rw [h2, Nat.zero_add]; exact h3⟩
/-- Three nodes of four slots. -/
def Three (L : List Sn) : Prop := L.length = 3 ∧ ∀ (i : Nat) (x : Sn), L[i]? = some x → x.id = i + 1 ∧ x.l.length = 4
theorem three_pos {w : World} {b base : Nat} {tv : Value} {L : List Sn} (h : SlotsAt w b base tv L) (h3 : Three L) {p : Nat} {x : Sn} (hx : L[p]? = some x) : L[posS L (p + 1)]? = some x := by
  have hxi := (h3.2 p x hx).1
  have hh : hasS L (p + 1) = true := by
    unfold hasS hasR
    rw [List.any_eq_true]
    exact ⟨rowS x, List.mem_map.2 ⟨x, List.mem_of_getElem? hx, rfl⟩, decide_eq_true hxi⟩
  obtain ⟨y, hy, hyi⟩ := (hasS_at h).1 hh
  have := (h3.2 _ y hy).1
  have e : posS L (p + 1) = p := by omega
  rw [e]
  exact hx
theorem three_posn {w : World} {b base : Nat} {tv : Value} {L : List Sn} (h : SlotsAt w b base tv L) (h3 : Three L) {p : Nat} {x : Sn} (hx : L[p]? = some x) : posS L (p + 1) = p := by
  have h1 := three_pos h h3 hx
  have h2 := (h3.2 _ x h1).1
  have h4 := (h3.2 _ x hx).1
  omega
theorem three_get {L : List Sn} (h3 : Three L) {p : Nat} (hp : p < 3) : ∃ x, L[p]? = some x ∧ x.id = p + 1 ∧ x.l.length = 4 := by
  have hx : L[p]? = some (L[p]'(by have := h3.1; omega)) := List.getElem?_eq_getElem _
  exact ⟨_, hx, h3.2 p _ hx⟩
theorem three_put {L : List Sn} (h3 : Three L) {p r : Nat} {x : Sn} (hx : L[p]? = some x) (c : Cp) : Three (putS L p x r c) := by
  refine ⟨by unfold putS; rw [List.length_set]; exact h3.1, fun i y hy => ?_⟩
  unfold putS at hy
  rw [List.getElem?_set] at hy
  by_cases e : p = i
  · subst e
    rw [if_pos rfl] at hy
    split at hy
    · cases hy
      simpa using h3.2 p x hx
    · cases hy
  · rw [if_neg e] at hy
    exact h3.2 i y hy
/-- Package slots' object made since W, and blocks beside it. -/
def SlW (W w : World) (b : Nat) (L : List Sn) (S : Nat → Prop) : Prop := ∃ base tv, SlotsAt w b base tv L ∧ W.heap.size ≤ b ∧ Below W.heap.size W w ∧ ∀ k, S k → k < w.heap.size ∧ k ≠ b ∧ tv.ownBlock ≠ some k ∧ ∀ x ∈ L, x.g ≠ k
def SameK (S : Nat → Prop) (w w' : World) : Prop := ∀ k, S k → w'.heap[k]? = w.heap[k]?
theorem SameK.trans {S : Nat → Prop} {a b c : World} (h : SameK S a b) (k : SameK S b c) : SameK S a c := fun j hj => (k j hj).trans (h j hj)
theorem SlW.below {W w : World} {b : Nat} {L : List Sn} {S : Nat → Prop} (h : SlW W w b L S) : Below W.heap.size W w := h.choose_spec.choose_spec.2.2.1
theorem SlW.lt {W w : World} {b k : Nat} {L : List Sn} {S : Nat → Prop} (h : SlW W w b L S) (hk : S k) : k < w.heap.size := (h.choose_spec.choose_spec.2.2.2 k hk).1
theorem SlW.call {W w w' : World} {b : Nat} {L : List Sn} {S : Nat → Prop} (h : SlW W w b L S) (hb : Below w.heap.size w w') : SlW W w' b L S := by
  obtain ⟨base, tv, hA, h1, h2, h3⟩ := h
  exact ⟨base, tv, hA.call hb, h1, h2.trans (hb.mono h2.size), fun k hk => ⟨Nat.lt_of_lt_of_le (h3 k hk).1 hb.size, (h3 k hk).2⟩⟩
/-- What a call that makes memory leaves stands beside. -/
theorem SlW.beside {W w w' : World} {b : Nat} {L : List Sn} {S : Nat → Prop} (h : SlW W w b L S) (hb : Below w.heap.size w w') : SlW W w' b L (fun k => S k ∨ (w.heap.size ≤ k ∧ k < w'.heap.size)) := by
  obtain ⟨base, tv, hA, h1, h2, h3⟩ := h
  have := hA.lt
  refine ⟨base, tv, hA.call hb, h1, h2.trans (hb.mono h2.size), fun k hk => ?_⟩
  rcases hk with hk | ⟨ha, hz⟩
  · exact ⟨Nat.lt_of_lt_of_le (h3 k hk).1 hb.size, (h3 k hk).2⟩
  · exact ⟨hz, by omega, fun e => by have := (hA.tab.own e).2; omega, fun x hx e => by have := hA.glt hx; omega⟩
/-- A block that stands beside is turned. -/
theorem SlW.turn {W w w' : World} {b B : Nat} {L : List Sn} {S : Nat → Prop} (h : SlW W w b L S) (hS : S B) (hB : W.heap.size ≤ B) (h1 : w'.os = w.os) (h2 : w'.tape = w.tape) (h3 : w'.output = w.output) (h4 : w'.heap.size = w.heap.size) (h5 : ∀ k, k ≠ B → w'.heap[k]? = w.heap[k]?) : SlW W w' b L S := by
  obtain ⟨base, tv, hA, q1, q2, q3⟩ := h
  obtain ⟨p1, p2, p3, p4⟩ := q3 B hS
  refine ⟨base, tv, ⟨hA.tab.of (Nat.le_of_eq h4.symm) (World.cell?_of_block (h5 b (Ne.symm p2))) (World.frozen?_of_block (h5 b (Ne.symm p2))) (fun g hg => h5 g (fun e => p3 (e ▸ hg))), fun x hx => ⟨(h5 x.g (p4 x hx)).trans (hA.blk x hx).1, (hA.blk x hx).2⟩, hA.ap, hA.nt, hA.bd⟩, q1, ⟨h1.trans q2.os, h2.trans q2.tape, h3.trans q2.output, by rw [h4]; exact q2.size, fun k hk => (h5 k (by omega)).trans (q2.block k hk)⟩, fun k hk => by rw [h4]; exact q3 k hk⟩
theorem SlW.act {W w w' : World} {b base : Nat} {tv tv' : Value} {L L' : List Sn} {S : Nat → Prop} (hA : SlotsAt w b base tv L) (h1 : W.heap.size ≤ b) (h2 : Below W.heap.size W w) (h3 : ∀ k, S k → k < w.heap.size ∧ k ≠ b ∧ tv.ownBlock ≠ some k ∧ ∀ x ∈ L, x.g ≠ k) (hA' : SlotsAt w' b base tv' L') (hO : SOnly w w' b tv tv' L L') : SlW W w' b L' S ∧ SameK S w w' := by
  refine ⟨⟨base, tv', hA', h1, h2.trans ((hO.below hA h1).mono (Nat.le_refl _)), fun k hk => ?_⟩, fun k hk => hO.block k (h3 k hk).1 (h3 k hk).2.1 (h3 k hk).2.2.1 (h3 k hk).2.2.2⟩
  obtain ⟨a1, a2, a3, a4⟩ := h3 k hk
  refine ⟨Nat.lt_of_lt_of_le a1 hO.size, a2, fun e => ?_, fun x hx e => ?_⟩
  · rcases hO.foot k a1 (.inl e) with q | ⟨x, hx, q⟩
    · exact a3 q
    · exact a4 x hx q
  · rcases hO.foot k a1 (.inr ⟨x, hx, e⟩) with q | ⟨y, hy, q⟩
    · exact a3 q
    · exact a4 y hy q
def setSR (c : Cp) : Int := if mayC c = true then 0 else 5
def setSL (L : List Sn) (p r : Nat) (c : Cp) : List Sn := if mayC c = true then (match L[p]? with | some x => putS L p x r c | none => L) else L
theorem three_set {L : List Sn} (h3 : Three L) (p r : Nat) (c : Cp) : Three (setSL L p r c) := by
  unfold setSL
  split
  · split
    · rename_i x hx
      exact three_put h3 hx c
    · exact h3
  · exact h3
theorem getC_set {L : List Sn} (h3 : Three L) {p r : Nat} (hp : p < 3) (hr : r < 4) (c : Cp) (hm : mayC c = true) (q i : Nat) : getC (setSL L p r c) q i = if q = p ∧ i = r then some c else getC L q i := by
  obtain ⟨x, hx, _, hl⟩ := three_get h3 hp
  unfold setSL
  rw [if_pos hm, hx]
  exact getC_put hx (by omega) c q i
theorem SlW.set {W w : World} {b : Nat} {L : List Sn} {S : Nat → Prop} (h : SlW W w b L S) (h3 : Three L) (hT : CX.TabG w) {p r : Nat} (hp : p < 3) (hr : r < 4) (c : Cp) (he : c.e ≤ 9223372036854775807) :
    Calls Tryd.prog 25 #[.pointer (some ⟨b, 0, none⟩), .agg #[.int .i64 (1 + p), .int .i64 r], c.V] w fun e w' => e = .returned (.int .i64 (setSR c)) ∧ SlW W w' b (setSL L p r c) S ∧ SameK S w w' := by
  obtain ⟨base, tv, hA, q1, q2, q3⟩ := h
  obtain ⟨x, hx, hid, hl⟩ := three_get h3 hp
  have hpos := three_posn hA h3 hx
  have e1 : (1 : Int) + p = p + 1 := by omega
  rw [e1]
  unfold setSR setSL
  cases hm : mayC c with
  | true =>
    simp only [if_true, hx]
    refine (sset_yes w b base tv L (p + 1) r x c hA hT he (by rw [hpos]; exact hx) hid (by omega) hm).mono ?_
    rintro e w' ⟨rfl, hA', hO⟩
    rw [hpos] at hA' hO
    exact ⟨rfl, SlW.act hA q1 q2 q3 hA' hO⟩
  | false =>
    simp only [Bool.false_eq_true, if_false]
    refine (sset_form w b base tv L (p + 1) r x c hA hT he (by rw [hpos]; exact hx) hid (by omega) hm).mono ?_
    rintro e w' ⟨rfl, hb⟩
    exact ⟨rfl, SlW.act hA q1 q2 q3 (hA.call hb) (SOnly.of_below hb)⟩
theorem SlW.get {W w : World} {b : Nat} {L : List Sn} {S : Nat → Prop} (h : SlW W w b L S) (h3 : Three L) {q i : Nat} {c : Cp} (hc : getC L q i = some c) (id : Int) (hid : id = q + 1) :
    Calls Tryd.prog 49 #[.pointer (some ⟨b, 0, none⟩), .agg #[.int .i64 id, .int .i64 i]] w fun e w' => e = .returned (.tuple #[c.V, .int .i64 0]) ∧ Below w.heap.size w w' := by
  obtain ⟨base, tv, hA, q1, q2, q3⟩ := h
  subst hid
  unfold getC at hc
  cases hx : L[q]? with
  | none => rw [hx] at hc; cases hc
  | some x =>
    rw [hx] at hc
    exact sget_yes w b base tv L (q + 1) i x c hA (three_pos hA h3 hx) (h3.2 q x hx).1 hc
/-- A node more. -/
theorem SlW.addn {W w : World} {b : Nat} {L : List Sn} {S : Nat → Prop} (h : SlW W w b L S) (k : Nat) (hL : L.length = k) (hk : k < 3) (hi : ∀ (i : Nat) (x : Sn), L[i]? = some x → x.id = i + 1 ∧ x.l.length = 4) :
    Calls Tryd.prog 23 #[.pointer (some ⟨b, 0, none⟩), .int .i64 (k + 1), .int .i64 4] w fun e w' => e = .returned (.int .i64 0) ∧ ∃ L', L'.length = k + 1 ∧ (∀ (i : Nat) (x : Sn), L'[i]? = some x → x.id = i + 1 ∧ x.l.length = 4) ∧ SlW W w' b L' S ∧ SameK S w w' := by
  obtain ⟨base, tv, hA, q1, q2, q3⟩ := h
  have hh : hasS L (k + 1) = false := by
    cases hq : hasS L (k + 1) with
    | false => rfl
    | true =>
      obtain ⟨y, hy, hyi⟩ := (hasS_at hA).1 hq
      have := (hi _ y hy).1
      have := (List.getElem?_eq_some_iff.1 hy).1
      omega
  have hpos : posS L (k + 1) = k := by
    obtain ⟨p1, p2⟩ := posR_facts (k := ((k : Int) + 1)) hA.tab.asc
    have hle := posR_le (rowsS L) ((k : Int) + 1)
    rw [rowsS_len] at hle
    rcases Nat.lt_or_ge (posS L (k + 1)) k with q | q
    · exfalso
      have hx : L[posS L (k + 1)]? = some (L[posS L (k + 1)]'(by omega)) := List.getElem?_eq_getElem _
      have h1 := p2 _ (rowS (L[posS L (k + 1)]'(by omega))) (Nat.le_refl _) (by rw [rowsS_get]; show Option.map rowS L[posS L (k + 1)]? = _; rw [hx]; rfl)
      have h2 := (hi _ _ hx).1
      have h3 : (rowS (L[posS L (k + 1)]'(by omega))).1 = (L[posS L (k + 1)]'(by omega)).id := rfl
      omega
    · have : posS L (k + 1) ≤ L.length := hle
      omega
  refine (sadd_yes w b base tv L (k + 1) 4 hA (by omega) (by omega) (by omega) (by omega) hh).mono ?_
  rintro e w' ⟨rfl, tv', g, hg, hA', hO⟩
  have hins : insS L ⟨k + 1, g, List.replicate 4 zC⟩ = L ++ [⟨k + 1, g, List.replicate 4 zC⟩] := by
    unfold insS
    rw [show posS L (⟨k + 1, g, List.replicate 4 zC⟩ : Sn).id = k from hpos, ← hL, List.take_length, List.drop_length]
  rw [hins] at hA' hO
  refine ⟨rfl, _, by simp [hL], fun i x hx => ?_, SlW.act hA q1 q2 q3 hA' hO⟩
  rcases Nat.lt_or_ge i L.length with q | q
  · rw [List.getElem?_append_left q] at hx
    exact hi i x hx
  · rw [List.getElem?_append_right q] at hx
    obtain ⟨hi2, rfl⟩ := List.getElem?_eq_some_iff.1 hx
    simp at hi2
    have : i = k := by omega
    subst this
    simp
end TabS
end
end
end Go.Proofs.YtnjdljjmengjbaaDoor
