/- chapter 20's own answer: what its acts leave; Drop. -/
import Derived.Test.YtiagkoiikmmgdaaTi2
namespace Go.Proofs.Ytiagkoiikmmgdaa
set_option linter.unusedVariables false
set_option linter.unusedSimpArgs false
open Go.ChangeShapes Go.WideShapes Go.ChangeAt Go.RowKit Go.Shelf
open TabT
attribute [-go_sem] Builtin.append_

/-- What an act of the own answer leaves: only its own blocks are turned. -/
structure OnlyR (w w' : World) (rb : Nat) (v v' : Value) : Prop where
  os : w'.os = w.os
  tape : w'.tape = w.tape
  output : w'.output = w.output
  size : w.heap.size ≤ w'.heap.size
  block : ∀ k, k < w.heap.size → k ≠ rb → v.ownBlock ≠ some k → w'.heap[k]? = w.heap[k]?
  foot : ∀ k, k < w.heap.size → v'.ownBlock = some k → v.ownBlock = some k
theorem OnlyR.of_below {w w' : World} {rb : Nat} {v : Value} (h : Below w.heap.size w w') : OnlyR w w' rb v v :=
  ⟨h.os, h.tape, h.output, h.size, fun k hk _ _ => h.block k hk, fun k _ e => e⟩
theorem OnlyR.trans {a b c : World} {rb : Nat} {v0 v1 v2 : Value} (h : OnlyR a b rb v0 v1) (k : OnlyR b c rb v1 v2) : OnlyR a c rb v0 v2 :=
  ⟨k.os.trans h.os, k.tape.trans h.tape, k.output.trans h.output, Nat.le_trans h.size k.size,
   fun j hj h1 h2 => (k.block j (Nat.lt_of_lt_of_le hj h.size) h1 (fun e => h2 (h.foot j hj e))).trans (h.block j hj h1 h2), fun j hj e => h.foot j hj (k.foot j (Nat.lt_of_lt_of_le hj h.size) e)⟩
theorem own_weak {w : World} {B B' s n : Nat} {e : TypeId} {v : Value} {xs : List Value} (h : w.ownsRow B e s v n xs) (hB : B' ≤ B) : w.ownsRow B' e s v n xs := by
  refine ⟨h.1, ?_⟩
  rcases h.2 with h2 | ⟨g, cap, cur, rfl, q1, q2⟩
  · exact .inl h2
  · exact .inr ⟨g, cap, cur, rfl, Nat.le_trans hB q1, q2⟩
theorem RefT.store {w w2 : World} {rb base : Nat} {v u : Value} {L L' : List Th} (h : RefT w rb base v L) (hb : Below w.heap.size w w2) (ho : w2.ownsRow w.heap.size 35 24 u L'.length (thsC L')) :
    RefT (w2.setCell ⟨rb, 0, none⟩ u) rb base u L' ∧ OnlyR w (w2.setCell ⟨rb, 0, none⟩ u) rb v u := by
  have hlt := h.lt
  have hbs := h.bs
  have hk := (hb.block rb (by omega)).trans h.blk
  have hn : u.ownBlock ≠ some rb := fun e => by have := (ho.lt rb e).1; omega
  refine ⟨⟨Go.heap_setCell_same _ _ _ _ _ _ hk, own_weak (ownsRow_setCell_other ho hn u) hbs, hlt, by simpa using Nat.le_trans hbs hb.size⟩, ⟨hb.os, hb.tape, hb.output, by simpa using hb.size, fun k hk' h1 h2 => ?_, fun k hk' e => ?_⟩⟩
  · exact (Go.heap_setCell_other _ _ _ _ h1).trans (hb.block k hk')
  · have := (ho.lt k e).1; omega
theorem ths_one {L : List Th} : ∀ u ∈ thsC L, u.oneCell' = true := by
  intro u hu
  unfold thsC at hu
  obtain ⟨x, hx, hux⟩ := List.mem_flatMap.1 hu
  exact th_one x u hux
theorem ths_len : ∀ (L : List Th), (thsC L).length = L.length * 24
  | [] => rfl
  | x :: L => by
    have e : thsC (x :: L) = x.cells ++ thsC L := rfl
    have hl : x.cells.length = 24 := rfl
    rw [e, List.length_append, ths_len L, hl, List.length_cons]
    omega
theorem ths_app (A B : List Th) : thsC (A ++ B) = thsC A ++ thsC B := by simp [thsC]
theorem ths_pre {L : List Th} {p : Nat} (hp : p ≤ L.length) {j : Nat} {u : Value} (h : (thsC (L.take p))[j]? = some u) : (thsC L)[j]? = some u := by
  have e : thsC L = thsC (L.take p) ++ thsC (L.drop p) := by rw [← ths_app, List.take_append_drop]
  rw [e, List.getElem?_append_left (List.getElem?_eq_some_iff.1 h).1]
  exact h
theorem ths_suf {L : List Th} {p : Nat} (hp : p ≤ L.length) {j : Nat} {u : Value} (h : (thsC (L.drop p))[j]? = some u) : (thsC L)[p * 24 + j]? = some u := by
  have e : thsC L = thsC (L.take p) ++ thsC (L.drop p) := by rw [← ths_app, List.take_append_drop]
  have hl : (thsC (L.take p)).length = p * 24 := by rw [ths_len, List.length_take, Nat.min_eq_left hp]
  rw [e, List.getElem?_append_right (by omega), hl, Nat.add_sub_cancel_left]
  exact h
theorem row_cells {w : World} {base : Nat} {g c n : Nat} {xs : List Value} (h : w.ownsRow base 35 24 (.slice (some ⟨g, 0, none⟩) n c) n xs) {j : Nat} {u : Value} (hj : xs[j]? = some u) : w.cell? ⟨g, j, none⟩ = some u := by
  have := h.cells (g := g) rfl _ _ hj
  rwa [Addr.add_mid, Nat.zero_add] at this
theorem own_slice {w : World} {B s n : Nat} {e : TypeId} {v : Value} {xs : List Value} (h : w.ownsRow B e s v n xs) : ∃ a k c, v = .slice a k c := by
  rcases h.2 with ⟨rfl, _⟩ | ⟨g, cap, cur, rfl, _⟩
  · exact ⟨_, _, _, rfl⟩
  · exact ⟨_, _, _, rfl⟩
set_option maxRecDepth 100000 in
set_option maxHeartbeats 4000000 in
theorem rdrop_any (w : World) (rb base : Nat) (v : Value) (L : List Th) (id : Int) (h : RefT w rb base v L) (hA : Asc (rowsH L)) (hl : L.length < 1000000) :
    Calls Try.prog 12 #[.pointer (some ⟨rb, 0, none⟩), .int .i64 id] w fun e w' => e = .returned (.int .i64 (dropTR L id)) ∧ ∃ u, RefT w' rb base u (dropTL L id) ∧ OnlyR w w' rb v u := by
  obtain ⟨i0, hi0, hz0, hz1, hz2⟩ := info_parts infoTh
  have HI0 := Lib.hid hi0
  clear hi0
  have H := Lib.hid h
  unfold dropTR dropTL
  cases hh : hasH L id with
  | false =>
    have HNO := Lib.hid (at_none hh)
    clear h hA hh
    simp only [Bool.false_eq_true, if_false]
    go_enter Try.func12, Try.ntmps12
    go_wp2_with (go_at_call 26; refine (at_no _ rb base v L id H.out hl HNO.out).mono ?_; rintro e w1 ⟨rfl, rfl⟩)
    go_ret
    exact ⟨rfl, v, H.out, .of_below (Below.refl _ _)⟩
  | true =>
    simp only [if_true]
    obtain ⟨x, p, hx, hid, hg, hp, hbe⟩ := at_facts hA hh
    have hd : delH L id = L.take p ++ L.drop (p + 1) := by unfold delH; rw [hp]
    rw [hd]
    have hpL := (List.getElem?_eq_some_iff.1 hx).1
    obtain ⟨ra, rc, rfl, hrc, hra⟩ := ths_of h.row
    obtain ⟨g, rfl, _, hgl, _⟩ := hra p hpL
    have hrow := h.row
    have hcm : rc ≤ maxLen := by
      rcases hrow.2 with ⟨q, _⟩ | ⟨g', cap, cur, q, _, _, _, q4, _⟩
      · cases q
      · cases q; exact q4
    obtain ⟨u1, w1, hrun1, hown1, hgr1, _⟩ := run_append_own_at (P := Try.prog) (w := w.drew) w.heap.size 27 27 35 i0 (.agg #[.int .i64 0, .int .i64 0, .int .i64 0, .int .u64 0, .int .u64 0, .int .u64 0, .int .u64 0, .int .u64 0, .bool false, .int .i64 0, .int .i64 0, .int .u64 0, .int .u64 0, .int .u64 0, .int .u64 0, .int .u64 0, .int .i64 0, .int .i64 0, .bool false, .bool false, .bool false, .bool false, .int .u64 0, .int .u64 0]) 24 176 Try.underlying27 HI0.out hz0 hz1 hz2 rfl (by decide) (.slice none 0 0) 0 [] (World.ownsRow_nil _ _ _ _) ⟨g, 0, none⟩ p rc (thsC (L.take p)) (by rw [ths_len, List.length_take]; omega) (fun j u hj => by rw [Addr.add_mid, Nat.zero_add]; exact row_cells hrow (ths_pre (by omega) hj)) ths_one (by unfold maxLen; omega) (by omega) (Nat.le_refl _)
    have hb1 : Below w.heap.size w w1 := (Below.refl _ w).drew.grown hgr1 (Nat.le_refl _) (fun k e => by cases e)
    have hrow1 := (h.call hb1).row
    have c1 := h.c0
    have c2 := (h.call hb1).c0
    have f1 : w1.frozen? ⟨rb, 0, none⟩ = false := (h.call hb1).f0
    have hsuf : ∃ u w5, (Builtin.append_ #[27, 27] 27 #[u1, if rc = p + 1 then .slice (some ⟨g, 0, none⟩) (L.length - (p + 1)) 0 else .slice (some ⟨g, (p + 1) * 24, none⟩) (L.length - (p + 1)) (rc - (p + 1))]).run Try.prog w1 = .ok u w5 ∧ w5.ownsRow w.heap.size 35 24 u (0 + p + (L.length - (p + 1))) ([] ++ thsC (L.take p) ++ thsC (L.drop (p + 1))) ∧ w1.grownBy w5 u1.ownBlock := by
      split
      · rename_i hcc
        have hl0 : L.length - (p + 1) = 0 := by omega
        have hdr : L.drop (p + 1) = [] := List.drop_eq_nil_iff.2 (by omega)
        rw [hl0, hdr]
        obtain ⟨u, w5, q1, q2, q3, _⟩ := run_append_own_at (P := Try.prog) (w := w1) w.heap.size 27 27 35 i0 (.agg #[.int .i64 0, .int .i64 0, .int .i64 0, .int .u64 0, .int .u64 0, .int .u64 0, .int .u64 0, .int .u64 0, .bool false, .int .i64 0, .int .i64 0, .int .u64 0, .int .u64 0, .int .u64 0, .int .u64 0, .int .u64 0, .int .i64 0, .int .i64 0, .bool false, .bool false, .bool false, .bool false, .int .u64 0, .int .u64 0]) 24 176 Try.underlying27 HI0.out hz0 hz1 hz2 rfl (by decide) u1 (0 + p) _ hown1 ⟨g, 0, none⟩ 0 0 (thsC []) rfl (fun j u hj => by simp [thsC] at hj) ths_one (by unfold maxLen; omega) (by omega) hb1.size
        exact ⟨u, w5, q1, q2, q3⟩
      · obtain ⟨u, w5, q1, q2, q3, _⟩ := run_append_own_at (P := Try.prog) (w := w1) w.heap.size 27 27 35 i0 (.agg #[.int .i64 0, .int .i64 0, .int .i64 0, .int .u64 0, .int .u64 0, .int .u64 0, .int .u64 0, .int .u64 0, .bool false, .int .i64 0, .int .i64 0, .int .u64 0, .int .u64 0, .int .u64 0, .int .u64 0, .int .u64 0, .int .i64 0, .int .i64 0, .bool false, .bool false, .bool false, .bool false, .int .u64 0, .int .u64 0]) 24 176 Try.underlying27 HI0.out hz0 hz1 hz2 rfl (by decide) u1 (0 + p) _ hown1 ⟨g, (p + 1) * 24, none⟩ (L.length - (p + 1)) (rc - (p + 1)) (thsC (L.drop (p + 1))) (by rw [ths_len, List.length_drop]) (fun j u hj => by rw [Addr.add_mid]; exact row_cells hrow1 (ths_suf (by omega) hj)) ths_one (by unfold maxLen; omega) (by omega) hb1.size
        exact ⟨u, w5, q1, q2, q3⟩
    obtain ⟨u2, w2, hrun2, hown2, hgr2⟩ := hsuf
    have hb2 : Below w.heap.size w w2 := hb1.grown hgr2 hb1.size (fun k e => (hown1.lt k e).1)
    rw [List.nil_append, ← ths_app, show 0 + p + (L.length - (p + 1)) = (L.take p ++ L.drop (p + 1)).length by rw [List.length_append, List.length_take, List.length_drop]; omega] at hown2
    obtain ⟨ua, un, uc, rfl⟩ := own_slice hown2
    have hst := h.store hb2 hown2
    have HST := Lib.hid hst
    have c3 := (h.call hb2).c0
    have f2 : w2.frozen? ⟨rb, 0, none⟩ = false := (h.call hb2).f0
    have HX := Lib.hid hx
    have HXI := Lib.hid hid
    have HBE := Lib.hid hbe
    have hpI : (p : Int) < L.length := by omega
    have hpI1 : (p : Int) + 1 ≤ L.length := by omega
    have hrI : (L.length : Int) ≤ rc := by omega
    have hr0 : ¬ rc = 0 := by omega
    have hw1 : IntKind.i64.wrap ((p : Int) + 1) = (p : Int) + 1 := IntWalk.i64_in _ (by omega)
    have ht1 : ((p : Int) + 1).toNat = p + 1 := by omega
    have hp0 : (0 : Int) ≤ (p : Int) + 1 := by omega
    clear h hA hh hg hra hx hid hbe hp hd hrow hrow1 hown1 hgr1 hb1 hown2 hgr2 hb2 hst
    by_cases hcc : rc = p + 1
    · rw [if_pos hcc] at hrun2
      subst hcc
      rw [show L.length - (p + 1) = 0 by omega] at hrun2
      have hpp : (p : Int) ≤ (p : Int) + 1 := by omega
      go_enter Try.func12, Try.ntmps12
      go_upto_region 4 with (go_at_call 26; refine (at_yes _ rb base _ L id H.out hl p x HX.out HXI.out HBE.out).mono ?_; rintro e w1 ⟨rfl, rfl⟩)
      go_region
      all_goals go_wp2
      all_goals go_ret
      all_goals exact ⟨rfl, _, HST.out.1, HST.out.2⟩
    · rw [if_neg hcc] at hrun2
      go_enter Try.func12, Try.ntmps12
      go_upto_region 4 with (go_at_call 26; refine (at_yes _ rb base _ L id H.out hl p x HX.out HXI.out HBE.out).mono ?_; rintro e w1 ⟨rfl, rfl⟩)
      go_region
      all_goals go_wp2
      all_goals go_ret
      all_goals exact ⟨rfl, _, HST.out.1, HST.out.2⟩
end Go.Proofs.Ytiagkoiikmmgdaa
