/- chapter 19: what is compared; rows handed out. -/
import Derived.Test.YtfladcnkphcicaaAs5
import Derived.Test.YtfladcnkphcicaaAsidAll
import Derived.Deep.QuietTactic
import Derived.BigQuiet
import Derived.OwnWalk
import Derived.ChangeKeysEq
import Derived.Laws.StructEq
namespace Go.Proofs.Ytfladcnkphcicaa
set_option linter.unusedVariables false
set_option linter.unusedSimpArgs false
open Go.ChangeShapes Go.WideShapes Go.ChangeAt Go.RowKit Go.Shelf
theorem eq4 (a b c d : Int) (w : World) : (Op.equalIn 9998 27 (.agg #[.int .i64 a, .int .i64 b, .int .i64 c, .int .i64 d]) (.agg #[.int .i64 a, .int .i64 b, .int .i64 c, .int .i64 d])).run Try.prog w = .ok true w := by
  obtain ⟨i, hi⟩ : ∃ i, Try.prog.info? 3 = some i := Option.isSome_iff_exists.1 (by kernel_rfl)
  have hc : Try.prog.cellsOf 3 = 1 := by kernel_rfl
  rw [run_equalIn_array (P := Try.prog) w 9997 _ _ Try.underlying27 hi]
  simp [Op.eqItems, hc, go_sem, List.range, List.range.loop]
section
attribute [local go_sem] eq4
set_option maxHeartbeats 1000000 in
theorem eqP (o : Int) (d : Bool) (a b c e f g h i : Int) (w : World) : (Op.equalIn 9999 29 (.agg #[.int .i64 o, .bool d, .int .i64 a, .int .i64 b, .int .i64 c, .int .i64 e, .int .i64 f, .int .i64 g, .int .i64 h, .int .i64 i]) (.agg #[.int .i64 o, .bool d, .int .i64 a, .int .i64 b, .int .i64 c, .int .i64 e, .int .i64 f, .int .i64 g, .int .i64 h, .int .i64 i])).run Try.prog w = .ok true w := by
  go_simp
end
theorem eqItems_same {P : Program} (d : Nat) (e : TypeId) (c : Nat) (xs : Array Value) (w : World) : ∀ (is : List Nat), (∀ i, i ∈ is → ∃ a, (part e xs (i * c)).run P w = .ok a w ∧ (Op.equalIn d e a a).run P w = .ok true w) → (Op.eqItems d e c xs xs is).run P w = .ok true w
  | [], _ => by simp [Op.eqItems]
  | i :: is, h => by
    obtain ⟨a, h1, h2⟩ := h i (by simp)
    have h3 := eqItems_same d e c xs w is (fun j hj => h j (by simp [hj]))
    simp [Op.eqItems, Sem.run_bind, h1, h2, h3]
theorem run_part_agg {P : Program} {e : TypeId} {i : TypeInfo} {d : TypeDesc} (hu : P.underlying e = some d) (hd : (match d with | .struct _ | .array _ _ => true | _ => false) = true) (hi : P.info? e = some i) (xs : Array Value) (off : Nat) (w : World) : (part e xs off).run P w = .ok (.agg (xs.extract off (off + i.size))) w := by
  have hagg : (isAgg e).run P w = .ok true w := by
    unfold isAgg
    rw [Sem.run_bind, run_underlying hu w]
    cases d <;> simp_all
  unfold part
  simp [Sem.run_bind, hagg, sizeOf, typeInfo, hi]
theorem eqPools (po : Nat → Int) (tk : Int) (N : Nums) (w : World) : (binOp .eql 30 (.agg (cellsF 80 (rcF po tk N))) (.agg (cellsF 80 (rcF po tk N)))).run Try.prog w = .ok (.bool true) w := by
  obtain ⟨i, hi⟩ : ∃ i, Try.prog.info? 29 = some i := Option.isSome_iff_exists.1 (by kernel_rfl)
  have hc : Try.prog.cellsOf 29 = 10 := by kernel_rfl
  have hs : i.size = 10 := by
    have : (Try.prog.info? 29).map (·.size) = some 10 := by kernel_rfl
    rw [hi] at this
    simpa using this
  rw [run_eql_struct, run_equalIn_array (P := Try.prog) w 9999 _ _ Try.underlying30 hi, hc, eqItems_same]
  · rfl
  · intro j hj
    have hj8 : j < 8 := List.mem_range.1 hj
    refine ⟨_, run_part_agg Try.underlying29 rfl hi _ _ _, ?_⟩
    rw [hs]
    obtain rfl | rfl | rfl | rfl | rfl | rfl | rfl | rfl : j = 0 ∨ j = 1 ∨ j = 2 ∨ j = 3 ∨ j = 4 ∨ j = 5 ∨ j = 6 ∨ j = 7 := by omega
    all_goals exact eqP _ _ _ _ _ _ _ _ _ _ w
theorem nePools (po : Nat → Int) (tk : Int) (N : Nums) (w : World) : (binOp .neq 30 (.agg (cellsF 80 (rcF po tk N))) (.agg (cellsF 80 (rcF po tk N)))).run Try.prog w = .ok (.bool false) w := by
  have h := eqPools po tk N w
  rw [run_eql_struct] at h
  rw [run_neq_struct]
  cases hr : (Op.equalIn 10000 30 (.agg (cellsF 80 (rcF po tk N))) (.agg (cellsF 80 (rcF po tk N)))).run Try.prog w with
  | ok r w1 =>
    rw [hr] at h
    simp only [Result.andThen_ok] at h ⊢
    cases h
    rfl
  | halt c w1 =>
    rw [hr] at h
    cases h
theorem pools_any (w : World) (b : Nat) (po : Nat → Int) (tk : Int) (N : Nums) (hA : AsidAt w b po tk N) (hI : Inv po tk N) :
    Calls Try.prog 21 #[.pointer (some ⟨b, 0, none⟩)] w fun e w' => e = .returned (.agg (cellsF 80 (rcF po tk N))) ∧ Below w.heap.size w w' := by
  obtain ⟨t, rfl⟩ : ∃ t : Nat, tk = t := ⟨tk.toNat, by have := hI.t0; omega⟩
  exact callsIn_wide.1 (pools_in w b po t N hA hI)
theorem num_any (x : Int) (w : World) : Calls Try.prog 8 #[.int .i64 x] w fun e w' => e = .returned (.int .i64 x) ∧ w = w' := by
  go_enter Try.func8, Try.ntmps8
  go_wp2
  go_ret
  exact ⟨rfl, rfl⟩
theorem grown_cell (w : World) (g i : Nat) (u : Value) : w.grownBy (w.setCell ⟨g, i, none⟩ u) (some g) :=
  ⟨rfl, rfl, rfl, by simp, fun k _ hk => Go.heap_setCell_other _ _ _ _ (fun e => hk (by rw [e]))⟩
theorem grown_trans {a b c : World} {r : Option Nat} (h : a.grownBy b r) (k : b.grownBy c r) : a.grownBy c r :=
  ⟨k.os.trans h.os, k.tape.trans h.tape, k.output.trans h.output, Nat.le_trans h.size k.size, fun j h1 h2 => (k.block j (Nat.lt_of_lt_of_le h1 h.size) h2).trans (h.block j h1 h2)⟩
theorem cellQ6 {w : World} {g : Nat} {cs : Array Value} {t : TypeId} (hb : w.heap[g]? = some (.cells cs t (0, 0))) (k : Nat) : w.cell? ⟨g, k, none⟩ = cs[k]? := by simp [World.cell?, hb]
theorem over_any (g n cap : Nat) (cur : Array Value) (w : World) (hb : w.heap[g]? = some (.cells cur 3 (0, 0))) (hn : n ≤ cap) (h4 : n ≤ 4) (hm : cap ≤ maxLen) (hcur : cur.size = cap) :
    Calls Try.prog 12 #[.slice (some ⟨g, 0, none⟩) n cap] w fun e w' => (∃ v, e = .returned v) ∧ w.grownBy w' (some g) := by
  obtain ⟨i0, hi, hz0, hz1, hz2⟩ := info_parts infoInt
  go_enter Try.func12, Try.ntmps12
  go_wp2
  go_loopw [2] (fun i wr => ∃ (k : Nat) (cs : Array Value), k ≤ n ∧ i = .int .i64 k ∧ wr.heap[g]? = some (.cells cs 3 (0, 0)) ∧ cs.size = cap ∧ w.grownBy wr (some g)) (fun i _ => n - (intOf i).toNat)
  case atStart => exact ⟨0, cur, by omega, rfl, hb, hcur, ⟨rfl, rfl, rfl, Nat.le_refl _, fun _ _ _ => rfl⟩⟩
  case round =>
    obtain ⟨k, cs, hk, rfl, hB, hcs, hg⟩ := hrel
    clear hb
    by_cases hlt : k < n
    · have ck : wr.cell? ⟨g, k, none⟩ = some (cs[k]'(by omega)) := by
        rw [cellQ6 hB k]; exact Array.getElem?_eq_getElem (by omega)
      have fk : wr.frozen? ⟨g, k, none⟩ = false := by simp [World.frozen?, hB]
      have HB := Lib.hid hB; clear hB
      generalize cs[k]'(by omega) = x at ck
      go_wp2
      go_roundw
      case rel => exact ⟨k + 1, _, by omega, by go_num, Go.heap_setCell_same _ _ _ _ _ _ HB.out, by simp [hcs], ⟨hg.os, hg.tape, hg.output, Nat.le_trans hg.size (grown_cell wr g k _).size, fun j h1 h2 => ((grown_cell wr g k _).block j (Nat.lt_of_lt_of_le h1 hg.size) h2).trans (hg.block j h1 h2)⟩⟩
      case measure => simp [intOf]; omega
    · obtain rfl : k = n := by omega
      have hown : wr.ownsRow 0 3 1 (.slice (some ⟨g, 0, none⟩) k cap) k (cs.toList.take k) := ⟨by simp; omega, .inr ⟨g, cap, cs, rfl, Nat.zero_le _, hB, hn, hm, by omega, by simp⟩⟩
      go_wp2_with (at_builtin; refine wpList_append_own _ rfl _ _ 42 rfl 0 3 i0 (.int .i64 0) 1 8 Try.underlying42 hi hz0 hz1 hz2 rfl (by decide) _ _ _ rfl (hown.alloc _) ⟨wr.heap.size, 0, none⟩ 1 1 [.int .i64 (-999)] rfl rfl (cell_one_new _ _ _) (by simp [Value.oneCell']) (by unfold maxLen; omega) (by omega) (by omega) ?_; intro v' w1 hown' hgrow _)
      go_end0
      exact ⟨⟨_, rfl⟩, grown_trans (grown_trans hg (World.grownBy_alloc wr _ _)) hgrow⟩
theorem over_nil (w : World) : Calls Try.prog 12 #[.slice none 0 0] w fun e w' => (∃ v, e = .returned v) ∧ Below w.heap.size w w' := by
  obtain ⟨i0, hi, hz0, hz1, hz2⟩ := info_parts infoInt
  go_enter Try.func12, Try.ntmps12
  go_wp2
  refine wp_loop_rounds 1 ?_
  rw [rounds_succ]
  go_wp2_with (at_builtin; refine wpList_append_own _ rfl _ _ 42 rfl w.heap.size 3 i0 (.int .i64 0) 1 8 Try.underlying42 hi hz0 hz1 hz2 rfl (by decide) _ _ _ rfl ((World.ownsRow_nil w w.heap.size 3 1).alloc _) ⟨w.heap.size, 0, none⟩ 1 1 [.int .i64 (-999)] rfl rfl (cell_one_new _ _ _) (by simp [Value.oneCell']) (by unfold maxLen; omega) (by omega) (by simp) ?_; intro v' w1 hown' hgrow _)
  go_end0
  exact ⟨⟨_, rfl⟩, (bal (Below.refl _ _) _).grown hgrow (by simp) (fun j ej => by cases (show (none : Option Nat) = some j from ej))⟩
theorem same_own {w : World} {B1 B2 : Nat} {v1 v2 : Value} {xs : List Int} (hl : xs.length ≤ 4) (h1 : w.ownsRow B1 3 1 v1 xs.length (xs.map (Value.int .i64))) (h2 : w.ownsRow B2 3 1 v2 xs.length (xs.map (Value.int .i64))) :
    Calls Try.prog 11 #[v1, v2] w fun e w' => e = .returned (.bool true) ∧ Below w.heap.size w w' := by
  obtain ⟨p1, c1, rfl, hc1, hm1, hg1⟩ := row_form h1
  obtain ⟨p2, c2, rfl, hc2, hm2, hg2⟩ := row_form h2
  have H1 := Lib.hid hg1
  have H2 := Lib.hid hg2
  clear h1 h2 hg1 hg2
  obtain ⟨n, hn⟩ : ∃ n, n = xs.length := ⟨_, rfl⟩
  have HN := Lib.hid hn
  rw [← hn] at hl hc1 hc2 ⊢
  clear hn
  go_enter Try.func11, Try.ntmps11
  go_wp2
  go_loopw [5] (fun i wr => ∃ k q : Nat, k ≤ n ∧ i = .int .i64 k ∧ wr = w.drewN q) (fun i _ => n - (intOf i).toNat)
  case atStart => exact ⟨0, 0, by omega, rfl, rfl⟩
  case round =>
    obtain ⟨k, q, hk, rfl, rfl⟩ := hrel
    by_cases hlt : k < n
    · obtain ⟨g1, rfl, _, _, hx1⟩ := H1.out (by have := HN.out; omega)
      obtain ⟨g2, rfl, _, _, hx2⟩ := H2.out (by have := HN.out; omega)
      have hkx : k < xs.length := by have := HN.out; omega
      have cA := hx1 k (.int .i64 xs[k]) (by simp [hkx])
      have cB := hx2 k (.int .i64 xs[k]) (by simp [hkx])
      clear hx1 hx2
      generalize xs[k] = x at cA cB
      have hi : (k : Int) < n := by omega
      clear hkx
      go_wp2
      go_quiet (fail)
      go_wp2
      go_roundw
      case rel => exact ⟨k + 1, _, by omega, by go_num, rfl⟩
      case measure => simp [intOf]; omega
    · obtain rfl : k = n := by omega
      go_wp2
      go_ret
      exact ⟨rfl, below_drewN (Below.refl _ _) _⟩
theorem over_own {w : World} {B : Nat} {v : Value} {xs : List Int} (hl : xs.length ≤ 4) (h : w.ownsRow B 3 1 v xs.length (xs.map (Value.int .i64))) :
    Calls Try.prog 12 #[v] w fun e w' => (∃ r, e = .returned r) ∧ w.grownBy w' v.ownBlock := by
  rcases h.2 with ⟨rfl, h0⟩ | ⟨g, cap, cur, rfl, hg, hb, h1, h2, h3, h4⟩
  · exact (over_nil w).mono fun e w' ⟨h1, h2⟩ => ⟨h1, ⟨h2.os, h2.tape, h2.output, h2.size, fun k hk _ => h2.block k hk⟩⟩
  · exact (over_any g xs.length cap cur w hb h1 hl h2 (by omega)).mono fun e w' h => h
end Go.Proofs.Ytfladcnkphcicaa
