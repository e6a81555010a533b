/- The law EndsNone. -/
import Derived.Test.YtmbjaemflmbljaaEndA
namespace Go.Proofs.Ytmbjaemflmbljaa
set_option linter.unusedVariables false
set_option linter.unusedSimpArgs false
open Go.ChangeShapes Go.WideShapes Go.ChangeAt Go.RowKit Go.Shelf

theorem end_row {w : World} {B t cc n : Nat} {xs : List Value} (h : w.ownsRow B 3 1 (.slice (some ⟨t, 0, none⟩) n cc) n xs) (h0 : 0 < n) : t < w.heap.size ∧ ∀ j u, xs[j]? = some u → w.cell? ⟨t, j, none⟩ = some u := by
  obtain ⟨g', c', hv, hc1, hc2, hc3, hc4, -, hcs⟩ := own_form h h0
  simp only [Value.slice.injEq, Option.some.injEq, Addr.mk.injEq, and_true, true_and] at hv
  obtain ⟨rfl, rfl⟩ := hv
  exact ⟨hc4, hcs⟩
theorem two_of {w : World} {q : Nat} {a b : Int} (h0 : w.cell? ⟨q, 0, none⟩ = some (.int .i64 a)) (h1 : w.cell? ⟨q, 1, none⟩ = some (.int .i64 b)) : ∀ j, j < 2 → w.cell? ⟨q, j, none⟩ = some (.int .i64 ((fun j => if j = 0 then a else b) j)) := by
  intro j hj
  obtain rfl | rfl : j = 0 ∨ j = 1 := by omega
  · exact h0
  · exact h1
theorem two_new (w : World) (a b : Int) : (w.alloc (.cells #[.int .i64 a, .int .i64 b] 3)).cell? ⟨w.heap.size, 0, none⟩ = some (.int .i64 a) ∧ (w.alloc (.cells #[.int .i64 a, .int .i64 b] 3)).cell? ⟨w.heap.size, 1, none⟩ = some (.int .i64 b) := by
  constructor <;> go_simp
set_option maxRecDepth 100000 in
set_option maxHeartbeats 1000000 in
theorem awake22 (W : World) : Calls Try.prog 7 #[] W fun e w' => e = .returned (.bool true) ∧ Below W.heap.size W w' := by
  go_enter Try.func7, Try.ntmps7
  go_wp2_with (first
    | (go_at_call 8; refine (enew_any _).mono ?_; rintro e w1 ⟨rfl, hw1⟩; have hn := end_new W; have hbw : Below W.heap.size W w1 := (hw1 ▸ bal (Below.refl _ _) _); have hsz : W.heap.size < w1.heap.size := (by rw [hw1]; simp); have hc1 : w1.cell? ⟨W.heap.size, 0, none⟩ = some (.slice none 0 0) := (hw1 ▸ hn.1); have hf1 : w1.frozen? ⟨W.heap.size, 0, none⟩ = false := (hw1 ▸ hn.2); have HC1 := Lib.hid hc1; have HF1 := Lib.hid hf1; clear hn hw1 hc1 hf1)
    | (go_at_call 10; refine (eadd_first w1 W.heap.size hsz HC1.out HF1.out).mono ?_; rintro e w2 ⟨rfl, ⟨g, c, he2, hg2⟩, hb2, -⟩; have H2 := Lib.hid he2; have hgl2 := he2.row.2.2.2; have hbl2 := he2.lt; have HB2 := Lib.hid (hbw.trans hb2); clear he2 hb2)
    | (go_at_call 16; with_reducible refine (wait_in1 w2 W.heap.size g c H2.out).mono ?_; rintro e w3 ⟨rfl, ⟨t, cc, he3, ho3⟩, hb3⟩; have H3 := Lib.hid he3; have HO3 := Lib.hid ho3; have HB3 := Lib.hid (HB2.out.trans (hb3 W.heap.size (by omega))); have HZ3 := Lib.hid (hb3 0 (by omega)).size; clear he3 ho3 hb3)
    | (go_at_call 16; with_reducible refine (wait_busy w3 W.heap.size g c t cc H3.out ((end_row HO3.out (by decide)).2 0 _ rfl) (end_row HO3.out (by decide)).1).mono ?_; rintro e w4 ⟨rfl, hb4⟩; have H4 := Lib.hid (H3.out.call hb4); have HO4 := Lib.hid (row_below HO3.out hb4); have HB4 := Lib.hid (bgo HB3.out hb4); have HZ4 := Lib.hid (Nat.le_trans HZ3.out hb4.size); clear hb4)
    | (go_at_call 16; with_reducible refine (wait_in2 w4 w2.heap.size W.heap.size g c t cc H4.out HO4.out HZ4.out hgl2 hbl2).mono ?_; rintro e w5 ⟨rfl, ⟨t5, c5, he5, ho5⟩, hb5⟩; have H5 := Lib.hid he5; have HO5 := Lib.hid ho5; have HB5 := Lib.hid (HB4.out.trans (hb5 W.heap.size (by omega))); clear he5 ho5 hb5)
    | (go_at_call 22; refine (list_two w5 W.heap.size g c t5 c5 w2.heap.size H5.out HO5.out).mono ?_; rintro e w6 ⟨q, cq, rfl, hq, k0, k1, hb6⟩; have HQ0 := Lib.hid k0; have HQ1 := Lib.hid k1; have HB6 := Lib.hid (bgo HB5.out hb6); clear k0 k1 hb6)
    | (go_at_call 14; refine (same_any _ q w6.heap.size 2 cq 2 (fun j => if j = 0 then 1 else 3) (by decide) (two_of (cell_more _ HQ0.out) (cell_more _ HQ1.out)) (two_of (two_new w6 1 3).1 (two_new w6 1 3).2)).mono ?_; rintro e w7 ⟨rfl, hb7⟩))
  go_ret
  exact ⟨rfl, bgo (bal HB6.out _) hb7⟩
set_option maxHeartbeats 1000000 in
theorem walk_endsNone (a0 : Int) (w0 : (Lit.int .i64 a0).wf = true) (a1 : Int) (w1 : (Lit.int .i64 a1).wf = true) (W : World) :
    Calls Try.prog 6 #[.int .i64 a0, .int .i64 a1] W fun e w' => e = .returned (.bool true) ∧ Below W.heap.size W w' := by
  clear w0 w1
  go_enter Try.func6, Try.ntmps6
  go_wp2_with (first
    | (go_at_call 12; refine (edrop_nil _ a0).mono ?_; rintro e w1 ⟨rfl, rfl⟩)
    | (go_at_call 20; refine (efirst_nil _ a0).mono ?_; rintro e w1 ⟨rfl, rfl⟩)
    | (go_at_call 22; refine (elist_nil _ a0).mono ?_; rintro e w1 ⟨rfl, rfl⟩)
    | (go_at_call 10; refine (eadd_nil _ 1).mono ?_; rintro e w1 ⟨rfl, rfl⟩)
    | (go_at_call 16; refine (ewait_nil _ 1 a1 true).mono ?_; rintro e w1 ⟨rfl, rfl⟩)
    | (go_at_call 18; refine (eremove_nil _ a1).mono ?_; rintro e w1 ⟨rfl, hb1⟩)
    | (go_at_call 7; refine (awake22 _).mono ?_; rintro e w2 ⟨rfl, hb2⟩))
  go_ret
  exact ⟨rfl, bgo hb1 hb2⟩
end Go.Proofs.Ytmbjaemflmbljaa
