/- The law QueueNone. -/
import Derived.Test.YthbjjamjpbfehaaQueB
import Derived.Test.YthbjjamjpbfehaaQueK
namespace Go.Proofs.Ythbjjamjpbfehaa
set_option linter.unusedVariables false
set_option linter.unusedSimpArgs false
open Go.ChangeShapes Go.WideShapes Go.ChangeAt Go.RowKit Go.Shelf

theorem same_yes (ga gb n ca cb : Nat) (xs : List Int) (w : World) (hn : n < 1000000000) (hA : ∀ k, k < n → w.cell? ⟨ga, k, none⟩ = some (.int .i64 (xs.getD k 0))) (hB : ∀ k, k < n → w.cell? ⟨gb, k, none⟩ = some (.int .i64 (xs.getD k 0))) :
    Calls Try.prog 21 #[.slice (some ⟨ga, 0, none⟩) n ca, .slice (some ⟨gb, 0, none⟩) n cb] w fun e w' => e = .returned (.bool true) ∧ Below w.heap.size w w' := by
  go_enter Try.func21, Try.ntmps21
  go_wp2
  go_loopw [5] (fun i wr => ∃ k q : Nat, k ≤ n ∧ i = .int .i64 k ∧ wr = w.drewN q) (fun i _ => n - (intOf i).toNat)
  case atStart => exact ⟨0, 0, by omega, rfl, rfl⟩
  case round =>
    obtain ⟨k, q, hk, rfl, rfl⟩ := hrel
    by_cases hlt : k < n
    · have cA := hA k hlt
      have cB := hB k hlt
      clear hA hB
      generalize xs.getD k 0 = x at cA cB
      have hi : (k : Int) < n := by omega
      go_wp2
      go_quiet (fail)
      go_wp2
      go_roundw
      case rel => exact ⟨k + 1, _, by omega, by go_num, rfl⟩
      case measure => simp [intOf]; omega
    · obtain rfl : k = n := by omega
      clear hA hB
      go_wp2
      go_ret
      exact ⟨rfl, below_drewN (Below.refl _ _) _⟩
theorem all_321 (w : World) (B b mb n : Nat) (vs : Nat → Value) (L : Nat → List Int) (f : Int → Option Int) (hn : n < 1000000) (hQ : QueAt w B b mb n vs L f) (hc : cat L (fallTo 8) = [3, 2, 1]) :
    Calls Try.prog 18 #[.pointer (some ⟨b, 0, none⟩)] w fun e W' => ∃ g cap, e = .returned (.slice (some ⟨g, 0, none⟩) 3 cap) ∧ (∀ k, k < 3 → W'.cell? ⟨g, k, none⟩ = some (.int .i64 (([3, 2, 1] : List Int).getD k 0))) ∧ Below w.heap.size w W' := by
  refine (all_any w B b mb n vs L f hn hQ).mono ?_
  rintro e W' ⟨v, rfl, hr, hb⟩
  rw [hc] at hr
  obtain ⟨g, cap, rfl⟩ := row_form (n := 2) hr
  refine ⟨g, cap, rfl, fun k hk => ?_, hb⟩
  have := hr.cellAt k (by simp; omega)
  rw [this]
  rcases (by omega : k = 0 ∨ k = 1 ∨ k = 2) with rfl | rfl | rfl <;> rfl
theorem QueAt.call {w w' : World} {B b mb n : Nat} {vs : Nat → Value} {L : Nat → List Int} {f : Int → Option Int} (h : QueAt w B b mb n vs L f) (k : Below w.heap.size w w') : QueAt w' B b mb n vs L f := by
  have e := k.block b h.lt.2
  exact ⟨⟨h.lt.1, Nat.lt_of_lt_of_le h.lt.2 k.size⟩, h.mlt, h.ne, fun j hj => (cell_of_block e).trans (h.cell j hj), fun j => (frozen_of_block e).trans (h.free j), (cell_of_block e).trans h.mcell, fun j hj => row_of_block (h.row j hj) (fun g hg => k.block g ((h.row j hj).lt g hg).2), h.rb, h.apart, h.len, h.map.of_block (k.block mb h.map.lt)⟩
theorem lit_321 (w : World) (k : Nat) (hk : k < 3) : (w.alloc (.cells #[.int .i64 3, .int .i64 2, .int .i64 1] 3)).cell? ⟨w.heap.size, k, none⟩ = some (.int .i64 (([3, 2, 1] : List Int).getD k 0)) := by
  rcases (by omega : k = 0 ∨ k = 1 ∨ k = 2) with rfl | rfl | rfl <;> (go_simp; try rfl)
def L1 : Nat → List Int := lput noL 2 (noL 2 ++ [1])
def L2 : Nat → List Int := lput L1 5 (L1 5 ++ [2])
def L3 : Nat → List Int := lput L2 5 (L2 5 ++ [3])
def L4 : Nat → List Int := lput L3 5 ([] ++ [3])
def L5 : Nat → List Int := lput L4 5 (L4 5 ++ [2])
def f1 : Int → Option Int := fput noF 1 (2 : Nat)
def f2 : Int → Option Int := fput f1 2 (5 : Nat)
def f3 : Int → Option Int := fput f2 3 (5 : Nat)
theorem c3 : firstF (cat L3 (fallTo 8)) = (2, true) := by decide +kernel
theorem c5 : cat L5 (fallTo 8) = [3, 2, 1] := by decide +kernel
theorem in_small {x : Int} (h0 : 0 ≤ x) (h1 : x ≤ 1000) : InI x := ⟨by omega, by omega⟩
theorem a1 (w : World) (B b mb n : Nat) (vs : Nat → Value) (h : QueAt w B b mb n vs noL noF) (hn : n < 1000000) : Calls Try.prog 10 #[.pointer (some ⟨b, 0, none⟩), .int .i64 1, .int .i64 2] w fun e w' => e = .returned (.int .i64 0) ∧ ∃ vs', QueAt w' B b mb (n + 1) vs' L1 f1 ∧ QOnly w w' b mb vs vs' :=
  add_yes w B b mb n vs noL noF 1 2 (in_small (by omega) (by omega)) (by omega) (by omega) hn rfl h
theorem a2 (w : World) (B b mb n : Nat) (vs : Nat → Value) (h : QueAt w B b mb n vs L1 f1) (hn : n < 1000000) : Calls Try.prog 10 #[.pointer (some ⟨b, 0, none⟩), .int .i64 2, .int .i64 5] w fun e w' => e = .returned (.int .i64 0) ∧ ∃ vs', QueAt w' B b mb (n + 1) vs' L2 f2 ∧ QOnly w w' b mb vs vs' :=
  add_yes w B b mb n vs L1 f1 2 5 (in_small (by omega) (by omega)) (by omega) (by omega) hn (by decide) h
theorem a3 (w : World) (B b mb n : Nat) (vs : Nat → Value) (h : QueAt w B b mb n vs L2 f2) (hn : n < 1000000) : Calls Try.prog 10 #[.pointer (some ⟨b, 0, none⟩), .int .i64 3, .int .i64 5] w fun e w' => e = .returned (.int .i64 0) ∧ ∃ vs', QueAt w' B b mb (n + 1) vs' L3 f3 ∧ QOnly w w' b mb vs vs' :=
  add_yes w B b mb n vs L2 f2 3 5 (in_small (by omega) (by omega)) (by omega) (by omega) hn (by decide) h
theorem b2 (w : World) (B b mb n : Nat) (vs : Nat → Value) (h : QueAt w B b mb n vs L3 f3) (hn : n < 1000000) : Calls Try.prog 14 #[.pointer (some ⟨b, 0, none⟩), .int .i64 2] w fun e w' => e = .returned (.bool true) ∧ ∃ vs' f', QueAt w' B b mb (n + 1) vs' L5 f' ∧ QOnly w w' b mb vs vs' := by
  refine (back_yes w B b mb n vs L3 f3 2 5 [] [3] (in_small (by omega) (by omega)) (by omega) (by omega) hn (by decide) (by decide) (by simp) h).mono ?_
  rintro e w' ⟨rfl, vs', hq, ho⟩
  exact ⟨rfl, vs', _, hq, ho⟩
set_option maxRecDepth 100000 in
set_option maxHeartbeats 1000000 in
theorem awake21 (W : World) : Calls Try.prog 7 #[] W fun e w' => e = .returned (.bool true) ∧ Below W.heap.size W w' := by
  go_enter Try.func7, Try.ntmps7
  go_wp2_with (first
    | (go_at_call 8; refine (new_any _).mono ?_; rintro e w1 ⟨rfl, hq1, hb1⟩; have HQ1 := Lib.hid hq1; clear hq1)
    | (go_at_call 10; (with_reducible refine (a3 _ _ _ _ _ vs3 HQ3.out (by decide)).mono ?_); rintro e w4 ⟨rfl, vs4, hq4, ho4⟩; have HQ4 := Lib.hid hq4; have HO4 := Lib.hid ho4; clear hq4 ho4)
    | (go_at_call 10; (with_reducible refine (a2 _ _ _ _ _ vs2 HQ2.out (by decide)).mono ?_); rintro e w3 ⟨rfl, vs3, hq3, ho3⟩; have HQ3 := Lib.hid hq3; have HO3 := Lib.hid ho3; clear hq3 ho3)
    | (go_at_call 10; (with_reducible refine (a1 _ _ _ _ _ no8 HQ1.out (by decide)).mono ?_); rintro e w2 ⟨rfl, vs2, hq2, ho2⟩; have HQ2 := Lib.hid hq2; have HO2 := Lib.hid ho2; clear hq2 ho2)
    | (go_at_call 16; refine (first_any _ _ _ _ _ vs4 L3 f3 (by decide) HQ4.out).mono ?_; rw [c3]; rintro e w5 ⟨rfl, hb5⟩; have HB5 := Lib.hid hb5; clear hb5)
    | (go_at_call 14; refine (b2 _ _ _ _ _ vs4 (QueAt.call HQ4.out HB5.out) (by decide)).mono ?_; rintro e w6 ⟨rfl, vs6, f6, hq6, ho6⟩; have HQ6 := Lib.hid hq6; have HO6 := Lib.hid ho6; clear hq6 ho6)
    | (go_at_call 18; refine (all_321 _ _ _ _ _ vs6 L5 f6 (by decide) HQ6.out c5).mono ?_; rintro e w7 ⟨g, cap, rfl, hc7, hb7⟩; have HC7 := Lib.hid hc7; have HB7 := Lib.hid hb7; clear hc7 hb7)
    | (go_at_call 21; refine (same_yes g w7.heap.size 3 cap 3 [3, 2, 1] _ (by decide) (fun k hk => cell_more _ (HC7.out k hk)) (fun k hk => lit_321 w7 k hk)).mono ?_; rintro e w8 ⟨rfl, hb8⟩; have HB8 := Lib.hid hb8; clear hb8))
  go_ret
  have z1 := hb1.size
  have B2 := HO2.out.below HQ1.out
  have B3 := HO3.out.below HQ2.out
  have B4 := HO4.out.below HQ3.out
  have s4 : W.heap.size ≤ w4.heap.size := Nat.le_trans z1 (Nat.le_trans B2.size (Nat.le_trans B3.size B4.size))
  have B5 := HB5.out.mono s4
  have B6 := HO6.out.below (QueAt.call HQ4.out HB5.out)
  have s6 : W.heap.size ≤ w6.heap.size := Nat.le_trans s4 (Nat.le_trans B5.size B6.size)
  have B7 := HB7.out.mono s6
  have s7 : W.heap.size ≤ w7.heap.size := Nat.le_trans s6 B7.size
  have B8 := HB8.out.mono (B' := W.heap.size) (by simp; omega)
  exact ⟨rfl, ((((((hb1.trans B2).trans B3).trans B4).trans B5).trans B6).trans B7).alloc s7 _ |>.trans B8⟩
set_option maxRecDepth 100000 in
set_option maxHeartbeats 2000000 in
theorem walk_queueNone (a0 : Int) (w0 : (Lit.int .i64 a0).wf = true) (W : World) :
    Calls Try.prog 6 #[.int .i64 a0] W fun e w' => e = .returned (.bool true) ∧ Below W.heap.size W w' := by
  clear w0
  go_enter Try.func6, Try.ntmps6
  go_wp2_with (first
    | (go_at_call 16; refine (fnil_any _).mono ?_; rintro e w1 ⟨rfl, hb1⟩; have HB1 := Lib.hid hb1; clear hb1)
    | (go_at_call 10; refine (add_nil _ _ _).mono ?_; rintro e w2 ⟨rfl, rfl⟩)
    | (go_at_call 12; refine (drop_nil _ _).mono ?_; rintro e w3 ⟨rfl, rfl⟩)
    | (go_at_call 14; refine (back_nil _ _).mono ?_; rintro e w4 ⟨rfl, rfl⟩)
    | (go_at_call 19; refine (has_nil _ _).mono ?_; rintro e w5 ⟨rfl, rfl⟩)
    | (go_at_call 18; refine (anil_any _).mono ?_; rintro e w6 ⟨rfl, hb6⟩; have HB6 := Lib.hid hb6; clear hb6)
    | (go_at_call 7; refine (awake21 _).mono ?_; rintro e w7 ⟨rfl, hb7⟩; have HB7 := Lib.hid hb7; clear hb7))
  go_ret
  exact ⟨rfl, bgo (bgo HB1.out HB6.out) HB7.out⟩
end Go.Proofs.Ythbjjamjpbfehaa
