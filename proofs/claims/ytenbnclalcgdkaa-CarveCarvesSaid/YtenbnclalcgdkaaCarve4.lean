/- carve's laws: awake, Meet's own answer, the walks. -/
import Derived.Test.YtenbnclalcgdkaaCarve3
namespace Go.Proofs.Ytenbnclalcgdkaa
set_option linter.unusedVariables false
open Go.ChangeShapes Go.WideShapes Go.ChangeAt Go.RowKit Go.Shelf

theorem carve_yes (t m e : Int) (c : Nat) (w : World) (h0 : 0 ≤ t) (h1 : t ≤ 64) (h2 : 0 ≤ m) (h3 : m ≤ t) (h4 : 1 ≤ e) (h5 : e ≤ 64) (h6 : 1 ≤ c) (h7 : c ≤ 4) (h8 : c * e ≤ t - m) (h9 : 0 ≤ c * e) :
    Calls Try.prog 18 #[.int .i64 t, .int .i64 m, .int .i64 e, .int .i64 c] w fun e' W' => ∃ g cap, e' = .returned (.tuple #[.slice (some ⟨g, 0, none⟩) c cap, .int .i64 (m + c * e), .int .i64 0]) ∧ g < W'.heap.size ∧ HasInts W' g c (firsts m e c) ∧ Below w.heap.size w W' :=
  (callsIn_wide.1 (carve_in t m e c w h0 h1 h2 h3 h4 h5 h6 h7 h8 h9)).mono fun e' W' ⟨v, he, hr, hb⟩ => by
    obtain ⟨g, cap, rfl, _, hg, hh⟩ := own_ints hr h6
    exact ⟨g, cap, he, hg, hh, hb⟩

theorem hasInts_below {B : Nat} {w w' : World} {g n : Nat} {xs : List Int} (h : HasInts w g n xs) (hb : Below B w w') (hg : g < B) : HasInts w' g n xs := fun j hj => (hb.cell (p := ⟨g, j, none⟩) hg).trans (h j hj)
theorem hasInts_357 (w : World) : HasInts (w.alloc (.cells #[.int .i64 3, .int .i64 5, .int .i64 7] 3)) w.heap.size 3 (firsts 3 2 3) := fun j hj => by
  have h := World.alloc_heap_new w (.cells #[.int .i64 3, .int .i64 5, .int .i64 7] 3)
  obtain rfl | rfl | rfl : j = 0 ∨ j = 1 ∨ j = 2 := by omega
  · exact (cellQ h 0).trans rfl
  · exact (cellQ h 1).trans rfl
  · exact (cellQ h 2).trans rfl
set_option maxHeartbeats 1000000 in
theorem awake11 (W : World) : Calls Try.prog 22 #[] W fun e w' => e = .returned (.bool true) ∧ Below W.heap.size W w' := by
  have t1 : meetB 0 2 1 1 = true := by decide
  have t2 : meetB 0 2 2 1 = false := by decide
  go_enter Try.func22, Try.ntmps22
  go_wp2_with (first
    | (go_at_call 18; refine (carve_yes 10 3 2 3 _ (by decide) (by decide) (by decide) (by decide) (by decide) (by decide) (by decide) (by decide) (by decide) (by decide)).mono ?_; rintro e w1 ⟨g, cap, rfl, hg, hh, hb1⟩)
    | (go_at_call 20; refine (same_ints g w1.heap.size 3 cap 3 (firsts 3 2 3) _ (by decide) (hasInts_below hh (bal (Below.refl _ _) _) hg) (hasInts_357 w1)).mono ?_; rintro e w2 ⟨rfl, q, rfl⟩)
    | (go_at_call 23; refine (meet_any _ _ _ _ _).mono ?_; rintro e w3 ⟨rfl, hb3⟩))
  go_ret
  exact ⟨rfl, (by repeat (first | exact Below.refl _ _ | assumption | refine below_drewN ?_ _ | refine Below.setCell ?_ (by first | exact Nat.le_refl _ | (simp; done) | (simp; omega)) _ | refine bal ?_ _ | refine bgo ?_ (by assumption)))⟩

set_option maxHeartbeats 1000000 in
theorem refMeet_any (a n b k : Int) (w : World) : Calls Try.prog 24 #[.int .i64 a, .int .i64 n, .int .i64 b, .int .i64 k] w fun e w' => e = .returned (.bool (meetB a n b k)) ∧ w = w' := by
  by_cases hk : k = 0
  all_goals
    go_enter Try.func24, Try.ntmps24
    go_wp2
    all_goals go_ret
    all_goals refine ⟨ret_bool ?_, rfl⟩
    all_goals unfold meetB nearB
    all_goals rw [Bool.eq_iff_iff]
    all_goals simp
    all_goals first | omega | (exfalso; rcases ‹(_ == _) = true ∨ (_ == _) = true› with h | h <;> (rw [beq_iff_eq] at h; omega))
set_option maxHeartbeats 1000000 in
theorem refWithin_any (a n b k : Int) (w : World) : Calls Try.prog 26 #[.int .i64 a, .int .i64 n, .int .i64 b, .int .i64 k] w fun e w' => e = .returned (.bool (withinB a n b k)) ∧ w = w' := by
  by_cases hk : k ≤ 1048576
  all_goals
    go_enter Try.func26, Try.ntmps26
    go_wp2
    all_goals go_ret
    all_goals refine ⟨ret_bool ?_, rfl⟩
    all_goals unfold withinB nearB
    all_goals rw [Bool.eq_iff_iff]
    all_goals simp
    all_goals omega

set_option maxHeartbeats 1000000 in
theorem walk_carveMeets (a0 : Int) (w0 : (Lit.int .i64 a0).wf = true) (a1 : Int) (w1 : (Lit.int .i64 a1).wf = true) (a2 : Int) (w2 : (Lit.int .i64 a2).wf = true) (a3 : Int) (w3 : (Lit.int .i64 a3).wf = true) (W : World) :
    Calls Try.prog 7 #[.int .i64 a0, .int .i64 a1, .int .i64 a2, .int .i64 a3] W fun e w' => e = .returned (.bool true) ∧ Below W.heap.size W w' := by
  clear w0 w1 w2 w3
  obtain ⟨q, hq⟩ : ∃ q, meetB a0 a1 a2 a3 = q := ⟨_, rfl⟩
  obtain ⟨r, hr⟩ : ∃ r, withinB a0 a1 a2 a3 = r := ⟨_, rfl⟩
  go_enter Try.func7, Try.ntmps7
  go_wp2_with (first
    | (go_at_call 23; refine (meet_any _ _ _ _ _).mono ?_; rw [hq]; rintro e w4 ⟨rfl, hb4⟩)
    | (go_at_call 24; refine (refMeet_any _ _ _ _ _).mono ?_; rw [hq]; rintro e w5 ⟨rfl, rfl⟩)
    | (go_at_call 25; refine (within_any _ _ _ _ _).mono ?_; rw [hr]; rintro e w6 ⟨rfl, hb6⟩)
    | (go_at_call 26; refine (refWithin_any _ _ _ _ _).mono ?_; rw [hr]; rintro e w7 ⟨rfl, rfl⟩)
    | (go_at_call 22; refine (awake11 _).mono ?_; rintro e w8 ⟨rfl, hb8⟩))
  go_ret
  exact ⟨rfl, (by repeat (first | exact Below.refl _ _ | assumption | refine below_drewN ?_ _ | refine Below.setCell ?_ (by first | exact Nat.le_refl _ | (simp; done) | (simp; omega)) _ | refine bal ?_ _ | refine bgo ?_ (by assumption)))⟩
end Go.Proofs.Ytenbnclalcgdkaa
